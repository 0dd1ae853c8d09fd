/- The law ValueTexts: its walk. -/
import Derived.Test.YtedoahibceeklabGreatDoorVLive
import Derived.Test.YtedoahibceeklabGreatDoorVTxM
namespace Go.Proofs.YtedoahibceeklabGreatDoor
open Go.RowKit Go.Shelf
set_option linter.unusedVariables false

set_option maxRecDepth 100000 in
set_option maxHeartbeats 4000000 in
theorem tx_000 (a b X : Val) (s T U A : ByteArray) (E F G H : Int) (Q : Bool) (w : World) (ht : Pow w) (he : Errs w) (h8 : 8 ≤ w.heap.size)
    (PA : Hid (∀ W : World, Pow W → Calls Tryz.prog 14 #[.agg #[.int .i64 a.k, .int .i64 a.n, .int .i64 a.d, .string a.s]] W fun e w' => e = .returned (.tuple #[.string T, .int .i64 E]) ∧ Below W.heap.size W w'))
    (PB : Hid (∀ W : World, Pow W → Calls Tryz.prog 14 #[.agg #[.int .i64 b.k, .int .i64 b.n, .int .i64 b.d, .string b.s]] W fun e w' => e = .returned (.tuple #[.string U, .int .i64 F]) ∧ Below W.heap.size W w'))
    (PX : Hid (∀ W : World, Pow W → Calls Tryz.prog 14 #[.agg #[.int .i64 X.k, .int .i64 X.n, .int .i64 X.d, .string X.s]] W fun e w' => e = .returned (.tuple #[.string A, .int .i64 H]) ∧ Below W.heap.size W w'))
    (RS : Hid (∀ W : World, Pow W → Errs W → 8 ≤ W.heap.size → Calls Tryz.prog 16 #[.string s] W fun e w' => e = .returned (.tuple #[.agg #[.int .i64 X.k, .int .i64 X.n, .int .i64 X.d, .string X.s], .int .i64 G]) ∧ Below W.heap.size W w'))
    (CK : Hid (∀ W : World, Calls Tryz.prog 19 #[.agg #[.int .i64 a.k, .int .i64 a.n, .int .i64 a.d, .string a.s]] W fun e w' => e = .returned (.int .i64 E) ∧ Below W.heap.size W w'))
    (hE : (E == 0) = false) (hG : (G != 0) = true) :
    Calls Tryz.prog 6 #[.agg #[.int .i64 a.k, .int .i64 a.n, .int .i64 a.d, .string a.s], .agg #[.int .i64 b.k, .int .i64 b.n, .int .i64 b.d, .string b.s], .string s] w fun e w' => e = .returned (.bool true) ∧ Below w.heap.size w w' := by
  have HE : Hid (Errs w) := he
  clear he
  go_enter Tryz.func6, Tryz.ntmps6
  go_upto_region 1 with fail
  refine wp_world ?_
  intro w0 hW0
  have A0 : Hid (BlkV w0 w.heap.size a.k a.n a.d a.s) := by rw [hW0]; constructor <;> simp (maxDischargeDepth := 12) [go_sem]
  have B0 : Hid (BlkV w0 (w.heap.size + 1) b.k b.n b.d b.s) := by rw [hW0]; constructor <;> simp (maxDischargeDepth := 12) [go_sem]
  have z0 : w.heap.size + 1 < w0.heap.size := by rw [hW0]; simp
  have K0 : Below w.heap.size w w0 := by rw [hW0]; go_grown
  clear hW0
  obtain ⟨a0, a1, a2, a3, -, -, -, -⟩ := A0.out
  obtain ⟨b0, b1, b2, b3, -, -, -, -⟩ := B0.out
  go_wp2_with fail
  refine (PA.out _ (ht.below K0)).mono ?_
  rintro e w1 ⟨rfl, hb⟩
  clear a0 a1 a2 a3 b0 b1 b2 b3
  have K1 : Below w.heap.size w w1 := K0.trans (hb.mono K0.size)
  have A1 : Hid (BlkV w1 w.heap.size a.k a.n a.d a.s) := A0.out.below hb (by omega)
  have B1 : Hid (BlkV w1 (w.heap.size + 1) b.k b.n b.d b.s) := B0.out.below hb z0
  have z1 : w.heap.size + 1 < w1.heap.size := by have := hb.size; omega
  clear A0 B0 z0 K0 hb
  obtain ⟨a0, a1, a2, a3, -, -, -, -⟩ := A1.out
  obtain ⟨b0, b1, b2, b3, -, -, -, -⟩ := B1.out
  go_wp2_with fail
  refine (PB.out _ (ht.below K1)).mono ?_
  rintro e w2 ⟨rfl, hb⟩
  clear a0 a1 a2 a3 b0 b1 b2 b3
  have K2 : Below w.heap.size w w2 := K1.trans (hb.mono K1.size)
  have A2 : Hid (BlkV w2 w.heap.size a.k a.n a.d a.s) := A1.out.below hb (by omega)
  have B2 : Hid (BlkV w2 (w.heap.size + 1) b.k b.n b.d b.s) := B1.out.below hb z1
  have z2 : w.heap.size + 1 < w2.heap.size := by have := hb.size; omega
  clear A1 B1 z1 K1 hb
  obtain ⟨a0, a1, a2, a3, -, -, -, -⟩ := A2.out
  obtain ⟨b0, b1, b2, b3, -, -, -, -⟩ := B2.out
  go_wp2_with fail
  refine (RS.out _ (ht.below K2) (HE.out.below K2 h8) (by omega)).mono ?_
  rintro e w3 ⟨rfl, hb⟩
  clear a0 a1 a2 a3 b0 b1 b2 b3
  have K3 : Below w.heap.size w w3 := K2.trans (hb.mono K2.size)
  have A3 : Hid (BlkV w3 w.heap.size a.k a.n a.d a.s) := A2.out.below hb (by omega)
  have B3 : Hid (BlkV w3 (w.heap.size + 1) b.k b.n b.d b.s) := B2.out.below hb z2
  have z3 : w.heap.size + 1 < w3.heap.size := by have := hb.size; omega
  clear A2 B2 z2 K2 hb
  go_upto_region 10 with fail
  refine wp_world ?_
  intro w4 hW
  have n4 : Below w3.heap.size w3 w4 := by rw [hW]; exact (Below.refl _ _).alloc (Nat.le_refl _) _
  have V : Hid (BlkV w4 w3.heap.size X.k X.n X.d X.s) := by rw [hW]; constructor <;> simp (maxDischargeDepth := 12) [go_sem]
  have q4 : w3.heap.size < w4.heap.size := by rw [hW]; simp
  have K4 : Below w.heap.size w w4 := K3.trans (n4.mono K3.size)
  have A4 : Hid (BlkV w4 w.heap.size a.k a.n a.d a.s) := A3.out.below n4 (by omega)
  have B4 : Hid (BlkV w4 (w.heap.size + 1) b.k b.n b.d b.s) := B3.out.below n4 z3
  have z4 : w.heap.size + 1 < w4.heap.size := by omega
  clear hW A3 B3 z3 K3 n4
  obtain ⟨v0, v1, v2, v3, -, -, -, -⟩ := V.out
  obtain ⟨a0, a1, a2, a3, -, -, -, -⟩ := A4.out
  obtain ⟨b0, b1, b2, b3, -, -, -, -⟩ := B4.out
  go_wp2_with fail
  refine (PX.out _ (ht.below K4)).mono ?_
  rintro e w5 ⟨rfl, hb⟩
  clear a0 a1 a2 a3 b0 b1 b2 b3
  have K5 : Below w.heap.size w w5 := K4.trans (hb.mono K4.size)
  have A5 : Hid (BlkV w5 w.heap.size a.k a.n a.d a.s) := A4.out.below hb (by omega)
  have B5 : Hid (BlkV w5 (w.heap.size + 1) b.k b.n b.d b.s) := B4.out.below hb z4
  have z5 : w.heap.size + 1 < w5.heap.size := by have := hb.size; omega
  clear A4 B4 z4 K4 hb
  clear v0 v1 v2 v3 V
  obtain ⟨a0, a1, a2, a3, -, -, -, -⟩ := A5.out
  obtain ⟨b0, b1, b2, b3, -, -, -, -⟩ := B5.out
  go_wp2_with fail
  refine (live_any _ (ht.below K5)).mono ?_
  rintro e w6 ⟨rfl, hb⟩
  clear a0 a1 a2 a3 b0 b1 b2 b3
  have K6 : Below w.heap.size w w6 := K5.trans (hb.mono K5.size)
  have A6 : Hid (BlkV w6 w.heap.size a.k a.n a.d a.s) := A5.out.below hb (by omega)
  have B6 : Hid (BlkV w6 (w.heap.size + 1) b.k b.n b.d b.s) := B5.out.below hb z5
  have z6 : w.heap.size + 1 < w6.heap.size := by have := hb.size; omega
  clear A5 B5 z5 K5 hb
  obtain ⟨a0, a1, a2, a3, -, -, -, -⟩ := A6.out
  obtain ⟨b0, b1, b2, b3, -, -, -, -⟩ := B6.out
  go_wp2_with fail
  refine (CK.out _).mono ?_
  rintro e w7 ⟨rfl, hb⟩
  clear a0 a1 a2 a3 b0 b1 b2 b3
  have K7 : Below w.heap.size w w7 := K6.trans (hb.mono K6.size)
  have A7 : Hid (BlkV w7 w.heap.size a.k a.n a.d a.s) := A6.out.below hb (by omega)
  have B7 : Hid (BlkV w7 (w.heap.size + 1) b.k b.n b.d b.s) := B6.out.below hb z6
  have z7 : w.heap.size + 1 < w7.heap.size := by have := hb.size; omega
  clear A6 B6 z6 K6 hb
  go_wp2
  go_ret
  exact ⟨rfl, K7⟩

set_option maxRecDepth 100000 in
set_option maxHeartbeats 4000000 in
theorem tx_001 (a b X : Val) (s T U A : ByteArray) (E F G H : Int) (Q : Bool) (w : World) (ht : Pow w) (he : Errs w) (h8 : 8 ≤ w.heap.size)
    (PA : Hid (∀ W : World, Pow W → Calls Tryz.prog 14 #[.agg #[.int .i64 a.k, .int .i64 a.n, .int .i64 a.d, .string a.s]] W fun e w' => e = .returned (.tuple #[.string T, .int .i64 E]) ∧ Below W.heap.size W w'))
    (PB : Hid (∀ W : World, Pow W → Calls Tryz.prog 14 #[.agg #[.int .i64 b.k, .int .i64 b.n, .int .i64 b.d, .string b.s]] W fun e w' => e = .returned (.tuple #[.string U, .int .i64 F]) ∧ Below W.heap.size W w'))
    (PX : Hid (∀ W : World, Pow W → Calls Tryz.prog 14 #[.agg #[.int .i64 X.k, .int .i64 X.n, .int .i64 X.d, .string X.s]] W fun e w' => e = .returned (.tuple #[.string A, .int .i64 H]) ∧ Below W.heap.size W w'))
    (RS : Hid (∀ W : World, Pow W → Errs W → 8 ≤ W.heap.size → Calls Tryz.prog 16 #[.string s] W fun e w' => e = .returned (.tuple #[.agg #[.int .i64 X.k, .int .i64 X.n, .int .i64 X.d, .string X.s], .int .i64 G]) ∧ Below W.heap.size W w'))
    (CK : Hid (∀ W : World, Calls Tryz.prog 19 #[.agg #[.int .i64 a.k, .int .i64 a.n, .int .i64 a.d, .string a.s]] W fun e w' => e = .returned (.int .i64 E) ∧ Below W.heap.size W w'))
    (hE : (E == 0) = false) (hG : G = 0) (hH : H = 0) (hA : A = s) :
    Calls Tryz.prog 6 #[.agg #[.int .i64 a.k, .int .i64 a.n, .int .i64 a.d, .string a.s], .agg #[.int .i64 b.k, .int .i64 b.n, .int .i64 b.d, .string b.s], .string s] w fun e w' => e = .returned (.bool true) ∧ Below w.heap.size w w' := by
  subst hG; subst hH; subst hA
  have HE : Hid (Errs w) := he
  clear he
  go_enter Tryz.func6, Tryz.ntmps6
  go_upto_region 1 with fail
  refine wp_world ?_
  intro w0 hW0
  have A0 : Hid (BlkV w0 w.heap.size a.k a.n a.d a.s) := by rw [hW0]; constructor <;> simp (maxDischargeDepth := 12) [go_sem]
  have B0 : Hid (BlkV w0 (w.heap.size + 1) b.k b.n b.d b.s) := by rw [hW0]; constructor <;> simp (maxDischargeDepth := 12) [go_sem]
  have z0 : w.heap.size + 1 < w0.heap.size := by rw [hW0]; simp
  have K0 : Below w.heap.size w w0 := by rw [hW0]; go_grown
  clear hW0
  obtain ⟨a0, a1, a2, a3, -, -, -, -⟩ := A0.out
  obtain ⟨b0, b1, b2, b3, -, -, -, -⟩ := B0.out
  go_wp2_with fail
  refine (PA.out _ (ht.below K0)).mono ?_
  rintro e w1 ⟨rfl, hb⟩
  clear a0 a1 a2 a3 b0 b1 b2 b3
  have K1 : Below w.heap.size w w1 := K0.trans (hb.mono K0.size)
  have A1 : Hid (BlkV w1 w.heap.size a.k a.n a.d a.s) := A0.out.below hb (by omega)
  have B1 : Hid (BlkV w1 (w.heap.size + 1) b.k b.n b.d b.s) := B0.out.below hb z0
  have z1 : w.heap.size + 1 < w1.heap.size := by have := hb.size; omega
  clear A0 B0 z0 K0 hb
  obtain ⟨a0, a1, a2, a3, -, -, -, -⟩ := A1.out
  obtain ⟨b0, b1, b2, b3, -, -, -, -⟩ := B1.out
  go_wp2_with fail
  refine (PB.out _ (ht.below K1)).mono ?_
  rintro e w2 ⟨rfl, hb⟩
  clear a0 a1 a2 a3 b0 b1 b2 b3
  have K2 : Below w.heap.size w w2 := K1.trans (hb.mono K1.size)
  have A2 : Hid (BlkV w2 w.heap.size a.k a.n a.d a.s) := A1.out.below hb (by omega)
  have B2 : Hid (BlkV w2 (w.heap.size + 1) b.k b.n b.d b.s) := B1.out.below hb z1
  have z2 : w.heap.size + 1 < w2.heap.size := by have := hb.size; omega
  clear A1 B1 z1 K1 hb
  obtain ⟨a0, a1, a2, a3, -, -, -, -⟩ := A2.out
  obtain ⟨b0, b1, b2, b3, -, -, -, -⟩ := B2.out
  go_wp2_with fail
  refine (RS.out _ (ht.below K2) (HE.out.below K2 h8) (by omega)).mono ?_
  rintro e w3 ⟨rfl, hb⟩
  clear a0 a1 a2 a3 b0 b1 b2 b3
  have K3 : Below w.heap.size w w3 := K2.trans (hb.mono K2.size)
  have A3 : Hid (BlkV w3 w.heap.size a.k a.n a.d a.s) := A2.out.below hb (by omega)
  have B3 : Hid (BlkV w3 (w.heap.size + 1) b.k b.n b.d b.s) := B2.out.below hb z2
  have z3 : w.heap.size + 1 < w3.heap.size := by have := hb.size; omega
  clear A2 B2 z2 K2 hb
  go_upto_region 10 with fail
  refine wp_world ?_
  intro w4 hW
  have n4 : Below w3.heap.size w3 w4 := by rw [hW]; exact (Below.refl _ _).alloc (Nat.le_refl _) _
  have V : Hid (BlkV w4 w3.heap.size X.k X.n X.d X.s) := by rw [hW]; constructor <;> simp (maxDischargeDepth := 12) [go_sem]
  have q4 : w3.heap.size < w4.heap.size := by rw [hW]; simp
  have K4 : Below w.heap.size w w4 := K3.trans (n4.mono K3.size)
  have A4 : Hid (BlkV w4 w.heap.size a.k a.n a.d a.s) := A3.out.below n4 (by omega)
  have B4 : Hid (BlkV w4 (w.heap.size + 1) b.k b.n b.d b.s) := B3.out.below n4 z3
  have z4 : w.heap.size + 1 < w4.heap.size := by omega
  clear hW A3 B3 z3 K3 n4
  obtain ⟨v0, v1, v2, v3, -, -, -, -⟩ := V.out
  obtain ⟨a0, a1, a2, a3, -, -, -, -⟩ := A4.out
  obtain ⟨b0, b1, b2, b3, -, -, -, -⟩ := B4.out
  go_wp2_with fail
  refine (PX.out _ (ht.below K4)).mono ?_
  rintro e w5 ⟨rfl, hb⟩
  clear a0 a1 a2 a3 b0 b1 b2 b3
  have K5 : Below w.heap.size w w5 := K4.trans (hb.mono K4.size)
  have A5 : Hid (BlkV w5 w.heap.size a.k a.n a.d a.s) := A4.out.below hb (by omega)
  have B5 : Hid (BlkV w5 (w.heap.size + 1) b.k b.n b.d b.s) := B4.out.below hb z4
  have z5 : w.heap.size + 1 < w5.heap.size := by have := hb.size; omega
  clear A4 B4 z4 K4 hb
  clear v0 v1 v2 v3 V
  obtain ⟨a0, a1, a2, a3, -, -, -, -⟩ := A5.out
  obtain ⟨b0, b1, b2, b3, -, -, -, -⟩ := B5.out
  go_wp2_with fail
  refine (live_any _ (ht.below K5)).mono ?_
  rintro e w6 ⟨rfl, hb⟩
  clear a0 a1 a2 a3 b0 b1 b2 b3
  have K6 : Below w.heap.size w w6 := K5.trans (hb.mono K5.size)
  have A6 : Hid (BlkV w6 w.heap.size a.k a.n a.d a.s) := A5.out.below hb (by omega)
  have B6 : Hid (BlkV w6 (w.heap.size + 1) b.k b.n b.d b.s) := B5.out.below hb z5
  have z6 : w.heap.size + 1 < w6.heap.size := by have := hb.size; omega
  clear A5 B5 z5 K5 hb
  obtain ⟨a0, a1, a2, a3, -, -, -, -⟩ := A6.out
  obtain ⟨b0, b1, b2, b3, -, -, -, -⟩ := B6.out
  go_wp2_with fail
  refine (CK.out _).mono ?_
  rintro e w7 ⟨rfl, hb⟩
  clear a0 a1 a2 a3 b0 b1 b2 b3
  have K7 : Below w.heap.size w w7 := K6.trans (hb.mono K6.size)
  have A7 : Hid (BlkV w7 w.heap.size a.k a.n a.d a.s) := A6.out.below hb (by omega)
  have B7 : Hid (BlkV w7 (w.heap.size + 1) b.k b.n b.d b.s) := B6.out.below hb z6
  have z7 : w.heap.size + 1 < w7.heap.size := by have := hb.size; omega
  clear A6 B6 z6 K6 hb
  go_wp2
  go_ret
  exact ⟨rfl, K7⟩

set_option maxRecDepth 100000 in
set_option maxHeartbeats 4000000 in
theorem tx_100 (a b X : Val) (s T U A : ByteArray) (E F G H : Int) (Q : Bool) (w : World) (ht : Pow w) (he : Errs w) (h8 : 8 ≤ w.heap.size)
    (PA : Hid (∀ W : World, Pow W → Calls Tryz.prog 14 #[.agg #[.int .i64 a.k, .int .i64 a.n, .int .i64 a.d, .string a.s]] W fun e w' => e = .returned (.tuple #[.string T, .int .i64 E]) ∧ Below W.heap.size W w'))
    (PB : Hid (∀ W : World, Pow W → Calls Tryz.prog 14 #[.agg #[.int .i64 b.k, .int .i64 b.n, .int .i64 b.d, .string b.s]] W fun e w' => e = .returned (.tuple #[.string U, .int .i64 F]) ∧ Below W.heap.size W w'))
    (PX : Hid (∀ W : World, Pow W → Calls Tryz.prog 14 #[.agg #[.int .i64 X.k, .int .i64 X.n, .int .i64 X.d, .string X.s]] W fun e w' => e = .returned (.tuple #[.string A, .int .i64 H]) ∧ Below W.heap.size W w'))
    (RS : Hid (∀ W : World, Pow W → Errs W → 8 ≤ W.heap.size → Calls Tryz.prog 16 #[.string s] W fun e w' => e = .returned (.tuple #[.agg #[.int .i64 X.k, .int .i64 X.n, .int .i64 X.d, .string X.s], .int .i64 G]) ∧ Below W.heap.size W w'))
    (RT : Hid (∀ W : World, Pow W → Errs W → 8 ≤ W.heap.size → Calls Tryz.prog 16 #[.string T] W fun e w' => e = .returned (.tuple #[.agg #[.int .i64 a.k, .int .i64 a.n, .int .i64 a.d, .string a.s], .int .i64 0]) ∧ Below W.heap.size W w'))
    (CK : Hid (∀ W : World, Calls Tryz.prog 19 #[.agg #[.int .i64 a.k, .int .i64 a.n, .int .i64 a.d, .string a.s]] W fun e w' => e = .returned (.int .i64 E) ∧ Below W.heap.size W w'))
    (hE : E = 0) (hF : (F == 0) = false) (hG : (G != 0) = true) :
    Calls Tryz.prog 6 #[.agg #[.int .i64 a.k, .int .i64 a.n, .int .i64 a.d, .string a.s], .agg #[.int .i64 b.k, .int .i64 b.n, .int .i64 b.d, .string b.s], .string s] w fun e w' => e = .returned (.bool true) ∧ Below w.heap.size w w' := by
  subst hE
  have HE : Hid (Errs w) := he
  clear he
  go_enter Tryz.func6, Tryz.ntmps6
  go_upto_region 1 with fail
  refine wp_world ?_
  intro w0 hW0
  have A0 : Hid (BlkV w0 w.heap.size a.k a.n a.d a.s) := by rw [hW0]; constructor <;> simp (maxDischargeDepth := 12) [go_sem]
  have B0 : Hid (BlkV w0 (w.heap.size + 1) b.k b.n b.d b.s) := by rw [hW0]; constructor <;> simp (maxDischargeDepth := 12) [go_sem]
  have z0 : w.heap.size + 1 < w0.heap.size := by rw [hW0]; simp
  have K0 : Below w.heap.size w w0 := by rw [hW0]; go_grown
  clear hW0
  obtain ⟨a0, a1, a2, a3, -, -, -, -⟩ := A0.out
  obtain ⟨b0, b1, b2, b3, -, -, -, -⟩ := B0.out
  go_wp2_with fail
  refine (PA.out _ (ht.below K0)).mono ?_
  rintro e w1 ⟨rfl, hb⟩
  clear a0 a1 a2 a3 b0 b1 b2 b3
  have K1 : Below w.heap.size w w1 := K0.trans (hb.mono K0.size)
  have A1 : Hid (BlkV w1 w.heap.size a.k a.n a.d a.s) := A0.out.below hb (by omega)
  have B1 : Hid (BlkV w1 (w.heap.size + 1) b.k b.n b.d b.s) := B0.out.below hb z0
  have z1 : w.heap.size + 1 < w1.heap.size := by have := hb.size; omega
  clear A0 B0 z0 K0 hb
  obtain ⟨a0, a1, a2, a3, -, -, -, -⟩ := A1.out
  obtain ⟨b0, b1, b2, b3, -, -, -, -⟩ := B1.out
  go_wp2_with fail
  refine (PB.out _ (ht.below K1)).mono ?_
  rintro e w2 ⟨rfl, hb⟩
  clear a0 a1 a2 a3 b0 b1 b2 b3
  have K2 : Below w.heap.size w w2 := K1.trans (hb.mono K1.size)
  have A2 : Hid (BlkV w2 w.heap.size a.k a.n a.d a.s) := A1.out.below hb (by omega)
  have B2 : Hid (BlkV w2 (w.heap.size + 1) b.k b.n b.d b.s) := B1.out.below hb z1
  have z2 : w.heap.size + 1 < w2.heap.size := by have := hb.size; omega
  clear A1 B1 z1 K1 hb
  obtain ⟨a0, a1, a2, a3, -, -, -, -⟩ := A2.out
  obtain ⟨b0, b1, b2, b3, -, -, -, -⟩ := B2.out
  go_wp2_with fail
  refine (RT.out _ (ht.below K2) (HE.out.below K2 h8) (by omega)).mono ?_
  rintro e w3 ⟨rfl, hb⟩
  clear a0 a1 a2 a3 b0 b1 b2 b3
  have K3 : Below w.heap.size w w3 := K2.trans (hb.mono K2.size)
  have A3 : Hid (BlkV w3 w.heap.size a.k a.n a.d a.s) := A2.out.below hb (by omega)
  have B3 : Hid (BlkV w3 (w.heap.size + 1) b.k b.n b.d b.s) := B2.out.below hb z2
  have z3 : w.heap.size + 1 < w3.heap.size := by have := hb.size; omega
  clear A2 B2 z2 K2 hb
  go_upto_region 5 with fail
  refine wp_world ?_
  intro w4 hW
  have n4 : Below w3.heap.size w3 w4 := by rw [hW]; exact (Below.refl _ _).alloc (Nat.le_refl _) _
  have V : Hid (BlkV w4 w3.heap.size a.k a.n a.d a.s) := by rw [hW]; constructor <;> simp (maxDischargeDepth := 12) [go_sem]
  have q4 : w3.heap.size < w4.heap.size := by rw [hW]; simp
  have K4 : Below w.heap.size w w4 := K3.trans (n4.mono K3.size)
  have A4 : Hid (BlkV w4 w.heap.size a.k a.n a.d a.s) := A3.out.below n4 (by omega)
  have B4 : Hid (BlkV w4 (w.heap.size + 1) b.k b.n b.d b.s) := B3.out.below n4 z3
  have z4 : w.heap.size + 1 < w4.heap.size := by omega
  clear hW A3 B3 z3 K3 n4
  obtain ⟨v0, v1, v2, v3, -, -, -, -⟩ := V.out
  obtain ⟨a0, a1, a2, a3, -, -, -, -⟩ := A4.out
  obtain ⟨b0, b1, b2, b3, -, -, -, -⟩ := B4.out
  go_wp2_with fail
  refine (lsame_yes _ _ _ _ _).mono ?_
  rintro e w5 ⟨rfl, hb⟩
  clear a0 a1 a2 a3 b0 b1 b2 b3
  have K5 : Below w.heap.size w w5 := K4.trans (hb.mono K4.size)
  have A5 : Hid (BlkV w5 w.heap.size a.k a.n a.d a.s) := A4.out.below hb (by omega)
  have B5 : Hid (BlkV w5 (w.heap.size + 1) b.k b.n b.d b.s) := B4.out.below hb z4
  have z5 : w.heap.size + 1 < w5.heap.size := by have := hb.size; omega
  clear A4 B4 z4 K4 hb
  clear v0 v1 v2 v3 V
  obtain ⟨a0, a1, a2, a3, -, -, -, -⟩ := A5.out
  obtain ⟨b0, b1, b2, b3, -, -, -, -⟩ := B5.out
  go_wp2_with fail
  refine (RS.out _ (ht.below K5) (HE.out.below K5 h8) (by omega)).mono ?_
  rintro e w6 ⟨rfl, hb⟩
  clear a0 a1 a2 a3 b0 b1 b2 b3
  have K6 : Below w.heap.size w w6 := K5.trans (hb.mono K5.size)
  have A6 : Hid (BlkV w6 w.heap.size a.k a.n a.d a.s) := A5.out.below hb (by omega)
  have B6 : Hid (BlkV w6 (w.heap.size + 1) b.k b.n b.d b.s) := B5.out.below hb z5
  have z6 : w.heap.size + 1 < w6.heap.size := by have := hb.size; omega
  clear A5 B5 z5 K5 hb
  go_upto_region 10 with fail
  refine wp_world ?_
  intro w7 hW
  have n7 : Below w6.heap.size w6 w7 := by rw [hW]; exact (Below.refl _ _).alloc (Nat.le_refl _) _
  have V : Hid (BlkV w7 w6.heap.size X.k X.n X.d X.s) := by rw [hW]; constructor <;> simp (maxDischargeDepth := 12) [go_sem]
  have q7 : w6.heap.size < w7.heap.size := by rw [hW]; simp
  have K7 : Below w.heap.size w w7 := K6.trans (n7.mono K6.size)
  have A7 : Hid (BlkV w7 w.heap.size a.k a.n a.d a.s) := A6.out.below n7 (by omega)
  have B7 : Hid (BlkV w7 (w.heap.size + 1) b.k b.n b.d b.s) := B6.out.below n7 z6
  have z7 : w.heap.size + 1 < w7.heap.size := by omega
  clear hW A6 B6 z6 K6 n7
  obtain ⟨v0, v1, v2, v3, -, -, -, -⟩ := V.out
  obtain ⟨a0, a1, a2, a3, -, -, -, -⟩ := A7.out
  obtain ⟨b0, b1, b2, b3, -, -, -, -⟩ := B7.out
  go_wp2_with fail
  refine (PX.out _ (ht.below K7)).mono ?_
  rintro e w8 ⟨rfl, hb⟩
  clear a0 a1 a2 a3 b0 b1 b2 b3
  have K8 : Below w.heap.size w w8 := K7.trans (hb.mono K7.size)
  have A8 : Hid (BlkV w8 w.heap.size a.k a.n a.d a.s) := A7.out.below hb (by omega)
  have B8 : Hid (BlkV w8 (w.heap.size + 1) b.k b.n b.d b.s) := B7.out.below hb z7
  have z8 : w.heap.size + 1 < w8.heap.size := by have := hb.size; omega
  clear A7 B7 z7 K7 hb
  clear v0 v1 v2 v3 V
  obtain ⟨a0, a1, a2, a3, -, -, -, -⟩ := A8.out
  obtain ⟨b0, b1, b2, b3, -, -, -, -⟩ := B8.out
  go_wp2_with fail
  refine (live_any _ (ht.below K8)).mono ?_
  rintro e w9 ⟨rfl, hb⟩
  clear a0 a1 a2 a3 b0 b1 b2 b3
  have K9 : Below w.heap.size w w9 := K8.trans (hb.mono K8.size)
  have A9 : Hid (BlkV w9 w.heap.size a.k a.n a.d a.s) := A8.out.below hb (by omega)
  have B9 : Hid (BlkV w9 (w.heap.size + 1) b.k b.n b.d b.s) := B8.out.below hb z8
  have z9 : w.heap.size + 1 < w9.heap.size := by have := hb.size; omega
  clear A8 B8 z8 K8 hb
  obtain ⟨a0, a1, a2, a3, -, -, -, -⟩ := A9.out
  obtain ⟨b0, b1, b2, b3, -, -, -, -⟩ := B9.out
  go_wp2_with fail
  refine (CK.out _).mono ?_
  rintro e w10 ⟨rfl, hb⟩
  clear a0 a1 a2 a3 b0 b1 b2 b3
  have K10 : Below w.heap.size w w10 := K9.trans (hb.mono K9.size)
  have A10 : Hid (BlkV w10 w.heap.size a.k a.n a.d a.s) := A9.out.below hb (by omega)
  have B10 : Hid (BlkV w10 (w.heap.size + 1) b.k b.n b.d b.s) := B9.out.below hb z9
  have z10 : w.heap.size + 1 < w10.heap.size := by have := hb.size; omega
  clear A9 B9 z9 K9 hb
  go_wp2
  go_ret
  exact ⟨rfl, K10⟩

set_option maxRecDepth 100000 in
set_option maxHeartbeats 4000000 in
theorem tx_101 (a b X : Val) (s T U A : ByteArray) (E F G H : Int) (Q : Bool) (w : World) (ht : Pow w) (he : Errs w) (h8 : 8 ≤ w.heap.size)
    (PA : Hid (∀ W : World, Pow W → Calls Tryz.prog 14 #[.agg #[.int .i64 a.k, .int .i64 a.n, .int .i64 a.d, .string a.s]] W fun e w' => e = .returned (.tuple #[.string T, .int .i64 E]) ∧ Below W.heap.size W w'))
    (PB : Hid (∀ W : World, Pow W → Calls Tryz.prog 14 #[.agg #[.int .i64 b.k, .int .i64 b.n, .int .i64 b.d, .string b.s]] W fun e w' => e = .returned (.tuple #[.string U, .int .i64 F]) ∧ Below W.heap.size W w'))
    (PX : Hid (∀ W : World, Pow W → Calls Tryz.prog 14 #[.agg #[.int .i64 X.k, .int .i64 X.n, .int .i64 X.d, .string X.s]] W fun e w' => e = .returned (.tuple #[.string A, .int .i64 H]) ∧ Below W.heap.size W w'))
    (RS : Hid (∀ W : World, Pow W → Errs W → 8 ≤ W.heap.size → Calls Tryz.prog 16 #[.string s] W fun e w' => e = .returned (.tuple #[.agg #[.int .i64 X.k, .int .i64 X.n, .int .i64 X.d, .string X.s], .int .i64 G]) ∧ Below W.heap.size W w'))
    (RT : Hid (∀ W : World, Pow W → Errs W → 8 ≤ W.heap.size → Calls Tryz.prog 16 #[.string T] W fun e w' => e = .returned (.tuple #[.agg #[.int .i64 a.k, .int .i64 a.n, .int .i64 a.d, .string a.s], .int .i64 0]) ∧ Below W.heap.size W w'))
    (CK : Hid (∀ W : World, Calls Tryz.prog 19 #[.agg #[.int .i64 a.k, .int .i64 a.n, .int .i64 a.d, .string a.s]] W fun e w' => e = .returned (.int .i64 E) ∧ Below W.heap.size W w'))
    (hE : E = 0) (hF : (F == 0) = false) (hG : G = 0) (hH : H = 0) (hA : A = s) :
    Calls Tryz.prog 6 #[.agg #[.int .i64 a.k, .int .i64 a.n, .int .i64 a.d, .string a.s], .agg #[.int .i64 b.k, .int .i64 b.n, .int .i64 b.d, .string b.s], .string s] w fun e w' => e = .returned (.bool true) ∧ Below w.heap.size w w' := by
  subst hE
  subst hG; subst hH; subst hA
  have HE : Hid (Errs w) := he
  clear he
  go_enter Tryz.func6, Tryz.ntmps6
  go_upto_region 1 with fail
  refine wp_world ?_
  intro w0 hW0
  have A0 : Hid (BlkV w0 w.heap.size a.k a.n a.d a.s) := by rw [hW0]; constructor <;> simp (maxDischargeDepth := 12) [go_sem]
  have B0 : Hid (BlkV w0 (w.heap.size + 1) b.k b.n b.d b.s) := by rw [hW0]; constructor <;> simp (maxDischargeDepth := 12) [go_sem]
  have z0 : w.heap.size + 1 < w0.heap.size := by rw [hW0]; simp
  have K0 : Below w.heap.size w w0 := by rw [hW0]; go_grown
  clear hW0
  obtain ⟨a0, a1, a2, a3, -, -, -, -⟩ := A0.out
  obtain ⟨b0, b1, b2, b3, -, -, -, -⟩ := B0.out
  go_wp2_with fail
  refine (PA.out _ (ht.below K0)).mono ?_
  rintro e w1 ⟨rfl, hb⟩
  clear a0 a1 a2 a3 b0 b1 b2 b3
  have K1 : Below w.heap.size w w1 := K0.trans (hb.mono K0.size)
  have A1 : Hid (BlkV w1 w.heap.size a.k a.n a.d a.s) := A0.out.below hb (by omega)
  have B1 : Hid (BlkV w1 (w.heap.size + 1) b.k b.n b.d b.s) := B0.out.below hb z0
  have z1 : w.heap.size + 1 < w1.heap.size := by have := hb.size; omega
  clear A0 B0 z0 K0 hb
  obtain ⟨a0, a1, a2, a3, -, -, -, -⟩ := A1.out
  obtain ⟨b0, b1, b2, b3, -, -, -, -⟩ := B1.out
  go_wp2_with fail
  refine (PB.out _ (ht.below K1)).mono ?_
  rintro e w2 ⟨rfl, hb⟩
  clear a0 a1 a2 a3 b0 b1 b2 b3
  have K2 : Below w.heap.size w w2 := K1.trans (hb.mono K1.size)
  have A2 : Hid (BlkV w2 w.heap.size a.k a.n a.d a.s) := A1.out.below hb (by omega)
  have B2 : Hid (BlkV w2 (w.heap.size + 1) b.k b.n b.d b.s) := B1.out.below hb z1
  have z2 : w.heap.size + 1 < w2.heap.size := by have := hb.size; omega
  clear A1 B1 z1 K1 hb
  obtain ⟨a0, a1, a2, a3, -, -, -, -⟩ := A2.out
  obtain ⟨b0, b1, b2, b3, -, -, -, -⟩ := B2.out
  go_wp2_with fail
  refine (RT.out _ (ht.below K2) (HE.out.below K2 h8) (by omega)).mono ?_
  rintro e w3 ⟨rfl, hb⟩
  clear a0 a1 a2 a3 b0 b1 b2 b3
  have K3 : Below w.heap.size w w3 := K2.trans (hb.mono K2.size)
  have A3 : Hid (BlkV w3 w.heap.size a.k a.n a.d a.s) := A2.out.below hb (by omega)
  have B3 : Hid (BlkV w3 (w.heap.size + 1) b.k b.n b.d b.s) := B2.out.below hb z2
  have z3 : w.heap.size + 1 < w3.heap.size := by have := hb.size; omega
  clear A2 B2 z2 K2 hb
  go_upto_region 5 with fail
  refine wp_world ?_
  intro w4 hW
  have n4 : Below w3.heap.size w3 w4 := by rw [hW]; exact (Below.refl _ _).alloc (Nat.le_refl _) _
  have V : Hid (BlkV w4 w3.heap.size a.k a.n a.d a.s) := by rw [hW]; constructor <;> simp (maxDischargeDepth := 12) [go_sem]
  have q4 : w3.heap.size < w4.heap.size := by rw [hW]; simp
  have K4 : Below w.heap.size w w4 := K3.trans (n4.mono K3.size)
  have A4 : Hid (BlkV w4 w.heap.size a.k a.n a.d a.s) := A3.out.below n4 (by omega)
  have B4 : Hid (BlkV w4 (w.heap.size + 1) b.k b.n b.d b.s) := B3.out.below n4 z3
  have z4 : w.heap.size + 1 < w4.heap.size := by omega
  clear hW A3 B3 z3 K3 n4
  obtain ⟨v0, v1, v2, v3, -, -, -, -⟩ := V.out
  obtain ⟨a0, a1, a2, a3, -, -, -, -⟩ := A4.out
  obtain ⟨b0, b1, b2, b3, -, -, -, -⟩ := B4.out
  go_wp2_with fail
  refine (lsame_yes _ _ _ _ _).mono ?_
  rintro e w5 ⟨rfl, hb⟩
  clear a0 a1 a2 a3 b0 b1 b2 b3
  have K5 : Below w.heap.size w w5 := K4.trans (hb.mono K4.size)
  have A5 : Hid (BlkV w5 w.heap.size a.k a.n a.d a.s) := A4.out.below hb (by omega)
  have B5 : Hid (BlkV w5 (w.heap.size + 1) b.k b.n b.d b.s) := B4.out.below hb z4
  have z5 : w.heap.size + 1 < w5.heap.size := by have := hb.size; omega
  clear A4 B4 z4 K4 hb
  clear v0 v1 v2 v3 V
  obtain ⟨a0, a1, a2, a3, -, -, -, -⟩ := A5.out
  obtain ⟨b0, b1, b2, b3, -, -, -, -⟩ := B5.out
  go_wp2_with fail
  refine (RS.out _ (ht.below K5) (HE.out.below K5 h8) (by omega)).mono ?_
  rintro e w6 ⟨rfl, hb⟩
  clear a0 a1 a2 a3 b0 b1 b2 b3
  have K6 : Below w.heap.size w w6 := K5.trans (hb.mono K5.size)
  have A6 : Hid (BlkV w6 w.heap.size a.k a.n a.d a.s) := A5.out.below hb (by omega)
  have B6 : Hid (BlkV w6 (w.heap.size + 1) b.k b.n b.d b.s) := B5.out.below hb z5
  have z6 : w.heap.size + 1 < w6.heap.size := by have := hb.size; omega
  clear A5 B5 z5 K5 hb
  go_upto_region 10 with fail
  refine wp_world ?_
  intro w7 hW
  have n7 : Below w6.heap.size w6 w7 := by rw [hW]; exact (Below.refl _ _).alloc (Nat.le_refl _) _
  have V : Hid (BlkV w7 w6.heap.size X.k X.n X.d X.s) := by rw [hW]; constructor <;> simp (maxDischargeDepth := 12) [go_sem]
  have q7 : w6.heap.size < w7.heap.size := by rw [hW]; simp
  have K7 : Below w.heap.size w w7 := K6.trans (n7.mono K6.size)
  have A7 : Hid (BlkV w7 w.heap.size a.k a.n a.d a.s) := A6.out.below n7 (by omega)
  have B7 : Hid (BlkV w7 (w.heap.size + 1) b.k b.n b.d b.s) := B6.out.below n7 z6
  have z7 : w.heap.size + 1 < w7.heap.size := by omega
  clear hW A6 B6 z6 K6 n7
  obtain ⟨v0, v1, v2, v3, -, -, -, -⟩ := V.out
  obtain ⟨a0, a1, a2, a3, -, -, -, -⟩ := A7.out
  obtain ⟨b0, b1, b2, b3, -, -, -, -⟩ := B7.out
  go_wp2_with fail
  refine (PX.out _ (ht.below K7)).mono ?_
  rintro e w8 ⟨rfl, hb⟩
  clear a0 a1 a2 a3 b0 b1 b2 b3
  have K8 : Below w.heap.size w w8 := K7.trans (hb.mono K7.size)
  have A8 : Hid (BlkV w8 w.heap.size a.k a.n a.d a.s) := A7.out.below hb (by omega)
  have B8 : Hid (BlkV w8 (w.heap.size + 1) b.k b.n b.d b.s) := B7.out.below hb z7
  have z8 : w.heap.size + 1 < w8.heap.size := by have := hb.size; omega
  clear A7 B7 z7 K7 hb
  clear v0 v1 v2 v3 V
  obtain ⟨a0, a1, a2, a3, -, -, -, -⟩ := A8.out
  obtain ⟨b0, b1, b2, b3, -, -, -, -⟩ := B8.out
  go_wp2_with fail
  refine (live_any _ (ht.below K8)).mono ?_
  rintro e w9 ⟨rfl, hb⟩
  clear a0 a1 a2 a3 b0 b1 b2 b3
  have K9 : Below w.heap.size w w9 := K8.trans (hb.mono K8.size)
  have A9 : Hid (BlkV w9 w.heap.size a.k a.n a.d a.s) := A8.out.below hb (by omega)
  have B9 : Hid (BlkV w9 (w.heap.size + 1) b.k b.n b.d b.s) := B8.out.below hb z8
  have z9 : w.heap.size + 1 < w9.heap.size := by have := hb.size; omega
  clear A8 B8 z8 K8 hb
  obtain ⟨a0, a1, a2, a3, -, -, -, -⟩ := A9.out
  obtain ⟨b0, b1, b2, b3, -, -, -, -⟩ := B9.out
  go_wp2_with fail
  refine (CK.out _).mono ?_
  rintro e w10 ⟨rfl, hb⟩
  clear a0 a1 a2 a3 b0 b1 b2 b3
  have K10 : Below w.heap.size w w10 := K9.trans (hb.mono K9.size)
  have A10 : Hid (BlkV w10 w.heap.size a.k a.n a.d a.s) := A9.out.below hb (by omega)
  have B10 : Hid (BlkV w10 (w.heap.size + 1) b.k b.n b.d b.s) := B9.out.below hb z9
  have z10 : w.heap.size + 1 < w10.heap.size := by have := hb.size; omega
  clear A9 B9 z9 K9 hb
  go_wp2
  go_ret
  exact ⟨rfl, K10⟩

set_option maxRecDepth 100000 in
set_option maxHeartbeats 4000000 in
theorem tx_110 (a b X : Val) (s T U A : ByteArray) (E F G H : Int) (Q : Bool) (w : World) (ht : Pow w) (he : Errs w) (h8 : 8 ≤ w.heap.size)
    (PA : Hid (∀ W : World, Pow W → Calls Tryz.prog 14 #[.agg #[.int .i64 a.k, .int .i64 a.n, .int .i64 a.d, .string a.s]] W fun e w' => e = .returned (.tuple #[.string T, .int .i64 E]) ∧ Below W.heap.size W w'))
    (PB : Hid (∀ W : World, Pow W → Calls Tryz.prog 14 #[.agg #[.int .i64 b.k, .int .i64 b.n, .int .i64 b.d, .string b.s]] W fun e w' => e = .returned (.tuple #[.string U, .int .i64 F]) ∧ Below W.heap.size W w'))
    (PX : Hid (∀ W : World, Pow W → Calls Tryz.prog 14 #[.agg #[.int .i64 X.k, .int .i64 X.n, .int .i64 X.d, .string X.s]] W fun e w' => e = .returned (.tuple #[.string A, .int .i64 H]) ∧ Below W.heap.size W w'))
    (RS : Hid (∀ W : World, Pow W → Errs W → 8 ≤ W.heap.size → Calls Tryz.prog 16 #[.string s] W fun e w' => e = .returned (.tuple #[.agg #[.int .i64 X.k, .int .i64 X.n, .int .i64 X.d, .string X.s], .int .i64 G]) ∧ Below W.heap.size W w'))
    (RT : Hid (∀ W : World, Pow W → Errs W → 8 ≤ W.heap.size → Calls Tryz.prog 16 #[.string T] W fun e w' => e = .returned (.tuple #[.agg #[.int .i64 a.k, .int .i64 a.n, .int .i64 a.d, .string a.s], .int .i64 0]) ∧ Below W.heap.size W w'))
    (SM : Hid (∀ W : World, Calls Tryz.prog 18 #[.agg #[.int .i64 a.k, .int .i64 a.n, .int .i64 a.d, .string a.s], .agg #[.int .i64 b.k, .int .i64 b.n, .int .i64 b.d, .string b.s]] W fun e w' => e = .returned (.bool Q) ∧ Below W.heap.size W w')) (hQ : (T.toList == U.toList) = Q)
    (CK : Hid (∀ W : World, Calls Tryz.prog 19 #[.agg #[.int .i64 a.k, .int .i64 a.n, .int .i64 a.d, .string a.s]] W fun e w' => e = .returned (.int .i64 E) ∧ Below W.heap.size W w'))
    (hE : E = 0) (hF : F = 0) (hG : (G != 0) = true) :
    Calls Tryz.prog 6 #[.agg #[.int .i64 a.k, .int .i64 a.n, .int .i64 a.d, .string a.s], .agg #[.int .i64 b.k, .int .i64 b.n, .int .i64 b.d, .string b.s], .string s] w fun e w' => e = .returned (.bool true) ∧ Below w.heap.size w w' := by
  subst hE
  subst hF
  have HE : Hid (Errs w) := he
  clear he
  go_enter Tryz.func6, Tryz.ntmps6
  go_upto_region 1 with fail
  refine wp_world ?_
  intro w0 hW0
  have A0 : Hid (BlkV w0 w.heap.size a.k a.n a.d a.s) := by rw [hW0]; constructor <;> simp (maxDischargeDepth := 12) [go_sem]
  have B0 : Hid (BlkV w0 (w.heap.size + 1) b.k b.n b.d b.s) := by rw [hW0]; constructor <;> simp (maxDischargeDepth := 12) [go_sem]
  have z0 : w.heap.size + 1 < w0.heap.size := by rw [hW0]; simp
  have K0 : Below w.heap.size w w0 := by rw [hW0]; go_grown
  clear hW0
  obtain ⟨a0, a1, a2, a3, -, -, -, -⟩ := A0.out
  obtain ⟨b0, b1, b2, b3, -, -, -, -⟩ := B0.out
  go_wp2_with fail
  refine (PA.out _ (ht.below K0)).mono ?_
  rintro e w1 ⟨rfl, hb⟩
  clear a0 a1 a2 a3 b0 b1 b2 b3
  have K1 : Below w.heap.size w w1 := K0.trans (hb.mono K0.size)
  have A1 : Hid (BlkV w1 w.heap.size a.k a.n a.d a.s) := A0.out.below hb (by omega)
  have B1 : Hid (BlkV w1 (w.heap.size + 1) b.k b.n b.d b.s) := B0.out.below hb z0
  have z1 : w.heap.size + 1 < w1.heap.size := by have := hb.size; omega
  clear A0 B0 z0 K0 hb
  obtain ⟨a0, a1, a2, a3, -, -, -, -⟩ := A1.out
  obtain ⟨b0, b1, b2, b3, -, -, -, -⟩ := B1.out
  go_wp2_with fail
  refine (PB.out _ (ht.below K1)).mono ?_
  rintro e w2 ⟨rfl, hb⟩
  clear a0 a1 a2 a3 b0 b1 b2 b3
  have K2 : Below w.heap.size w w2 := K1.trans (hb.mono K1.size)
  have A2 : Hid (BlkV w2 w.heap.size a.k a.n a.d a.s) := A1.out.below hb (by omega)
  have B2 : Hid (BlkV w2 (w.heap.size + 1) b.k b.n b.d b.s) := B1.out.below hb z1
  have z2 : w.heap.size + 1 < w2.heap.size := by have := hb.size; omega
  clear A1 B1 z1 K1 hb
  obtain ⟨a0, a1, a2, a3, -, -, -, -⟩ := A2.out
  obtain ⟨b0, b1, b2, b3, -, -, -, -⟩ := B2.out
  go_wp2_with fail
  refine (RT.out _ (ht.below K2) (HE.out.below K2 h8) (by omega)).mono ?_
  rintro e w3 ⟨rfl, hb⟩
  clear a0 a1 a2 a3 b0 b1 b2 b3
  have K3 : Below w.heap.size w w3 := K2.trans (hb.mono K2.size)
  have A3 : Hid (BlkV w3 w.heap.size a.k a.n a.d a.s) := A2.out.below hb (by omega)
  have B3 : Hid (BlkV w3 (w.heap.size + 1) b.k b.n b.d b.s) := B2.out.below hb z2
  have z3 : w.heap.size + 1 < w3.heap.size := by have := hb.size; omega
  clear A2 B2 z2 K2 hb
  go_upto_region 5 with fail
  refine wp_world ?_
  intro w4 hW
  have n4 : Below w3.heap.size w3 w4 := by rw [hW]; exact (Below.refl _ _).alloc (Nat.le_refl _) _
  have V : Hid (BlkV w4 w3.heap.size a.k a.n a.d a.s) := by rw [hW]; constructor <;> simp (maxDischargeDepth := 12) [go_sem]
  have q4 : w3.heap.size < w4.heap.size := by rw [hW]; simp
  have K4 : Below w.heap.size w w4 := K3.trans (n4.mono K3.size)
  have A4 : Hid (BlkV w4 w.heap.size a.k a.n a.d a.s) := A3.out.below n4 (by omega)
  have B4 : Hid (BlkV w4 (w.heap.size + 1) b.k b.n b.d b.s) := B3.out.below n4 z3
  have z4 : w.heap.size + 1 < w4.heap.size := by omega
  clear hW A3 B3 z3 K3 n4
  obtain ⟨v0, v1, v2, v3, -, -, -, -⟩ := V.out
  obtain ⟨a0, a1, a2, a3, -, -, -, -⟩ := A4.out
  obtain ⟨b0, b1, b2, b3, -, -, -, -⟩ := B4.out
  go_wp2_with fail
  refine (lsame_yes _ _ _ _ _).mono ?_
  rintro e w5 ⟨rfl, hb⟩
  clear a0 a1 a2 a3 b0 b1 b2 b3
  have K5 : Below w.heap.size w w5 := K4.trans (hb.mono K4.size)
  have A5 : Hid (BlkV w5 w.heap.size a.k a.n a.d a.s) := A4.out.below hb (by omega)
  have B5 : Hid (BlkV w5 (w.heap.size + 1) b.k b.n b.d b.s) := B4.out.below hb z4
  have z5 : w.heap.size + 1 < w5.heap.size := by have := hb.size; omega
  clear A4 B4 z4 K4 hb
  clear v0 v1 v2 v3 V
  obtain ⟨a0, a1, a2, a3, -, -, -, -⟩ := A5.out
  obtain ⟨b0, b1, b2, b3, -, -, -, -⟩ := B5.out
  go_wp2_with fail
  refine (SM.out _).mono ?_
  rintro e w6 ⟨rfl, hb⟩
  clear a0 a1 a2 a3 b0 b1 b2 b3
  have K6 : Below w.heap.size w w6 := K5.trans (hb.mono K5.size)
  have A6 : Hid (BlkV w6 w.heap.size a.k a.n a.d a.s) := A5.out.below hb (by omega)
  have B6 : Hid (BlkV w6 (w.heap.size + 1) b.k b.n b.d b.s) := B5.out.below hb z5
  have z6 : w.heap.size + 1 < w6.heap.size := by have := hb.size; omega
  clear A5 B5 z5 K5 hb
  obtain ⟨a0, a1, a2, a3, -, -, -, -⟩ := A6.out
  obtain ⟨b0, b1, b2, b3, -, -, -, -⟩ := B6.out
  go_wp2_with fail
  refine (RS.out _ (ht.below K6) (HE.out.below K6 h8) (by omega)).mono ?_
  rintro e w7 ⟨rfl, hb⟩
  clear a0 a1 a2 a3 b0 b1 b2 b3
  have K7 : Below w.heap.size w w7 := K6.trans (hb.mono K6.size)
  have A7 : Hid (BlkV w7 w.heap.size a.k a.n a.d a.s) := A6.out.below hb (by omega)
  have B7 : Hid (BlkV w7 (w.heap.size + 1) b.k b.n b.d b.s) := B6.out.below hb z6
  have z7 : w.heap.size + 1 < w7.heap.size := by have := hb.size; omega
  clear A6 B6 z6 K6 hb
  go_upto_region 10 with fail
  refine wp_world ?_
  intro w8 hW
  have n8 : Below w7.heap.size w7 w8 := by rw [hW]; exact (Below.refl _ _).alloc (Nat.le_refl _) _
  have V : Hid (BlkV w8 w7.heap.size X.k X.n X.d X.s) := by rw [hW]; constructor <;> simp (maxDischargeDepth := 12) [go_sem]
  have q8 : w7.heap.size < w8.heap.size := by rw [hW]; simp
  have K8 : Below w.heap.size w w8 := K7.trans (n8.mono K7.size)
  have A8 : Hid (BlkV w8 w.heap.size a.k a.n a.d a.s) := A7.out.below n8 (by omega)
  have B8 : Hid (BlkV w8 (w.heap.size + 1) b.k b.n b.d b.s) := B7.out.below n8 z7
  have z8 : w.heap.size + 1 < w8.heap.size := by omega
  clear hW A7 B7 z7 K7 n8
  obtain ⟨v0, v1, v2, v3, -, -, -, -⟩ := V.out
  obtain ⟨a0, a1, a2, a3, -, -, -, -⟩ := A8.out
  obtain ⟨b0, b1, b2, b3, -, -, -, -⟩ := B8.out
  go_wp2_with fail
  refine (PX.out _ (ht.below K8)).mono ?_
  rintro e w9 ⟨rfl, hb⟩
  clear a0 a1 a2 a3 b0 b1 b2 b3
  have K9 : Below w.heap.size w w9 := K8.trans (hb.mono K8.size)
  have A9 : Hid (BlkV w9 w.heap.size a.k a.n a.d a.s) := A8.out.below hb (by omega)
  have B9 : Hid (BlkV w9 (w.heap.size + 1) b.k b.n b.d b.s) := B8.out.below hb z8
  have z9 : w.heap.size + 1 < w9.heap.size := by have := hb.size; omega
  clear A8 B8 z8 K8 hb
  clear v0 v1 v2 v3 V
  obtain ⟨a0, a1, a2, a3, -, -, -, -⟩ := A9.out
  obtain ⟨b0, b1, b2, b3, -, -, -, -⟩ := B9.out
  go_wp2_with fail
  refine (live_any _ (ht.below K9)).mono ?_
  rintro e w10 ⟨rfl, hb⟩
  clear a0 a1 a2 a3 b0 b1 b2 b3
  have K10 : Below w.heap.size w w10 := K9.trans (hb.mono K9.size)
  have A10 : Hid (BlkV w10 w.heap.size a.k a.n a.d a.s) := A9.out.below hb (by omega)
  have B10 : Hid (BlkV w10 (w.heap.size + 1) b.k b.n b.d b.s) := B9.out.below hb z9
  have z10 : w.heap.size + 1 < w10.heap.size := by have := hb.size; omega
  clear A9 B9 z9 K9 hb
  obtain ⟨a0, a1, a2, a3, -, -, -, -⟩ := A10.out
  obtain ⟨b0, b1, b2, b3, -, -, -, -⟩ := B10.out
  go_wp2_with fail
  refine (CK.out _).mono ?_
  rintro e w11 ⟨rfl, hb⟩
  clear a0 a1 a2 a3 b0 b1 b2 b3
  have K11 : Below w.heap.size w w11 := K10.trans (hb.mono K10.size)
  have A11 : Hid (BlkV w11 w.heap.size a.k a.n a.d a.s) := A10.out.below hb (by omega)
  have B11 : Hid (BlkV w11 (w.heap.size + 1) b.k b.n b.d b.s) := B10.out.below hb z10
  have z11 : w.heap.size + 1 < w11.heap.size := by have := hb.size; omega
  clear A10 B10 z10 K10 hb
  go_wp2
  go_ret
  exact ⟨rfl, K11⟩

set_option maxRecDepth 100000 in
set_option maxHeartbeats 4000000 in
theorem tx_111 (a b X : Val) (s T U A : ByteArray) (E F G H : Int) (Q : Bool) (w : World) (ht : Pow w) (he : Errs w) (h8 : 8 ≤ w.heap.size)
    (PA : Hid (∀ W : World, Pow W → Calls Tryz.prog 14 #[.agg #[.int .i64 a.k, .int .i64 a.n, .int .i64 a.d, .string a.s]] W fun e w' => e = .returned (.tuple #[.string T, .int .i64 E]) ∧ Below W.heap.size W w'))
    (PB : Hid (∀ W : World, Pow W → Calls Tryz.prog 14 #[.agg #[.int .i64 b.k, .int .i64 b.n, .int .i64 b.d, .string b.s]] W fun e w' => e = .returned (.tuple #[.string U, .int .i64 F]) ∧ Below W.heap.size W w'))
    (PX : Hid (∀ W : World, Pow W → Calls Tryz.prog 14 #[.agg #[.int .i64 X.k, .int .i64 X.n, .int .i64 X.d, .string X.s]] W fun e w' => e = .returned (.tuple #[.string A, .int .i64 H]) ∧ Below W.heap.size W w'))
    (RS : Hid (∀ W : World, Pow W → Errs W → 8 ≤ W.heap.size → Calls Tryz.prog 16 #[.string s] W fun e w' => e = .returned (.tuple #[.agg #[.int .i64 X.k, .int .i64 X.n, .int .i64 X.d, .string X.s], .int .i64 G]) ∧ Below W.heap.size W w'))
    (RT : Hid (∀ W : World, Pow W → Errs W → 8 ≤ W.heap.size → Calls Tryz.prog 16 #[.string T] W fun e w' => e = .returned (.tuple #[.agg #[.int .i64 a.k, .int .i64 a.n, .int .i64 a.d, .string a.s], .int .i64 0]) ∧ Below W.heap.size W w'))
    (SM : Hid (∀ W : World, Calls Tryz.prog 18 #[.agg #[.int .i64 a.k, .int .i64 a.n, .int .i64 a.d, .string a.s], .agg #[.int .i64 b.k, .int .i64 b.n, .int .i64 b.d, .string b.s]] W fun e w' => e = .returned (.bool Q) ∧ Below W.heap.size W w')) (hQ : (T.toList == U.toList) = Q)
    (CK : Hid (∀ W : World, Calls Tryz.prog 19 #[.agg #[.int .i64 a.k, .int .i64 a.n, .int .i64 a.d, .string a.s]] W fun e w' => e = .returned (.int .i64 E) ∧ Below W.heap.size W w'))
    (hE : E = 0) (hF : F = 0) (hG : G = 0) (hH : H = 0) (hA : A = s) :
    Calls Tryz.prog 6 #[.agg #[.int .i64 a.k, .int .i64 a.n, .int .i64 a.d, .string a.s], .agg #[.int .i64 b.k, .int .i64 b.n, .int .i64 b.d, .string b.s], .string s] w fun e w' => e = .returned (.bool true) ∧ Below w.heap.size w w' := by
  subst hE
  subst hF
  subst hG; subst hH; subst hA
  have HE : Hid (Errs w) := he
  clear he
  go_enter Tryz.func6, Tryz.ntmps6
  go_upto_region 1 with fail
  refine wp_world ?_
  intro w0 hW0
  have A0 : Hid (BlkV w0 w.heap.size a.k a.n a.d a.s) := by rw [hW0]; constructor <;> simp (maxDischargeDepth := 12) [go_sem]
  have B0 : Hid (BlkV w0 (w.heap.size + 1) b.k b.n b.d b.s) := by rw [hW0]; constructor <;> simp (maxDischargeDepth := 12) [go_sem]
  have z0 : w.heap.size + 1 < w0.heap.size := by rw [hW0]; simp
  have K0 : Below w.heap.size w w0 := by rw [hW0]; go_grown
  clear hW0
  obtain ⟨a0, a1, a2, a3, -, -, -, -⟩ := A0.out
  obtain ⟨b0, b1, b2, b3, -, -, -, -⟩ := B0.out
  go_wp2_with fail
  refine (PA.out _ (ht.below K0)).mono ?_
  rintro e w1 ⟨rfl, hb⟩
  clear a0 a1 a2 a3 b0 b1 b2 b3
  have K1 : Below w.heap.size w w1 := K0.trans (hb.mono K0.size)
  have A1 : Hid (BlkV w1 w.heap.size a.k a.n a.d a.s) := A0.out.below hb (by omega)
  have B1 : Hid (BlkV w1 (w.heap.size + 1) b.k b.n b.d b.s) := B0.out.below hb z0
  have z1 : w.heap.size + 1 < w1.heap.size := by have := hb.size; omega
  clear A0 B0 z0 K0 hb
  obtain ⟨a0, a1, a2, a3, -, -, -, -⟩ := A1.out
  obtain ⟨b0, b1, b2, b3, -, -, -, -⟩ := B1.out
  go_wp2_with fail
  refine (PB.out _ (ht.below K1)).mono ?_
  rintro e w2 ⟨rfl, hb⟩
  clear a0 a1 a2 a3 b0 b1 b2 b3
  have K2 : Below w.heap.size w w2 := K1.trans (hb.mono K1.size)
  have A2 : Hid (BlkV w2 w.heap.size a.k a.n a.d a.s) := A1.out.below hb (by omega)
  have B2 : Hid (BlkV w2 (w.heap.size + 1) b.k b.n b.d b.s) := B1.out.below hb z1
  have z2 : w.heap.size + 1 < w2.heap.size := by have := hb.size; omega
  clear A1 B1 z1 K1 hb
  obtain ⟨a0, a1, a2, a3, -, -, -, -⟩ := A2.out
  obtain ⟨b0, b1, b2, b3, -, -, -, -⟩ := B2.out
  go_wp2_with fail
  refine (RT.out _ (ht.below K2) (HE.out.below K2 h8) (by omega)).mono ?_
  rintro e w3 ⟨rfl, hb⟩
  clear a0 a1 a2 a3 b0 b1 b2 b3
  have K3 : Below w.heap.size w w3 := K2.trans (hb.mono K2.size)
  have A3 : Hid (BlkV w3 w.heap.size a.k a.n a.d a.s) := A2.out.below hb (by omega)
  have B3 : Hid (BlkV w3 (w.heap.size + 1) b.k b.n b.d b.s) := B2.out.below hb z2
  have z3 : w.heap.size + 1 < w3.heap.size := by have := hb.size; omega
  clear A2 B2 z2 K2 hb
  go_upto_region 5 with fail
  refine wp_world ?_
  intro w4 hW
  have n4 : Below w3.heap.size w3 w4 := by rw [hW]; exact (Below.refl _ _).alloc (Nat.le_refl _) _
  have V : Hid (BlkV w4 w3.heap.size a.k a.n a.d a.s) := by rw [hW]; constructor <;> simp (maxDischargeDepth := 12) [go_sem]
  have q4 : w3.heap.size < w4.heap.size := by rw [hW]; simp
  have K4 : Below w.heap.size w w4 := K3.trans (n4.mono K3.size)
  have A4 : Hid (BlkV w4 w.heap.size a.k a.n a.d a.s) := A3.out.below n4 (by omega)
  have B4 : Hid (BlkV w4 (w.heap.size + 1) b.k b.n b.d b.s) := B3.out.below n4 z3
  have z4 : w.heap.size + 1 < w4.heap.size := by omega
  clear hW A3 B3 z3 K3 n4
  obtain ⟨v0, v1, v2, v3, -, -, -, -⟩ := V.out
  obtain ⟨a0, a1, a2, a3, -, -, -, -⟩ := A4.out
  obtain ⟨b0, b1, b2, b3, -, -, -, -⟩ := B4.out
  go_wp2_with fail
  refine (lsame_yes _ _ _ _ _).mono ?_
  rintro e w5 ⟨rfl, hb⟩
  clear a0 a1 a2 a3 b0 b1 b2 b3
  have K5 : Below w.heap.size w w5 := K4.trans (hb.mono K4.size)
  have A5 : Hid (BlkV w5 w.heap.size a.k a.n a.d a.s) := A4.out.below hb (by omega)
  have B5 : Hid (BlkV w5 (w.heap.size + 1) b.k b.n b.d b.s) := B4.out.below hb z4
  have z5 : w.heap.size + 1 < w5.heap.size := by have := hb.size; omega
  clear A4 B4 z4 K4 hb
  clear v0 v1 v2 v3 V
  obtain ⟨a0, a1, a2, a3, -, -, -, -⟩ := A5.out
  obtain ⟨b0, b1, b2, b3, -, -, -, -⟩ := B5.out
  go_wp2_with fail
  refine (SM.out _).mono ?_
  rintro e w6 ⟨rfl, hb⟩
  clear a0 a1 a2 a3 b0 b1 b2 b3
  have K6 : Below w.heap.size w w6 := K5.trans (hb.mono K5.size)
  have A6 : Hid (BlkV w6 w.heap.size a.k a.n a.d a.s) := A5.out.below hb (by omega)
  have B6 : Hid (BlkV w6 (w.heap.size + 1) b.k b.n b.d b.s) := B5.out.below hb z5
  have z6 : w.heap.size + 1 < w6.heap.size := by have := hb.size; omega
  clear A5 B5 z5 K5 hb
  obtain ⟨a0, a1, a2, a3, -, -, -, -⟩ := A6.out
  obtain ⟨b0, b1, b2, b3, -, -, -, -⟩ := B6.out
  go_wp2_with fail
  refine (RS.out _ (ht.below K6) (HE.out.below K6 h8) (by omega)).mono ?_
  rintro e w7 ⟨rfl, hb⟩
  clear a0 a1 a2 a3 b0 b1 b2 b3
  have K7 : Below w.heap.size w w7 := K6.trans (hb.mono K6.size)
  have A7 : Hid (BlkV w7 w.heap.size a.k a.n a.d a.s) := A6.out.below hb (by omega)
  have B7 : Hid (BlkV w7 (w.heap.size + 1) b.k b.n b.d b.s) := B6.out.below hb z6
  have z7 : w.heap.size + 1 < w7.heap.size := by have := hb.size; omega
  clear A6 B6 z6 K6 hb
  go_upto_region 10 with fail
  refine wp_world ?_
  intro w8 hW
  have n8 : Below w7.heap.size w7 w8 := by rw [hW]; exact (Below.refl _ _).alloc (Nat.le_refl _) _
  have V : Hid (BlkV w8 w7.heap.size X.k X.n X.d X.s) := by rw [hW]; constructor <;> simp (maxDischargeDepth := 12) [go_sem]
  have q8 : w7.heap.size < w8.heap.size := by rw [hW]; simp
  have K8 : Below w.heap.size w w8 := K7.trans (n8.mono K7.size)
  have A8 : Hid (BlkV w8 w.heap.size a.k a.n a.d a.s) := A7.out.below n8 (by omega)
  have B8 : Hid (BlkV w8 (w.heap.size + 1) b.k b.n b.d b.s) := B7.out.below n8 z7
  have z8 : w.heap.size + 1 < w8.heap.size := by omega
  clear hW A7 B7 z7 K7 n8
  obtain ⟨v0, v1, v2, v3, -, -, -, -⟩ := V.out
  obtain ⟨a0, a1, a2, a3, -, -, -, -⟩ := A8.out
  obtain ⟨b0, b1, b2, b3, -, -, -, -⟩ := B8.out
  go_wp2_with fail
  refine (PX.out _ (ht.below K8)).mono ?_
  rintro e w9 ⟨rfl, hb⟩
  clear a0 a1 a2 a3 b0 b1 b2 b3
  have K9 : Below w.heap.size w w9 := K8.trans (hb.mono K8.size)
  have A9 : Hid (BlkV w9 w.heap.size a.k a.n a.d a.s) := A8.out.below hb (by omega)
  have B9 : Hid (BlkV w9 (w.heap.size + 1) b.k b.n b.d b.s) := B8.out.below hb z8
  have z9 : w.heap.size + 1 < w9.heap.size := by have := hb.size; omega
  clear A8 B8 z8 K8 hb
  clear v0 v1 v2 v3 V
  obtain ⟨a0, a1, a2, a3, -, -, -, -⟩ := A9.out
  obtain ⟨b0, b1, b2, b3, -, -, -, -⟩ := B9.out
  go_wp2_with fail
  refine (live_any _ (ht.below K9)).mono ?_
  rintro e w10 ⟨rfl, hb⟩
  clear a0 a1 a2 a3 b0 b1 b2 b3
  have K10 : Below w.heap.size w w10 := K9.trans (hb.mono K9.size)
  have A10 : Hid (BlkV w10 w.heap.size a.k a.n a.d a.s) := A9.out.below hb (by omega)
  have B10 : Hid (BlkV w10 (w.heap.size + 1) b.k b.n b.d b.s) := B9.out.below hb z9
  have z10 : w.heap.size + 1 < w10.heap.size := by have := hb.size; omega
  clear A9 B9 z9 K9 hb
  obtain ⟨a0, a1, a2, a3, -, -, -, -⟩ := A10.out
  obtain ⟨b0, b1, b2, b3, -, -, -, -⟩ := B10.out
  go_wp2_with fail
  refine (CK.out _).mono ?_
  rintro e w11 ⟨rfl, hb⟩
  clear a0 a1 a2 a3 b0 b1 b2 b3
  have K11 : Below w.heap.size w w11 := K10.trans (hb.mono K10.size)
  have A11 : Hid (BlkV w11 w.heap.size a.k a.n a.d a.s) := A10.out.below hb (by omega)
  have B11 : Hid (BlkV w11 (w.heap.size + 1) b.k b.n b.d b.s) := B10.out.below hb z10
  have z11 : w.heap.size + 1 < w11.heap.size := by have := hb.size; omega
  clear A10 B10 z10 K10 hb
  go_wp2
  go_ret
  exact ⟨rfl, K11⟩

theorem texts_walk (a b : Val) (s : ByteArray) (fa : a.Fits) (fb : b.Fits) (w : World) (hs : s.size ≤ 1048576) (ht : Pow w) (he : Errs w) (h8 : 8 ≤ w.heap.size) :
    Calls Tryz.prog 6 #[.agg #[.int .i64 a.k, .int .i64 a.n, .int .i64 a.d, .string a.s], .agg #[.int .i64 b.k, .int .i64 b.n, .int .i64 b.d, .string b.s], .string s] w fun e w' => e = .returned (.bool true) ∧ Below w.heap.size w w' := by
  have fx := prs_fits s.data.toList
  obtain ⟨X, eX⟩ : ∃ X, (prs s.data.toList).1 = X := ⟨_, rfl⟩
  rw [eX] at fx
  have PA := fun (W : World) (hW : Pow W) => print_any a.k a.n a.d a.s W fa.n1 fa.n2 fa.d1 fa.d2 hW
  have PB := fun (W : World) (hW : Pow W) => print_any b.k b.n b.d b.s W fb.n1 fb.n2 fb.d1 fb.d2 hW
  have PX := fun (W : World) (hW : Pow W) => print_any X.k X.n X.d X.s W fx.n1 fx.n2 fx.d1 fx.d2 hW
  have RS := fun (W : World) (hW : Pow W) (g1 : Errs W) (g2 : 8 ≤ W.heap.size) => parse_any s W (by omega) hW g1 g2
  simp only [eX] at RS
  have CK := fun (W : World) => check_any a.k a.n a.d a.s W fa.n1 fa.n2 fa.d1 fa.d2
  have back : (prs s.data.toList).2 = 0 → X.may = 0 ∧ vtext X.k X.n X.d X.s = s.data.toList := fun h => by rw [← eX]; exact prs_back h
  have RT : a.may = 0 → ∀ (W : World), Pow W → Errs W → 8 ≤ W.heap.size → Calls Tryz.prog 16 #[.string ⟨(vtext a.k a.n a.d a.s).toArray⟩] W fun e w' => e = .returned (.tuple #[.agg #[.int .i64 a.k, .int .i64 a.n, .int .i64 a.d, .string a.s], .int .i64 0]) ∧ Below W.heap.size W w' := fun hm W hW g1 g2 => by
    have hl := text_len hm fa
    have q := parse_any ⟨(vtext a.k a.n a.d a.s).toArray⟩ W (by show (vtext a.k a.n a.d a.s).toArray.size ≤ _; simp; omega) hW g1 g2
    rw [show (⟨(vtext a.k a.n a.d a.s).toArray⟩ : ByteArray).data.toList = vtext a.k a.n a.d a.s from rfl, prs_text hm fa] at q
    exact q
  have SM := fun (W : World) => lsame_any a.k a.n a.d a.s b.k b.n b.d b.s W
  by_cases hG0 : (prs s.data.toList).2 = 0
  · obtain ⟨xm, xt⟩ := back hG0
    have hH : chk X.k X.n X.d X.s = 0 := xm
    have hA : (⟨(if chk X.k X.n X.d X.s = 0 then vtext X.k X.n X.d X.s else []).toArray⟩ : ByteArray) = s := by rw [if_pos hH]; exact (ba_eq xt.symm).symm
    have hG := hG0
    by_cases hm : chk a.k a.n a.d a.s = 0
    · have RTa := RT hm
      have hE := hm
      by_cases hn : chk b.k b.n b.d b.s = 0
      · have hF := hn
        have hQ : ((⟨(if chk a.k a.n a.d a.s = 0 then vtext a.k a.n a.d a.s else []).toArray⟩ : ByteArray).toList == (⟨(if chk b.k b.n b.d b.s = 0 then vtext b.k b.n b.d b.s else []).toArray⟩ : ByteArray).toList) = sameB a.k a.n a.d a.s b.k b.n b.d b.s := by
          rw [if_pos hm, if_pos hn, toList_data, toList_data]
          have ti := text_inj (a := a) (b := b) hm hn fa fb
          cases hs : sameB a.k a.n a.d a.s b.k b.n b.d b.s
          · simp; intro h; rw [ti.1 h] at hs; cases hs
          · simp [ti.2 hs]
        rw [if_pos hm] at hQ
        simp only [if_pos hm] at PA
        exact tx_111 a b X s _ _ _ _ _ _ _ _ w ht he h8 PA PB PX RS RTa SM hQ CK hE hF hG hH hA
      · have hF : (chk b.k b.n b.d b.s == 0) = false := by simpa using hn
        simp only [if_pos hm] at PA
        exact tx_101 a b X s _ _ _ _ _ _ _ true w ht he h8 PA PB PX RS RTa CK hE hF hG hH hA
    · have hE : (chk a.k a.n a.d a.s == 0) = false := by simpa using hm
      exact tx_001 a b X s _ _ _ _ _ _ _ true w ht he h8 PA PB PX RS CK hE hG hH hA
  · have hG : ((prs s.data.toList).2 != 0) = true := by simpa using hG0
    by_cases hm : chk a.k a.n a.d a.s = 0
    · have RTa := RT hm
      have hE := hm
      by_cases hn : chk b.k b.n b.d b.s = 0
      · have hF := hn
        have hQ : ((⟨(if chk a.k a.n a.d a.s = 0 then vtext a.k a.n a.d a.s else []).toArray⟩ : ByteArray).toList == (⟨(if chk b.k b.n b.d b.s = 0 then vtext b.k b.n b.d b.s else []).toArray⟩ : ByteArray).toList) = sameB a.k a.n a.d a.s b.k b.n b.d b.s := by
          rw [if_pos hm, if_pos hn, toList_data, toList_data]
          have ti := text_inj (a := a) (b := b) hm hn fa fb
          cases hs : sameB a.k a.n a.d a.s b.k b.n b.d b.s
          · simp; intro h; rw [ti.1 h] at hs; cases hs
          · simp [ti.2 hs]
        rw [if_pos hm] at hQ
        simp only [if_pos hm] at PA
        exact tx_110 a b X s _ _ _ _ _ _ _ _ w ht he h8 PA PB PX RS RTa SM hQ CK hE hF hG
      · have hF : (chk b.k b.n b.d b.s == 0) = false := by simpa using hn
        simp only [if_pos hm] at PA
        exact tx_100 a b X s _ _ _ _ _ _ _ true w ht he h8 PA PB PX RS RTa CK hE hF hG
    · have hE : (chk a.k a.n a.d a.s == 0) = false := by simpa using hm
      exact tx_000 a b X s _ _ _ _ _ _ _ true w ht he h8 PA PB PX RS CK hE hG

end Go.Proofs.YtedoahibceeklabGreatDoor
