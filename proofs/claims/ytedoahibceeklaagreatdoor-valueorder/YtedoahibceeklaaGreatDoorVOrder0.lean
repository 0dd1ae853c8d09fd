/- The law ValueOrder: its walk. -/
import Derived.Test.YtedoahibceeklaaGreatDoorVLive
import Derived.Test.YtedoahibceeklaaGreatDoorVRow
namespace Go.Proofs.YtedoahibceeklaaGreatDoor
open Go.RowKit Go.Shelf
set_option linter.unusedVariables false

theorem lies_one {w : World} {b : Nat} {A : Val} (h : BlkV w b A.k A.n A.d A.s) : Lies w b 0 [A] := fun i hi => by
  obtain rfl : i = 0 := by simp at hi; omega
  exact ⟨h.1, h.2, h.3, h.4⟩

theorem row_11 (A B : Val) (b b' c c' : Nat) (w : World) (fA : A.Fits) (fB : B.Fits) (hb : b < w.heap.size) (hb' : b' < w.heap.size) (hx : Lies w b 0 [A]) (hy : Lies w b' 0 [B]) :
    Calls Tryz.prog 19 #[.slice (some ⟨b, 0, none⟩) 1 c, .slice (some ⟨b', 0, none⟩) 1 c'] w fun e w' => e = .returned (.int .i64 (A.cmp B)) ∧ Below w.heap.size w w' := by
  have h := row_core b 0 c b' 0 c' [A] [B] w (by simpa using fA) (by simpa using fB) hb hb' hx hy (by simp) (by simp)
  rw [show rowC [A] [B] = A.cmp B by simp [rowC]; exact fun h => h.symm] at h
  exact h
theorem row_22 (A B C : Val) (b b' c c' : Nat) (w : World) (fA : A.Fits) (fB : B.Fits) (fC : C.Fits) (mC : C.may = 0) (hb : b < w.heap.size) (hb' : b' < w.heap.size) (hx : Lies w b 0 [C, A]) (hy : Lies w b' 0 [C, B]) :
    Calls Tryz.prog 19 #[.slice (some ⟨b, 0, none⟩) 2 c, .slice (some ⟨b', 0, none⟩) 2 c'] w fun e w' => e = .returned (.int .i64 (A.cmp B)) ∧ Below w.heap.size w w' := by
  have h := row_core b 0 c b' 0 c' [C, A] [C, B] w (by simp [fA, fC]) (by simp [fB, fC]) hb hb' hx hy (by simp) (by simp)
  rw [show rowC [C, A] [C, B] = A.cmp B by simp [rowC, Val.self mC]; exact fun h => h.symm] at h
  exact h
theorem row_12 (A B : Val) (b b' c c' : Nat) (w : World) (fA : A.Fits) (fB : B.Fits) (mA : A.may = 0) (hb : b < w.heap.size) (hb' : b' < w.heap.size) (hx : Lies w b 0 [A]) (hy : Lies w b' 0 [A, B]) :
    Calls Tryz.prog 19 #[.slice (some ⟨b, 0, none⟩) 1 c, .slice (some ⟨b', 0, none⟩) 2 c'] w fun e w' => e = .returned (.int .i64 (-1)) ∧ Below w.heap.size w w' := by
  have h := row_core b 0 c b' 0 c' [A] [A, B] w (by simp [fA]) (by simp [fA, fB]) hb hb' hx hy (by simp) (by simp)
  rw [show rowC [A] [A, B] = -1 by simp [rowC, Val.self mA]] at h
  exact h
theorem row_21 (A B C : Val) (b b' c c' : Nat) (w : World) (fA : A.Fits) (fB : B.Fits) (fC : C.Fits) (hn : A.cmp B ≠ 0) (hb : b < w.heap.size) (hb' : b' < w.heap.size) (hx : Lies w b 0 [A, C]) (hy : Lies w b' 0 [B]) :
    Calls Tryz.prog 19 #[.slice (some ⟨b, 0, none⟩) 2 c, .slice (some ⟨b', 0, none⟩) 1 c'] w fun e w' => e = .returned (.int .i64 (A.cmp B)) ∧ Below w.heap.size w w' := by
  have h := row_core b 0 c b' 0 c' [A, C] [B] w (by simp [fA, fC]) (by simp [fB]) hb hb' hx hy (by simp) (by simp)
  rw [show rowC [A, C] [B] = A.cmp B by simp [rowC, hn]] at h
  exact h


set_option maxRecDepth 100000 in
set_option maxHeartbeats 8000000 in
theorem order_bad0 (A B C : Val) (fA : A.Fits) (fB : B.Fits) (fC : C.Fits) (D : Int) (mD : chk A.k A.n A.d A.s = D) (hD : (D != 0) = true) (w : World) (ht : Pow w) :
    Calls Tryz.prog 7 #[.agg #[.int .i64 A.k, .int .i64 A.n, .int .i64 A.d, .string A.s], .agg #[.int .i64 B.k, .int .i64 B.n, .int .i64 B.d, .string B.s], .agg #[.int .i64 C.k, .int .i64 C.n, .int .i64 C.d, .string C.s]] w fun e w' => e = .returned (.bool true) ∧ Below w.heap.size w w' := by
  go_enter Tryz.func7, Tryz.ntmps7
  go_upto_region 1 with fail
  refine wp_world ?_
  intro w0 hW0
  have A0 : Hid (BlkV w0 w.heap.size A.k A.n A.d A.s) := by rw [hW0]; constructor <;> simp (maxDischargeDepth := 12) [go_sem]
  have B0 : Hid (BlkV w0 (w.heap.size + 1) B.k B.n B.d B.s) := by rw [hW0]; constructor <;> simp (maxDischargeDepth := 12) [go_sem]
  have C0 : Hid (BlkV w0 (w.heap.size + 2) C.k C.n C.d C.s) := by rw [hW0]; constructor <;> simp (maxDischargeDepth := 12) [go_sem]
  have z0 : w.heap.size + 2 < w0.heap.size := by rw [hW0]; simp
  have K0 : Below w.heap.size w w0 := by rw [hW0]; go_grown
  clear hW0
  obtain ⟨a0, a1, a2, a3, -, -, -, -⟩ := A0.out
  obtain ⟨b0, b1, b2, b3, -, -, -, -⟩ := B0.out
  obtain ⟨c0, c1, c2, c3, -, -, -, -⟩ := C0.out
  go_wp2_with fail
  refine (check_any A.k A.n A.d A.s _ fA.n1 fA.n2 fA.d1 fA.d2).mono ?_
  rintro e w1 ⟨rfl, hb⟩
  clear a0 a1 a2 a3 b0 b1 b2 b3 c0 c1 c2 c3
  have K1 : Below w.heap.size w w1 := K0.trans (hb.mono K0.size)
  have A1 : Hid (BlkV w1 w.heap.size A.k A.n A.d A.s) := A0.out.below hb (by omega)
  have B1 : Hid (BlkV w1 (w.heap.size + 1) B.k B.n B.d B.s) := B0.out.below hb (by omega)
  have C1 : Hid (BlkV w1 (w.heap.size + 2) C.k C.n C.d C.s) := C0.out.below hb z0
  have z1 : w.heap.size + 2 < w1.heap.size := by have := hb.size; omega
  clear A0 B0 C0 z0 K0 hb
  rw [mD]
  go_wp2_with fail
  refine (live_any _ (ht.below K1)).mono ?_
  rintro e wl ⟨rfl, hb⟩
  go_wp2
  go_ret
  exact ⟨rfl, K1.trans (hb.mono K1.size)⟩

set_option maxRecDepth 100000 in
set_option maxHeartbeats 8000000 in
theorem order_bad1 (A B C : Val) (fA : A.Fits) (fB : B.Fits) (fC : C.Fits) (mA : chk A.k A.n A.d A.s = 0) (D : Int) (mD : chk B.k B.n B.d B.s = D) (hD : (D != 0) = true) (w : World) (ht : Pow w) :
    Calls Tryz.prog 7 #[.agg #[.int .i64 A.k, .int .i64 A.n, .int .i64 A.d, .string A.s], .agg #[.int .i64 B.k, .int .i64 B.n, .int .i64 B.d, .string B.s], .agg #[.int .i64 C.k, .int .i64 C.n, .int .i64 C.d, .string C.s]] w fun e w' => e = .returned (.bool true) ∧ Below w.heap.size w w' := by
  go_enter Tryz.func7, Tryz.ntmps7
  go_upto_region 1 with fail
  refine wp_world ?_
  intro w0 hW0
  have A0 : Hid (BlkV w0 w.heap.size A.k A.n A.d A.s) := by rw [hW0]; constructor <;> simp (maxDischargeDepth := 12) [go_sem]
  have B0 : Hid (BlkV w0 (w.heap.size + 1) B.k B.n B.d B.s) := by rw [hW0]; constructor <;> simp (maxDischargeDepth := 12) [go_sem]
  have C0 : Hid (BlkV w0 (w.heap.size + 2) C.k C.n C.d C.s) := by rw [hW0]; constructor <;> simp (maxDischargeDepth := 12) [go_sem]
  have z0 : w.heap.size + 2 < w0.heap.size := by rw [hW0]; simp
  have K0 : Below w.heap.size w w0 := by rw [hW0]; go_grown
  clear hW0
  obtain ⟨a0, a1, a2, a3, -, -, -, -⟩ := A0.out
  obtain ⟨b0, b1, b2, b3, -, -, -, -⟩ := B0.out
  obtain ⟨c0, c1, c2, c3, -, -, -, -⟩ := C0.out
  go_wp2_with fail
  refine (check_any A.k A.n A.d A.s _ fA.n1 fA.n2 fA.d1 fA.d2).mono ?_
  rintro e w1 ⟨rfl, hb⟩
  clear a0 a1 a2 a3 b0 b1 b2 b3 c0 c1 c2 c3
  have K1 : Below w.heap.size w w1 := K0.trans (hb.mono K0.size)
  have A1 : Hid (BlkV w1 w.heap.size A.k A.n A.d A.s) := A0.out.below hb (by omega)
  have B1 : Hid (BlkV w1 (w.heap.size + 1) B.k B.n B.d B.s) := B0.out.below hb (by omega)
  have C1 : Hid (BlkV w1 (w.heap.size + 2) C.k C.n C.d C.s) := C0.out.below hb z0
  have z1 : w.heap.size + 2 < w1.heap.size := by have := hb.size; omega
  clear A0 B0 C0 z0 K0 hb
  rw [mA]
  obtain ⟨a0, a1, a2, a3, -, -, -, -⟩ := A1.out
  obtain ⟨b0, b1, b2, b3, -, -, -, -⟩ := B1.out
  obtain ⟨c0, c1, c2, c3, -, -, -, -⟩ := C1.out
  go_wp2_with fail
  refine (check_any B.k B.n B.d B.s _ fB.n1 fB.n2 fB.d1 fB.d2).mono ?_
  rintro e w2 ⟨rfl, hb⟩
  clear a0 a1 a2 a3 b0 b1 b2 b3 c0 c1 c2 c3
  have K2 : Below w.heap.size w w2 := K1.trans (hb.mono K1.size)
  have A2 : Hid (BlkV w2 w.heap.size A.k A.n A.d A.s) := A1.out.below hb (by omega)
  have B2 : Hid (BlkV w2 (w.heap.size + 1) B.k B.n B.d B.s) := B1.out.below hb (by omega)
  have C2 : Hid (BlkV w2 (w.heap.size + 2) C.k C.n C.d C.s) := C1.out.below hb z1
  have z2 : w.heap.size + 2 < w2.heap.size := by have := hb.size; omega
  clear A1 B1 C1 z1 K1 hb
  rw [mD]
  go_wp2_with fail
  refine (live_any _ (ht.below K2)).mono ?_
  rintro e wl ⟨rfl, hb⟩
  go_wp2
  go_ret
  exact ⟨rfl, K2.trans (hb.mono K2.size)⟩

set_option maxRecDepth 100000 in
set_option maxHeartbeats 8000000 in
theorem order_bad2 (A B C : Val) (fA : A.Fits) (fB : B.Fits) (fC : C.Fits) (mA : chk A.k A.n A.d A.s = 0) (mB : chk B.k B.n B.d B.s = 0) (D : Int) (mD : chk C.k C.n C.d C.s = D) (hD : (D != 0) = true) (w : World) (ht : Pow w) :
    Calls Tryz.prog 7 #[.agg #[.int .i64 A.k, .int .i64 A.n, .int .i64 A.d, .string A.s], .agg #[.int .i64 B.k, .int .i64 B.n, .int .i64 B.d, .string B.s], .agg #[.int .i64 C.k, .int .i64 C.n, .int .i64 C.d, .string C.s]] w fun e w' => e = .returned (.bool true) ∧ Below w.heap.size w w' := by
  go_enter Tryz.func7, Tryz.ntmps7
  go_upto_region 1 with fail
  refine wp_world ?_
  intro w0 hW0
  have A0 : Hid (BlkV w0 w.heap.size A.k A.n A.d A.s) := by rw [hW0]; constructor <;> simp (maxDischargeDepth := 12) [go_sem]
  have B0 : Hid (BlkV w0 (w.heap.size + 1) B.k B.n B.d B.s) := by rw [hW0]; constructor <;> simp (maxDischargeDepth := 12) [go_sem]
  have C0 : Hid (BlkV w0 (w.heap.size + 2) C.k C.n C.d C.s) := by rw [hW0]; constructor <;> simp (maxDischargeDepth := 12) [go_sem]
  have z0 : w.heap.size + 2 < w0.heap.size := by rw [hW0]; simp
  have K0 : Below w.heap.size w w0 := by rw [hW0]; go_grown
  clear hW0
  obtain ⟨a0, a1, a2, a3, -, -, -, -⟩ := A0.out
  obtain ⟨b0, b1, b2, b3, -, -, -, -⟩ := B0.out
  obtain ⟨c0, c1, c2, c3, -, -, -, -⟩ := C0.out
  go_wp2_with fail
  refine (check_any A.k A.n A.d A.s _ fA.n1 fA.n2 fA.d1 fA.d2).mono ?_
  rintro e w1 ⟨rfl, hb⟩
  clear a0 a1 a2 a3 b0 b1 b2 b3 c0 c1 c2 c3
  have K1 : Below w.heap.size w w1 := K0.trans (hb.mono K0.size)
  have A1 : Hid (BlkV w1 w.heap.size A.k A.n A.d A.s) := A0.out.below hb (by omega)
  have B1 : Hid (BlkV w1 (w.heap.size + 1) B.k B.n B.d B.s) := B0.out.below hb (by omega)
  have C1 : Hid (BlkV w1 (w.heap.size + 2) C.k C.n C.d C.s) := C0.out.below hb z0
  have z1 : w.heap.size + 2 < w1.heap.size := by have := hb.size; omega
  clear A0 B0 C0 z0 K0 hb
  rw [mA]
  obtain ⟨a0, a1, a2, a3, -, -, -, -⟩ := A1.out
  obtain ⟨b0, b1, b2, b3, -, -, -, -⟩ := B1.out
  obtain ⟨c0, c1, c2, c3, -, -, -, -⟩ := C1.out
  go_wp2_with fail
  refine (check_any B.k B.n B.d B.s _ fB.n1 fB.n2 fB.d1 fB.d2).mono ?_
  rintro e w2 ⟨rfl, hb⟩
  clear a0 a1 a2 a3 b0 b1 b2 b3 c0 c1 c2 c3
  have K2 : Below w.heap.size w w2 := K1.trans (hb.mono K1.size)
  have A2 : Hid (BlkV w2 w.heap.size A.k A.n A.d A.s) := A1.out.below hb (by omega)
  have B2 : Hid (BlkV w2 (w.heap.size + 1) B.k B.n B.d B.s) := B1.out.below hb (by omega)
  have C2 : Hid (BlkV w2 (w.heap.size + 2) C.k C.n C.d C.s) := C1.out.below hb z1
  have z2 : w.heap.size + 2 < w2.heap.size := by have := hb.size; omega
  clear A1 B1 C1 z1 K1 hb
  rw [mB]
  obtain ⟨a0, a1, a2, a3, -, -, -, -⟩ := A2.out
  obtain ⟨b0, b1, b2, b3, -, -, -, -⟩ := B2.out
  obtain ⟨c0, c1, c2, c3, -, -, -, -⟩ := C2.out
  go_wp2_with fail
  refine (check_any C.k C.n C.d C.s _ fC.n1 fC.n2 fC.d1 fC.d2).mono ?_
  rintro e w3 ⟨rfl, hb⟩
  clear a0 a1 a2 a3 b0 b1 b2 b3 c0 c1 c2 c3
  have K3 : Below w.heap.size w w3 := K2.trans (hb.mono K2.size)
  have A3 : Hid (BlkV w3 w.heap.size A.k A.n A.d A.s) := A2.out.below hb (by omega)
  have B3 : Hid (BlkV w3 (w.heap.size + 1) B.k B.n B.d B.s) := B2.out.below hb (by omega)
  have C3 : Hid (BlkV w3 (w.heap.size + 2) C.k C.n C.d C.s) := C2.out.below hb z2
  have z3 : w.heap.size + 2 < w3.heap.size := by have := hb.size; omega
  clear A2 B2 C2 z2 K2 hb
  rw [mD]
  go_wp2_with fail
  refine (live_any _ (ht.below K3)).mono ?_
  rintro e wl ⟨rfl, hb⟩
  go_wp2
  go_ret
  exact ⟨rfl, K3.trans (hb.mono K3.size)⟩

set_option maxRecDepth 100000 in
set_option maxHeartbeats 8000000 in
theorem order_good (A B C : Val) (fA : A.Fits) (fB : B.Fits) (fC : C.Fits) (mA : chk A.k A.n A.d A.s = 0) (mB : chk B.k B.n B.d B.s = 0) (mC : chk C.k C.n C.d C.s = 0) (w : World) (ht : Pow w) :
    Calls Tryz.prog 7 #[.agg #[.int .i64 A.k, .int .i64 A.n, .int .i64 A.d, .string A.s], .agg #[.int .i64 B.k, .int .i64 B.n, .int .i64 B.d, .string B.s], .agg #[.int .i64 C.k, .int .i64 C.n, .int .i64 C.d, .string C.s]] w fun e w' => e = .returned (.bool true) ∧ Below w.heap.size w w' := by
  have mA' : A.may = 0 := mA
  have mB' : B.may = 0 := mB
  have mC' : C.may = 0 := mC
  have rg := Val.range A B
  have rq := Val.range B C
  have rr := Val.range A C
  have tn := Val.turn mA' mB'
  have zr := Val.zero mA' mB'
  have on := fun a b => Val.on mA' mB' mC' a b
  obtain ⟨P, eP⟩ : ∃ P : Int, Hid (A.cmp B = P) := ⟨_, rfl⟩
  obtain ⟨Q, eQ⟩ : ∃ Q : Int, Hid (B.cmp C = Q) := ⟨_, rfl⟩
  obtain ⟨R, eR⟩ : ∃ R : Int, Hid (A.cmp C = R) := ⟨_, rfl⟩
  rw [eP.out] at rg tn zr on
  rw [eQ.out] at rq on
  rw [eR.out] at rr on
  have sm : A.same B = (P == 0) := by
    cases h : A.same B
    · have : ¬ P = 0 := fun g => by rw [zr.1 g] at h; cases h
      simp [this]
    · simp [zr.2 h]
  have r1 : Hid (∀ W : World, Calls Tryz.prog 17 #[.agg #[.int .i64 A.k, .int .i64 A.n, .int .i64 A.d, .string A.s], .agg #[.int .i64 B.k, .int .i64 B.n, .int .i64 B.d, .string B.s]] W fun e w' => e = .returned (.int .i64 P) ∧ Below W.heap.size W w') := fun W => by
    have h := vcompare_any A.k A.n A.d A.s B.k B.n B.d B.s W fA.n1 fA.n2 fA.d1 fA.d2 fB.n1 fB.n2 fB.d1 fB.d2
    rw [show vcmp A.k A.n A.d A.s B.k B.n B.d B.s = P from eP.out] at h
    exact h
  have r2 : Hid (∀ W : World, Calls Tryz.prog 17 #[.agg #[.int .i64 B.k, .int .i64 B.n, .int .i64 B.d, .string B.s], .agg #[.int .i64 C.k, .int .i64 C.n, .int .i64 C.d, .string C.s]] W fun e w' => e = .returned (.int .i64 Q) ∧ Below W.heap.size W w') := fun W => by
    have h := vcompare_any B.k B.n B.d B.s C.k C.n C.d C.s W fB.n1 fB.n2 fB.d1 fB.d2 fC.n1 fC.n2 fC.d1 fC.d2
    rw [show vcmp B.k B.n B.d B.s C.k C.n C.d C.s = Q from eQ.out] at h
    exact h
  have r3 : Hid (∀ W : World, Calls Tryz.prog 17 #[.agg #[.int .i64 A.k, .int .i64 A.n, .int .i64 A.d, .string A.s], .agg #[.int .i64 C.k, .int .i64 C.n, .int .i64 C.d, .string C.s]] W fun e w' => e = .returned (.int .i64 R) ∧ Below W.heap.size W w') := fun W => by
    have h := vcompare_any A.k A.n A.d A.s C.k C.n C.d C.s W fA.n1 fA.n2 fA.d1 fA.d2 fC.n1 fC.n2 fC.d1 fC.d2
    rw [show vcmp A.k A.n A.d A.s C.k C.n C.d C.s = R from eR.out] at h
    exact h
  have r4 : Hid (∀ W : World, Calls Tryz.prog 17 #[.agg #[.int .i64 B.k, .int .i64 B.n, .int .i64 B.d, .string B.s], .agg #[.int .i64 A.k, .int .i64 A.n, .int .i64 A.d, .string A.s]] W fun e w' => e = .returned (.int .i64 (-P)) ∧ Below W.heap.size W w') := fun W => by
    have h := vcompare_any B.k B.n B.d B.s A.k A.n A.d A.s W fB.n1 fB.n2 fB.d1 fB.d2 fA.n1 fA.n2 fA.d1 fA.d2
    rw [show vcmp B.k B.n B.d B.s A.k A.n A.d A.s = -P from tn] at h
    exact h
  have r5 : Hid (∀ W : World, Calls Tryz.prog 18 #[.agg #[.int .i64 A.k, .int .i64 A.n, .int .i64 A.d, .string A.s], .agg #[.int .i64 B.k, .int .i64 B.n, .int .i64 B.d, .string B.s]] W fun e w' => e = .returned (.bool (P == 0)) ∧ Below W.heap.size W w') := fun W => by
    have h := vsame_any A.k A.n A.d A.s B.k B.n B.d B.s W
    rw [show sameB A.k A.n A.d A.s B.k B.n B.d B.s = (P == 0) from sm] at h
    exact h
  have q1 : Hid (∀ (b b' c c' : Nat) (W : World), b < W.heap.size → b' < W.heap.size → Lies W b 0 [A] → Lies W b' 0 [B] → Calls Tryz.prog 19 #[.slice (some ⟨b, 0, none⟩) 1 c, .slice (some ⟨b', 0, none⟩) 1 c'] W fun e w' => e = .returned (.int .i64 P) ∧ Below W.heap.size W w') := by
    intro b b' c c' W g1 g2 g3 g4
    have h := row_11 A B b b' c c' W fA fB g1 g2 g3 g4
    rw [eP.out] at h
    exact h
  have q2 : Hid (∀ (b b' c c' : Nat) (W : World), b < W.heap.size → b' < W.heap.size → Lies W b 0 [C, A] → Lies W b' 0 [C, B] → Calls Tryz.prog 19 #[.slice (some ⟨b, 0, none⟩) 2 c, .slice (some ⟨b', 0, none⟩) 2 c'] W fun e w' => e = .returned (.int .i64 P) ∧ Below W.heap.size W w') := by
    intro b b' c c' W g1 g2 g3 g4
    have h := row_22 A B C b b' c c' W fA fB fC mC' g1 g2 g3 g4
    rw [eP.out] at h
    exact h
  have q3 : Hid (∀ (b b' c c' : Nat) (W : World), b < W.heap.size → b' < W.heap.size → Lies W b 0 [A] → Lies W b' 0 [A, B] → Calls Tryz.prog 19 #[.slice (some ⟨b, 0, none⟩) 1 c, .slice (some ⟨b', 0, none⟩) 2 c'] W fun e w' => e = .returned (.int .i64 (-1)) ∧ Below W.heap.size W w') := by
    intro b b' c c' W g1 g2 g3 g4
    have h := row_12 A B b b' c c' W fA fB mA' g1 g2 g3 g4
    exact h
  have q4 : Hid (P ≠ 0 → ∀ (b b' c c' : Nat) (W : World), b < W.heap.size → b' < W.heap.size → Lies W b 0 [A, C] → Lies W b' 0 [B] → Calls Tryz.prog 19 #[.slice (some ⟨b, 0, none⟩) 2 c, .slice (some ⟨b', 0, none⟩) 1 c'] W fun e w' => e = .returned (.int .i64 P) ∧ Below W.heap.size W w') := by
    intro hz b b' c c' W g1 g2 g3 g4
    have h := row_21 A B C b b' c c' W fA fB fC (by rw [eP.out]; exact hz) g1 g2 g3 g4
    rw [eP.out] at h
    exact h
  clear mA' mB' mC'
  have on' : 0 < P ∨ (P ≤ 0 ∧ 0 < Q) ∨ (P ≤ 0 ∧ Q ≤ 0 ∧ R ≤ 0 ∧ ((P = 0 ∧ Q = 0) ↔ R = 0)) := by
    by_cases h1 : 0 < P
    · exact Or.inl h1
    · by_cases h2 : 0 < Q
      · exact Or.inr (Or.inl ⟨by omega, h2⟩)
      · exact Or.inr (Or.inr ⟨by omega, by omega, on (by omega) (by omega)⟩)
  clear on tn zr sm
  have ON : Hid (0 < P ∨ (P ≤ 0 ∧ 0 < Q) ∨ (P ≤ 0 ∧ Q ≤ 0 ∧ R ≤ 0 ∧ ((P = 0 ∧ Q = 0) ↔ R = 0))) := on'
  clear on'
  obtain ⟨rg1, rg2⟩ := rg
  obtain ⟨rq1, rq2⟩ := rq
  obtain ⟨rr1, rr2⟩ := rr
  go_enter Tryz.func7, Tryz.ntmps7
  go_upto_region 1 with fail
  refine wp_world ?_
  intro w0 hW0
  have A0 : Hid (BlkV w0 w.heap.size A.k A.n A.d A.s) := by rw [hW0]; constructor <;> simp (maxDischargeDepth := 12) [go_sem]
  have B0 : Hid (BlkV w0 (w.heap.size + 1) B.k B.n B.d B.s) := by rw [hW0]; constructor <;> simp (maxDischargeDepth := 12) [go_sem]
  have C0 : Hid (BlkV w0 (w.heap.size + 2) C.k C.n C.d C.s) := by rw [hW0]; constructor <;> simp (maxDischargeDepth := 12) [go_sem]
  have z0 : w.heap.size + 2 < w0.heap.size := by rw [hW0]; simp
  have K0 : Below w.heap.size w w0 := by rw [hW0]; go_grown
  clear hW0
  obtain ⟨a0, a1, a2, a3, -, -, -, -⟩ := A0.out
  obtain ⟨b0, b1, b2, b3, -, -, -, -⟩ := B0.out
  obtain ⟨c0, c1, c2, c3, -, -, -, -⟩ := C0.out
  go_wp2_with fail
  refine (check_any A.k A.n A.d A.s _ fA.n1 fA.n2 fA.d1 fA.d2).mono ?_
  rintro e w1 ⟨rfl, hb⟩
  clear a0 a1 a2 a3 b0 b1 b2 b3 c0 c1 c2 c3
  have K1 : Below w.heap.size w w1 := K0.trans (hb.mono K0.size)
  have A1 : Hid (BlkV w1 w.heap.size A.k A.n A.d A.s) := A0.out.below hb (by omega)
  have B1 : Hid (BlkV w1 (w.heap.size + 1) B.k B.n B.d B.s) := B0.out.below hb (by omega)
  have C1 : Hid (BlkV w1 (w.heap.size + 2) C.k C.n C.d C.s) := C0.out.below hb z0
  have z1 : w.heap.size + 2 < w1.heap.size := by have := hb.size; omega
  clear A0 B0 C0 z0 K0 hb
  rw [mA]
  obtain ⟨a0, a1, a2, a3, -, -, -, -⟩ := A1.out
  obtain ⟨b0, b1, b2, b3, -, -, -, -⟩ := B1.out
  obtain ⟨c0, c1, c2, c3, -, -, -, -⟩ := C1.out
  go_wp2_with fail
  refine (check_any B.k B.n B.d B.s _ fB.n1 fB.n2 fB.d1 fB.d2).mono ?_
  rintro e w2 ⟨rfl, hb⟩
  clear a0 a1 a2 a3 b0 b1 b2 b3 c0 c1 c2 c3
  have K2 : Below w.heap.size w w2 := K1.trans (hb.mono K1.size)
  have A2 : Hid (BlkV w2 w.heap.size A.k A.n A.d A.s) := A1.out.below hb (by omega)
  have B2 : Hid (BlkV w2 (w.heap.size + 1) B.k B.n B.d B.s) := B1.out.below hb (by omega)
  have C2 : Hid (BlkV w2 (w.heap.size + 2) C.k C.n C.d C.s) := C1.out.below hb z1
  have z2 : w.heap.size + 2 < w2.heap.size := by have := hb.size; omega
  clear A1 B1 C1 z1 K1 hb
  rw [mB]
  obtain ⟨a0, a1, a2, a3, -, -, -, -⟩ := A2.out
  obtain ⟨b0, b1, b2, b3, -, -, -, -⟩ := B2.out
  obtain ⟨c0, c1, c2, c3, -, -, -, -⟩ := C2.out
  go_wp2_with fail
  refine (check_any C.k C.n C.d C.s _ fC.n1 fC.n2 fC.d1 fC.d2).mono ?_
  rintro e w3 ⟨rfl, hb⟩
  clear a0 a1 a2 a3 b0 b1 b2 b3 c0 c1 c2 c3
  have K3 : Below w.heap.size w w3 := K2.trans (hb.mono K2.size)
  have A3 : Hid (BlkV w3 w.heap.size A.k A.n A.d A.s) := A2.out.below hb (by omega)
  have B3 : Hid (BlkV w3 (w.heap.size + 1) B.k B.n B.d B.s) := B2.out.below hb (by omega)
  have C3 : Hid (BlkV w3 (w.heap.size + 2) C.k C.n C.d C.s) := C2.out.below hb z2
  have z3 : w.heap.size + 2 < w3.heap.size := by have := hb.size; omega
  clear A2 B2 C2 z2 K2 hb
  rw [mC]
  obtain ⟨a0, a1, a2, a3, -, -, -, -⟩ := A3.out
  obtain ⟨b0, b1, b2, b3, -, -, -, -⟩ := B3.out
  obtain ⟨c0, c1, c2, c3, -, -, -, -⟩ := C3.out
  go_wp2_with fail
  refine (r1.out _).mono ?_
  rintro e w4 ⟨rfl, hb⟩
  clear a0 a1 a2 a3 b0 b1 b2 b3 c0 c1 c2 c3
  have K4 : Below w.heap.size w w4 := K3.trans (hb.mono K3.size)
  have A4 : Hid (BlkV w4 w.heap.size A.k A.n A.d A.s) := A3.out.below hb (by omega)
  have B4 : Hid (BlkV w4 (w.heap.size + 1) B.k B.n B.d B.s) := B3.out.below hb (by omega)
  have C4 : Hid (BlkV w4 (w.heap.size + 2) C.k C.n C.d C.s) := C3.out.below hb z3
  have z4 : w.heap.size + 2 < w4.heap.size := by have := hb.size; omega
  clear A3 B3 C3 z3 K3 hb
  obtain ⟨a0, a1, a2, a3, -, -, -, -⟩ := A4.out
  obtain ⟨b0, b1, b2, b3, -, -, -, -⟩ := B4.out
  obtain ⟨c0, c1, c2, c3, -, -, -, -⟩ := C4.out
  go_wp2_with fail
  refine (r2.out _).mono ?_
  rintro e w5 ⟨rfl, hb⟩
  clear a0 a1 a2 a3 b0 b1 b2 b3 c0 c1 c2 c3
  have K5 : Below w.heap.size w w5 := K4.trans (hb.mono K4.size)
  have A5 : Hid (BlkV w5 w.heap.size A.k A.n A.d A.s) := A4.out.below hb (by omega)
  have B5 : Hid (BlkV w5 (w.heap.size + 1) B.k B.n B.d B.s) := B4.out.below hb (by omega)
  have C5 : Hid (BlkV w5 (w.heap.size + 2) C.k C.n C.d C.s) := C4.out.below hb z4
  have z5 : w.heap.size + 2 < w5.heap.size := by have := hb.size; omega
  clear A4 B4 C4 z4 K4 hb
  obtain ⟨a0, a1, a2, a3, -, -, -, -⟩ := A5.out
  obtain ⟨b0, b1, b2, b3, -, -, -, -⟩ := B5.out
  obtain ⟨c0, c1, c2, c3, -, -, -, -⟩ := C5.out
  go_wp2_with fail
  refine (r3.out _).mono ?_
  rintro e w6 ⟨rfl, hb⟩
  clear a0 a1 a2 a3 b0 b1 b2 b3 c0 c1 c2 c3
  have K6 : Below w.heap.size w w6 := K5.trans (hb.mono K5.size)
  have A6 : Hid (BlkV w6 w.heap.size A.k A.n A.d A.s) := A5.out.below hb (by omega)
  have B6 : Hid (BlkV w6 (w.heap.size + 1) B.k B.n B.d B.s) := B5.out.below hb (by omega)
  have C6 : Hid (BlkV w6 (w.heap.size + 2) C.k C.n C.d C.s) := C5.out.below hb z5
  have z6 : w.heap.size + 2 < w6.heap.size := by have := hb.size; omega
  clear A5 B5 C5 z5 K5 hb
  obtain ⟨a0, a1, a2, a3, -, -, -, -⟩ := A6.out
  obtain ⟨b0, b1, b2, b3, -, -, -, -⟩ := B6.out
  obtain ⟨c0, c1, c2, c3, -, -, -, -⟩ := C6.out
  go_wp2_with fail
  refine (r4.out _).mono ?_
  rintro e w7 ⟨rfl, hb⟩
  clear a0 a1 a2 a3 b0 b1 b2 b3 c0 c1 c2 c3
  have K7 : Below w.heap.size w w7 := K6.trans (hb.mono K6.size)
  have A7 : Hid (BlkV w7 w.heap.size A.k A.n A.d A.s) := A6.out.below hb (by omega)
  have B7 : Hid (BlkV w7 (w.heap.size + 1) B.k B.n B.d B.s) := B6.out.below hb (by omega)
  have C7 : Hid (BlkV w7 (w.heap.size + 2) C.k C.n C.d C.s) := C6.out.below hb z6
  have z7 : w.heap.size + 2 < w7.heap.size := by have := hb.size; omega
  clear A6 B6 C6 z6 K6 hb
  obtain ⟨a0, a1, a2, a3, -, -, -, -⟩ := A7.out
  obtain ⟨b0, b1, b2, b3, -, -, -, -⟩ := B7.out
  obtain ⟨c0, c1, c2, c3, -, -, -, -⟩ := C7.out
  go_wp2_with fail
  refine (r5.out _).mono ?_
  rintro e w8 ⟨rfl, hb⟩
  clear a0 a1 a2 a3 b0 b1 b2 b3 c0 c1 c2 c3
  have K8 : Below w.heap.size w w8 := K7.trans (hb.mono K7.size)
  have A8 : Hid (BlkV w8 w.heap.size A.k A.n A.d A.s) := A7.out.below hb (by omega)
  have B8 : Hid (BlkV w8 (w.heap.size + 1) B.k B.n B.d B.s) := B7.out.below hb (by omega)
  have C8 : Hid (BlkV w8 (w.heap.size + 2) C.k C.n C.d C.s) := C7.out.below hb z7
  have z8 : w.heap.size + 2 < w8.heap.size := by have := hb.size; omega
  clear A7 B7 C7 z7 K7 hb
  rcases ON.out with hP | ⟨hP, hQ⟩ | ⟨hP, hQ, hR, hI⟩
  · have hz : P ≠ 0 := by omega
    have pz : (P == 0) = false := by simpa using hz
    have HZ : Hid (P ≠ 0) := hz
    clear hz ON
    obtain ⟨a0, a1, a2, a3, -, -, -, -⟩ := A8.out
    obtain ⟨b0, b1, b2, b3, -, -, -, -⟩ := B8.out
    obtain ⟨c0, c1, c2, c3, -, -, -, -⟩ := C8.out
    have y0 : w.heap.size ≤ w8.heap.size := by omega
    have y1 : w.heap.size < w8.heap.size := by omega
    have y2 : w.heap.size + 1 < w8.heap.size := by omega
    have y3 : w.heap.size + 1 ≤ w8.heap.size := by omega
    have y4 : w.heap.size + 1 + 1 < w8.heap.size := by omega
    go_wp2_with fail
    refine (q1.out _ _ _ _ _ (by go_size) (by go_size) ?_ ?_).mono ?_
    · intro i hi
      obtain rfl : i = 0 := by simp at hi; omega
      refine ⟨?_, ?_, ?_, ?_⟩ <;> simp (maxDischargeDepth := 12) [go_sem]
    · intro i hi
      obtain rfl : i = 0 := by simp at hi; omega
      refine ⟨?_, ?_, ?_, ?_⟩ <;> simp (maxDischargeDepth := 12) [go_sem]
    rintro e w9 ⟨rfl, hbv⟩
    obtain ⟨hb, -⟩ := bg0 (n := w8.heap.size) (W0 := w8) (by go_grown) (by go_size) hbv
    clear y0 y1 y2 y3 y4 hbv a0 a1 a2 a3 b0 b1 b2 b3 c0 c1 c2 c3
    have K9 : Below w.heap.size w w9 := K8.trans (hb.mono K8.size)
    have A9 : Hid (BlkV w9 w.heap.size A.k A.n A.d A.s) := A8.out.below hb (by omega)
    have B9 : Hid (BlkV w9 (w.heap.size + 1) B.k B.n B.d B.s) := B8.out.below hb (by omega)
    have C9 : Hid (BlkV w9 (w.heap.size + 2) C.k C.n C.d C.s) := C8.out.below hb z8
    have z9 : w.heap.size + 2 < w9.heap.size := by have := hb.size; omega
    clear A8 B8 C8 z8 K8 hb
    obtain ⟨a0, a1, a2, a3, -, -, -, -⟩ := A9.out
    obtain ⟨b0, b1, b2, b3, -, -, -, -⟩ := B9.out
    obtain ⟨c0, c1, c2, c3, -, -, -, -⟩ := C9.out
    have y0 : w.heap.size ≤ w9.heap.size := by omega
    have y1 : w.heap.size < w9.heap.size := by omega
    have y2 : w.heap.size + 1 < w9.heap.size := by omega
    have y3 : w.heap.size + 1 ≤ w9.heap.size := by omega
    have y4 : w.heap.size + 1 + 1 < w9.heap.size := by omega
    go_wp2_with fail
    refine (q2.out _ _ _ _ _ (by go_size) (by go_size) ?_ ?_).mono ?_
    · intro i hi
      have hi' : i = 0 ∨ i = 1 := by simp at hi; omega
      rcases hi' with rfl | rfl <;> refine ⟨?_, ?_, ?_, ?_⟩ <;> simp (maxDischargeDepth := 12) [go_sem]
    · intro i hi
      have hi' : i = 0 ∨ i = 1 := by simp at hi; omega
      rcases hi' with rfl | rfl <;> refine ⟨?_, ?_, ?_, ?_⟩ <;> simp (maxDischargeDepth := 12) [go_sem]
    rintro e w10 ⟨rfl, hbv⟩
    obtain ⟨hb, -⟩ := bg0 (n := w9.heap.size) (W0 := w9) (by go_grown) (by go_size) hbv
    clear y0 y1 y2 y3 y4 hbv a0 a1 a2 a3 b0 b1 b2 b3 c0 c1 c2 c3
    have K10 : Below w.heap.size w w10 := K9.trans (hb.mono K9.size)
    have A10 : Hid (BlkV w10 w.heap.size A.k A.n A.d A.s) := A9.out.below hb (by omega)
    have B10 : Hid (BlkV w10 (w.heap.size + 1) B.k B.n B.d B.s) := B9.out.below hb (by omega)
    have C10 : Hid (BlkV w10 (w.heap.size + 2) C.k C.n C.d C.s) := C9.out.below hb z9
    have z10 : w.heap.size + 2 < w10.heap.size := by have := hb.size; omega
    clear A9 B9 C9 z9 K9 hb
    obtain ⟨a0, a1, a2, a3, -, -, -, -⟩ := A10.out
    obtain ⟨b0, b1, b2, b3, -, -, -, -⟩ := B10.out
    obtain ⟨c0, c1, c2, c3, -, -, -, -⟩ := C10.out
    have y0 : w.heap.size ≤ w10.heap.size := by omega
    have y1 : w.heap.size < w10.heap.size := by omega
    have y2 : w.heap.size + 1 < w10.heap.size := by omega
    have y3 : w.heap.size + 1 ≤ w10.heap.size := by omega
    have y4 : w.heap.size + 1 + 1 < w10.heap.size := by omega
    go_wp2_with fail
    refine (q3.out _ _ _ _ _ (by go_size) (by go_size) ?_ ?_).mono ?_
    · intro i hi
      obtain rfl : i = 0 := by simp at hi; omega
      refine ⟨?_, ?_, ?_, ?_⟩ <;> simp (maxDischargeDepth := 12) [go_sem]
    · intro i hi
      have hi' : i = 0 ∨ i = 1 := by simp at hi; omega
      rcases hi' with rfl | rfl <;> refine ⟨?_, ?_, ?_, ?_⟩ <;> simp (maxDischargeDepth := 12) [go_sem]
    rintro e w11 ⟨rfl, hbv⟩
    obtain ⟨hb, -⟩ := bg0 (n := w10.heap.size) (W0 := w10) (by go_grown) (by go_size) hbv
    clear y0 y1 y2 y3 y4 hbv a0 a1 a2 a3 b0 b1 b2 b3 c0 c1 c2 c3
    have K11 : Below w.heap.size w w11 := K10.trans (hb.mono K10.size)
    have A11 : Hid (BlkV w11 w.heap.size A.k A.n A.d A.s) := A10.out.below hb (by omega)
    have B11 : Hid (BlkV w11 (w.heap.size + 1) B.k B.n B.d B.s) := B10.out.below hb (by omega)
    have C11 : Hid (BlkV w11 (w.heap.size + 2) C.k C.n C.d C.s) := C10.out.below hb z10
    have z11 : w.heap.size + 2 < w11.heap.size := by have := hb.size; omega
    clear A10 B10 C10 z10 K10 hb
    obtain ⟨a0, a1, a2, a3, -, -, -, -⟩ := A11.out
    obtain ⟨b0, b1, b2, b3, -, -, -, -⟩ := B11.out
    obtain ⟨c0, c1, c2, c3, -, -, -, -⟩ := C11.out
    have y0 : w.heap.size ≤ w11.heap.size := by omega
    have y1 : w.heap.size < w11.heap.size := by omega
    have y2 : w.heap.size + 1 < w11.heap.size := by omega
    have y3 : w.heap.size + 1 ≤ w11.heap.size := by omega
    have y4 : w.heap.size + 1 + 1 < w11.heap.size := by omega
    go_wp2_with fail
    refine (q4.out HZ.out _ _ _ _ _ (by go_size) (by go_size) ?_ ?_).mono ?_
    · intro i hi
      have hi' : i = 0 ∨ i = 1 := by simp at hi; omega
      rcases hi' with rfl | rfl <;> refine ⟨?_, ?_, ?_, ?_⟩ <;> simp (maxDischargeDepth := 12) [go_sem]
    · intro i hi
      obtain rfl : i = 0 := by simp at hi; omega
      refine ⟨?_, ?_, ?_, ?_⟩ <;> simp (maxDischargeDepth := 12) [go_sem]
    rintro e w12 ⟨rfl, hbv⟩
    obtain ⟨hb, -⟩ := bg0 (n := w11.heap.size) (W0 := w11) (by go_grown) (by go_size) hbv
    clear y0 y1 y2 y3 y4 hbv a0 a1 a2 a3 b0 b1 b2 b3 c0 c1 c2 c3
    have K12 : Below w.heap.size w w12 := K11.trans (hb.mono K11.size)
    have A12 : Hid (BlkV w12 w.heap.size A.k A.n A.d A.s) := A11.out.below hb (by omega)
    have B12 : Hid (BlkV w12 (w.heap.size + 1) B.k B.n B.d B.s) := B11.out.below hb (by omega)
    have C12 : Hid (BlkV w12 (w.heap.size + 2) C.k C.n C.d C.s) := C11.out.below hb z11
    have z12 : w.heap.size + 2 < w12.heap.size := by have := hb.size; omega
    clear A11 B11 C11 z11 K11 hb
    go_wp2_with fail
    refine (live_any _ (ht.below K12)).mono ?_
    rintro e wl ⟨rfl, hb⟩
    go_wp2
    go_ret
    exact ⟨rfl, K12.trans (hb.mono K12.size)⟩
  · by_cases hz : P = 0
    · have pz : (P == 0) = true := by simpa using hz
      clear hz ON hP
      have hP : P ≤ 0 := by simp at pz; omega
      obtain ⟨a0, a1, a2, a3, -, -, -, -⟩ := A8.out
      obtain ⟨b0, b1, b2, b3, -, -, -, -⟩ := B8.out
      obtain ⟨c0, c1, c2, c3, -, -, -, -⟩ := C8.out
      have y0 : w.heap.size ≤ w8.heap.size := by omega
      have y1 : w.heap.size < w8.heap.size := by omega
      have y2 : w.heap.size + 1 < w8.heap.size := by omega
      have y3 : w.heap.size + 1 ≤ w8.heap.size := by omega
      have y4 : w.heap.size + 1 + 1 < w8.heap.size := by omega
      go_wp2_with fail
      refine (q1.out _ _ _ _ _ (by go_size) (by go_size) ?_ ?_).mono ?_
      · intro i hi
        obtain rfl : i = 0 := by simp at hi; omega
        refine ⟨?_, ?_, ?_, ?_⟩ <;> simp (maxDischargeDepth := 12) [go_sem]
      · intro i hi
        obtain rfl : i = 0 := by simp at hi; omega
        refine ⟨?_, ?_, ?_, ?_⟩ <;> simp (maxDischargeDepth := 12) [go_sem]
      rintro e w9 ⟨rfl, hbv⟩
      obtain ⟨hb, -⟩ := bg0 (n := w8.heap.size) (W0 := w8) (by go_grown) (by go_size) hbv
      clear y0 y1 y2 y3 y4 hbv a0 a1 a2 a3 b0 b1 b2 b3 c0 c1 c2 c3
      have K9 : Below w.heap.size w w9 := K8.trans (hb.mono K8.size)
      have A9 : Hid (BlkV w9 w.heap.size A.k A.n A.d A.s) := A8.out.below hb (by omega)
      have B9 : Hid (BlkV w9 (w.heap.size + 1) B.k B.n B.d B.s) := B8.out.below hb (by omega)
      have C9 : Hid (BlkV w9 (w.heap.size + 2) C.k C.n C.d C.s) := C8.out.below hb z8
      have z9 : w.heap.size + 2 < w9.heap.size := by have := hb.size; omega
      clear A8 B8 C8 z8 K8 hb
      obtain ⟨a0, a1, a2, a3, -, -, -, -⟩ := A9.out
      obtain ⟨b0, b1, b2, b3, -, -, -, -⟩ := B9.out
      obtain ⟨c0, c1, c2, c3, -, -, -, -⟩ := C9.out
      have y0 : w.heap.size ≤ w9.heap.size := by omega
      have y1 : w.heap.size < w9.heap.size := by omega
      have y2 : w.heap.size + 1 < w9.heap.size := by omega
      have y3 : w.heap.size + 1 ≤ w9.heap.size := by omega
      have y4 : w.heap.size + 1 + 1 < w9.heap.size := by omega
      go_wp2_with fail
      refine (q2.out _ _ _ _ _ (by go_size) (by go_size) ?_ ?_).mono ?_
      · intro i hi
        have hi' : i = 0 ∨ i = 1 := by simp at hi; omega
        rcases hi' with rfl | rfl <;> refine ⟨?_, ?_, ?_, ?_⟩ <;> simp (maxDischargeDepth := 12) [go_sem]
      · intro i hi
        have hi' : i = 0 ∨ i = 1 := by simp at hi; omega
        rcases hi' with rfl | rfl <;> refine ⟨?_, ?_, ?_, ?_⟩ <;> simp (maxDischargeDepth := 12) [go_sem]
      rintro e w10 ⟨rfl, hbv⟩
      obtain ⟨hb, -⟩ := bg0 (n := w9.heap.size) (W0 := w9) (by go_grown) (by go_size) hbv
      clear y0 y1 y2 y3 y4 hbv a0 a1 a2 a3 b0 b1 b2 b3 c0 c1 c2 c3
      have K10 : Below w.heap.size w w10 := K9.trans (hb.mono K9.size)
      have A10 : Hid (BlkV w10 w.heap.size A.k A.n A.d A.s) := A9.out.below hb (by omega)
      have B10 : Hid (BlkV w10 (w.heap.size + 1) B.k B.n B.d B.s) := B9.out.below hb (by omega)
      have C10 : Hid (BlkV w10 (w.heap.size + 2) C.k C.n C.d C.s) := C9.out.below hb z9
      have z10 : w.heap.size + 2 < w10.heap.size := by have := hb.size; omega
      clear A9 B9 C9 z9 K9 hb
      obtain ⟨a0, a1, a2, a3, -, -, -, -⟩ := A10.out
      obtain ⟨b0, b1, b2, b3, -, -, -, -⟩ := B10.out
      obtain ⟨c0, c1, c2, c3, -, -, -, -⟩ := C10.out
      have y0 : w.heap.size ≤ w10.heap.size := by omega
      have y1 : w.heap.size < w10.heap.size := by omega
      have y2 : w.heap.size + 1 < w10.heap.size := by omega
      have y3 : w.heap.size + 1 ≤ w10.heap.size := by omega
      have y4 : w.heap.size + 1 + 1 < w10.heap.size := by omega
      go_wp2_with fail
      refine (q3.out _ _ _ _ _ (by go_size) (by go_size) ?_ ?_).mono ?_
      · intro i hi
        obtain rfl : i = 0 := by simp at hi; omega
        refine ⟨?_, ?_, ?_, ?_⟩ <;> simp (maxDischargeDepth := 12) [go_sem]
      · intro i hi
        have hi' : i = 0 ∨ i = 1 := by simp at hi; omega
        rcases hi' with rfl | rfl <;> refine ⟨?_, ?_, ?_, ?_⟩ <;> simp (maxDischargeDepth := 12) [go_sem]
      rintro e w11 ⟨rfl, hbv⟩
      obtain ⟨hb, -⟩ := bg0 (n := w10.heap.size) (W0 := w10) (by go_grown) (by go_size) hbv
      clear y0 y1 y2 y3 y4 hbv a0 a1 a2 a3 b0 b1 b2 b3 c0 c1 c2 c3
      have K11 : Below w.heap.size w w11 := K10.trans (hb.mono K10.size)
      have A11 : Hid (BlkV w11 w.heap.size A.k A.n A.d A.s) := A10.out.below hb (by omega)
      have B11 : Hid (BlkV w11 (w.heap.size + 1) B.k B.n B.d B.s) := B10.out.below hb (by omega)
      have C11 : Hid (BlkV w11 (w.heap.size + 2) C.k C.n C.d C.s) := C10.out.below hb z10
      have z11 : w.heap.size + 2 < w11.heap.size := by have := hb.size; omega
      clear A10 B10 C10 z10 K10 hb
      go_wp2_with fail
      refine (live_any _ (ht.below K11)).mono ?_
      rintro e wl ⟨rfl, hb⟩
      go_wp2
      go_ret
      exact ⟨rfl, K11.trans (hb.mono K11.size)⟩
    · have pz : (P == 0) = false := by simpa using hz
      have HZ : Hid (P ≠ 0) := hz
      clear hz ON
      obtain ⟨a0, a1, a2, a3, -, -, -, -⟩ := A8.out
      obtain ⟨b0, b1, b2, b3, -, -, -, -⟩ := B8.out
      obtain ⟨c0, c1, c2, c3, -, -, -, -⟩ := C8.out
      have y0 : w.heap.size ≤ w8.heap.size := by omega
      have y1 : w.heap.size < w8.heap.size := by omega
      have y2 : w.heap.size + 1 < w8.heap.size := by omega
      have y3 : w.heap.size + 1 ≤ w8.heap.size := by omega
      have y4 : w.heap.size + 1 + 1 < w8.heap.size := by omega
      go_wp2_with fail
      refine (q1.out _ _ _ _ _ (by go_size) (by go_size) ?_ ?_).mono ?_
      · intro i hi
        obtain rfl : i = 0 := by simp at hi; omega
        refine ⟨?_, ?_, ?_, ?_⟩ <;> simp (maxDischargeDepth := 12) [go_sem]
      · intro i hi
        obtain rfl : i = 0 := by simp at hi; omega
        refine ⟨?_, ?_, ?_, ?_⟩ <;> simp (maxDischargeDepth := 12) [go_sem]
      rintro e w9 ⟨rfl, hbv⟩
      obtain ⟨hb, -⟩ := bg0 (n := w8.heap.size) (W0 := w8) (by go_grown) (by go_size) hbv
      clear y0 y1 y2 y3 y4 hbv a0 a1 a2 a3 b0 b1 b2 b3 c0 c1 c2 c3
      have K9 : Below w.heap.size w w9 := K8.trans (hb.mono K8.size)
      have A9 : Hid (BlkV w9 w.heap.size A.k A.n A.d A.s) := A8.out.below hb (by omega)
      have B9 : Hid (BlkV w9 (w.heap.size + 1) B.k B.n B.d B.s) := B8.out.below hb (by omega)
      have C9 : Hid (BlkV w9 (w.heap.size + 2) C.k C.n C.d C.s) := C8.out.below hb z8
      have z9 : w.heap.size + 2 < w9.heap.size := by have := hb.size; omega
      clear A8 B8 C8 z8 K8 hb
      obtain ⟨a0, a1, a2, a3, -, -, -, -⟩ := A9.out
      obtain ⟨b0, b1, b2, b3, -, -, -, -⟩ := B9.out
      obtain ⟨c0, c1, c2, c3, -, -, -, -⟩ := C9.out
      have y0 : w.heap.size ≤ w9.heap.size := by omega
      have y1 : w.heap.size < w9.heap.size := by omega
      have y2 : w.heap.size + 1 < w9.heap.size := by omega
      have y3 : w.heap.size + 1 ≤ w9.heap.size := by omega
      have y4 : w.heap.size + 1 + 1 < w9.heap.size := by omega
      go_wp2_with fail
      refine (q2.out _ _ _ _ _ (by go_size) (by go_size) ?_ ?_).mono ?_
      · intro i hi
        have hi' : i = 0 ∨ i = 1 := by simp at hi; omega
        rcases hi' with rfl | rfl <;> refine ⟨?_, ?_, ?_, ?_⟩ <;> simp (maxDischargeDepth := 12) [go_sem]
      · intro i hi
        have hi' : i = 0 ∨ i = 1 := by simp at hi; omega
        rcases hi' with rfl | rfl <;> refine ⟨?_, ?_, ?_, ?_⟩ <;> simp (maxDischargeDepth := 12) [go_sem]
      rintro e w10 ⟨rfl, hbv⟩
      obtain ⟨hb, -⟩ := bg0 (n := w9.heap.size) (W0 := w9) (by go_grown) (by go_size) hbv
      clear y0 y1 y2 y3 y4 hbv a0 a1 a2 a3 b0 b1 b2 b3 c0 c1 c2 c3
      have K10 : Below w.heap.size w w10 := K9.trans (hb.mono K9.size)
      have A10 : Hid (BlkV w10 w.heap.size A.k A.n A.d A.s) := A9.out.below hb (by omega)
      have B10 : Hid (BlkV w10 (w.heap.size + 1) B.k B.n B.d B.s) := B9.out.below hb (by omega)
      have C10 : Hid (BlkV w10 (w.heap.size + 2) C.k C.n C.d C.s) := C9.out.below hb z9
      have z10 : w.heap.size + 2 < w10.heap.size := by have := hb.size; omega
      clear A9 B9 C9 z9 K9 hb
      obtain ⟨a0, a1, a2, a3, -, -, -, -⟩ := A10.out
      obtain ⟨b0, b1, b2, b3, -, -, -, -⟩ := B10.out
      obtain ⟨c0, c1, c2, c3, -, -, -, -⟩ := C10.out
      have y0 : w.heap.size ≤ w10.heap.size := by omega
      have y1 : w.heap.size < w10.heap.size := by omega
      have y2 : w.heap.size + 1 < w10.heap.size := by omega
      have y3 : w.heap.size + 1 ≤ w10.heap.size := by omega
      have y4 : w.heap.size + 1 + 1 < w10.heap.size := by omega
      go_wp2_with fail
      refine (q3.out _ _ _ _ _ (by go_size) (by go_size) ?_ ?_).mono ?_
      · intro i hi
        obtain rfl : i = 0 := by simp at hi; omega
        refine ⟨?_, ?_, ?_, ?_⟩ <;> simp (maxDischargeDepth := 12) [go_sem]
      · intro i hi
        have hi' : i = 0 ∨ i = 1 := by simp at hi; omega
        rcases hi' with rfl | rfl <;> refine ⟨?_, ?_, ?_, ?_⟩ <;> simp (maxDischargeDepth := 12) [go_sem]
      rintro e w11 ⟨rfl, hbv⟩
      obtain ⟨hb, -⟩ := bg0 (n := w10.heap.size) (W0 := w10) (by go_grown) (by go_size) hbv
      clear y0 y1 y2 y3 y4 hbv a0 a1 a2 a3 b0 b1 b2 b3 c0 c1 c2 c3
      have K11 : Below w.heap.size w w11 := K10.trans (hb.mono K10.size)
      have A11 : Hid (BlkV w11 w.heap.size A.k A.n A.d A.s) := A10.out.below hb (by omega)
      have B11 : Hid (BlkV w11 (w.heap.size + 1) B.k B.n B.d B.s) := B10.out.below hb (by omega)
      have C11 : Hid (BlkV w11 (w.heap.size + 2) C.k C.n C.d C.s) := C10.out.below hb z10
      have z11 : w.heap.size + 2 < w11.heap.size := by have := hb.size; omega
      clear A10 B10 C10 z10 K10 hb
      obtain ⟨a0, a1, a2, a3, -, -, -, -⟩ := A11.out
      obtain ⟨b0, b1, b2, b3, -, -, -, -⟩ := B11.out
      obtain ⟨c0, c1, c2, c3, -, -, -, -⟩ := C11.out
      have y0 : w.heap.size ≤ w11.heap.size := by omega
      have y1 : w.heap.size < w11.heap.size := by omega
      have y2 : w.heap.size + 1 < w11.heap.size := by omega
      have y3 : w.heap.size + 1 ≤ w11.heap.size := by omega
      have y4 : w.heap.size + 1 + 1 < w11.heap.size := by omega
      go_wp2_with fail
      refine (q4.out HZ.out _ _ _ _ _ (by go_size) (by go_size) ?_ ?_).mono ?_
      · intro i hi
        have hi' : i = 0 ∨ i = 1 := by simp at hi; omega
        rcases hi' with rfl | rfl <;> refine ⟨?_, ?_, ?_, ?_⟩ <;> simp (maxDischargeDepth := 12) [go_sem]
      · intro i hi
        obtain rfl : i = 0 := by simp at hi; omega
        refine ⟨?_, ?_, ?_, ?_⟩ <;> simp (maxDischargeDepth := 12) [go_sem]
      rintro e w12 ⟨rfl, hbv⟩
      obtain ⟨hb, -⟩ := bg0 (n := w11.heap.size) (W0 := w11) (by go_grown) (by go_size) hbv
      clear y0 y1 y2 y3 y4 hbv a0 a1 a2 a3 b0 b1 b2 b3 c0 c1 c2 c3
      have K12 : Below w.heap.size w w12 := K11.trans (hb.mono K11.size)
      have A12 : Hid (BlkV w12 w.heap.size A.k A.n A.d A.s) := A11.out.below hb (by omega)
      have B12 : Hid (BlkV w12 (w.heap.size + 1) B.k B.n B.d B.s) := B11.out.below hb (by omega)
      have C12 : Hid (BlkV w12 (w.heap.size + 2) C.k C.n C.d C.s) := C11.out.below hb z11
      have z12 : w.heap.size + 2 < w12.heap.size := by have := hb.size; omega
      clear A11 B11 C11 z11 K11 hb
      go_wp2_with fail
      refine (live_any _ (ht.below K12)).mono ?_
      rintro e wl ⟨rfl, hb⟩
      go_wp2
      go_ret
      exact ⟨rfl, K12.trans (hb.mono K12.size)⟩
  · by_cases hz : P = 0
    · have pz : (P == 0) = true := by simpa using hz
      by_cases hy : Q = 0
      · have qz : (Q == 0) = true := by simpa using hy
        have rz : (R == 0) = true := by simpa using hI.1 ⟨hz, hy⟩
        clear hz hy hI ON
        obtain ⟨a0, a1, a2, a3, -, -, -, -⟩ := A8.out
        obtain ⟨b0, b1, b2, b3, -, -, -, -⟩ := B8.out
        obtain ⟨c0, c1, c2, c3, -, -, -, -⟩ := C8.out
        have y0 : w.heap.size ≤ w8.heap.size := by omega
        have y1 : w.heap.size < w8.heap.size := by omega
        have y2 : w.heap.size + 1 < w8.heap.size := by omega
        have y3 : w.heap.size + 1 ≤ w8.heap.size := by omega
        have y4 : w.heap.size + 1 + 1 < w8.heap.size := by omega
        go_wp2_with fail
        refine (q1.out _ _ _ _ _ (by go_size) (by go_size) ?_ ?_).mono ?_
        · intro i hi
          obtain rfl : i = 0 := by simp at hi; omega
          refine ⟨?_, ?_, ?_, ?_⟩ <;> simp (maxDischargeDepth := 12) [go_sem]
        · intro i hi
          obtain rfl : i = 0 := by simp at hi; omega
          refine ⟨?_, ?_, ?_, ?_⟩ <;> simp (maxDischargeDepth := 12) [go_sem]
        rintro e w9 ⟨rfl, hbv⟩
        obtain ⟨hb, -⟩ := bg0 (n := w8.heap.size) (W0 := w8) (by go_grown) (by go_size) hbv
        clear y0 y1 y2 y3 y4 hbv a0 a1 a2 a3 b0 b1 b2 b3 c0 c1 c2 c3
        have K9 : Below w.heap.size w w9 := K8.trans (hb.mono K8.size)
        have A9 : Hid (BlkV w9 w.heap.size A.k A.n A.d A.s) := A8.out.below hb (by omega)
        have B9 : Hid (BlkV w9 (w.heap.size + 1) B.k B.n B.d B.s) := B8.out.below hb (by omega)
        have C9 : Hid (BlkV w9 (w.heap.size + 2) C.k C.n C.d C.s) := C8.out.below hb z8
        have z9 : w.heap.size + 2 < w9.heap.size := by have := hb.size; omega
        clear A8 B8 C8 z8 K8 hb
        obtain ⟨a0, a1, a2, a3, -, -, -, -⟩ := A9.out
        obtain ⟨b0, b1, b2, b3, -, -, -, -⟩ := B9.out
        obtain ⟨c0, c1, c2, c3, -, -, -, -⟩ := C9.out
        have y0 : w.heap.size ≤ w9.heap.size := by omega
        have y1 : w.heap.size < w9.heap.size := by omega
        have y2 : w.heap.size + 1 < w9.heap.size := by omega
        have y3 : w.heap.size + 1 ≤ w9.heap.size := by omega
        have y4 : w.heap.size + 1 + 1 < w9.heap.size := by omega
        go_wp2_with fail
        refine (q2.out _ _ _ _ _ (by go_size) (by go_size) ?_ ?_).mono ?_
        · intro i hi
          have hi' : i = 0 ∨ i = 1 := by simp at hi; omega
          rcases hi' with rfl | rfl <;> refine ⟨?_, ?_, ?_, ?_⟩ <;> simp (maxDischargeDepth := 12) [go_sem]
        · intro i hi
          have hi' : i = 0 ∨ i = 1 := by simp at hi; omega
          rcases hi' with rfl | rfl <;> refine ⟨?_, ?_, ?_, ?_⟩ <;> simp (maxDischargeDepth := 12) [go_sem]
        rintro e w10 ⟨rfl, hbv⟩
        obtain ⟨hb, -⟩ := bg0 (n := w9.heap.size) (W0 := w9) (by go_grown) (by go_size) hbv
        clear y0 y1 y2 y3 y4 hbv a0 a1 a2 a3 b0 b1 b2 b3 c0 c1 c2 c3
        have K10 : Below w.heap.size w w10 := K9.trans (hb.mono K9.size)
        have A10 : Hid (BlkV w10 w.heap.size A.k A.n A.d A.s) := A9.out.below hb (by omega)
        have B10 : Hid (BlkV w10 (w.heap.size + 1) B.k B.n B.d B.s) := B9.out.below hb (by omega)
        have C10 : Hid (BlkV w10 (w.heap.size + 2) C.k C.n C.d C.s) := C9.out.below hb z9
        have z10 : w.heap.size + 2 < w10.heap.size := by have := hb.size; omega
        clear A9 B9 C9 z9 K9 hb
        obtain ⟨a0, a1, a2, a3, -, -, -, -⟩ := A10.out
        obtain ⟨b0, b1, b2, b3, -, -, -, -⟩ := B10.out
        obtain ⟨c0, c1, c2, c3, -, -, -, -⟩ := C10.out
        have y0 : w.heap.size ≤ w10.heap.size := by omega
        have y1 : w.heap.size < w10.heap.size := by omega
        have y2 : w.heap.size + 1 < w10.heap.size := by omega
        have y3 : w.heap.size + 1 ≤ w10.heap.size := by omega
        have y4 : w.heap.size + 1 + 1 < w10.heap.size := by omega
        go_wp2_with fail
        refine (q3.out _ _ _ _ _ (by go_size) (by go_size) ?_ ?_).mono ?_
        · intro i hi
          obtain rfl : i = 0 := by simp at hi; omega
          refine ⟨?_, ?_, ?_, ?_⟩ <;> simp (maxDischargeDepth := 12) [go_sem]
        · intro i hi
          have hi' : i = 0 ∨ i = 1 := by simp at hi; omega
          rcases hi' with rfl | rfl <;> refine ⟨?_, ?_, ?_, ?_⟩ <;> simp (maxDischargeDepth := 12) [go_sem]
        rintro e w11 ⟨rfl, hbv⟩
        obtain ⟨hb, -⟩ := bg0 (n := w10.heap.size) (W0 := w10) (by go_grown) (by go_size) hbv
        clear y0 y1 y2 y3 y4 hbv a0 a1 a2 a3 b0 b1 b2 b3 c0 c1 c2 c3
        have K11 : Below w.heap.size w w11 := K10.trans (hb.mono K10.size)
        have A11 : Hid (BlkV w11 w.heap.size A.k A.n A.d A.s) := A10.out.below hb (by omega)
        have B11 : Hid (BlkV w11 (w.heap.size + 1) B.k B.n B.d B.s) := B10.out.below hb (by omega)
        have C11 : Hid (BlkV w11 (w.heap.size + 2) C.k C.n C.d C.s) := C10.out.below hb z10
        have z11 : w.heap.size + 2 < w11.heap.size := by have := hb.size; omega
        clear A10 B10 C10 z10 K10 hb
        go_wp2_with fail
        refine (live_any _ (ht.below K11)).mono ?_
        rintro e wl ⟨rfl, hb⟩
        go_wp2
        go_ret
        exact ⟨rfl, K11.trans (hb.mono K11.size)⟩
      · have qz : (Q == 0) = false := by simpa using hy
        have rz : (R == 0) = false := by simp; exact fun h => hy (hI.2 h).2
        clear hz hy hI ON
        obtain ⟨a0, a1, a2, a3, -, -, -, -⟩ := A8.out
        obtain ⟨b0, b1, b2, b3, -, -, -, -⟩ := B8.out
        obtain ⟨c0, c1, c2, c3, -, -, -, -⟩ := C8.out
        have y0 : w.heap.size ≤ w8.heap.size := by omega
        have y1 : w.heap.size < w8.heap.size := by omega
        have y2 : w.heap.size + 1 < w8.heap.size := by omega
        have y3 : w.heap.size + 1 ≤ w8.heap.size := by omega
        have y4 : w.heap.size + 1 + 1 < w8.heap.size := by omega
        go_wp2_with fail
        refine (q1.out _ _ _ _ _ (by go_size) (by go_size) ?_ ?_).mono ?_
        · intro i hi
          obtain rfl : i = 0 := by simp at hi; omega
          refine ⟨?_, ?_, ?_, ?_⟩ <;> simp (maxDischargeDepth := 12) [go_sem]
        · intro i hi
          obtain rfl : i = 0 := by simp at hi; omega
          refine ⟨?_, ?_, ?_, ?_⟩ <;> simp (maxDischargeDepth := 12) [go_sem]
        rintro e w9 ⟨rfl, hbv⟩
        obtain ⟨hb, -⟩ := bg0 (n := w8.heap.size) (W0 := w8) (by go_grown) (by go_size) hbv
        clear y0 y1 y2 y3 y4 hbv a0 a1 a2 a3 b0 b1 b2 b3 c0 c1 c2 c3
        have K9 : Below w.heap.size w w9 := K8.trans (hb.mono K8.size)
        have A9 : Hid (BlkV w9 w.heap.size A.k A.n A.d A.s) := A8.out.below hb (by omega)
        have B9 : Hid (BlkV w9 (w.heap.size + 1) B.k B.n B.d B.s) := B8.out.below hb (by omega)
        have C9 : Hid (BlkV w9 (w.heap.size + 2) C.k C.n C.d C.s) := C8.out.below hb z8
        have z9 : w.heap.size + 2 < w9.heap.size := by have := hb.size; omega
        clear A8 B8 C8 z8 K8 hb
        obtain ⟨a0, a1, a2, a3, -, -, -, -⟩ := A9.out
        obtain ⟨b0, b1, b2, b3, -, -, -, -⟩ := B9.out
        obtain ⟨c0, c1, c2, c3, -, -, -, -⟩ := C9.out
        have y0 : w.heap.size ≤ w9.heap.size := by omega
        have y1 : w.heap.size < w9.heap.size := by omega
        have y2 : w.heap.size + 1 < w9.heap.size := by omega
        have y3 : w.heap.size + 1 ≤ w9.heap.size := by omega
        have y4 : w.heap.size + 1 + 1 < w9.heap.size := by omega
        go_wp2_with fail
        refine (q2.out _ _ _ _ _ (by go_size) (by go_size) ?_ ?_).mono ?_
        · intro i hi
          have hi' : i = 0 ∨ i = 1 := by simp at hi; omega
          rcases hi' with rfl | rfl <;> refine ⟨?_, ?_, ?_, ?_⟩ <;> simp (maxDischargeDepth := 12) [go_sem]
        · intro i hi
          have hi' : i = 0 ∨ i = 1 := by simp at hi; omega
          rcases hi' with rfl | rfl <;> refine ⟨?_, ?_, ?_, ?_⟩ <;> simp (maxDischargeDepth := 12) [go_sem]
        rintro e w10 ⟨rfl, hbv⟩
        obtain ⟨hb, -⟩ := bg0 (n := w9.heap.size) (W0 := w9) (by go_grown) (by go_size) hbv
        clear y0 y1 y2 y3 y4 hbv a0 a1 a2 a3 b0 b1 b2 b3 c0 c1 c2 c3
        have K10 : Below w.heap.size w w10 := K9.trans (hb.mono K9.size)
        have A10 : Hid (BlkV w10 w.heap.size A.k A.n A.d A.s) := A9.out.below hb (by omega)
        have B10 : Hid (BlkV w10 (w.heap.size + 1) B.k B.n B.d B.s) := B9.out.below hb (by omega)
        have C10 : Hid (BlkV w10 (w.heap.size + 2) C.k C.n C.d C.s) := C9.out.below hb z9
        have z10 : w.heap.size + 2 < w10.heap.size := by have := hb.size; omega
        clear A9 B9 C9 z9 K9 hb
        obtain ⟨a0, a1, a2, a3, -, -, -, -⟩ := A10.out
        obtain ⟨b0, b1, b2, b3, -, -, -, -⟩ := B10.out
        obtain ⟨c0, c1, c2, c3, -, -, -, -⟩ := C10.out
        have y0 : w.heap.size ≤ w10.heap.size := by omega
        have y1 : w.heap.size < w10.heap.size := by omega
        have y2 : w.heap.size + 1 < w10.heap.size := by omega
        have y3 : w.heap.size + 1 ≤ w10.heap.size := by omega
        have y4 : w.heap.size + 1 + 1 < w10.heap.size := by omega
        go_wp2_with fail
        refine (q3.out _ _ _ _ _ (by go_size) (by go_size) ?_ ?_).mono ?_
        · intro i hi
          obtain rfl : i = 0 := by simp at hi; omega
          refine ⟨?_, ?_, ?_, ?_⟩ <;> simp (maxDischargeDepth := 12) [go_sem]
        · intro i hi
          have hi' : i = 0 ∨ i = 1 := by simp at hi; omega
          rcases hi' with rfl | rfl <;> refine ⟨?_, ?_, ?_, ?_⟩ <;> simp (maxDischargeDepth := 12) [go_sem]
        rintro e w11 ⟨rfl, hbv⟩
        obtain ⟨hb, -⟩ := bg0 (n := w10.heap.size) (W0 := w10) (by go_grown) (by go_size) hbv
        clear y0 y1 y2 y3 y4 hbv a0 a1 a2 a3 b0 b1 b2 b3 c0 c1 c2 c3
        have K11 : Below w.heap.size w w11 := K10.trans (hb.mono K10.size)
        have A11 : Hid (BlkV w11 w.heap.size A.k A.n A.d A.s) := A10.out.below hb (by omega)
        have B11 : Hid (BlkV w11 (w.heap.size + 1) B.k B.n B.d B.s) := B10.out.below hb (by omega)
        have C11 : Hid (BlkV w11 (w.heap.size + 2) C.k C.n C.d C.s) := C10.out.below hb z10
        have z11 : w.heap.size + 2 < w11.heap.size := by have := hb.size; omega
        clear A10 B10 C10 z10 K10 hb
        go_wp2_with fail
        refine (live_any _ (ht.below K11)).mono ?_
        rintro e wl ⟨rfl, hb⟩
        go_wp2
        go_ret
        exact ⟨rfl, K11.trans (hb.mono K11.size)⟩
    · have pz : (P == 0) = false := by simpa using hz
      have rz : (R == 0) = false := by simp; exact fun h => hz (hI.2 h).1
      have HZ : Hid (P ≠ 0) := hz
      clear hz hI ON
      obtain ⟨a0, a1, a2, a3, -, -, -, -⟩ := A8.out
      obtain ⟨b0, b1, b2, b3, -, -, -, -⟩ := B8.out
      obtain ⟨c0, c1, c2, c3, -, -, -, -⟩ := C8.out
      have y0 : w.heap.size ≤ w8.heap.size := by omega
      have y1 : w.heap.size < w8.heap.size := by omega
      have y2 : w.heap.size + 1 < w8.heap.size := by omega
      have y3 : w.heap.size + 1 ≤ w8.heap.size := by omega
      have y4 : w.heap.size + 1 + 1 < w8.heap.size := by omega
      go_wp2_with fail
      refine (q1.out _ _ _ _ _ (by go_size) (by go_size) ?_ ?_).mono ?_
      · intro i hi
        obtain rfl : i = 0 := by simp at hi; omega
        refine ⟨?_, ?_, ?_, ?_⟩ <;> simp (maxDischargeDepth := 12) [go_sem]
      · intro i hi
        obtain rfl : i = 0 := by simp at hi; omega
        refine ⟨?_, ?_, ?_, ?_⟩ <;> simp (maxDischargeDepth := 12) [go_sem]
      rintro e w9 ⟨rfl, hbv⟩
      obtain ⟨hb, -⟩ := bg0 (n := w8.heap.size) (W0 := w8) (by go_grown) (by go_size) hbv
      clear y0 y1 y2 y3 y4 hbv a0 a1 a2 a3 b0 b1 b2 b3 c0 c1 c2 c3
      have K9 : Below w.heap.size w w9 := K8.trans (hb.mono K8.size)
      have A9 : Hid (BlkV w9 w.heap.size A.k A.n A.d A.s) := A8.out.below hb (by omega)
      have B9 : Hid (BlkV w9 (w.heap.size + 1) B.k B.n B.d B.s) := B8.out.below hb (by omega)
      have C9 : Hid (BlkV w9 (w.heap.size + 2) C.k C.n C.d C.s) := C8.out.below hb z8
      have z9 : w.heap.size + 2 < w9.heap.size := by have := hb.size; omega
      clear A8 B8 C8 z8 K8 hb
      obtain ⟨a0, a1, a2, a3, -, -, -, -⟩ := A9.out
      obtain ⟨b0, b1, b2, b3, -, -, -, -⟩ := B9.out
      obtain ⟨c0, c1, c2, c3, -, -, -, -⟩ := C9.out
      have y0 : w.heap.size ≤ w9.heap.size := by omega
      have y1 : w.heap.size < w9.heap.size := by omega
      have y2 : w.heap.size + 1 < w9.heap.size := by omega
      have y3 : w.heap.size + 1 ≤ w9.heap.size := by omega
      have y4 : w.heap.size + 1 + 1 < w9.heap.size := by omega
      go_wp2_with fail
      refine (q2.out _ _ _ _ _ (by go_size) (by go_size) ?_ ?_).mono ?_
      · intro i hi
        have hi' : i = 0 ∨ i = 1 := by simp at hi; omega
        rcases hi' with rfl | rfl <;> refine ⟨?_, ?_, ?_, ?_⟩ <;> simp (maxDischargeDepth := 12) [go_sem]
      · intro i hi
        have hi' : i = 0 ∨ i = 1 := by simp at hi; omega
        rcases hi' with rfl | rfl <;> refine ⟨?_, ?_, ?_, ?_⟩ <;> simp (maxDischargeDepth := 12) [go_sem]
      rintro e w10 ⟨rfl, hbv⟩
      obtain ⟨hb, -⟩ := bg0 (n := w9.heap.size) (W0 := w9) (by go_grown) (by go_size) hbv
      clear y0 y1 y2 y3 y4 hbv a0 a1 a2 a3 b0 b1 b2 b3 c0 c1 c2 c3
      have K10 : Below w.heap.size w w10 := K9.trans (hb.mono K9.size)
      have A10 : Hid (BlkV w10 w.heap.size A.k A.n A.d A.s) := A9.out.below hb (by omega)
      have B10 : Hid (BlkV w10 (w.heap.size + 1) B.k B.n B.d B.s) := B9.out.below hb (by omega)
      have C10 : Hid (BlkV w10 (w.heap.size + 2) C.k C.n C.d C.s) := C9.out.below hb z9
      have z10 : w.heap.size + 2 < w10.heap.size := by have := hb.size; omega
      clear A9 B9 C9 z9 K9 hb
      obtain ⟨a0, a1, a2, a3, -, -, -, -⟩ := A10.out
      obtain ⟨b0, b1, b2, b3, -, -, -, -⟩ := B10.out
      obtain ⟨c0, c1, c2, c3, -, -, -, -⟩ := C10.out
      have y0 : w.heap.size ≤ w10.heap.size := by omega
      have y1 : w.heap.size < w10.heap.size := by omega
      have y2 : w.heap.size + 1 < w10.heap.size := by omega
      have y3 : w.heap.size + 1 ≤ w10.heap.size := by omega
      have y4 : w.heap.size + 1 + 1 < w10.heap.size := by omega
      go_wp2_with fail
      refine (q3.out _ _ _ _ _ (by go_size) (by go_size) ?_ ?_).mono ?_
      · intro i hi
        obtain rfl : i = 0 := by simp at hi; omega
        refine ⟨?_, ?_, ?_, ?_⟩ <;> simp (maxDischargeDepth := 12) [go_sem]
      · intro i hi
        have hi' : i = 0 ∨ i = 1 := by simp at hi; omega
        rcases hi' with rfl | rfl <;> refine ⟨?_, ?_, ?_, ?_⟩ <;> simp (maxDischargeDepth := 12) [go_sem]
      rintro e w11 ⟨rfl, hbv⟩
      obtain ⟨hb, -⟩ := bg0 (n := w10.heap.size) (W0 := w10) (by go_grown) (by go_size) hbv
      clear y0 y1 y2 y3 y4 hbv a0 a1 a2 a3 b0 b1 b2 b3 c0 c1 c2 c3
      have K11 : Below w.heap.size w w11 := K10.trans (hb.mono K10.size)
      have A11 : Hid (BlkV w11 w.heap.size A.k A.n A.d A.s) := A10.out.below hb (by omega)
      have B11 : Hid (BlkV w11 (w.heap.size + 1) B.k B.n B.d B.s) := B10.out.below hb (by omega)
      have C11 : Hid (BlkV w11 (w.heap.size + 2) C.k C.n C.d C.s) := C10.out.below hb z10
      have z11 : w.heap.size + 2 < w11.heap.size := by have := hb.size; omega
      clear A10 B10 C10 z10 K10 hb
      obtain ⟨a0, a1, a2, a3, -, -, -, -⟩ := A11.out
      obtain ⟨b0, b1, b2, b3, -, -, -, -⟩ := B11.out
      obtain ⟨c0, c1, c2, c3, -, -, -, -⟩ := C11.out
      have y0 : w.heap.size ≤ w11.heap.size := by omega
      have y1 : w.heap.size < w11.heap.size := by omega
      have y2 : w.heap.size + 1 < w11.heap.size := by omega
      have y3 : w.heap.size + 1 ≤ w11.heap.size := by omega
      have y4 : w.heap.size + 1 + 1 < w11.heap.size := by omega
      go_wp2_with fail
      refine (q4.out HZ.out _ _ _ _ _ (by go_size) (by go_size) ?_ ?_).mono ?_
      · intro i hi
        have hi' : i = 0 ∨ i = 1 := by simp at hi; omega
        rcases hi' with rfl | rfl <;> refine ⟨?_, ?_, ?_, ?_⟩ <;> simp (maxDischargeDepth := 12) [go_sem]
      · intro i hi
        obtain rfl : i = 0 := by simp at hi; omega
        refine ⟨?_, ?_, ?_, ?_⟩ <;> simp (maxDischargeDepth := 12) [go_sem]
      rintro e w12 ⟨rfl, hbv⟩
      obtain ⟨hb, -⟩ := bg0 (n := w11.heap.size) (W0 := w11) (by go_grown) (by go_size) hbv
      clear y0 y1 y2 y3 y4 hbv a0 a1 a2 a3 b0 b1 b2 b3 c0 c1 c2 c3
      have K12 : Below w.heap.size w w12 := K11.trans (hb.mono K11.size)
      have A12 : Hid (BlkV w12 w.heap.size A.k A.n A.d A.s) := A11.out.below hb (by omega)
      have B12 : Hid (BlkV w12 (w.heap.size + 1) B.k B.n B.d B.s) := B11.out.below hb (by omega)
      have C12 : Hid (BlkV w12 (w.heap.size + 2) C.k C.n C.d C.s) := C11.out.below hb z11
      have z12 : w.heap.size + 2 < w12.heap.size := by have := hb.size; omega
      clear A11 B11 C11 z11 K11 hb
      go_wp2_with fail
      refine (live_any _ (ht.below K12)).mono ?_
      rintro e wl ⟨rfl, hb⟩
      go_wp2
      go_ret
      exact ⟨rfl, K12.trans (hb.mono K12.size)⟩

theorem order_walk (A B C : Val) (fA : A.Fits) (fB : B.Fits) (fC : C.Fits) (w : World) (ht : Pow w) :
    Calls Tryz.prog 7 #[.agg #[.int .i64 A.k, .int .i64 A.n, .int .i64 A.d, .string A.s], .agg #[.int .i64 B.k, .int .i64 B.n, .int .i64 B.d, .string B.s], .agg #[.int .i64 C.k, .int .i64 C.n, .int .i64 C.d, .string C.s]] w fun e w' => e = .returned (.bool true) ∧ Below w.heap.size w w' := by
  by_cases mA : chk A.k A.n A.d A.s = 0
  · by_cases mB : chk B.k B.n B.d B.s = 0
    · by_cases mC : chk C.k C.n C.d C.s = 0
      · exact order_good A B C fA fB fC mA mB mC w ht
      · exact order_bad2 A B C fA fB fC mA mB _ rfl (by simpa using mC) w ht
    · exact order_bad1 A B C fA fB fC mA _ rfl (by simpa using mB) w ht
  · exact order_bad0 A B C fA fB fC _ rfl (by simpa using mA) w ht

end Go.Proofs.YtedoahibceeklaaGreatDoor
