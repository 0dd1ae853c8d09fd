/- Compare of any two values. -/
import Derived.Test.YtedoahibceeklabGreatDoorVOrders
namespace Go.Proofs.YtedoahibceeklabGreatDoor
open Go.RowKit Go.Shelf
set_option linter.unusedVariables false

/-- How two values stand to one another. -/
def vcmp (k n d : Int) (s : ByteArray) (k' n' d' : Int) (s' : ByteArray) : Int :=
  if chk k n d s = 0 then (if chk k' n' d' s' = 0 then (if k = k' then (if k = 1 then Lib.compareInt n n' else if k = 2 then cmpV n d n' d' else Lib.compareBytes s.data.toList s'.data.toList) else Lib.compareInt k k') else 0) else 0
theorem chk_kind {k n d : Int} {s : ByteArray} (h : chk k n d s = 0) : k = 1 ∨ k = 2 ∨ k = 3 := by
  by_cases k1 : k = 1
  · exact Or.inl k1
  · by_cases k2 : k = 2
    · exact Or.inr (Or.inl k2)
    · by_cases k3 : k = 3
      · exact Or.inr (Or.inr k3)
      · exfalso
        have e0 : chk k n d s = 20 := by simp [chk, pureB, k1, k2, k3]
        omega

set_option maxRecDepth 100000 in
set_option maxHeartbeats 2000000 in
theorem cmp_bad1 (k n d : Int) (s : ByteArray) (k' n' d' : Int) (s' : ByteArray) (w : World) (h1 : -9223372036854775808 ≤ n) (h2 : n ≤ 9223372036854775807) (g1 : -9223372036854775808 ≤ d) (g2 : d ≤ 9223372036854775807) (h1' : -9223372036854775808 ≤ n') (h2' : n' ≤ 9223372036854775807) (g1' : -9223372036854775808 ≤ d') (g2' : d' ≤ 9223372036854775807) (C : Int) (c1 : chk k n d s = C) (c3 : (C != 0) = true) :
    Calls Tryz.prog 12 #[.agg #[.int .i64 k, .int .i64 n, .int .i64 d, .string s], .agg #[.int .i64 k', .int .i64 n', .int .i64 d', .string s']] w fun e w' => e = .returned (.int .i64 0) ∧ Below w.heap.size w w' := by
  go_enter Tryz.func12, Tryz.ntmps12
  go_upto_region 1 with fail
  refine wp_world ?_
  intro W0 hW0
  have A0 : Hid (BlkV W0 w.heap.size k n d s) := by rw [hW0]; constructor <;> simp (maxDischargeDepth := 12) [go_sem]
  have B0 : Hid (BlkV W0 (w.heap.size + 1) k' n' d' s') := by rw [hW0]; constructor <;> simp (maxDischargeDepth := 12) [go_sem]
  have z0 : w.heap.size + 1 < W0.heap.size := by rw [hW0]; simp
  have K0 : Below w.heap.size w W0 := by rw [hW0]; go_grown
  clear hW0
  obtain ⟨a0, a1, a2, a3, -, -, -, -⟩ := A0.out
  go_wp2_with fail
  refine (check_any k n d s _ h1 h2 g1 g2).mono ?_
  rintro e w1 ⟨rfl, hb1⟩
  rw [c1]
  clear a0 a1 a2 a3
  have A1 : Hid (BlkV w1 w.heap.size k n d s) := A0.out.below hb1 (by omega)
  have B1 : Hid (BlkV w1 (w.heap.size + 1) k' n' d' s') := B0.out.below hb1 z0
  have z1 : w.heap.size + 1 < w1.heap.size := by have := hb1.size; omega
  have K1 : Below w.heap.size w w1 := K0.trans (hb1.mono K0.size)
  clear A0 B0 z0 K0 hb1
  go_wp2
  go_ret
  exact ⟨rfl, K1⟩

set_option maxRecDepth 100000 in
set_option maxHeartbeats 2000000 in
theorem cmp_bad2 (k n d : Int) (s : ByteArray) (k' n' d' : Int) (s' : ByteArray) (w : World) (h1 : -9223372036854775808 ≤ n) (h2 : n ≤ 9223372036854775807) (g1 : -9223372036854775808 ≤ d) (g2 : d ≤ 9223372036854775807) (h1' : -9223372036854775808 ≤ n') (h2' : n' ≤ 9223372036854775807) (g1' : -9223372036854775808 ≤ d') (g2' : d' ≤ 9223372036854775807) (C : Int) (c1 : chk k n d s = 0) (c2 : chk k' n' d' s' = C) (c3 : (C != 0) = true) :
    Calls Tryz.prog 12 #[.agg #[.int .i64 k, .int .i64 n, .int .i64 d, .string s], .agg #[.int .i64 k', .int .i64 n', .int .i64 d', .string s']] w fun e w' => e = .returned (.int .i64 0) ∧ Below w.heap.size w w' := by
  go_enter Tryz.func12, Tryz.ntmps12
  go_upto_region 1 with fail
  refine wp_world ?_
  intro W0 hW0
  have A0 : Hid (BlkV W0 w.heap.size k n d s) := by rw [hW0]; constructor <;> simp (maxDischargeDepth := 12) [go_sem]
  have B0 : Hid (BlkV W0 (w.heap.size + 1) k' n' d' s') := by rw [hW0]; constructor <;> simp (maxDischargeDepth := 12) [go_sem]
  have z0 : w.heap.size + 1 < W0.heap.size := by rw [hW0]; simp
  have K0 : Below w.heap.size w W0 := by rw [hW0]; go_grown
  clear hW0
  obtain ⟨a0, a1, a2, a3, -, -, -, -⟩ := A0.out
  go_wp2_with fail
  refine (check_any k n d s _ h1 h2 g1 g2).mono ?_
  rintro e w1 ⟨rfl, hb1⟩
  rw [c1]
  clear a0 a1 a2 a3
  have A1 : Hid (BlkV w1 w.heap.size k n d s) := A0.out.below hb1 (by omega)
  have B1 : Hid (BlkV w1 (w.heap.size + 1) k' n' d' s') := B0.out.below hb1 z0
  have z1 : w.heap.size + 1 < w1.heap.size := by have := hb1.size; omega
  have K1 : Below w.heap.size w w1 := K0.trans (hb1.mono K0.size)
  clear A0 B0 z0 K0 hb1
  obtain ⟨a0, a1, a2, a3, -, -, -, -⟩ := B1.out
  go_wp2_with fail
  refine (check_any k' n' d' s' _ h1' h2' g1' g2').mono ?_
  rintro e w2 ⟨rfl, hb2⟩
  rw [c2]
  clear a0 a1 a2 a3
  have A2 : Hid (BlkV w2 w.heap.size k n d s) := A1.out.below hb2 (by omega)
  have B2 : Hid (BlkV w2 (w.heap.size + 1) k' n' d' s') := B1.out.below hb2 z1
  have z2 : w.heap.size + 1 < w2.heap.size := by have := hb2.size; omega
  have K2 : Below w.heap.size w w2 := K1.trans (hb2.mono K1.size)
  clear A1 B1 z1 K1 hb2
  obtain ⟨a0, a1, a2, a3, -, -, -, -⟩ := A2.out
  obtain ⟨b0, b1, b2, b3, -, -, -, -⟩ := B2.out
  go_wp2
  go_ret
  exact ⟨rfl, K2⟩

set_option maxRecDepth 100000 in
set_option maxHeartbeats 2000000 in
theorem cmp_like1 (n d : Int) (s : ByteArray) (n' d' : Int) (s' : ByteArray) (w : World) (h1 : -9223372036854775808 ≤ n) (h2 : n ≤ 9223372036854775807) (g1 : -9223372036854775808 ≤ d) (g2 : d ≤ 9223372036854775807) (h1' : -9223372036854775808 ≤ n') (h2' : n' ≤ 9223372036854775807) (g1' : -9223372036854775808 ≤ d') (g2' : d' ≤ 9223372036854775807) (c1 : chk 1 n d s = 0) (c2 : chk 1 n' d' s' = 0) :
    Calls Tryz.prog 12 #[.agg #[.int .i64 1, .int .i64 n, .int .i64 d, .string s], .agg #[.int .i64 1, .int .i64 n', .int .i64 d', .string s']] w fun e w' => e = .returned (.int .i64 (Lib.compareInt n n')) ∧ Below w.heap.size w w' := by
  have IX := io1
  go_enter Tryz.func12, Tryz.ntmps12
  go_upto_region 1 with fail
  refine wp_world ?_
  intro W0 hW0
  have A0 : Hid (BlkV W0 w.heap.size 1 n d s) := by rw [hW0]; constructor <;> simp (maxDischargeDepth := 12) [go_sem]
  have B0 : Hid (BlkV W0 (w.heap.size + 1) 1 n' d' s') := by rw [hW0]; constructor <;> simp (maxDischargeDepth := 12) [go_sem]
  have z0 : w.heap.size + 1 < W0.heap.size := by rw [hW0]; simp
  have K0 : Below w.heap.size w W0 := by rw [hW0]; go_grown
  clear hW0
  obtain ⟨a0, a1, a2, a3, -, -, -, -⟩ := A0.out
  go_wp2_with fail
  refine (check_any 1 n d s _ h1 h2 g1 g2).mono ?_
  rintro e w1 ⟨rfl, hb1⟩
  rw [c1]
  clear a0 a1 a2 a3
  have A1 : Hid (BlkV w1 w.heap.size 1 n d s) := A0.out.below hb1 (by omega)
  have B1 : Hid (BlkV w1 (w.heap.size + 1) 1 n' d' s') := B0.out.below hb1 z0
  have z1 : w.heap.size + 1 < w1.heap.size := by have := hb1.size; omega
  have K1 : Below w.heap.size w w1 := K0.trans (hb1.mono K0.size)
  clear A0 B0 z0 K0 hb1
  obtain ⟨a0, a1, a2, a3, -, -, -, -⟩ := B1.out
  go_wp2_with fail
  refine (check_any 1 n' d' s' _ h1' h2' g1' g2').mono ?_
  rintro e w2 ⟨rfl, hb2⟩
  rw [c2]
  clear a0 a1 a2 a3
  have A2 : Hid (BlkV w2 w.heap.size 1 n d s) := A1.out.below hb2 (by omega)
  have B2 : Hid (BlkV w2 (w.heap.size + 1) 1 n' d' s') := B1.out.below hb2 z1
  have z2 : w.heap.size + 1 < w2.heap.size := by have := hb2.size; omega
  have K2 : Below w.heap.size w w2 := K1.trans (hb2.mono K1.size)
  clear A1 B1 z1 K1 hb2
  obtain ⟨a0, a1, a2, a3, -, -, -, -⟩ := A2.out
  obtain ⟨b0, b1, b2, b3, -, -, -, -⟩ := B2.out
  have up : ∀ w9, Below w2.heap.size w2 w9 → Below w.heap.size w w9 := fun _ g => K2.trans (g.mono K2.size)
  go_upto_region 5 with fail
  have z_a : w.heap.size < w2.heap.size := by omega
  refine wp_region_held_drew (S := (fun w' => w'.cell? ⟨w.heap.size, 0, none⟩ = some (.int .i64 1) ∧ w'.cell? ⟨w.heap.size, 1, none⟩ = some (.int .i64 n) ∧ w'.cell? ⟨w.heap.size, 2, none⟩ = some (.int .i64 d) ∧ w'.cell? ⟨w.heap.size, 3, none⟩ = some (.string s) ∧ w'.cell? ⟨w.heap.size + 1, 0, none⟩ = some (.int .i64 1) ∧ w'.cell? ⟨w.heap.size + 1, 1, none⟩ = some (.int .i64 n') ∧ w'.cell? ⟨w.heap.size + 1, 2, none⟩ = some (.int .i64 d') ∧ w'.cell? ⟨w.heap.size + 1, 3, none⟩ = some (.string s'))) (by kernel_rfl) ?_ (fun hHeld => ?_)
  · exact keep8 (show Below w2.heap.size w2 _ from (by repeat' (first | (with_reducible exact Below.refl _ _) | (with_reducible assumption) | (with_reducible refine bdrewN _ ?_) | (with_reducible refine Below.alloc ?_ ?_ _) | (with_reducible refine Below.drew ?_) | go_size))) a0 a1 a2 a3 b0 b1 b2 b3 z_a z2
  refine wpAnyH_take (i := 1) (oi := ({ dst := some 24, op := Op.fieldAddr 23 (Operand.tmp 2) 0, type := 0, pos := "value.go:46", after := #[], guard := none } : Oper)) (v := ?yv1) rfl (by kernel_rfl) (by kernel_rfl) (by kernel_rfl) (fun _ _ _ h => h) (Or.inl ⟨by rfl, ?yh1⟩) (by assumption) ?yr1
  case yh1 => (intro wq hSw; (try dsimp only at hSw); go_simp; first | done | with_reducible rfl)
  try simp only [Act.put, List.setIfInBounds_toArray, List.set_cons_zero, List.set_cons_succ]
  refine wpAnyH_take (i := 2) (oi := ({ dst := some 25, op := Op.load 3 (Operand.tmp 24), type := 3, pos := "value.go:46", after := #[{ on := 1, ground := Ground.data }], guard := none } : Oper)) (v := ?yv2) rfl (by kernel_rfl) (by kernel_rfl) (by kernel_rfl) (fun _ _ _ h => h) (Or.inl ⟨by rfl, ?yh2⟩) (by assumption) ?yr2
  case yh2 => (intro wq hSw; (try dsimp only at hSw); go_simp; first | done | with_reducible rfl)
  try simp only [Act.put, List.setIfInBounds_toArray, List.set_cons_zero, List.set_cons_succ]
  refine wpAnyH_take (i := 4) (oi := ({ dst := some 27, op := Op.load 23 (Operand.tmp 2), type := 23, pos := "value.go:46", after := #[], guard := none } : Oper)) (v := ?yv3) rfl (by kernel_rfl) (by kernel_rfl) (by kernel_rfl) (fun _ _ _ h => h) (Or.inl ⟨by rfl, ?yh3⟩) (by assumption) ?yr3
  case yh3 => (intro wq hSw; (try dsimp only at hSw); go_simp; first | done | with_reducible rfl)
  try simp only [Act.put, List.setIfInBounds_toArray, List.set_cons_zero, List.set_cons_succ]
  refine wpAnyH_take (i := 5) (oi := ({ dst := some 28, op := Op.load 23 (Operand.tmp 3), type := 23, pos := "value.go:46", after := #[], guard := none } : Oper)) (v := ?yv4) rfl (by kernel_rfl) (by kernel_rfl) (by kernel_rfl) (fun _ _ _ h => h) (Or.inl ⟨by rfl, ?yh4⟩) (by assumption) ?yr4
  case yh4 => (intro wq hSw; (try dsimp only at hSw); go_simp; first | done | with_reducible rfl)
  try simp only [Act.put, List.setIfInBounds_toArray, List.set_cons_zero, List.set_cons_succ]
  refine wpAnyH_ready (rs := [0]) (by kernel_rfl) (by simp) ?_
  refine AllReadyH.cons (o := ({ dst := some 23, op := Op.call { callee := Callee.value (Operand.func 22), args := #[], argTypes := #[] }, type := 43, pos := "value.go:46", after := #[], guard := none } : Oper)) rfl (fun K hK => ?_) AllReadyH.nil
  go_simp
  refine (otab_ex _).mono ?_
  rintro e wa ⟨rfl, ca0, rfl⟩
  (try go_wp2_with fail)
  refine hK.out _ _ ?_ (fun hHeld => ?_)
  · exact keep8 (show Below w2.heap.size w2 _ from (by repeat' (first | (with_reducible exact Below.refl _ _) | (with_reducible assumption) | (with_reducible refine bdrewN _ ?_) | (with_reducible refine Below.alloc ?_ ?_ _) | (with_reducible refine Below.drew ?_) | go_size))) a0 a1 a2 a3 b0 b1 b2 b3 z_a z2
  clear hK K
  try simp only [Act.put, List.setIfInBounds_toArray, List.set_cons_zero, List.set_cons_succ]
  refine wpAnyH_take (i := 3) (oi := ({ dst := some 26, op := Op.index 43 (Operand.tmp 23) (Operand.tmp 25), type := 42, pos := "value.go:46", after := #[{ on := 0, ground := Ground.data }, { on := 2, ground := Ground.data }], guard := none } : Oper)) (v := ?yv5) rfl (by kernel_rfl) (by kernel_rfl) (by kernel_rfl) (fun _ _ _ h => h) (Or.inl ⟨by rfl, ?yh5⟩) (by assumption) ?yr5
  case yh5 => (intro wq hSw; (try dsimp only at hSw); go_simp; first | done | with_reducible rfl)
  try simp only [Act.put, List.setIfInBounds_toArray, List.set_cons_zero, List.set_cons_succ]
  refine wpAnyH_ready (rs := [6]) (by kernel_rfl) (by simp) ?_
  refine AllReadyH.cons (o := ({ dst := some 29, op := Op.call { callee := Callee.value (Operand.tmp 26), args := #[Operand.tmp 27, Operand.tmp 28], argTypes := #[23, 23] }, type := 3, pos := "value.go:46", after := #[{ on := 3, ground := Ground.data }, { on := 4, ground := Ground.data }, { on := 5, ground := Ground.data }, { on := 0, ground := Ground.chain }], guard := none } : Oper)) rfl (fun K hK => ?_) AllReadyH.nil
  go_simp
  refine (by_number 1 n d s 1 n' d' s' _).mono ?_
  rintro e w5 ⟨rfl, hb5⟩
  obtain ⟨hc5, hf5, hz5, hB5, hn5, hm5⟩ := bg (n := w2.heap.size) (W0 := w2) (by repeat' (first | (with_reducible exact Below.refl _ _) | (with_reducible assumption) | (with_reducible refine bdrewN _ ?_) | (with_reducible refine Below.alloc ?_ ?_ _) | (with_reducible refine Below.drew ?_) | go_size)) (by go_size) hb5
  clear hm5
  (try go_wp2_with fail)
  refine hK.out _ _ ?_ (fun hHeld => ?_)
  · exact keep8 (show Below w2.heap.size w2 _ from (by repeat' (first | (with_reducible exact Below.refl _ _) | (with_reducible assumption) | (with_reducible refine bdrewN _ ?_) | (with_reducible refine Below.alloc ?_ ?_ _) | (with_reducible refine Below.drew ?_) | go_size))) a0 a1 a2 a3 b0 b1 b2 b3 z_a z2
  clear hK K
  try simp only [Act.put, List.setIfInBounds_toArray, List.set_cons_zero, List.set_cons_succ]
  refine wpAnyH_take (i := 7) (oi := ({ dst := some 4, op := Op.assign (Operand.tmp 29), type := 3, pos := "value.go:46", after := #[{ on := 6, ground := Ground.data }, { on := 6, ground := Ground.chain }, { on := 0, ground := Ground.phase }, { on := 1, ground := Ground.phase }, { on := 2, ground := Ground.phase }, { on := 3, ground := Ground.phase }, { on := 4, ground := Ground.phase }, { on := 5, ground := Ground.phase }, { on := 6, ground := Ground.phase }], guard := none } : Oper)) (v := ?yv6) rfl (by kernel_rfl) (by kernel_rfl) (by kernel_rfl) (fun _ _ _ h => h) (Or.inl ⟨by rfl, ?yh6⟩) (by assumption) ?yr6
  case yh6 => (intro wq hSw; (try dsimp only at hSw); go_simp; first | done | with_reducible rfl)
  try simp only [Act.put, List.setIfInBounds_toArray, List.set_cons_zero, List.set_cons_succ]
  refine wpAnyH_done (by kernel_rfl) ?_ _
  (try go_wp2)
  go_ret
  refine ⟨rfl, up _ ?_⟩
  exact (by repeat' (first | (with_reducible exact Below.refl _ _) | (with_reducible assumption) | (with_reducible refine bdrewN _ ?_) | (with_reducible refine Below.alloc ?_ ?_ _) | (with_reducible refine Below.drew ?_) | go_size))

set_option maxRecDepth 100000 in
set_option maxHeartbeats 2000000 in
theorem cmp_like2 (n d : Int) (s : ByteArray) (n' d' : Int) (s' : ByteArray) (w : World) (h1 : -9223372036854775808 ≤ n) (h2 : n ≤ 9223372036854775807) (g1 : -9223372036854775808 ≤ d) (g2 : d ≤ 9223372036854775807) (h1' : -9223372036854775808 ≤ n') (h2' : n' ≤ 9223372036854775807) (g1' : -9223372036854775808 ≤ d') (g2' : d' ≤ 9223372036854775807) (c1 : chk 2 n d s = 0) (c2 : chk 2 n' d' s' = 0) :
    Calls Tryz.prog 12 #[.agg #[.int .i64 2, .int .i64 n, .int .i64 d, .string s], .agg #[.int .i64 2, .int .i64 n', .int .i64 d', .string s']] w fun e w' => e = .returned (.int .i64 (cmpV n d n' d')) ∧ Below w.heap.size w w' := by
  have IX := io2
  go_enter Tryz.func12, Tryz.ntmps12
  go_upto_region 1 with fail
  refine wp_world ?_
  intro W0 hW0
  have A0 : Hid (BlkV W0 w.heap.size 2 n d s) := by rw [hW0]; constructor <;> simp (maxDischargeDepth := 12) [go_sem]
  have B0 : Hid (BlkV W0 (w.heap.size + 1) 2 n' d' s') := by rw [hW0]; constructor <;> simp (maxDischargeDepth := 12) [go_sem]
  have z0 : w.heap.size + 1 < W0.heap.size := by rw [hW0]; simp
  have K0 : Below w.heap.size w W0 := by rw [hW0]; go_grown
  clear hW0
  obtain ⟨a0, a1, a2, a3, -, -, -, -⟩ := A0.out
  go_wp2_with fail
  refine (check_any 2 n d s _ h1 h2 g1 g2).mono ?_
  rintro e w1 ⟨rfl, hb1⟩
  rw [c1]
  clear a0 a1 a2 a3
  have A1 : Hid (BlkV w1 w.heap.size 2 n d s) := A0.out.below hb1 (by omega)
  have B1 : Hid (BlkV w1 (w.heap.size + 1) 2 n' d' s') := B0.out.below hb1 z0
  have z1 : w.heap.size + 1 < w1.heap.size := by have := hb1.size; omega
  have K1 : Below w.heap.size w w1 := K0.trans (hb1.mono K0.size)
  clear A0 B0 z0 K0 hb1
  obtain ⟨a0, a1, a2, a3, -, -, -, -⟩ := B1.out
  go_wp2_with fail
  refine (check_any 2 n' d' s' _ h1' h2' g1' g2').mono ?_
  rintro e w2 ⟨rfl, hb2⟩
  rw [c2]
  clear a0 a1 a2 a3
  have A2 : Hid (BlkV w2 w.heap.size 2 n d s) := A1.out.below hb2 (by omega)
  have B2 : Hid (BlkV w2 (w.heap.size + 1) 2 n' d' s') := B1.out.below hb2 z1
  have z2 : w.heap.size + 1 < w2.heap.size := by have := hb2.size; omega
  have K2 : Below w.heap.size w w2 := K1.trans (hb2.mono K1.size)
  clear A1 B1 z1 K1 hb2
  obtain ⟨a0, a1, a2, a3, -, -, -, -⟩ := A2.out
  obtain ⟨b0, b1, b2, b3, -, -, -, -⟩ := B2.out
  have up : ∀ w9, Below w2.heap.size w2 w9 → Below w.heap.size w w9 := fun _ g => K2.trans (g.mono K2.size)
  go_upto_region 5 with fail
  have z_a : w.heap.size < w2.heap.size := by omega
  refine wp_region_held_drew (S := (fun w' => w'.cell? ⟨w.heap.size, 0, none⟩ = some (.int .i64 2) ∧ w'.cell? ⟨w.heap.size, 1, none⟩ = some (.int .i64 n) ∧ w'.cell? ⟨w.heap.size, 2, none⟩ = some (.int .i64 d) ∧ w'.cell? ⟨w.heap.size, 3, none⟩ = some (.string s) ∧ w'.cell? ⟨w.heap.size + 1, 0, none⟩ = some (.int .i64 2) ∧ w'.cell? ⟨w.heap.size + 1, 1, none⟩ = some (.int .i64 n') ∧ w'.cell? ⟨w.heap.size + 1, 2, none⟩ = some (.int .i64 d') ∧ w'.cell? ⟨w.heap.size + 1, 3, none⟩ = some (.string s'))) (by kernel_rfl) ?_ (fun hHeld => ?_)
  · exact keep8 (show Below w2.heap.size w2 _ from (by repeat' (first | (with_reducible exact Below.refl _ _) | (with_reducible assumption) | (with_reducible refine bdrewN _ ?_) | (with_reducible refine Below.alloc ?_ ?_ _) | (with_reducible refine Below.drew ?_) | go_size))) a0 a1 a2 a3 b0 b1 b2 b3 z_a z2
  refine wpAnyH_take (i := 1) (oi := ({ dst := some 24, op := Op.fieldAddr 23 (Operand.tmp 2) 0, type := 0, pos := "value.go:46", after := #[], guard := none } : Oper)) (v := ?yv1) rfl (by kernel_rfl) (by kernel_rfl) (by kernel_rfl) (fun _ _ _ h => h) (Or.inl ⟨by rfl, ?yh1⟩) (by assumption) ?yr1
  case yh1 => (intro wq hSw; (try dsimp only at hSw); go_simp; first | done | with_reducible rfl)
  try simp only [Act.put, List.setIfInBounds_toArray, List.set_cons_zero, List.set_cons_succ]
  refine wpAnyH_take (i := 2) (oi := ({ dst := some 25, op := Op.load 3 (Operand.tmp 24), type := 3, pos := "value.go:46", after := #[{ on := 1, ground := Ground.data }], guard := none } : Oper)) (v := ?yv2) rfl (by kernel_rfl) (by kernel_rfl) (by kernel_rfl) (fun _ _ _ h => h) (Or.inl ⟨by rfl, ?yh2⟩) (by assumption) ?yr2
  case yh2 => (intro wq hSw; (try dsimp only at hSw); go_simp; first | done | with_reducible rfl)
  try simp only [Act.put, List.setIfInBounds_toArray, List.set_cons_zero, List.set_cons_succ]
  refine wpAnyH_take (i := 4) (oi := ({ dst := some 27, op := Op.load 23 (Operand.tmp 2), type := 23, pos := "value.go:46", after := #[], guard := none } : Oper)) (v := ?yv3) rfl (by kernel_rfl) (by kernel_rfl) (by kernel_rfl) (fun _ _ _ h => h) (Or.inl ⟨by rfl, ?yh3⟩) (by assumption) ?yr3
  case yh3 => (intro wq hSw; (try dsimp only at hSw); go_simp; first | done | with_reducible rfl)
  try simp only [Act.put, List.setIfInBounds_toArray, List.set_cons_zero, List.set_cons_succ]
  refine wpAnyH_take (i := 5) (oi := ({ dst := some 28, op := Op.load 23 (Operand.tmp 3), type := 23, pos := "value.go:46", after := #[], guard := none } : Oper)) (v := ?yv4) rfl (by kernel_rfl) (by kernel_rfl) (by kernel_rfl) (fun _ _ _ h => h) (Or.inl ⟨by rfl, ?yh4⟩) (by assumption) ?yr4
  case yh4 => (intro wq hSw; (try dsimp only at hSw); go_simp; first | done | with_reducible rfl)
  try simp only [Act.put, List.setIfInBounds_toArray, List.set_cons_zero, List.set_cons_succ]
  refine wpAnyH_ready (rs := [0]) (by kernel_rfl) (by simp) ?_
  refine AllReadyH.cons (o := ({ dst := some 23, op := Op.call { callee := Callee.value (Operand.func 22), args := #[], argTypes := #[] }, type := 43, pos := "value.go:46", after := #[], guard := none } : Oper)) rfl (fun K hK => ?_) AllReadyH.nil
  go_simp
  refine (otab_ex _).mono ?_
  rintro e wa ⟨rfl, ca0, rfl⟩
  (try go_wp2_with fail)
  refine hK.out _ _ ?_ (fun hHeld => ?_)
  · exact keep8 (show Below w2.heap.size w2 _ from (by repeat' (first | (with_reducible exact Below.refl _ _) | (with_reducible assumption) | (with_reducible refine bdrewN _ ?_) | (with_reducible refine Below.alloc ?_ ?_ _) | (with_reducible refine Below.drew ?_) | go_size))) a0 a1 a2 a3 b0 b1 b2 b3 z_a z2
  clear hK K
  try simp only [Act.put, List.setIfInBounds_toArray, List.set_cons_zero, List.set_cons_succ]
  refine wpAnyH_take (i := 3) (oi := ({ dst := some 26, op := Op.index 43 (Operand.tmp 23) (Operand.tmp 25), type := 42, pos := "value.go:46", after := #[{ on := 0, ground := Ground.data }, { on := 2, ground := Ground.data }], guard := none } : Oper)) (v := ?yv5) rfl (by kernel_rfl) (by kernel_rfl) (by kernel_rfl) (fun _ _ _ h => h) (Or.inl ⟨by rfl, ?yh5⟩) (by assumption) ?yr5
  case yh5 => (intro wq hSw; (try dsimp only at hSw); go_simp; first | done | with_reducible rfl)
  try simp only [Act.put, List.setIfInBounds_toArray, List.set_cons_zero, List.set_cons_succ]
  refine wpAnyH_ready (rs := [6]) (by kernel_rfl) (by simp) ?_
  refine AllReadyH.cons (o := ({ dst := some 29, op := Op.call { callee := Callee.value (Operand.tmp 26), args := #[Operand.tmp 27, Operand.tmp 28], argTypes := #[23, 23] }, type := 3, pos := "value.go:46", after := #[{ on := 3, ground := Ground.data }, { on := 4, ground := Ground.data }, { on := 5, ground := Ground.data }, { on := 0, ground := Ground.chain }], guard := none } : Oper)) rfl (fun K hK => ?_) AllReadyH.nil
  go_simp
  refine (by_worth n d s n' d' s' _ h1 h2 g1 g2 h1' h2' g1' g2').mono ?_
  rintro e w5 ⟨rfl, hb5⟩
  obtain ⟨hc5, hf5, hz5, hB5, hn5, hm5⟩ := bg (n := w2.heap.size) (W0 := w2) (by repeat' (first | (with_reducible exact Below.refl _ _) | (with_reducible assumption) | (with_reducible refine bdrewN _ ?_) | (with_reducible refine Below.alloc ?_ ?_ _) | (with_reducible refine Below.drew ?_) | go_size)) (by go_size) hb5
  clear hm5
  (try go_wp2_with fail)
  refine hK.out _ _ ?_ (fun hHeld => ?_)
  · exact keep8 (show Below w2.heap.size w2 _ from (by repeat' (first | (with_reducible exact Below.refl _ _) | (with_reducible assumption) | (with_reducible refine bdrewN _ ?_) | (with_reducible refine Below.alloc ?_ ?_ _) | (with_reducible refine Below.drew ?_) | go_size))) a0 a1 a2 a3 b0 b1 b2 b3 z_a z2
  clear hK K
  try simp only [Act.put, List.setIfInBounds_toArray, List.set_cons_zero, List.set_cons_succ]
  refine wpAnyH_take (i := 7) (oi := ({ dst := some 4, op := Op.assign (Operand.tmp 29), type := 3, pos := "value.go:46", after := #[{ on := 6, ground := Ground.data }, { on := 6, ground := Ground.chain }, { on := 0, ground := Ground.phase }, { on := 1, ground := Ground.phase }, { on := 2, ground := Ground.phase }, { on := 3, ground := Ground.phase }, { on := 4, ground := Ground.phase }, { on := 5, ground := Ground.phase }, { on := 6, ground := Ground.phase }], guard := none } : Oper)) (v := ?yv6) rfl (by kernel_rfl) (by kernel_rfl) (by kernel_rfl) (fun _ _ _ h => h) (Or.inl ⟨by rfl, ?yh6⟩) (by assumption) ?yr6
  case yh6 => (intro wq hSw; (try dsimp only at hSw); go_simp; first | done | with_reducible rfl)
  try simp only [Act.put, List.setIfInBounds_toArray, List.set_cons_zero, List.set_cons_succ]
  refine wpAnyH_done (by kernel_rfl) ?_ _
  (try go_wp2)
  go_ret
  refine ⟨rfl, up _ ?_⟩
  exact (by repeat' (first | (with_reducible exact Below.refl _ _) | (with_reducible assumption) | (with_reducible refine bdrewN _ ?_) | (with_reducible refine Below.alloc ?_ ?_ _) | (with_reducible refine Below.drew ?_) | go_size))

set_option maxRecDepth 100000 in
set_option maxHeartbeats 2000000 in
theorem cmp_like3 (n d : Int) (s : ByteArray) (n' d' : Int) (s' : ByteArray) (w : World) (h1 : -9223372036854775808 ≤ n) (h2 : n ≤ 9223372036854775807) (g1 : -9223372036854775808 ≤ d) (g2 : d ≤ 9223372036854775807) (h1' : -9223372036854775808 ≤ n') (h2' : n' ≤ 9223372036854775807) (g1' : -9223372036854775808 ≤ d') (g2' : d' ≤ 9223372036854775807) (c1 : chk 3 n d s = 0) (c2 : chk 3 n' d' s' = 0) :
    Calls Tryz.prog 12 #[.agg #[.int .i64 3, .int .i64 n, .int .i64 d, .string s], .agg #[.int .i64 3, .int .i64 n', .int .i64 d', .string s']] w fun e w' => e = .returned (.int .i64 (Lib.compareBytes s.data.toList s'.data.toList)) ∧ Below w.heap.size w w' := by
  have IX := io3
  go_enter Tryz.func12, Tryz.ntmps12
  go_upto_region 1 with fail
  refine wp_world ?_
  intro W0 hW0
  have A0 : Hid (BlkV W0 w.heap.size 3 n d s) := by rw [hW0]; constructor <;> simp (maxDischargeDepth := 12) [go_sem]
  have B0 : Hid (BlkV W0 (w.heap.size + 1) 3 n' d' s') := by rw [hW0]; constructor <;> simp (maxDischargeDepth := 12) [go_sem]
  have z0 : w.heap.size + 1 < W0.heap.size := by rw [hW0]; simp
  have K0 : Below w.heap.size w W0 := by rw [hW0]; go_grown
  clear hW0
  obtain ⟨a0, a1, a2, a3, -, -, -, -⟩ := A0.out
  go_wp2_with fail
  refine (check_any 3 n d s _ h1 h2 g1 g2).mono ?_
  rintro e w1 ⟨rfl, hb1⟩
  rw [c1]
  clear a0 a1 a2 a3
  have A1 : Hid (BlkV w1 w.heap.size 3 n d s) := A0.out.below hb1 (by omega)
  have B1 : Hid (BlkV w1 (w.heap.size + 1) 3 n' d' s') := B0.out.below hb1 z0
  have z1 : w.heap.size + 1 < w1.heap.size := by have := hb1.size; omega
  have K1 : Below w.heap.size w w1 := K0.trans (hb1.mono K0.size)
  clear A0 B0 z0 K0 hb1
  obtain ⟨a0, a1, a2, a3, -, -, -, -⟩ := B1.out
  go_wp2_with fail
  refine (check_any 3 n' d' s' _ h1' h2' g1' g2').mono ?_
  rintro e w2 ⟨rfl, hb2⟩
  rw [c2]
  clear a0 a1 a2 a3
  have A2 : Hid (BlkV w2 w.heap.size 3 n d s) := A1.out.below hb2 (by omega)
  have B2 : Hid (BlkV w2 (w.heap.size + 1) 3 n' d' s') := B1.out.below hb2 z1
  have z2 : w.heap.size + 1 < w2.heap.size := by have := hb2.size; omega
  have K2 : Below w.heap.size w w2 := K1.trans (hb2.mono K1.size)
  clear A1 B1 z1 K1 hb2
  obtain ⟨a0, a1, a2, a3, -, -, -, -⟩ := A2.out
  obtain ⟨b0, b1, b2, b3, -, -, -, -⟩ := B2.out
  have up : ∀ w9, Below w2.heap.size w2 w9 → Below w.heap.size w w9 := fun _ g => K2.trans (g.mono K2.size)
  go_upto_region 5 with fail
  have z_a : w.heap.size < w2.heap.size := by omega
  refine wp_region_held_drew (S := (fun w' => w'.cell? ⟨w.heap.size, 0, none⟩ = some (.int .i64 3) ∧ w'.cell? ⟨w.heap.size, 1, none⟩ = some (.int .i64 n) ∧ w'.cell? ⟨w.heap.size, 2, none⟩ = some (.int .i64 d) ∧ w'.cell? ⟨w.heap.size, 3, none⟩ = some (.string s) ∧ w'.cell? ⟨w.heap.size + 1, 0, none⟩ = some (.int .i64 3) ∧ w'.cell? ⟨w.heap.size + 1, 1, none⟩ = some (.int .i64 n') ∧ w'.cell? ⟨w.heap.size + 1, 2, none⟩ = some (.int .i64 d') ∧ w'.cell? ⟨w.heap.size + 1, 3, none⟩ = some (.string s'))) (by kernel_rfl) ?_ (fun hHeld => ?_)
  · exact keep8 (show Below w2.heap.size w2 _ from (by repeat' (first | (with_reducible exact Below.refl _ _) | (with_reducible assumption) | (with_reducible refine bdrewN _ ?_) | (with_reducible refine Below.alloc ?_ ?_ _) | (with_reducible refine Below.drew ?_) | go_size))) a0 a1 a2 a3 b0 b1 b2 b3 z_a z2
  refine wpAnyH_take (i := 1) (oi := ({ dst := some 24, op := Op.fieldAddr 23 (Operand.tmp 2) 0, type := 0, pos := "value.go:46", after := #[], guard := none } : Oper)) (v := ?yv1) rfl (by kernel_rfl) (by kernel_rfl) (by kernel_rfl) (fun _ _ _ h => h) (Or.inl ⟨by rfl, ?yh1⟩) (by assumption) ?yr1
  case yh1 => (intro wq hSw; (try dsimp only at hSw); go_simp; first | done | with_reducible rfl)
  try simp only [Act.put, List.setIfInBounds_toArray, List.set_cons_zero, List.set_cons_succ]
  refine wpAnyH_take (i := 2) (oi := ({ dst := some 25, op := Op.load 3 (Operand.tmp 24), type := 3, pos := "value.go:46", after := #[{ on := 1, ground := Ground.data }], guard := none } : Oper)) (v := ?yv2) rfl (by kernel_rfl) (by kernel_rfl) (by kernel_rfl) (fun _ _ _ h => h) (Or.inl ⟨by rfl, ?yh2⟩) (by assumption) ?yr2
  case yh2 => (intro wq hSw; (try dsimp only at hSw); go_simp; first | done | with_reducible rfl)
  try simp only [Act.put, List.setIfInBounds_toArray, List.set_cons_zero, List.set_cons_succ]
  refine wpAnyH_take (i := 4) (oi := ({ dst := some 27, op := Op.load 23 (Operand.tmp 2), type := 23, pos := "value.go:46", after := #[], guard := none } : Oper)) (v := ?yv3) rfl (by kernel_rfl) (by kernel_rfl) (by kernel_rfl) (fun _ _ _ h => h) (Or.inl ⟨by rfl, ?yh3⟩) (by assumption) ?yr3
  case yh3 => (intro wq hSw; (try dsimp only at hSw); go_simp; first | done | with_reducible rfl)
  try simp only [Act.put, List.setIfInBounds_toArray, List.set_cons_zero, List.set_cons_succ]
  refine wpAnyH_take (i := 5) (oi := ({ dst := some 28, op := Op.load 23 (Operand.tmp 3), type := 23, pos := "value.go:46", after := #[], guard := none } : Oper)) (v := ?yv4) rfl (by kernel_rfl) (by kernel_rfl) (by kernel_rfl) (fun _ _ _ h => h) (Or.inl ⟨by rfl, ?yh4⟩) (by assumption) ?yr4
  case yh4 => (intro wq hSw; (try dsimp only at hSw); go_simp; first | done | with_reducible rfl)
  try simp only [Act.put, List.setIfInBounds_toArray, List.set_cons_zero, List.set_cons_succ]
  refine wpAnyH_ready (rs := [0]) (by kernel_rfl) (by simp) ?_
  refine AllReadyH.cons (o := ({ dst := some 23, op := Op.call { callee := Callee.value (Operand.func 22), args := #[], argTypes := #[] }, type := 43, pos := "value.go:46", after := #[], guard := none } : Oper)) rfl (fun K hK => ?_) AllReadyH.nil
  go_simp
  refine (otab_ex _).mono ?_
  rintro e wa ⟨rfl, ca0, rfl⟩
  (try go_wp2_with fail)
  refine hK.out _ _ ?_ (fun hHeld => ?_)
  · exact keep8 (show Below w2.heap.size w2 _ from (by repeat' (first | (with_reducible exact Below.refl _ _) | (with_reducible assumption) | (with_reducible refine bdrewN _ ?_) | (with_reducible refine Below.alloc ?_ ?_ _) | (with_reducible refine Below.drew ?_) | go_size))) a0 a1 a2 a3 b0 b1 b2 b3 z_a z2
  clear hK K
  try simp only [Act.put, List.setIfInBounds_toArray, List.set_cons_zero, List.set_cons_succ]
  refine wpAnyH_take (i := 3) (oi := ({ dst := some 26, op := Op.index 43 (Operand.tmp 23) (Operand.tmp 25), type := 42, pos := "value.go:46", after := #[{ on := 0, ground := Ground.data }, { on := 2, ground := Ground.data }], guard := none } : Oper)) (v := ?yv5) rfl (by kernel_rfl) (by kernel_rfl) (by kernel_rfl) (fun _ _ _ h => h) (Or.inl ⟨by rfl, ?yh5⟩) (by assumption) ?yr5
  case yh5 => (intro wq hSw; (try dsimp only at hSw); go_simp; first | done | with_reducible rfl)
  try simp only [Act.put, List.setIfInBounds_toArray, List.set_cons_zero, List.set_cons_succ]
  refine wpAnyH_ready (rs := [6]) (by kernel_rfl) (by simp) ?_
  refine AllReadyH.cons (o := ({ dst := some 29, op := Op.call { callee := Callee.value (Operand.tmp 26), args := #[Operand.tmp 27, Operand.tmp 28], argTypes := #[23, 23] }, type := 3, pos := "value.go:46", after := #[{ on := 3, ground := Ground.data }, { on := 4, ground := Ground.data }, { on := 5, ground := Ground.data }, { on := 0, ground := Ground.chain }], guard := none } : Oper)) rfl (fun K hK => ?_) AllReadyH.nil
  go_simp
  refine (by_bytes 3 n d s 3 n' d' s' _).mono ?_
  rintro e w5 ⟨rfl, hb5⟩
  obtain ⟨hc5, hf5, hz5, hB5, hn5, hm5⟩ := bg (n := w2.heap.size) (W0 := w2) (by repeat' (first | (with_reducible exact Below.refl _ _) | (with_reducible assumption) | (with_reducible refine bdrewN _ ?_) | (with_reducible refine Below.alloc ?_ ?_ _) | (with_reducible refine Below.drew ?_) | go_size)) (by go_size) hb5
  clear hm5
  (try go_wp2_with fail)
  refine hK.out _ _ ?_ (fun hHeld => ?_)
  · exact keep8 (show Below w2.heap.size w2 _ from (by repeat' (first | (with_reducible exact Below.refl _ _) | (with_reducible assumption) | (with_reducible refine bdrewN _ ?_) | (with_reducible refine Below.alloc ?_ ?_ _) | (with_reducible refine Below.drew ?_) | go_size))) a0 a1 a2 a3 b0 b1 b2 b3 z_a z2
  clear hK K
  try simp only [Act.put, List.setIfInBounds_toArray, List.set_cons_zero, List.set_cons_succ]
  refine wpAnyH_take (i := 7) (oi := ({ dst := some 4, op := Op.assign (Operand.tmp 29), type := 3, pos := "value.go:46", after := #[{ on := 6, ground := Ground.data }, { on := 6, ground := Ground.chain }, { on := 0, ground := Ground.phase }, { on := 1, ground := Ground.phase }, { on := 2, ground := Ground.phase }, { on := 3, ground := Ground.phase }, { on := 4, ground := Ground.phase }, { on := 5, ground := Ground.phase }, { on := 6, ground := Ground.phase }], guard := none } : Oper)) (v := ?yv6) rfl (by kernel_rfl) (by kernel_rfl) (by kernel_rfl) (fun _ _ _ h => h) (Or.inl ⟨by rfl, ?yh6⟩) (by assumption) ?yr6
  case yh6 => (intro wq hSw; (try dsimp only at hSw); go_simp; first | done | with_reducible rfl)
  try simp only [Act.put, List.setIfInBounds_toArray, List.set_cons_zero, List.set_cons_succ]
  refine wpAnyH_done (by kernel_rfl) ?_ _
  (try go_wp2)
  go_ret
  refine ⟨rfl, up _ ?_⟩
  exact (by repeat' (first | (with_reducible exact Below.refl _ _) | (with_reducible assumption) | (with_reducible refine bdrewN _ ?_) | (with_reducible refine Below.alloc ?_ ?_ _) | (with_reducible refine Below.drew ?_) | go_size))

theorem vcompare_any (k n d : Int) (s : ByteArray) (k' n' d' : Int) (s' : ByteArray) (w : World) (h1 : -9223372036854775808 ≤ n) (h2 : n ≤ 9223372036854775807) (g1 : -9223372036854775808 ≤ d) (g2 : d ≤ 9223372036854775807) (h1' : -9223372036854775808 ≤ n') (h2' : n' ≤ 9223372036854775807) (g1' : -9223372036854775808 ≤ d') (g2' : d' ≤ 9223372036854775807) :
    Calls Tryz.prog 12 #[.agg #[.int .i64 k, .int .i64 n, .int .i64 d, .string s], .agg #[.int .i64 k', .int .i64 n', .int .i64 d', .string s']] w fun e w' => e = .returned (.int .i64 (vcmp k n d s k' n' d' s')) ∧ Below w.heap.size w w' := by
  by_cases c1 : chk k n d s = 0
  · by_cases c2 : chk k' n' d' s' = 0
    · by_cases hk : k = k'
      · subst hk
        rcases chk_kind c1 with rfl | rfl | rfl
        · have e0 : vcmp 1 n d s 1 n' d' s' = Lib.compareInt n n' := by simp [vcmp, c1, c2]
          rw [e0]
          exact cmp_like1 n d s n' d' s' w h1 h2 g1 g2 h1' h2' g1' g2' c1 c2
        · have e0 : vcmp 2 n d s 2 n' d' s' = cmpV n d n' d' := by simp [vcmp, c1, c2]
          rw [e0]
          exact cmp_like2 n d s n' d' s' w h1 h2 g1 g2 h1' h2' g1' g2' c1 c2
        · have e0 : vcmp 3 n d s 3 n' d' s' = Lib.compareBytes s.data.toList s'.data.toList := by simp [vcmp, c1, c2]
          rw [e0]
          exact cmp_like3 n d s n' d' s' w h1 h2 g1 g2 h1' h2' g1' g2' c1 c2
      · have e0 : vcmp k n d s k' n' d' s' = Lib.compareInt k k' := by simp [vcmp, c1, c2, hk]
        rw [e0]
        exact cmp_unlike k n d s k' n' d' s' w h1 h2 g1 g2 h1' h2' g1' g2' c1 c2 (by simpa using hk)
    · have e0 : vcmp k n d s k' n' d' s' = 0 := by simp [vcmp, c2]
      rw [e0]
      exact cmp_bad2 k n d s k' n' d' s' w h1 h2 g1 g2 h1' h2' g1' g2' _ c1 rfl (by simpa using c2)
  · have e0 : vcmp k n d s k' n' d' s' = 0 := by simp [vcmp, c1]
    rw [e0]
    exact cmp_bad1 k n d s k' n' d' s' w h1 h2 g1 g2 h1' h2' g1' g2' _ rfl (by simpa using c1)

end Go.Proofs.YtedoahibceeklabGreatDoor
