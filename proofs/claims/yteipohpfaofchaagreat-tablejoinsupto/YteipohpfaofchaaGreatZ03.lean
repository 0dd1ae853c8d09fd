/- May a row be one of a table? -/
import Derived.Test.YteipohpfaofchaaGreatZ02
import Derived.Test.YteipohpfaofchaaGreatZ01
import Derived.Deep.DeepCutAuto
import Derived.ArgAppend
import Derived.Laws.OwnMore
import Derived.Deep.RegionHeld3

namespace Go.Proofs.YteipohpfaofchaaGreat
open Go.RowKit Go.Shelf
set_option linter.unusedVariables false

/-- How two values stand to one another. -/
def vcmp (k n d : Int) (s : ByteArray) (k' n' d' : Int) (s' : ByteArray) : Int :=
  if chk k n d s = 0 then (if chk k' n' d' s' = 0 then (if k = k' then (if k = 1 then Lib.compareInt n n' else if k = 2 then cmpV n d n' d' else Lib.compareBytes s.data.toList s'.data.toList) else Lib.compareInt k k') else 0) else 0
theorem chk_kind {k n d : Int} {s : ByteArray} (h : chk k n d s = 0) : k = 1 ∨ k = 2 ∨ k = 3 := by
  by_cases k1 : k = 1
  · exact Or.inl k1
  · by_cases k2 : k = 2
    · exact Or.inr (Or.inl k2)
    · by_cases k3 : k = 3
      · exact Or.inr (Or.inr k3)
      · exfalso
        have e0 : chk k n d s = 20 := by simp [chk, pureB, k1, k2, k3]
        omega

set_option maxRecDepth 100000 in
set_option maxHeartbeats 2000000 in
theorem cmp_bad1 (k n d : Int) (s : ByteArray) (k' n' d' : Int) (s' : ByteArray) (w : World) (h1 : -9223372036854775808 ≤ n) (h2 : n ≤ 9223372036854775807) (g1 : -9223372036854775808 ≤ d) (g2 : d ≤ 9223372036854775807) (h1' : -9223372036854775808 ≤ n') (h2' : n' ≤ 9223372036854775807) (g1' : -9223372036854775808 ≤ d') (g2' : d' ≤ 9223372036854775807) (C : Int) (c1 : chk k n d s = C) (c3 : (C != 0) = true) :
    Calls Tryz.prog 68 #[.agg #[.int .i64 k, .int .i64 n, .int .i64 d, .string s], .agg #[.int .i64 k', .int .i64 n', .int .i64 d', .string s']] w fun e w' => e = .returned (.int .i64 0) ∧ Below w.heap.size w w' := by
  go_enter Tryz.func68, Tryz.ntmps68
  go_upto_region 1 with fail
  refine wp_world ?_
  intro W0 hW0
  have A0 : Hid (BlkV W0 w.heap.size k n d s) := by rw [hW0]; constructor <;> simp (maxDischargeDepth := 12) [go_sem]
  have B0 : Hid (BlkV W0 (w.heap.size + 1) k' n' d' s') := by rw [hW0]; constructor <;> simp (maxDischargeDepth := 12) [go_sem]
  have z0 : w.heap.size + 1 < W0.heap.size := by rw [hW0]; simp
  have K0 : Below w.heap.size w W0 := by rw [hW0]; go_grown
  clear hW0
  obtain ⟨a0, a1, a2, a3, -, -, -, -⟩ := A0.out
  go_wp2_with fail
  refine (check_any k n d s _ h1 h2 g1 g2).mono ?_
  rintro e w1 ⟨rfl, hb1⟩
  rw [c1]
  clear a0 a1 a2 a3
  have A1 : Hid (BlkV w1 w.heap.size k n d s) := A0.out.below hb1 (by omega)
  have B1 : Hid (BlkV w1 (w.heap.size + 1) k' n' d' s') := B0.out.below hb1 z0
  have z1 : w.heap.size + 1 < w1.heap.size := by have := hb1.size; omega
  have K1 : Below w.heap.size w w1 := K0.trans (hb1.mono K0.size)
  clear A0 B0 z0 K0 hb1
  go_wp2
  go_ret
  exact ⟨rfl, K1⟩

set_option maxRecDepth 100000 in
set_option maxHeartbeats 2000000 in
theorem cmp_bad2 (k n d : Int) (s : ByteArray) (k' n' d' : Int) (s' : ByteArray) (w : World) (h1 : -9223372036854775808 ≤ n) (h2 : n ≤ 9223372036854775807) (g1 : -9223372036854775808 ≤ d) (g2 : d ≤ 9223372036854775807) (h1' : -9223372036854775808 ≤ n') (h2' : n' ≤ 9223372036854775807) (g1' : -9223372036854775808 ≤ d') (g2' : d' ≤ 9223372036854775807) (C : Int) (c1 : chk k n d s = 0) (c2 : chk k' n' d' s' = C) (c3 : (C != 0) = true) :
    Calls Tryz.prog 68 #[.agg #[.int .i64 k, .int .i64 n, .int .i64 d, .string s], .agg #[.int .i64 k', .int .i64 n', .int .i64 d', .string s']] w fun e w' => e = .returned (.int .i64 0) ∧ Below w.heap.size w w' := by
  go_enter Tryz.func68, Tryz.ntmps68
  go_upto_region 1 with fail
  refine wp_world ?_
  intro W0 hW0
  have A0 : Hid (BlkV W0 w.heap.size k n d s) := by rw [hW0]; constructor <;> simp (maxDischargeDepth := 12) [go_sem]
  have B0 : Hid (BlkV W0 (w.heap.size + 1) k' n' d' s') := by rw [hW0]; constructor <;> simp (maxDischargeDepth := 12) [go_sem]
  have z0 : w.heap.size + 1 < W0.heap.size := by rw [hW0]; simp
  have K0 : Below w.heap.size w W0 := by rw [hW0]; go_grown
  clear hW0
  obtain ⟨a0, a1, a2, a3, -, -, -, -⟩ := A0.out
  go_wp2_with fail
  refine (check_any k n d s _ h1 h2 g1 g2).mono ?_
  rintro e w1 ⟨rfl, hb1⟩
  rw [c1]
  clear a0 a1 a2 a3
  have A1 : Hid (BlkV w1 w.heap.size k n d s) := A0.out.below hb1 (by omega)
  have B1 : Hid (BlkV w1 (w.heap.size + 1) k' n' d' s') := B0.out.below hb1 z0
  have z1 : w.heap.size + 1 < w1.heap.size := by have := hb1.size; omega
  have K1 : Below w.heap.size w w1 := K0.trans (hb1.mono K0.size)
  clear A0 B0 z0 K0 hb1
  obtain ⟨a0, a1, a2, a3, -, -, -, -⟩ := B1.out
  go_wp2_with fail
  refine (check_any k' n' d' s' _ h1' h2' g1' g2').mono ?_
  rintro e w2 ⟨rfl, hb2⟩
  rw [c2]
  clear a0 a1 a2 a3
  have A2 : Hid (BlkV w2 w.heap.size k n d s) := A1.out.below hb2 (by omega)
  have B2 : Hid (BlkV w2 (w.heap.size + 1) k' n' d' s') := B1.out.below hb2 z1
  have z2 : w.heap.size + 1 < w2.heap.size := by have := hb2.size; omega
  have K2 : Below w.heap.size w w2 := K1.trans (hb2.mono K1.size)
  clear A1 B1 z1 K1 hb2
  obtain ⟨a0, a1, a2, a3, -, -, -, -⟩ := A2.out
  obtain ⟨b0, b1, b2, b3, -, -, -, -⟩ := B2.out
  go_wp2
  go_ret
  exact ⟨rfl, K2⟩

set_option maxRecDepth 100000 in
set_option maxHeartbeats 2000000 in
theorem cmp_like1 (n d : Int) (s : ByteArray) (n' d' : Int) (s' : ByteArray) (w : World) (h1 : -9223372036854775808 ≤ n) (h2 : n ≤ 9223372036854775807) (g1 : -9223372036854775808 ≤ d) (g2 : d ≤ 9223372036854775807) (h1' : -9223372036854775808 ≤ n') (h2' : n' ≤ 9223372036854775807) (g1' : -9223372036854775808 ≤ d') (g2' : d' ≤ 9223372036854775807) (c1 : chk 1 n d s = 0) (c2 : chk 1 n' d' s' = 0) :
    Calls Tryz.prog 68 #[.agg #[.int .i64 1, .int .i64 n, .int .i64 d, .string s], .agg #[.int .i64 1, .int .i64 n', .int .i64 d', .string s']] w fun e w' => e = .returned (.int .i64 (Lib.compareInt n n')) ∧ Below w.heap.size w w' := by
  have IX := io1
  go_enter Tryz.func68, Tryz.ntmps68
  go_upto_region 1 with fail
  refine wp_world ?_
  intro W0 hW0
  have A0 : Hid (BlkV W0 w.heap.size 1 n d s) := by rw [hW0]; constructor <;> simp (maxDischargeDepth := 12) [go_sem]
  have B0 : Hid (BlkV W0 (w.heap.size + 1) 1 n' d' s') := by rw [hW0]; constructor <;> simp (maxDischargeDepth := 12) [go_sem]
  have z0 : w.heap.size + 1 < W0.heap.size := by rw [hW0]; simp
  have K0 : Below w.heap.size w W0 := by rw [hW0]; go_grown
  clear hW0
  obtain ⟨a0, a1, a2, a3, -, -, -, -⟩ := A0.out
  go_wp2_with fail
  refine (check_any 1 n d s _ h1 h2 g1 g2).mono ?_
  rintro e w1 ⟨rfl, hb1⟩
  rw [c1]
  clear a0 a1 a2 a3
  have A1 : Hid (BlkV w1 w.heap.size 1 n d s) := A0.out.below hb1 (by omega)
  have B1 : Hid (BlkV w1 (w.heap.size + 1) 1 n' d' s') := B0.out.below hb1 z0
  have z1 : w.heap.size + 1 < w1.heap.size := by have := hb1.size; omega
  have K1 : Below w.heap.size w w1 := K0.trans (hb1.mono K0.size)
  clear A0 B0 z0 K0 hb1
  obtain ⟨a0, a1, a2, a3, -, -, -, -⟩ := B1.out
  go_wp2_with fail
  refine (check_any 1 n' d' s' _ h1' h2' g1' g2').mono ?_
  rintro e w2 ⟨rfl, hb2⟩
  rw [c2]
  clear a0 a1 a2 a3
  have A2 : Hid (BlkV w2 w.heap.size 1 n d s) := A1.out.below hb2 (by omega)
  have B2 : Hid (BlkV w2 (w.heap.size + 1) 1 n' d' s') := B1.out.below hb2 z1
  have z2 : w.heap.size + 1 < w2.heap.size := by have := hb2.size; omega
  have K2 : Below w.heap.size w w2 := K1.trans (hb2.mono K1.size)
  clear A1 B1 z1 K1 hb2
  obtain ⟨a0, a1, a2, a3, -, -, -, -⟩ := A2.out
  obtain ⟨b0, b1, b2, b3, -, -, -, -⟩ := B2.out
  have up : ∀ w9, Below w2.heap.size w2 w9 → Below w.heap.size w w9 := fun _ g => K2.trans (g.mono K2.size)
  go_upto_region 5 with fail
  have z_a : w.heap.size < w2.heap.size := by omega
  refine wp_region_held_drew (S := (fun w' => w'.cell? ⟨w.heap.size, 0, none⟩ = some (.int .i64 1) ∧ w'.cell? ⟨w.heap.size, 1, none⟩ = some (.int .i64 n) ∧ w'.cell? ⟨w.heap.size, 2, none⟩ = some (.int .i64 d) ∧ w'.cell? ⟨w.heap.size, 3, none⟩ = some (.string s) ∧ w'.cell? ⟨w.heap.size + 1, 0, none⟩ = some (.int .i64 1) ∧ w'.cell? ⟨w.heap.size + 1, 1, none⟩ = some (.int .i64 n') ∧ w'.cell? ⟨w.heap.size + 1, 2, none⟩ = some (.int .i64 d') ∧ w'.cell? ⟨w.heap.size + 1, 3, none⟩ = some (.string s'))) (by kernel_rfl) ?_ (fun hHeld => ?_)
  · exact keep8 (show Below w2.heap.size w2 _ from (by repeat' (first | (with_reducible exact Below.refl _ _) | (with_reducible assumption) | (with_reducible refine bdrewN _ ?_) | (with_reducible refine Below.alloc ?_ ?_ _) | (with_reducible refine Below.drew ?_) | go_size))) a0 a1 a2 a3 b0 b1 b2 b3 z_a z2
  refine wpAnyH_take (i := 1) (oi := ({ dst := some 24, op := Op.fieldAddr 47 (Operand.tmp 2) 0, type := 0, pos := "value.go:46", after := #[], guard := none } : Oper)) (v := ?yv1) rfl (by kernel_rfl) (by kernel_rfl) (by kernel_rfl) (fun _ _ _ h => h) (Or.inl ⟨by rfl, ?yh1⟩) (by assumption) ?yr1
  case yh1 => (intro wq hSw; (try dsimp only at hSw); go_simp; first | done | with_reducible rfl)
  try simp only [Act.put, List.setIfInBounds_toArray, List.set_cons_zero, List.set_cons_succ]
  refine wpAnyH_take (i := 2) (oi := ({ dst := some 25, op := Op.load 3 (Operand.tmp 24), type := 3, pos := "value.go:46", after := #[{ on := 1, ground := Ground.data }], guard := none } : Oper)) (v := ?yv2) rfl (by kernel_rfl) (by kernel_rfl) (by kernel_rfl) (fun _ _ _ h => h) (Or.inl ⟨by rfl, ?yh2⟩) (by assumption) ?yr2
  case yh2 => (intro wq hSw; (try dsimp only at hSw); go_simp; first | done | with_reducible rfl)
  try simp only [Act.put, List.setIfInBounds_toArray, List.set_cons_zero, List.set_cons_succ]
  refine wpAnyH_take (i := 4) (oi := ({ dst := some 27, op := Op.load 47 (Operand.tmp 2), type := 47, pos := "value.go:46", after := #[], guard := none } : Oper)) (v := ?yv3) rfl (by kernel_rfl) (by kernel_rfl) (by kernel_rfl) (fun _ _ _ h => h) (Or.inl ⟨by rfl, ?yh3⟩) (by assumption) ?yr3
  case yh3 => (intro wq hSw; (try dsimp only at hSw); go_simp; first | done | with_reducible rfl)
  try simp only [Act.put, List.setIfInBounds_toArray, List.set_cons_zero, List.set_cons_succ]
  refine wpAnyH_take (i := 5) (oi := ({ dst := some 28, op := Op.load 47 (Operand.tmp 3), type := 47, pos := "value.go:46", after := #[], guard := none } : Oper)) (v := ?yv4) rfl (by kernel_rfl) (by kernel_rfl) (by kernel_rfl) (fun _ _ _ h => h) (Or.inl ⟨by rfl, ?yh4⟩) (by assumption) ?yr4
  case yh4 => (intro wq hSw; (try dsimp only at hSw); go_simp; first | done | with_reducible rfl)
  try simp only [Act.put, List.setIfInBounds_toArray, List.set_cons_zero, List.set_cons_succ]
  refine wpAnyH_ready (rs := [0]) (by kernel_rfl) (by simp) ?_
  refine AllReadyH.cons (o := ({ dst := some 23, op := Op.call { callee := Callee.value (Operand.func 102), args := #[], argTypes := #[] }, type := 109, pos := "value.go:46", after := #[], guard := none } : Oper)) rfl (fun K hK => ?_) AllReadyH.nil
  go_simp
  refine (otab_ex _).mono ?_
  rintro e wa ⟨rfl, ca0, rfl⟩
  (try go_wp2_with fail)
  refine hK.out _ _ ?_ (fun hHeld => ?_)
  · exact keep8 (show Below w2.heap.size w2 _ from (by repeat' (first | (with_reducible exact Below.refl _ _) | (with_reducible assumption) | (with_reducible refine bdrewN _ ?_) | (with_reducible refine Below.alloc ?_ ?_ _) | (with_reducible refine Below.drew ?_) | go_size))) a0 a1 a2 a3 b0 b1 b2 b3 z_a z2
  clear hK K
  try simp only [Act.put, List.setIfInBounds_toArray, List.set_cons_zero, List.set_cons_succ]
  refine wpAnyH_take (i := 3) (oi := ({ dst := some 26, op := Op.index 109 (Operand.tmp 23) (Operand.tmp 25), type := 108, pos := "value.go:46", after := #[{ on := 0, ground := Ground.data }, { on := 2, ground := Ground.data }], guard := none } : Oper)) (v := ?yv5) rfl (by kernel_rfl) (by kernel_rfl) (by kernel_rfl) (fun _ _ _ h => h) (Or.inl ⟨by rfl, ?yh5⟩) (by assumption) ?yr5
  case yh5 => (intro wq hSw; (try dsimp only at hSw); go_simp; first | done | with_reducible rfl)
  try simp only [Act.put, List.setIfInBounds_toArray, List.set_cons_zero, List.set_cons_succ]
  refine wpAnyH_ready (rs := [6]) (by kernel_rfl) (by simp) ?_
  refine AllReadyH.cons (o := ({ dst := some 29, op := Op.call { callee := Callee.value (Operand.tmp 26), args := #[Operand.tmp 27, Operand.tmp 28], argTypes := #[47, 47] }, type := 3, pos := "value.go:46", after := #[{ on := 3, ground := Ground.data }, { on := 4, ground := Ground.data }, { on := 5, ground := Ground.data }, { on := 0, ground := Ground.chain }], guard := none } : Oper)) rfl (fun K hK => ?_) AllReadyH.nil
  go_simp
  refine (by_number 1 n d s 1 n' d' s' _).mono ?_
  rintro e w5 ⟨rfl, hb5⟩
  obtain ⟨hc5, hf5, hz5, hB5, hn5, hm5⟩ := bg (n := w2.heap.size) (W0 := w2) (by repeat' (first | (with_reducible exact Below.refl _ _) | (with_reducible assumption) | (with_reducible refine bdrewN _ ?_) | (with_reducible refine Below.alloc ?_ ?_ _) | (with_reducible refine Below.drew ?_) | go_size)) (by go_size) hb5
  clear hm5
  (try go_wp2_with fail)
  refine hK.out _ _ ?_ (fun hHeld => ?_)
  · exact keep8 (show Below w2.heap.size w2 _ from (by repeat' (first | (with_reducible exact Below.refl _ _) | (with_reducible assumption) | (with_reducible refine bdrewN _ ?_) | (with_reducible refine Below.alloc ?_ ?_ _) | (with_reducible refine Below.drew ?_) | go_size))) a0 a1 a2 a3 b0 b1 b2 b3 z_a z2
  clear hK K
  try simp only [Act.put, List.setIfInBounds_toArray, List.set_cons_zero, List.set_cons_succ]
  refine wpAnyH_take (i := 7) (oi := ({ dst := some 4, op := Op.assign (Operand.tmp 29), type := 3, pos := "value.go:46", after := #[{ on := 6, ground := Ground.data }, { on := 6, ground := Ground.chain }, { on := 0, ground := Ground.phase }, { on := 1, ground := Ground.phase }, { on := 2, ground := Ground.phase }, { on := 3, ground := Ground.phase }, { on := 4, ground := Ground.phase }, { on := 5, ground := Ground.phase }, { on := 6, ground := Ground.phase }], guard := none } : Oper)) (v := ?yv6) rfl (by kernel_rfl) (by kernel_rfl) (by kernel_rfl) (fun _ _ _ h => h) (Or.inl ⟨by rfl, ?yh6⟩) (by assumption) ?yr6
  case yh6 => (intro wq hSw; (try dsimp only at hSw); go_simp; first | done | with_reducible rfl)
  try simp only [Act.put, List.setIfInBounds_toArray, List.set_cons_zero, List.set_cons_succ]
  refine wpAnyH_done (by kernel_rfl) ?_ _
  (try go_wp2)
  go_ret
  refine ⟨rfl, up _ ?_⟩
  exact (by repeat' (first | (with_reducible exact Below.refl _ _) | (with_reducible assumption) | (with_reducible refine bdrewN _ ?_) | (with_reducible refine Below.alloc ?_ ?_ _) | (with_reducible refine Below.drew ?_) | go_size))

set_option maxRecDepth 100000 in
set_option maxHeartbeats 2000000 in
theorem cmp_like2 (n d : Int) (s : ByteArray) (n' d' : Int) (s' : ByteArray) (w : World) (h1 : -9223372036854775808 ≤ n) (h2 : n ≤ 9223372036854775807) (g1 : -9223372036854775808 ≤ d) (g2 : d ≤ 9223372036854775807) (h1' : -9223372036854775808 ≤ n') (h2' : n' ≤ 9223372036854775807) (g1' : -9223372036854775808 ≤ d') (g2' : d' ≤ 9223372036854775807) (c1 : chk 2 n d s = 0) (c2 : chk 2 n' d' s' = 0) :
    Calls Tryz.prog 68 #[.agg #[.int .i64 2, .int .i64 n, .int .i64 d, .string s], .agg #[.int .i64 2, .int .i64 n', .int .i64 d', .string s']] w fun e w' => e = .returned (.int .i64 (cmpV n d n' d')) ∧ Below w.heap.size w w' := by
  have IX := io2
  go_enter Tryz.func68, Tryz.ntmps68
  go_upto_region 1 with fail
  refine wp_world ?_
  intro W0 hW0
  have A0 : Hid (BlkV W0 w.heap.size 2 n d s) := by rw [hW0]; constructor <;> simp (maxDischargeDepth := 12) [go_sem]
  have B0 : Hid (BlkV W0 (w.heap.size + 1) 2 n' d' s') := by rw [hW0]; constructor <;> simp (maxDischargeDepth := 12) [go_sem]
  have z0 : w.heap.size + 1 < W0.heap.size := by rw [hW0]; simp
  have K0 : Below w.heap.size w W0 := by rw [hW0]; go_grown
  clear hW0
  obtain ⟨a0, a1, a2, a3, -, -, -, -⟩ := A0.out
  go_wp2_with fail
  refine (check_any 2 n d s _ h1 h2 g1 g2).mono ?_
  rintro e w1 ⟨rfl, hb1⟩
  rw [c1]
  clear a0 a1 a2 a3
  have A1 : Hid (BlkV w1 w.heap.size 2 n d s) := A0.out.below hb1 (by omega)
  have B1 : Hid (BlkV w1 (w.heap.size + 1) 2 n' d' s') := B0.out.below hb1 z0
  have z1 : w.heap.size + 1 < w1.heap.size := by have := hb1.size; omega
  have K1 : Below w.heap.size w w1 := K0.trans (hb1.mono K0.size)
  clear A0 B0 z0 K0 hb1
  obtain ⟨a0, a1, a2, a3, -, -, -, -⟩ := B1.out
  go_wp2_with fail
  refine (check_any 2 n' d' s' _ h1' h2' g1' g2').mono ?_
  rintro e w2 ⟨rfl, hb2⟩
  rw [c2]
  clear a0 a1 a2 a3
  have A2 : Hid (BlkV w2 w.heap.size 2 n d s) := A1.out.below hb2 (by omega)
  have B2 : Hid (BlkV w2 (w.heap.size + 1) 2 n' d' s') := B1.out.below hb2 z1
  have z2 : w.heap.size + 1 < w2.heap.size := by have := hb2.size; omega
  have K2 : Below w.heap.size w w2 := K1.trans (hb2.mono K1.size)
  clear A1 B1 z1 K1 hb2
  obtain ⟨a0, a1, a2, a3, -, -, -, -⟩ := A2.out
  obtain ⟨b0, b1, b2, b3, -, -, -, -⟩ := B2.out
  have up : ∀ w9, Below w2.heap.size w2 w9 → Below w.heap.size w w9 := fun _ g => K2.trans (g.mono K2.size)
  go_upto_region 5 with fail
  have z_a : w.heap.size < w2.heap.size := by omega
  refine wp_region_held_drew (S := (fun w' => w'.cell? ⟨w.heap.size, 0, none⟩ = some (.int .i64 2) ∧ w'.cell? ⟨w.heap.size, 1, none⟩ = some (.int .i64 n) ∧ w'.cell? ⟨w.heap.size, 2, none⟩ = some (.int .i64 d) ∧ w'.cell? ⟨w.heap.size, 3, none⟩ = some (.string s) ∧ w'.cell? ⟨w.heap.size + 1, 0, none⟩ = some (.int .i64 2) ∧ w'.cell? ⟨w.heap.size + 1, 1, none⟩ = some (.int .i64 n') ∧ w'.cell? ⟨w.heap.size + 1, 2, none⟩ = some (.int .i64 d') ∧ w'.cell? ⟨w.heap.size + 1, 3, none⟩ = some (.string s'))) (by kernel_rfl) ?_ (fun hHeld => ?_)
  · exact keep8 (show Below w2.heap.size w2 _ from (by repeat' (first | (with_reducible exact Below.refl _ _) | (with_reducible assumption) | (with_reducible refine bdrewN _ ?_) | (with_reducible refine Below.alloc ?_ ?_ _) | (with_reducible refine Below.drew ?_) | go_size))) a0 a1 a2 a3 b0 b1 b2 b3 z_a z2
  refine wpAnyH_take (i := 1) (oi := ({ dst := some 24, op := Op.fieldAddr 47 (Operand.tmp 2) 0, type := 0, pos := "value.go:46", after := #[], guard := none } : Oper)) (v := ?yv1) rfl (by kernel_rfl) (by kernel_rfl) (by kernel_rfl) (fun _ _ _ h => h) (Or.inl ⟨by rfl, ?yh1⟩) (by assumption) ?yr1
  case yh1 => (intro wq hSw; (try dsimp only at hSw); go_simp; first | done | with_reducible rfl)
  try simp only [Act.put, List.setIfInBounds_toArray, List.set_cons_zero, List.set_cons_succ]
  refine wpAnyH_take (i := 2) (oi := ({ dst := some 25, op := Op.load 3 (Operand.tmp 24), type := 3, pos := "value.go:46", after := #[{ on := 1, ground := Ground.data }], guard := none } : Oper)) (v := ?yv2) rfl (by kernel_rfl) (by kernel_rfl) (by kernel_rfl) (fun _ _ _ h => h) (Or.inl ⟨by rfl, ?yh2⟩) (by assumption) ?yr2
  case yh2 => (intro wq hSw; (try dsimp only at hSw); go_simp; first | done | with_reducible rfl)
  try simp only [Act.put, List.setIfInBounds_toArray, List.set_cons_zero, List.set_cons_succ]
  refine wpAnyH_take (i := 4) (oi := ({ dst := some 27, op := Op.load 47 (Operand.tmp 2), type := 47, pos := "value.go:46", after := #[], guard := none } : Oper)) (v := ?yv3) rfl (by kernel_rfl) (by kernel_rfl) (by kernel_rfl) (fun _ _ _ h => h) (Or.inl ⟨by rfl, ?yh3⟩) (by assumption) ?yr3
  case yh3 => (intro wq hSw; (try dsimp only at hSw); go_simp; first | done | with_reducible rfl)
  try simp only [Act.put, List.setIfInBounds_toArray, List.set_cons_zero, List.set_cons_succ]
  refine wpAnyH_take (i := 5) (oi := ({ dst := some 28, op := Op.load 47 (Operand.tmp 3), type := 47, pos := "value.go:46", after := #[], guard := none } : Oper)) (v := ?yv4) rfl (by kernel_rfl) (by kernel_rfl) (by kernel_rfl) (fun _ _ _ h => h) (Or.inl ⟨by rfl, ?yh4⟩) (by assumption) ?yr4
  case yh4 => (intro wq hSw; (try dsimp only at hSw); go_simp; first | done | with_reducible rfl)
  try simp only [Act.put, List.setIfInBounds_toArray, List.set_cons_zero, List.set_cons_succ]
  refine wpAnyH_ready (rs := [0]) (by kernel_rfl) (by simp) ?_
  refine AllReadyH.cons (o := ({ dst := some 23, op := Op.call { callee := Callee.value (Operand.func 102), args := #[], argTypes := #[] }, type := 109, pos := "value.go:46", after := #[], guard := none } : Oper)) rfl (fun K hK => ?_) AllReadyH.nil
  go_simp
  refine (otab_ex _).mono ?_
  rintro e wa ⟨rfl, ca0, rfl⟩
  (try go_wp2_with fail)
  refine hK.out _ _ ?_ (fun hHeld => ?_)
  · exact keep8 (show Below w2.heap.size w2 _ from (by repeat' (first | (with_reducible exact Below.refl _ _) | (with_reducible assumption) | (with_reducible refine bdrewN _ ?_) | (with_reducible refine Below.alloc ?_ ?_ _) | (with_reducible refine Below.drew ?_) | go_size))) a0 a1 a2 a3 b0 b1 b2 b3 z_a z2
  clear hK K
  try simp only [Act.put, List.setIfInBounds_toArray, List.set_cons_zero, List.set_cons_succ]
  refine wpAnyH_take (i := 3) (oi := ({ dst := some 26, op := Op.index 109 (Operand.tmp 23) (Operand.tmp 25), type := 108, pos := "value.go:46", after := #[{ on := 0, ground := Ground.data }, { on := 2, ground := Ground.data }], guard := none } : Oper)) (v := ?yv5) rfl (by kernel_rfl) (by kernel_rfl) (by kernel_rfl) (fun _ _ _ h => h) (Or.inl ⟨by rfl, ?yh5⟩) (by assumption) ?yr5
  case yh5 => (intro wq hSw; (try dsimp only at hSw); go_simp; first | done | with_reducible rfl)
  try simp only [Act.put, List.setIfInBounds_toArray, List.set_cons_zero, List.set_cons_succ]
  refine wpAnyH_ready (rs := [6]) (by kernel_rfl) (by simp) ?_
  refine AllReadyH.cons (o := ({ dst := some 29, op := Op.call { callee := Callee.value (Operand.tmp 26), args := #[Operand.tmp 27, Operand.tmp 28], argTypes := #[47, 47] }, type := 3, pos := "value.go:46", after := #[{ on := 3, ground := Ground.data }, { on := 4, ground := Ground.data }, { on := 5, ground := Ground.data }, { on := 0, ground := Ground.chain }], guard := none } : Oper)) rfl (fun K hK => ?_) AllReadyH.nil
  go_simp
  refine (by_worth n d s n' d' s' _ h1 h2 g1 g2 h1' h2' g1' g2').mono ?_
  rintro e w5 ⟨rfl, hb5⟩
  obtain ⟨hc5, hf5, hz5, hB5, hn5, hm5⟩ := bg (n := w2.heap.size) (W0 := w2) (by repeat' (first | (with_reducible exact Below.refl _ _) | (with_reducible assumption) | (with_reducible refine bdrewN _ ?_) | (with_reducible refine Below.alloc ?_ ?_ _) | (with_reducible refine Below.drew ?_) | go_size)) (by go_size) hb5
  clear hm5
  (try go_wp2_with fail)
  refine hK.out _ _ ?_ (fun hHeld => ?_)
  · exact keep8 (show Below w2.heap.size w2 _ from (by repeat' (first | (with_reducible exact Below.refl _ _) | (with_reducible assumption) | (with_reducible refine bdrewN _ ?_) | (with_reducible refine Below.alloc ?_ ?_ _) | (with_reducible refine Below.drew ?_) | go_size))) a0 a1 a2 a3 b0 b1 b2 b3 z_a z2
  clear hK K
  try simp only [Act.put, List.setIfInBounds_toArray, List.set_cons_zero, List.set_cons_succ]
  refine wpAnyH_take (i := 7) (oi := ({ dst := some 4, op := Op.assign (Operand.tmp 29), type := 3, pos := "value.go:46", after := #[{ on := 6, ground := Ground.data }, { on := 6, ground := Ground.chain }, { on := 0, ground := Ground.phase }, { on := 1, ground := Ground.phase }, { on := 2, ground := Ground.phase }, { on := 3, ground := Ground.phase }, { on := 4, ground := Ground.phase }, { on := 5, ground := Ground.phase }, { on := 6, ground := Ground.phase }], guard := none } : Oper)) (v := ?yv6) rfl (by kernel_rfl) (by kernel_rfl) (by kernel_rfl) (fun _ _ _ h => h) (Or.inl ⟨by rfl, ?yh6⟩) (by assumption) ?yr6
  case yh6 => (intro wq hSw; (try dsimp only at hSw); go_simp; first | done | with_reducible rfl)
  try simp only [Act.put, List.setIfInBounds_toArray, List.set_cons_zero, List.set_cons_succ]
  refine wpAnyH_done (by kernel_rfl) ?_ _
  (try go_wp2)
  go_ret
  refine ⟨rfl, up _ ?_⟩
  exact (by repeat' (first | (with_reducible exact Below.refl _ _) | (with_reducible assumption) | (with_reducible refine bdrewN _ ?_) | (with_reducible refine Below.alloc ?_ ?_ _) | (with_reducible refine Below.drew ?_) | go_size))

set_option maxRecDepth 100000 in
set_option maxHeartbeats 2000000 in
theorem cmp_like3 (n d : Int) (s : ByteArray) (n' d' : Int) (s' : ByteArray) (w : World) (h1 : -9223372036854775808 ≤ n) (h2 : n ≤ 9223372036854775807) (g1 : -9223372036854775808 ≤ d) (g2 : d ≤ 9223372036854775807) (h1' : -9223372036854775808 ≤ n') (h2' : n' ≤ 9223372036854775807) (g1' : -9223372036854775808 ≤ d') (g2' : d' ≤ 9223372036854775807) (c1 : chk 3 n d s = 0) (c2 : chk 3 n' d' s' = 0) :
    Calls Tryz.prog 68 #[.agg #[.int .i64 3, .int .i64 n, .int .i64 d, .string s], .agg #[.int .i64 3, .int .i64 n', .int .i64 d', .string s']] w fun e w' => e = .returned (.int .i64 (Lib.compareBytes s.data.toList s'.data.toList)) ∧ Below w.heap.size w w' := by
  have IX := io3
  go_enter Tryz.func68, Tryz.ntmps68
  go_upto_region 1 with fail
  refine wp_world ?_
  intro W0 hW0
  have A0 : Hid (BlkV W0 w.heap.size 3 n d s) := by rw [hW0]; constructor <;> simp (maxDischargeDepth := 12) [go_sem]
  have B0 : Hid (BlkV W0 (w.heap.size + 1) 3 n' d' s') := by rw [hW0]; constructor <;> simp (maxDischargeDepth := 12) [go_sem]
  have z0 : w.heap.size + 1 < W0.heap.size := by rw [hW0]; simp
  have K0 : Below w.heap.size w W0 := by rw [hW0]; go_grown
  clear hW0
  obtain ⟨a0, a1, a2, a3, -, -, -, -⟩ := A0.out
  go_wp2_with fail
  refine (check_any 3 n d s _ h1 h2 g1 g2).mono ?_
  rintro e w1 ⟨rfl, hb1⟩
  rw [c1]
  clear a0 a1 a2 a3
  have A1 : Hid (BlkV w1 w.heap.size 3 n d s) := A0.out.below hb1 (by omega)
  have B1 : Hid (BlkV w1 (w.heap.size + 1) 3 n' d' s') := B0.out.below hb1 z0
  have z1 : w.heap.size + 1 < w1.heap.size := by have := hb1.size; omega
  have K1 : Below w.heap.size w w1 := K0.trans (hb1.mono K0.size)
  clear A0 B0 z0 K0 hb1
  obtain ⟨a0, a1, a2, a3, -, -, -, -⟩ := B1.out
  go_wp2_with fail
  refine (check_any 3 n' d' s' _ h1' h2' g1' g2').mono ?_
  rintro e w2 ⟨rfl, hb2⟩
  rw [c2]
  clear a0 a1 a2 a3
  have A2 : Hid (BlkV w2 w.heap.size 3 n d s) := A1.out.below hb2 (by omega)
  have B2 : Hid (BlkV w2 (w.heap.size + 1) 3 n' d' s') := B1.out.below hb2 z1
  have z2 : w.heap.size + 1 < w2.heap.size := by have := hb2.size; omega
  have K2 : Below w.heap.size w w2 := K1.trans (hb2.mono K1.size)
  clear A1 B1 z1 K1 hb2
  obtain ⟨a0, a1, a2, a3, -, -, -, -⟩ := A2.out
  obtain ⟨b0, b1, b2, b3, -, -, -, -⟩ := B2.out
  have up : ∀ w9, Below w2.heap.size w2 w9 → Below w.heap.size w w9 := fun _ g => K2.trans (g.mono K2.size)
  go_upto_region 5 with fail
  have z_a : w.heap.size < w2.heap.size := by omega
  refine wp_region_held_drew (S := (fun w' => w'.cell? ⟨w.heap.size, 0, none⟩ = some (.int .i64 3) ∧ w'.cell? ⟨w.heap.size, 1, none⟩ = some (.int .i64 n) ∧ w'.cell? ⟨w.heap.size, 2, none⟩ = some (.int .i64 d) ∧ w'.cell? ⟨w.heap.size, 3, none⟩ = some (.string s) ∧ w'.cell? ⟨w.heap.size + 1, 0, none⟩ = some (.int .i64 3) ∧ w'.cell? ⟨w.heap.size + 1, 1, none⟩ = some (.int .i64 n') ∧ w'.cell? ⟨w.heap.size + 1, 2, none⟩ = some (.int .i64 d') ∧ w'.cell? ⟨w.heap.size + 1, 3, none⟩ = some (.string s'))) (by kernel_rfl) ?_ (fun hHeld => ?_)
  · exact keep8 (show Below w2.heap.size w2 _ from (by repeat' (first | (with_reducible exact Below.refl _ _) | (with_reducible assumption) | (with_reducible refine bdrewN _ ?_) | (with_reducible refine Below.alloc ?_ ?_ _) | (with_reducible refine Below.drew ?_) | go_size))) a0 a1 a2 a3 b0 b1 b2 b3 z_a z2
  refine wpAnyH_take (i := 1) (oi := ({ dst := some 24, op := Op.fieldAddr 47 (Operand.tmp 2) 0, type := 0, pos := "value.go:46", after := #[], guard := none } : Oper)) (v := ?yv1) rfl (by kernel_rfl) (by kernel_rfl) (by kernel_rfl) (fun _ _ _ h => h) (Or.inl ⟨by rfl, ?yh1⟩) (by assumption) ?yr1
  case yh1 => (intro wq hSw; (try dsimp only at hSw); go_simp; first | done | with_reducible rfl)
  try simp only [Act.put, List.setIfInBounds_toArray, List.set_cons_zero, List.set_cons_succ]
  refine wpAnyH_take (i := 2) (oi := ({ dst := some 25, op := Op.load 3 (Operand.tmp 24), type := 3, pos := "value.go:46", after := #[{ on := 1, ground := Ground.data }], guard := none } : Oper)) (v := ?yv2) rfl (by kernel_rfl) (by kernel_rfl) (by kernel_rfl) (fun _ _ _ h => h) (Or.inl ⟨by rfl, ?yh2⟩) (by assumption) ?yr2
  case yh2 => (intro wq hSw; (try dsimp only at hSw); go_simp; first | done | with_reducible rfl)
  try simp only [Act.put, List.setIfInBounds_toArray, List.set_cons_zero, List.set_cons_succ]
  refine wpAnyH_take (i := 4) (oi := ({ dst := some 27, op := Op.load 47 (Operand.tmp 2), type := 47, pos := "value.go:46", after := #[], guard := none } : Oper)) (v := ?yv3) rfl (by kernel_rfl) (by kernel_rfl) (by kernel_rfl) (fun _ _ _ h => h) (Or.inl ⟨by rfl, ?yh3⟩) (by assumption) ?yr3
  case yh3 => (intro wq hSw; (try dsimp only at hSw); go_simp; first | done | with_reducible rfl)
  try simp only [Act.put, List.setIfInBounds_toArray, List.set_cons_zero, List.set_cons_succ]
  refine wpAnyH_take (i := 5) (oi := ({ dst := some 28, op := Op.load 47 (Operand.tmp 3), type := 47, pos := "value.go:46", after := #[], guard := none } : Oper)) (v := ?yv4) rfl (by kernel_rfl) (by kernel_rfl) (by kernel_rfl) (fun _ _ _ h => h) (Or.inl ⟨by rfl, ?yh4⟩) (by assumption) ?yr4
  case yh4 => (intro wq hSw; (try dsimp only at hSw); go_simp; first | done | with_reducible rfl)
  try simp only [Act.put, List.setIfInBounds_toArray, List.set_cons_zero, List.set_cons_succ]
  refine wpAnyH_ready (rs := [0]) (by kernel_rfl) (by simp) ?_
  refine AllReadyH.cons (o := ({ dst := some 23, op := Op.call { callee := Callee.value (Operand.func 102), args := #[], argTypes := #[] }, type := 109, pos := "value.go:46", after := #[], guard := none } : Oper)) rfl (fun K hK => ?_) AllReadyH.nil
  go_simp
  refine (otab_ex _).mono ?_
  rintro e wa ⟨rfl, ca0, rfl⟩
  (try go_wp2_with fail)
  refine hK.out _ _ ?_ (fun hHeld => ?_)
  · exact keep8 (show Below w2.heap.size w2 _ from (by repeat' (first | (with_reducible exact Below.refl _ _) | (with_reducible assumption) | (with_reducible refine bdrewN _ ?_) | (with_reducible refine Below.alloc ?_ ?_ _) | (with_reducible refine Below.drew ?_) | go_size))) a0 a1 a2 a3 b0 b1 b2 b3 z_a z2
  clear hK K
  try simp only [Act.put, List.setIfInBounds_toArray, List.set_cons_zero, List.set_cons_succ]
  refine wpAnyH_take (i := 3) (oi := ({ dst := some 26, op := Op.index 109 (Operand.tmp 23) (Operand.tmp 25), type := 108, pos := "value.go:46", after := #[{ on := 0, ground := Ground.data }, { on := 2, ground := Ground.data }], guard := none } : Oper)) (v := ?yv5) rfl (by kernel_rfl) (by kernel_rfl) (by kernel_rfl) (fun _ _ _ h => h) (Or.inl ⟨by rfl, ?yh5⟩) (by assumption) ?yr5
  case yh5 => (intro wq hSw; (try dsimp only at hSw); go_simp; first | done | with_reducible rfl)
  try simp only [Act.put, List.setIfInBounds_toArray, List.set_cons_zero, List.set_cons_succ]
  refine wpAnyH_ready (rs := [6]) (by kernel_rfl) (by simp) ?_
  refine AllReadyH.cons (o := ({ dst := some 29, op := Op.call { callee := Callee.value (Operand.tmp 26), args := #[Operand.tmp 27, Operand.tmp 28], argTypes := #[47, 47] }, type := 3, pos := "value.go:46", after := #[{ on := 3, ground := Ground.data }, { on := 4, ground := Ground.data }, { on := 5, ground := Ground.data }, { on := 0, ground := Ground.chain }], guard := none } : Oper)) rfl (fun K hK => ?_) AllReadyH.nil
  go_simp
  refine (by_bytes 3 n d s 3 n' d' s' _).mono ?_
  rintro e w5 ⟨rfl, hb5⟩
  obtain ⟨hc5, hf5, hz5, hB5, hn5, hm5⟩ := bg (n := w2.heap.size) (W0 := w2) (by repeat' (first | (with_reducible exact Below.refl _ _) | (with_reducible assumption) | (with_reducible refine bdrewN _ ?_) | (with_reducible refine Below.alloc ?_ ?_ _) | (with_reducible refine Below.drew ?_) | go_size)) (by go_size) hb5
  clear hm5
  (try go_wp2_with fail)
  refine hK.out _ _ ?_ (fun hHeld => ?_)
  · exact keep8 (show Below w2.heap.size w2 _ from (by repeat' (first | (with_reducible exact Below.refl _ _) | (with_reducible assumption) | (with_reducible refine bdrewN _ ?_) | (with_reducible refine Below.alloc ?_ ?_ _) | (with_reducible refine Below.drew ?_) | go_size))) a0 a1 a2 a3 b0 b1 b2 b3 z_a z2
  clear hK K
  try simp only [Act.put, List.setIfInBounds_toArray, List.set_cons_zero, List.set_cons_succ]
  refine wpAnyH_take (i := 7) (oi := ({ dst := some 4, op := Op.assign (Operand.tmp 29), type := 3, pos := "value.go:46", after := #[{ on := 6, ground := Ground.data }, { on := 6, ground := Ground.chain }, { on := 0, ground := Ground.phase }, { on := 1, ground := Ground.phase }, { on := 2, ground := Ground.phase }, { on := 3, ground := Ground.phase }, { on := 4, ground := Ground.phase }, { on := 5, ground := Ground.phase }, { on := 6, ground := Ground.phase }], guard := none } : Oper)) (v := ?yv6) rfl (by kernel_rfl) (by kernel_rfl) (by kernel_rfl) (fun _ _ _ h => h) (Or.inl ⟨by rfl, ?yh6⟩) (by assumption) ?yr6
  case yh6 => (intro wq hSw; (try dsimp only at hSw); go_simp; first | done | with_reducible rfl)
  try simp only [Act.put, List.setIfInBounds_toArray, List.set_cons_zero, List.set_cons_succ]
  refine wpAnyH_done (by kernel_rfl) ?_ _
  (try go_wp2)
  go_ret
  refine ⟨rfl, up _ ?_⟩
  exact (by repeat' (first | (with_reducible exact Below.refl _ _) | (with_reducible assumption) | (with_reducible refine bdrewN _ ?_) | (with_reducible refine Below.alloc ?_ ?_ _) | (with_reducible refine Below.drew ?_) | go_size))

theorem vcompare_any (k n d : Int) (s : ByteArray) (k' n' d' : Int) (s' : ByteArray) (w : World) (h1 : -9223372036854775808 ≤ n) (h2 : n ≤ 9223372036854775807) (g1 : -9223372036854775808 ≤ d) (g2 : d ≤ 9223372036854775807) (h1' : -9223372036854775808 ≤ n') (h2' : n' ≤ 9223372036854775807) (g1' : -9223372036854775808 ≤ d') (g2' : d' ≤ 9223372036854775807) :
    Calls Tryz.prog 68 #[.agg #[.int .i64 k, .int .i64 n, .int .i64 d, .string s], .agg #[.int .i64 k', .int .i64 n', .int .i64 d', .string s']] w fun e w' => e = .returned (.int .i64 (vcmp k n d s k' n' d' s')) ∧ Below w.heap.size w w' := by
  by_cases c1 : chk k n d s = 0
  · by_cases c2 : chk k' n' d' s' = 0
    · by_cases hk : k = k'
      · subst hk
        rcases chk_kind c1 with rfl | rfl | rfl
        · have e0 : vcmp 1 n d s 1 n' d' s' = Lib.compareInt n n' := by simp [vcmp, c1, c2]
          rw [e0]
          exact cmp_like1 n d s n' d' s' w h1 h2 g1 g2 h1' h2' g1' g2' c1 c2
        · have e0 : vcmp 2 n d s 2 n' d' s' = cmpV n d n' d' := by simp [vcmp, c1, c2]
          rw [e0]
          exact cmp_like2 n d s n' d' s' w h1 h2 g1 g2 h1' h2' g1' g2' c1 c2
        · have e0 : vcmp 3 n d s 3 n' d' s' = Lib.compareBytes s.data.toList s'.data.toList := by simp [vcmp, c1, c2]
          rw [e0]
          exact cmp_like3 n d s n' d' s' w h1 h2 g1 g2 h1' h2' g1' g2' c1 c2
      · have e0 : vcmp k n d s k' n' d' s' = Lib.compareInt k k' := by simp [vcmp, c1, c2, hk]
        rw [e0]
        exact cmp_unlike k n d s k' n' d' s' w h1 h2 g1 g2 h1' h2' g1' g2' c1 c2 (by simpa using hk)
    · have e0 : vcmp k n d s k' n' d' s' = 0 := by simp [vcmp, c2]
      rw [e0]
      exact cmp_bad2 k n d s k' n' d' s' w h1 h2 g1 g2 h1' h2' g1' g2' _ c1 rfl (by simpa using c2)
  · have e0 : vcmp k n d s k' n' d' s' = 0 := by simp [vcmp, c1]
    rw [e0]
    exact cmp_bad1 k n d s k' n' d' s' w h1 h2 g1 g2 h1' h2' g1' g2' _ rfl (by simpa using c1)

end Go.Proofs.YteipohpfaofchaaGreat

namespace Go.Proofs.YteipohpfaofchaaGreat
open Go.RowKit Go.Shelf
set_option linter.unusedVariables false

theorem ocmp_yes {a b c d : Int} (h1 : mayB a b = true) (h2 : mayB c d = true) : cmpV a b c d = if a * d < c * b then -1 else if c * b < a * d then 1 else 0 := by simp [cmpV, both, h1, h2]
theorem ocmp_cases {a b c d : Int} (h1 : mayB a b = true) (h2 : mayB c d = true) : (cmpV a b c d = -1 ∧ a * d < c * b) ∨ (cmpV a b c d = 0 ∧ a * d = c * b) ∨ (cmpV a b c d = 1 ∧ c * b < a * d) := by
  rw [ocmp_yes h1 h2]
  by_cases h3 : a * d < c * b
  · exact Or.inl ⟨if_pos h3, h3⟩
  · rw [if_neg h3]
    by_cases h4 : c * b < a * d
    · exact Or.inr (Or.inr ⟨if_pos h4, h4⟩)
    · exact Or.inr (Or.inl ⟨if_neg h4, by omega⟩)

theorem oon_law {a b c d u v : Int} (h1 : mayB a b = true) (h2 : mayB c d = true) (h3 : mayB u v = true) (hab : cmpV a b c d ≤ 0) (hbc : cmpV c d u v ≤ 0) :
    cmpV a b u v ≤ 0 ∧ ((cmpV a b c d = 0 ∧ cmpV c d u v = 0) ↔ cmpV a b u v = 0) := by
  obtain ⟨pb, _⟩ := may_of h1
  obtain ⟨pd, _⟩ := may_of h2
  obtain ⟨pv, _⟩ := may_of h3
  have k1 : a * d ≤ c * b := by rcases ocmp_cases h1 h2 with ⟨e, h⟩ | ⟨e, h⟩ | ⟨e, h⟩ <;> omega
  have k2 : c * v ≤ u * d := by rcases ocmp_cases h2 h3 with ⟨e, h⟩ | ⟨e, h⟩ | ⟨e, h⟩ <;> omega
  have l1 := Int.mul_le_mul_of_nonneg_right k1 (Int.le_of_lt pv)
  have l2 := Int.mul_le_mul_of_nonneg_right k2 (Int.le_of_lt pb)
  have e1 : c * b * v = c * v * b := by grind
  have e2 : a * d * v = a * v * d := by grind
  have e3 : u * d * b = u * b * d := by grind
  have k3 : a * v * d ≤ u * b * d := by omega
  have k4 : a * v ≤ u * b := Int.le_of_mul_le_mul_right k3 pd
  refine ⟨?_, ?_, ?_⟩
  · rcases ocmp_cases h1 h3 with ⟨e, h⟩ | ⟨e, h⟩ | ⟨e, h⟩ <;> omega
  · rintro ⟨z1, z2⟩
    have m1 : a * d = c * b := by rcases ocmp_cases h1 h2 with ⟨e, h⟩ | ⟨e, h⟩ | ⟨e, h⟩ <;> omega
    have m2 : c * v = u * d := by rcases ocmp_cases h2 h3 with ⟨e, h⟩ | ⟨e, h⟩ | ⟨e, h⟩ <;> omega
    have m3 : a * v * d = u * b * d := by grind
    have m4 : a * v = u * b := Int.eq_of_mul_eq_mul_right (by omega) m3
    rcases ocmp_cases h1 h3 with ⟨e, h⟩ | ⟨e, h⟩ | ⟨e, h⟩ <;> omega
  · intro z
    have m : a * v = u * b := by rcases ocmp_cases h1 h3 with ⟨e, h⟩ | ⟨e, h⟩ | ⟨e, h⟩ <;> omega
    have m3 : a * v * d = u * b * d := by rw [m]
    have n1 : a * d * v = c * b * v := by omega
    have n2 : c * v * b = u * d * b := by omega
    have n3 : a * d = c * b := Int.eq_of_mul_eq_mul_right (by omega) n1
    have n4 : c * v = u * d := Int.eq_of_mul_eq_mul_right (by omega) n2
    constructor
    · rcases ocmp_cases h1 h2 with ⟨e, h⟩ | ⟨e, h⟩ | ⟨e, h⟩ <;> omega
    · rcases ocmp_cases h2 h3 with ⟨e, h⟩ | ⟨e, h⟩ | ⟨e, h⟩ <;> omega

theorem oturn_law {a b c d : Int} (h1 : mayB a b = true) (h2 : mayB c d = true) : cmpV c d a b = -cmpV a b c d := by
  rcases ocmp_cases h1 h2 with ⟨e, h⟩ | ⟨e, h⟩ | ⟨e, h⟩ <;> rcases ocmp_cases h2 h1 with ⟨e', h'⟩ | ⟨e', h'⟩ | ⟨e', h'⟩ <;> omega

/-- Two fractions in their least form that are worth the same are the same. -/
theorem ozero_law {a b c d : Int} (h1 : mayB a b = true) (h2 : mayB c d = true) : cmpV a b c d = 0 ↔ a = c ∧ b = d := by
  obtain ⟨pb, cb⟩ := may_of h1
  obtain ⟨pd, cd⟩ := may_of h2
  constructor
  · intro h
    have m : a * d = c * b := by rcases ocmp_cases h1 h2 with ⟨e, h⟩ | ⟨e, h⟩ | ⟨e, h⟩ <;> omega
    have mb : a.natAbs * d.toNat = c.natAbs * b.toNat := by
      have := congrArg Int.natAbs m
      rw [Int.natAbs_mul, Int.natAbs_mul] at this
      rwa [show d.natAbs = d.toNat by omega, show b.natAbs = b.toNat by omega] at this
    have d1 : b.toNat ∣ d.toNat := cb.symm.dvd_of_dvd_mul_left ⟨c.natAbs, by rw [mb, Nat.mul_comm]⟩
    have d2 : d.toNat ∣ b.toNat := cd.symm.dvd_of_dvd_mul_left ⟨a.natAbs, by rw [← mb, Nat.mul_comm]⟩
    have e : b.toNat = d.toNat := Nat.dvd_antisymm d1 d2
    have e' : b = d := by omega
    subst e'
    exact ⟨Int.eq_of_mul_eq_mul_right (by omega) m, rfl⟩
  · rintro ⟨rfl, rfl⟩
    rcases ocmp_cases h1 h2 with ⟨e, h⟩ | ⟨e, h⟩ | ⟨e, h⟩ <;> omega

theorem cb_range : ∀ (a b : List UInt8), -1 ≤ Lib.compareBytes a b ∧ Lib.compareBytes a b ≤ 1
  | [], [] => by simp [Lib.compareBytes]
  | [], _ :: _ => by simp [Lib.compareBytes]
  | _ :: _, [] => by simp [Lib.compareBytes]
  | x :: a, y :: b => by
    have ih := cb_range a b
    unfold Lib.compareBytes
    split
    · omega
    · split <;> omega
theorem cb_turn : ∀ (a b : List UInt8), Lib.compareBytes b a = -Lib.compareBytes a b
  | [], [] => by simp [Lib.compareBytes]
  | [], _ :: _ => by simp [Lib.compareBytes]
  | _ :: _, [] => by simp [Lib.compareBytes]
  | x :: a, y :: b => by
    have ih := cb_turn a b
    unfold Lib.compareBytes
    by_cases h : x < y
    · have h' : ¬ y < x := UInt8.lt_asymm h
      simp [h, h']
    · by_cases h2 : y < x
      · simp [h, h2]
      · simp [h, h2, ih]
theorem cb_zero : ∀ (a b : List UInt8), Lib.compareBytes a b = 0 ↔ a = b
  | [], [] => by simp [Lib.compareBytes]
  | [], _ :: _ => by simp [Lib.compareBytes]
  | _ :: _, [] => by simp [Lib.compareBytes]
  | x :: a, y :: b => by
    have ih := cb_zero a b
    unfold Lib.compareBytes
    by_cases h : x < y
    · have h' : x ≠ y := UInt8.ne_of_lt h
      simp [h, h']
    · by_cases h2 : y < x
      · have h' : x ≠ y := (UInt8.ne_of_lt h2).symm
        simp [h, h2, h']
      · have e : x = y := UInt8.le_antisymm (UInt8.not_lt.1 h2) (UInt8.not_lt.1 h)
        simp [e, ih]
theorem cb_on : ∀ (a b c : List UInt8), Lib.compareBytes a b ≤ 0 → Lib.compareBytes b c ≤ 0 → Lib.compareBytes a c ≤ 0 ∧ ((Lib.compareBytes a b = 0 ∧ Lib.compareBytes b c = 0) ↔ Lib.compareBytes a c = 0)
  | [], [], [] => by simp [Lib.compareBytes]
  | [], [], _ :: _ => by simp [Lib.compareBytes]
  | [], _ :: _, [] => by simp [Lib.compareBytes]
  | _ :: _, [], _ => by simp [Lib.compareBytes]
  | _ :: _, _ :: _, [] => by simp [Lib.compareBytes]
  | [], y :: b, z :: c => by simp [Lib.compareBytes]
  | x :: a, y :: b, z :: c => by
    have ih := cb_on a b c
    unfold Lib.compareBytes
    rcases Nat.lt_trichotomy x.toNat y.toNat with h | h | h
    · have h1 : x < y := UInt8.lt_iff_toNat_lt.2 h
      rcases Nat.lt_trichotomy y.toNat z.toNat with g | g | g
      · have g1 : y < z := UInt8.lt_iff_toNat_lt.2 g
        have k1 : x < z := UInt8.lt_iff_toNat_lt.2 (by omega)
        simp [h1, g1, k1]
      · have g1 : y = z := UInt8.toNat_inj.1 g
        subst g1
        simp [h1]
      · have g1 : z < y := UInt8.lt_iff_toNat_lt.2 g
        have g2 : ¬ y < z := UInt8.lt_asymm g1
        simp [g1, g2]
    · have h1 : x = y := UInt8.toNat_inj.1 h
      subst h1
      have hi : ¬ x < x := UInt8.lt_irrefl x
      rcases Nat.lt_trichotomy x.toNat z.toNat with g | g | g
      · have g1 : x < z := UInt8.lt_iff_toNat_lt.2 g
        simp [hi, g1]
      · have g1 : x = z := UInt8.toNat_inj.1 g
        subst g1
        simp only [hi, if_false]
        exact ih
      · have g1 : z < x := UInt8.lt_iff_toNat_lt.2 g
        have g2 : ¬ x < z := UInt8.lt_asymm g1
        simp [g1, g2]
    · have h1 : y < x := UInt8.lt_iff_toNat_lt.2 h
      have h2 : ¬ x < y := UInt8.lt_asymm h1
      simp [h1, h2]

theorem toList_data (s : ByteArray) : s.toList = s.data.toList := by simp [ByteArray.toList_eq]

theorem chk1_of {n d : Int} {s : ByteArray} (h : chk 1 n d s = 0) : d = 0 ∧ s.toList = [] := by
  simp only [chk, pureB, if_true] at h
  split at h
  · omega
  · rename_i g
    simp at g
    exact g
theorem chk2_of {n d : Int} {s : ByteArray} (h : chk 2 n d s = 0) : mayB n d = true ∧ s.toList = [] := by
  simp only [chk, pureB, Int.reduceEq, if_false, if_true] at h
  split at h
  · omega
  · rename_i g
    simp at g
    exact g
theorem chk3_of {n d : Int} {s : ByteArray} (h : chk 3 n d s = 0) : n = 0 ∧ d = 0 := by
  simp only [chk, pureB, Int.reduceEq, if_false, if_true] at h
  split at h
  · omega
  · rename_i g
    simp at g
    exact g

/-- A value, as four plain things. -/
structure Val where
  k : Int
  n : Int
  d : Int
  s : ByteArray
/-- May a value be at all: its numbers fit 64 bits. -/
structure Val.Fits (x : Val) : Prop where
  n1 : -9223372036854775808 ≤ x.n
  n2 : x.n ≤ 9223372036854775807
  d1 : -9223372036854775808 ≤ x.d
  d2 : x.d ≤ 9223372036854775807
def Val.may (x : Val) : Int := chk x.k x.n x.d x.s
def Val.cmp (x y : Val) : Int := vcmp x.k x.n x.d x.s y.k y.n y.d y.s
def Val.same (x y : Val) : Bool := sameB x.k x.n x.d x.s y.k y.n y.d y.s

theorem Val.cmp_ok {x y : Val} (h : x.may = 0) (g : y.may = 0) : x.cmp y = if x.k = y.k then (if x.k = 1 then Lib.compareInt x.n y.n else if x.k = 2 then cmpV x.n x.d y.n y.d else Lib.compareBytes x.s.toList y.s.toList) else Lib.compareInt x.k y.k := by
  unfold Val.may at h g
  unfold Val.cmp vcmp
  rw [if_pos h, if_pos g, toList_data, toList_data]

theorem ci_cases (a b : Int) : (Lib.compareInt a b = -1 ∧ a < b) ∨ (Lib.compareInt a b = 0 ∧ a = b) ∨ (Lib.compareInt a b = 1 ∧ b < a) := by
  unfold Lib.compareInt
  rcases Int.lt_trichotomy a b with h | h | h
  · exact Or.inl ⟨if_pos h, h⟩
  · subst h; simp
  · exact Or.inr (Or.inr ⟨by rw [if_neg (by omega), if_pos h], h⟩)

theorem Val.cases {x : Val} (h : x.may = 0) : (x.k = 1 ∧ x.d = 0 ∧ x.s.toList = []) ∨ (x.k = 2 ∧ mayB x.n x.d = true ∧ x.s.toList = []) ∨ (x.k = 3 ∧ x.n = 0 ∧ x.d = 0) := by
  unfold Val.may at h
  rcases chk_kind h with e | e | e
  · rw [e] at h; exact Or.inl ⟨e, chk1_of h⟩
  · rw [e] at h; exact Or.inr (Or.inl ⟨e, chk2_of h⟩)
  · rw [e] at h; exact Or.inr (Or.inr ⟨e, chk3_of h⟩)

theorem Val.range (x y : Val) : -1 ≤ x.cmp y ∧ x.cmp y ≤ 1 := by
  unfold Val.cmp vcmp
  split
  · split
    · split
      · split
        · rcases ci_cases x.n y.n with h | h | h <;> omega
        · split
          · unfold cmpV
            split
            · split
              · omega
              · split <;> omega
            · omega
          · exact cb_range _ _
      · rcases ci_cases x.k y.k with h | h | h <;> omega
    · omega
  · omega

theorem Val.turn {x y : Val} (h : x.may = 0) (g : y.may = 0) : y.cmp x = -x.cmp y := by
  rw [Val.cmp_ok h g, Val.cmp_ok g h]
  by_cases e : x.k = y.k
  · rw [if_pos e, if_pos e.symm]
    rcases Val.cases h with ⟨a, _⟩ | ⟨a, m, _⟩ | ⟨a, _⟩
    · rw [← e, if_pos a, if_pos a]
      rcases ci_cases x.n y.n with h | h | h <;> rcases ci_cases y.n x.n with h' | h' | h' <;> omega
    · rcases Val.cases g with ⟨b, _⟩ | ⟨b, m', _⟩ | ⟨b, _⟩
      · omega
      · rw [← e, a]
        exact oturn_law m m'
      · omega
    · rw [← e, a]
      exact cb_turn _ _
  · rw [if_neg e, if_neg (Ne.symm e)]
    rcases ci_cases x.k y.k with h | h | h <;> rcases ci_cases y.k x.k with h' | h' | h' <;> omega

theorem Val.zero {x y : Val} (h : x.may = 0) (g : y.may = 0) : x.cmp y = 0 ↔ x.same y = true := by
  rw [Val.cmp_ok h g]
  unfold Val.same sameB
  by_cases e : x.k = y.k
  · rw [if_pos e]
    rcases Val.cases h with ⟨a, p, q⟩ | ⟨a, p, q⟩ | ⟨a, p, q⟩ <;> rcases Val.cases g with ⟨b, p', q'⟩ | ⟨b, p', q'⟩ | ⟨b, p', q'⟩ <;> try omega
    · rw [if_pos a, a, b, p, p', q, q']
      rcases ci_cases x.n y.n with h | h | h <;> simp <;> omega
    · rw [a, b, q, q']
      simp only [Int.reduceEq, if_false, if_true]
      rw [ozero_law p p']
      simp
    · rw [a, b, p, p', q, q']
      simp only [Int.reduceEq, if_false]
      rw [cb_zero]
      simp
  · rw [if_neg e]
    rcases ci_cases x.k y.k with h | h | h
    · simp [e, h.1]
    · exact absurd h.2 e
    · simp [e, h.1]

theorem Val.on {x y z : Val} (h : x.may = 0) (g : y.may = 0) (f : z.may = 0) (a : x.cmp y ≤ 0) (b : y.cmp z ≤ 0) : x.cmp z ≤ 0 ∧ ((x.cmp y = 0 ∧ y.cmp z = 0) ↔ x.cmp z = 0) := by
  rw [Val.cmp_ok h g] at a ⊢
  rw [Val.cmp_ok g f] at b ⊢
  rw [Val.cmp_ok h f]
  by_cases e1 : x.k = y.k
  · rw [if_pos e1] at a ⊢
    by_cases e2 : y.k = z.k
    · rw [if_pos e2] at b ⊢
      rw [if_pos (e1.trans e2)]
      rcases Val.cases h with ⟨k1, p, q⟩ | ⟨k1, p, q⟩ | ⟨k1, p, q⟩ <;> rcases Val.cases g with ⟨k2, p', q'⟩ | ⟨k2, p', q'⟩ | ⟨k2, p', q'⟩ <;> try omega
      · rw [if_pos k1] at a ⊢
        rw [if_pos k2] at b ⊢
        rw [if_pos k1]
        rcases ci_cases x.n y.n with h | h | h <;> rcases ci_cases y.n z.n with h' | h' | h' <;> rcases ci_cases x.n z.n with h'' | h'' | h'' <;> omega
      · rcases Val.cases f with ⟨k3, p'', q''⟩ | ⟨k3, p'', q''⟩ | ⟨k3, p'', q''⟩
        · omega
        · rw [k1] at a ⊢
          rw [k2] at b ⊢
          exact oon_law p p' p'' a b
        · omega
      · rw [k1] at a ⊢
        rw [k2] at b ⊢
        exact cb_on _ _ _ a b
    · rw [if_neg e2] at b ⊢
      rw [if_neg (by omega)]
      rw [e1]
      rcases ci_cases y.k z.k with h | h | h <;> omega
  · rw [if_neg e1] at a ⊢
    by_cases e2 : y.k = z.k
    · rw [if_neg (by omega), ← e2]
      rcases ci_cases x.k y.k with h | h | h <;> omega
    · rw [if_neg e2] at b ⊢
      rcases ci_cases x.k y.k with h | h | h <;> rcases ci_cases y.k z.k with h' | h' | h' <;> try omega
      rw [if_neg (by omega)]
      rcases ci_cases x.k z.k with h'' | h'' | h'' <;> omega

theorem Val.self {x : Val} (h : x.may = 0) : x.cmp x = 0 := (Val.zero h h).2 (by simp [Val.same, sameB])

end Go.Proofs.YteipohpfaofchaaGreat

namespace Go.Proofs.YteipohpfaofchaaGreat
open Go.RowKit Go.Shelf
set_option linter.unusedVariables false

/-- How two rows stand to one another. -/
def rowC : List Val → List Val → Int
  | [], [] => 0
  | [], _ :: _ => -1
  | _ :: _, [] => 1
  | x :: xs, y :: ys => if x.cmp y = 0 then rowC xs ys else x.cmp y

theorem rowC_zero {x y : Val} {xs ys : List Val} (h : x.cmp y = 0) : rowC (x :: xs) (y :: ys) = rowC xs ys := by simp [rowC, h]
theorem rowC_else {x y : Val} {xs ys : List Val} (h : x.cmp y ≠ 0) : rowC (x :: xs) (y :: ys) = x.cmp y := by simp [rowC, h]
theorem rowC_end (xs ys : List Val) (h : xs = [] ∨ ys = []) : rowC xs ys = Lib.compareInt xs.length ys.length := by
  cases xs with
  | nil =>
    cases ys with
    | nil => simp [rowC, Lib.compareInt]
    | cons y ys => simp [rowC, Lib.compareInt] <;> omega
  | cons x xs =>
    cases ys with
    | nil => simp [rowC, Lib.compareInt] <;> omega
    | cons y ys => simp at h

theorem ci_shift (a b c d : Int) (h : a - b = c - d) : Lib.compareInt a b = Lib.compareInt c d := by
  rcases ci_cases a b with g | g | g <;> rcases ci_cases c d with g' | g' | g' <;> omega
theorem rowC_end' (xs ys : List Val) (k : Nat) (h1 : k ≤ xs.length) (h2 : k ≤ ys.length) (h3 : k = xs.length ∨ k = ys.length) : rowC (xs.drop k) (ys.drop k) = Lib.compareInt xs.length ys.length := by
  rw [rowC_end _ _ (by rcases h3 with h | h <;> simp [h])]
  apply ci_shift
  simp
  omega

/-- A row's values lie at a place. -/
def Lies (w : World) (b off : Nat) (xs : List Val) : Prop :=
  ∀ i (h : i < xs.length), w.cell? ⟨b, off + i * 4, none⟩ = some (.int .i64 xs[i].k) ∧ w.cell? ⟨b, off + i * 4 + 1, none⟩ = some (.int .i64 xs[i].n) ∧ w.cell? ⟨b, off + i * 4 + 2, none⟩ = some (.int .i64 xs[i].d) ∧ w.cell? ⟨b, off + i * 4 + 3, none⟩ = some (.string xs[i].s)
theorem Lies.below {w w' : World} {b off : Nat} {xs : List Val} (h : Lies w b off xs) {B : Nat} (hb : Below B w w') (hlt : b < B) : Lies w' b off xs := fun i hi => by
  obtain ⟨c0, c1, c2, c3⟩ := h i hi
  exact ⟨(hb.cell (p := ⟨b, _, none⟩) hlt).trans c0, (hb.cell (p := ⟨b, _, none⟩) hlt).trans c1, (hb.cell (p := ⟨b, _, none⟩) hlt).trans c2, (hb.cell (p := ⟨b, _, none⟩) hlt).trans c3⟩

theorem drop_at {xs : List Val} {k : Nat} (h : k < xs.length) : xs.drop k = xs[k] :: xs.drop (k + 1) := List.drop_eq_getElem_cons h

set_option maxRecDepth 100000 in
set_option maxHeartbeats 2000000 in
theorem row_core (b off c b' off' c' : Nat) (xs ys : List Val) (w : World) (fx : ∀ v ∈ xs, v.Fits) (fy : ∀ v ∈ ys, v.Fits) (hb : b < w.heap.size) (hb' : b' < w.heap.size)
    (hx : Lies w b off xs) (hy : Lies w b' off' ys) (lx : xs.length ≤ 9223372036854775807) (ly : ys.length ≤ 9223372036854775807) :
    Calls Tryz.prog 38 #[.slice (some ⟨b, off, none⟩) xs.length c, .slice (some ⟨b', off', none⟩) ys.length c'] w fun e w' => e = .returned (.int .i64 (rowC xs ys)) ∧ Below w.heap.size w w' := by
  obtain ⟨n, en⟩ : ∃ n : Nat, Hid (xs.length = n) := ⟨_, rfl⟩
  obtain ⟨m, em⟩ : ∃ m : Nat, Hid (ys.length = m) := ⟨_, rfl⟩
  rw [en.out] at lx ⊢
  rw [em.out] at ly ⊢
  obtain ⟨u, eu⟩ : ∃ u : Nat, Hid (min n m = u) := ⟨_, rfl⟩
  have HX : Hid (Lies w b off xs) := hx
  have HY : Hid (Lies w b' off' ys) := hy
  clear hx hy
  go_enter Tryz.func38, Tryz.ntmps38
  go_wp2
  have eu' : min (n : Int) (m : Int) = (u : Int) := by have := eu.out; omega
  rw [eu']
  clear eu'
  go_loopw [12] (fun i wr => ∃ k : Nat, k ≤ u ∧ i = .int .i64 k ∧ Hid (rowC xs ys = rowC (xs.drop k) (ys.drop k)) ∧ Below w.heap.size w wr) (fun i _ => u - (intOf i).toNat)
  case atStart => exact ⟨0, Nat.zero_le _, rfl, (show rowC xs ys = rowC (xs.drop 0) (ys.drop 0) by simp), Below.refl _ _⟩
  case round =>
    obtain ⟨k, hk, rfl, hr, hB⟩ := hrel
    by_cases hlt : k < u
    · have kx : k < xs.length := by have := eu.out; have := en.out; omega
      have ky : k < ys.length := by have := eu.out; have := em.out; omega
      have kn : k < n := by have := en.out; omega
      have km : k < m := by have := em.out; omega
      have q1 := (HX.out.below hB hb) k kx
      have q2 := (HY.out.below hB hb') k ky
      have f1 := fx xs[k] (List.getElem_mem kx)
      have f2 := fy ys[k] (List.getElem_mem ky)
      have dx := drop_at kx
      have dy := drop_at ky
      generalize xs[k] = X at q1 f1 dx
      generalize ys[k] = Y at q2 f2 dy
      have hr2 : Hid (rowC xs ys = if X.cmp Y = 0 then rowC (xs.drop (k + 1)) (ys.drop (k + 1)) else X.cmp Y) := by
        have := hr.out
        rw [dx, dy] at this
        exact this
      clear dx dy hr
      obtain ⟨a0, a1, a2, a3⟩ := q1
      obtain ⟨b0, b1, b2, b3⟩ := q2
      have hbr : b < wr.heap.size := Nat.lt_of_lt_of_le hb hB.size
      have hbr' : b' < wr.heap.size := Nat.lt_of_lt_of_le hb' hB.size
      obtain ⟨C, eC⟩ : ∃ C : Int, Hid (X.cmp Y = C) := ⟨_, rfl⟩
      have ct : Hid (∀ W : World, Calls Tryz.prog 68 #[.agg #[.int .i64 X.k, .int .i64 X.n, .int .i64 X.d, .string X.s], .agg #[.int .i64 Y.k, .int .i64 Y.n, .int .i64 Y.d, .string Y.s]] W fun e w' => e = .returned (.int .i64 C) ∧ Below W.heap.size W w') := fun W => by
        have h := vcompare_any X.k X.n X.d X.s Y.k Y.n Y.d Y.s W f1.n1 f1.n2 f1.d1 f1.d2 f2.n1 f2.n2 f2.d1 f2.d2
        rw [show vcmp X.k X.n X.d X.s Y.k Y.n Y.d Y.s = C from eC.out] at h
        exact h
      rw [eC.out] at hr2
      clear f1 f2
      go_upto_region 4 with fail
      go_region_held3 (fun w' => w'.cell? ⟨b, off + k * 4, none⟩ = some (.int .i64 X.k) ∧ w'.cell? ⟨b, off + k * 4 + 1, none⟩ = some (.int .i64 X.n) ∧ w'.cell? ⟨b, off + k * 4 + 2, none⟩ = some (.int .i64 X.d) ∧ w'.cell? ⟨b, off + k * 4 + 3, none⟩ = some (.string X.s) ∧ w'.cell? ⟨b', off' + k * 4, none⟩ = some (.int .i64 Y.k) ∧ w'.cell? ⟨b', off' + k * 4 + 1, none⟩ = some (.int .i64 Y.n) ∧ w'.cell? ⟨b', off' + k * 4 + 2, none⟩ = some (.int .i64 Y.d) ∧ w'.cell? ⟨b', off' + k * 4 + 3, none⟩ = some (.string Y.s))
        (exact ⟨bcl (n := wr.heap.size) (by go_grown) a0 hbr, bcl (n := wr.heap.size) (by go_grown) a1 hbr, bcl (n := wr.heap.size) (by go_grown) a2 hbr, bcl (n := wr.heap.size) (by go_grown) a3 hbr, bcl (n := wr.heap.size) (by go_grown) b0 hbr', bcl (n := wr.heap.size) (by go_grown) b1 hbr', bcl (n := wr.heap.size) (by go_grown) b2 hbr', bcl (n := wr.heap.size) (by go_grown) b3 hbr'⟩)
        (first
          | (go_at_call 68; refine (ct.out _).mono ?_; rintro e v1 ⟨rfl, hv1⟩; obtain ⟨hw1, hn1⟩ := bg0 (n := wr.heap.size) (W0 := wr) (by go_grown) (by go_size) hv1; clear hv1))
      clear a0 a1 a2 a3 b0 b1 b2 b3
      have hB2 : Below w.heap.size w v1 := hB.trans (hw1.mono hB.size)
      clear hw1 hB
      by_cases hC : C = 0
      · have hr3 : Hid (rowC xs ys = rowC (xs.drop (k + 1)) (ys.drop (k + 1))) := by have := hr2.out; rw [if_pos hC] at this; exact this
        clear hr2 eC ct
        subst hC
        go_wp2
        exact ⟨⟨k + 1, by omega, by go_num, hr3, hB2⟩, by simp [intOf]; omega⟩
      · have hC' : (C != 0) = true := by simpa using hC
        go_wp2
        go_ret
        exact ⟨ret_int (by have := hr2.out; rw [if_neg hC] at this; exact this.symm), hB2⟩
    · have ek : k = u := by omega
      have hz : Hid (rowC xs ys = Lib.compareInt n m) := by
        have h1 := hr.out
        have h2 := rowC_end' xs ys k (by have := eu.out; have := en.out; have := em.out; omega) (by have := eu.out; have := en.out; have := em.out; omega) (by have := eu.out; have := en.out; have := em.out; omega)
        rw [en.out, em.out] at h2
        exact h1.trans h2
      clear hr
      go_wp2_with fail
      refine (Tryz.cmp_Compare_int n m _).mono ?_
      rintro e w3 ⟨rfl, rfl⟩
      go_wp2
      go_ret
      exact ⟨ret_int hz.out.symm, hB⟩

set_option maxRecDepth 100000 in
set_option maxHeartbeats 2000000 in
theorem row_left (p q : Option Addr) (c m c' : Nat) (w : World) (hm : m ≤ 9223372036854775807) :
    Calls Tryz.prog 38 #[.slice p 0 c, .slice q m c'] w fun e w' => e = .returned (.int .i64 (Lib.compareInt 0 m)) ∧ w' = w := by
  have e1 : min (0 : Int) (m : Int) = 0 := by omega
  go_enter Tryz.func38, Tryz.ntmps38
  go_wp2
  refine wp_loop_rounds 1 ?_
  rw [rounds_succ]
  go_wp2_with fail
  refine (Tryz.cmp_Compare_int 0 m _).mono ?_
  rintro e w3 ⟨rfl, rfl⟩
  go_wp2
  go_ret
  exact ⟨rfl, rfl⟩

set_option maxRecDepth 100000 in
set_option maxHeartbeats 2000000 in
theorem row_right (p q : Option Addr) (c m c' : Nat) (w : World) (hm : m ≤ 9223372036854775807) :
    Calls Tryz.prog 38 #[.slice p m c, .slice q 0 c'] w fun e w' => e = .returned (.int .i64 (Lib.compareInt m 0)) ∧ w' = w := by
  have e1 : min (m : Int) (0 : Int) = 0 := by omega
  go_enter Tryz.func38, Tryz.ntmps38
  go_wp2
  refine wp_loop_rounds 1 ?_
  rw [rounds_succ]
  go_wp2_with fail
  refine (Tryz.cmp_Compare_int m 0 _).mono ?_
  rintro e w3 ⟨rfl, rfl⟩
  go_wp2
  go_ret
  exact ⟨rfl, rfl⟩

end Go.Proofs.YteipohpfaofchaaGreat

namespace Go.Proofs.YteipohpfaofchaaGreat
open Go.RowKit

set_option maxRecDepth 100000 in
set_option maxHeartbeats 4000000 in
theorem rcmp_raw (a b c d r : Int) (w : World) (ha : -9223372036854775808 ≤ a) (ha' : a ≤ 9223372036854775807) (hb : -9223372036854775808 ≤ b) (hb' : b ≤ 9223372036854775807) (hc : -9223372036854775808 ≤ c) (hc' : c ≤ 9223372036854775807) (hd : -9223372036854775808 ≤ d) (hd' : d ≤ 9223372036854775807) (m1 : mayB a b = true) (m2 : mayB c d = true) (pb : 0 < b) (pd : 0 < d) (za : 0 ≤ sz a) (za' : sz a ≤ 9223372036854775808) (zc : 0 ≤ sz c) (zc' : sz c ≤ 9223372036854775808)
    (hP : 0 ≤ sz a * d) (hP' : sz a * d < 340282366920938463463374607431768211456) (hQ : 0 ≤ sz c * b) (hQ' : sz c * b < 340282366920938463463374607431768211456)
    (hcase : (a < 0 ∧ 0 ≤ c ∧ r = -1) ∨ (0 ≤ a ∧ c < 0 ∧ r = 1) ∨ (a < 0 ∧ c < 0 ∧ r = cmpI (sz c * b) (sz a * d)) ∨ (0 ≤ a ∧ 0 ≤ c ∧ r = cmpI (sz a * d) (sz c * b))) :
    Calls Tryz.prog 106 #[.agg #[.int .i64 a, .int .i64 b], .agg #[.int .i64 c, .int .i64 d]] w fun e w' => e = .returned (.int .i64 r) ∧ Below w.heap.size w w' := by
  have ub : IntKind.u64.wrap b = b := by rw [IntKind.wrap_u64]; omega
  have ud : IntKind.u64.wrap d = d := by rw [IntKind.wrap_u64]; omega
  go_enter Tryz.func106, Tryz.ntmps106
  go_upto_region 1 with fail
  refine wp_world ?_
  intro W0 hW0
  have A : Blk2 W0 (w.heap.size) (a) (b) := by rw [hW0]; constructor <;> simp (maxDischargeDepth := 12) [go_sem]
  have l_A : w.heap.size < W0.heap.size := by rw [hW0]; first | (simp; done) | (simp; omega)
  have B : Blk2 W0 (w.heap.size + 1) (c) (d) := by rw [hW0]; constructor <;> simp (maxDischargeDepth := 12) [go_sem]
  have l_B : w.heap.size + 1 < W0.heap.size := by rw [hW0]; first | (simp; done) | (simp; omega)
  have hB0 : Below w.heap.size w W0 := by rw [hW0]; exact (by repeat' (first | (with_reducible exact Below.refl _ _) | (with_reducible assumption) | (with_reducible refine bdrewN _ ?_) | (with_reducible refine Below.alloc ?_ ?_ _) | (with_reducible refine Below.setCell ?_ ?_ _) | (with_reducible refine Below.drew ?_) | go_size | (simp; omega)))
  clear hW0
  have HA : Hid (Blk2 W0 (w.heap.size) (a) (b)) := A
  have HB : Hid (Blk2 W0 (w.heap.size + 1) (c) (d)) := B
  clear A B
  obtain ⟨A_0, A_1, -, -⟩ := HA.out
  go_wp2_with fail
  refine (rmay_any a b _ ha ha' hb hb').mono ?_
  rintro e w1 ⟨rfl, hb1⟩
  clear A_0 A_1
  rw [m1]
  go_upto_region 2 with fail
  refine wp_world ?_
  intro W1 hW1
  have st1 : Below W0.heap.size W0 W1 := by rw [hW1]; exact (by repeat' (first | (with_reducible exact Below.refl _ _) | (with_reducible assumption) | (with_reducible refine bdrewN _ ?_) | (with_reducible refine Below.alloc ?_ ?_ _) | (with_reducible refine Below.setCell ?_ ?_ _) | (with_reducible refine Below.drew ?_) | go_size | (simp; omega)))
  clear hW1 hb1
  have A : Blk2 W1 (w.heap.size) (a) (b) := HA.out.below st1 l_A
  have l_A : w.heap.size < W1.heap.size := Nat.lt_of_lt_of_le l_A st1.size
  have B : Blk2 W1 (w.heap.size + 1) (c) (d) := HB.out.below st1 l_B
  have l_B : w.heap.size + 1 < W1.heap.size := Nat.lt_of_lt_of_le l_B st1.size
  have hBW1 : Below w.heap.size w W1 := hB0.trans (st1.mono hB0.size)
  clear hB0 st1 HA HB
  have HA : Hid (Blk2 W1 (w.heap.size) (a) (b)) := A
  have HB : Hid (Blk2 W1 (w.heap.size + 1) (c) (d)) := B
  clear A B
  obtain ⟨B_0, B_1, -, -⟩ := HB.out
  go_wp2_with fail
  refine (rmay_any c d _ hc hc' hd hd').mono ?_
  rintro e w2 ⟨rfl, hb2⟩
  clear B_0 B_1
  rw [m2]
  go_upto_region 5 with fail
  refine wp_world ?_
  intro W2 hW2
  have st2 : Below W1.heap.size W1 W2 := by rw [hW2]; exact (by repeat' (first | (with_reducible exact Below.refl _ _) | (with_reducible assumption) | (with_reducible refine bdrewN _ ?_) | (with_reducible refine Below.alloc ?_ ?_ _) | (with_reducible refine Below.setCell ?_ ?_ _) | (with_reducible refine Below.drew ?_) | go_size | (simp; omega)))
  clear hW2 hb2
  have A : Blk2 W2 (w.heap.size) (a) (b) := HA.out.below st2 l_A
  have l_A : w.heap.size < W2.heap.size := Nat.lt_of_lt_of_le l_A st2.size
  have B : Blk2 W2 (w.heap.size + 1) (c) (d) := HB.out.below st2 l_B
  have l_B : w.heap.size + 1 < W2.heap.size := Nat.lt_of_lt_of_le l_B st2.size
  have hBW2 : Below w.heap.size w W2 := hBW1.trans (st2.mono hBW1.size)
  clear hBW1 st2 HA HB
  have HA : Hid (Blk2 W2 (w.heap.size) (a) (b)) := A
  have HB : Hid (Blk2 W2 (w.heap.size + 1) (c) (d)) := B
  clear A B
  obtain ⟨A_0, A_1, -, -⟩ := HA.out
  obtain ⟨B_0, B_1, -, -⟩ := HB.out
  go_cut [7] (fun p wx => ∃ bn : Nat, p = .pointer (some ⟨bn, 0, none⟩) ∧ W2.heap.size ≤ bn ∧ bn < wx.heap.size ∧ Blk wx bn (g0 (sz a * d)) (g1 (sz a * d)) (g2 (sz a * d)) (g3 (sz a * d)) ∧ Below W2.heap.size W2 wx)
  case first =>
    go_region_held3 (fun w' => w'.cell? ⟨w.heap.size, 0, none⟩ = some (.int .i64 (a)) ∧ w'.cell? ⟨w.heap.size, 1, none⟩ = some (.int .i64 (b)) ∧ w'.cell? ⟨w.heap.size + 1, 0, none⟩ = some (.int .i64 (c)) ∧ w'.cell? ⟨w.heap.size + 1, 1, none⟩ = some (.int .i64 (d))) (exact ⟨bcl (n := W2.heap.size) (by go_grown) A_0 (by simp; try omega), bcl (n := W2.heap.size) (by go_grown) A_1 (by simp; try omega), bcl (n := W2.heap.size) (by go_grown) B_0 (by simp; try omega), bcl (n := W2.heap.size) (by go_grown) B_1 (by simp; try omega)⟩)
      (first
        | (go_at_call 132; refine (rsize_any _ _ (by omega) (by omega)).mono ?_; rintro e w' ⟨rfl, rfl⟩)
        | (go_at_call 131; refine (rtimes_any _ _ _ (by omega) (by omega) (by omega) (by omega)).mono ?_; rintro e w1 ⟨rfl, hb1⟩; obtain ⟨hc1, hf1, hz1, hB1, hn1, hm1⟩ := bg (n := W2.heap.size) (W0 := W2) (by go_grown) (by go_size) hb1; have z_A := hm1 (w.heap.size) l_A; have z_B := hm1 (w.heap.size + 1) l_B; clear hm1))
    all_goals
      go_wp2
      go_meet
      case rel =>
        refine ⟨_, rfl, ?_, ?_, ?_, ?_⟩
        · first | go_size | (simp; omega)
        · first | omega | (simp; done) | (simp; omega) | simp (maxDischargeDepth := 8) [go_sem, *]
        · constructor <;> simp (maxDischargeDepth := 8) [go_sem, *]
        · exact (by repeat' (first | (with_reducible exact Below.refl _ _) | (with_reducible assumption) | (with_reducible refine bdrewN _ ?_) | (with_reducible refine Below.alloc ?_ ?_ _) | (with_reducible refine Below.setCell ?_ ?_ _) | (with_reducible refine Below.drew ?_) | go_size | (simp; omega)))
  case rest =>
    obtain ⟨bP, rfl, n_P, l_P, P, st3⟩ := hcut
    clear A_0 A_1 B_0 B_1
    obtain ⟨V3, eV3⟩ : ∃ V3 : World, V3 = wc := ⟨_, rfl⟩
    rw [← eV3] at l_P P st3 ⊢
    clear eV3 wc
    have A : Blk2 V3 (w.heap.size) (a) (b) := HA.out.below st3 l_A
    have l_A : w.heap.size < V3.heap.size := Nat.lt_of_lt_of_le l_A st3.size
    have B : Blk2 V3 (w.heap.size + 1) (c) (d) := HB.out.below st3 l_B
    have l_B : w.heap.size + 1 < V3.heap.size := Nat.lt_of_lt_of_le l_B st3.size
    have hBV3 : Below w.heap.size w V3 := hBW2.trans (st3.mono hBW2.size)
    clear hBW2 st3 HA HB
    go_upto_region 6 with fail
    have HA : Hid (Blk2 V3 (w.heap.size) (a) (b)) := A
    have HB : Hid (Blk2 V3 (w.heap.size + 1) (c) (d)) := B
    have HP : Hid (Blk V3 (bP) (g0 (sz a * d)) (g1 (sz a * d)) (g2 (sz a * d)) (g3 (sz a * d))) := P
    clear A B P
    obtain ⟨A_0, A_1, -, -⟩ := HA.out
    obtain ⟨B_0, B_1, -, -⟩ := HB.out
    go_cut [8] (fun p wx => ∃ bn : Nat, p = .pointer (some ⟨bn, 0, none⟩) ∧ V3.heap.size ≤ bn ∧ bn < wx.heap.size ∧ Blk wx bn (g0 (sz c * b)) (g1 (sz c * b)) (g2 (sz c * b)) (g3 (sz c * b)) ∧ Below V3.heap.size V3 wx)
    case first =>
      go_region_held3 (fun w' => w'.cell? ⟨w.heap.size, 0, none⟩ = some (.int .i64 (a)) ∧ w'.cell? ⟨w.heap.size, 1, none⟩ = some (.int .i64 (b)) ∧ w'.cell? ⟨w.heap.size + 1, 0, none⟩ = some (.int .i64 (c)) ∧ w'.cell? ⟨w.heap.size + 1, 1, none⟩ = some (.int .i64 (d))) (exact ⟨bcl (n := V3.heap.size) (by go_grown) A_0 (by simp; try omega), bcl (n := V3.heap.size) (by go_grown) A_1 (by simp; try omega), bcl (n := V3.heap.size) (by go_grown) B_0 (by simp; try omega), bcl (n := V3.heap.size) (by go_grown) B_1 (by simp; try omega)⟩)
        (first
          | (go_at_call 132; refine (rsize_any _ _ (by omega) (by omega)).mono ?_; rintro e w' ⟨rfl, rfl⟩)
          | (go_at_call 131; refine (rtimes_any _ _ _ (by omega) (by omega) (by omega) (by omega)).mono ?_; rintro e w1 ⟨rfl, hb1⟩; obtain ⟨hc1, hf1, hz1, hB1, hn1, hm1⟩ := bg (n := V3.heap.size) (W0 := V3) (by go_grown) (by go_size) hb1; have z_A := hm1 (w.heap.size) l_A; have z_B := hm1 (w.heap.size + 1) l_B; clear hm1))
      all_goals
        go_wp2
        go_meet
        case rel =>
          refine ⟨_, rfl, ?_, ?_, ?_, ?_⟩
          · first | go_size | (simp; omega)
          · first | omega | (simp; done) | (simp; omega) | simp (maxDischargeDepth := 8) [go_sem, *]
          · constructor <;> simp (maxDischargeDepth := 8) [go_sem, *]
          · exact (by repeat' (first | (with_reducible exact Below.refl _ _) | (with_reducible assumption) | (with_reducible refine bdrewN _ ?_) | (with_reducible refine Below.alloc ?_ ?_ _) | (with_reducible refine Below.setCell ?_ ?_ _) | (with_reducible refine Below.drew ?_) | go_size | (simp; omega)))
    case rest =>
      obtain ⟨bQ, rfl, n_Q, l_Q, Q, st4⟩ := hcut
      clear A_0 A_1 B_0 B_1
      obtain ⟨V4, eV4⟩ : ∃ V4 : World, V4 = wc := ⟨_, rfl⟩
      rw [← eV4] at l_Q Q st4 ⊢
      clear eV4 wc
      have A : Blk2 V4 (w.heap.size) (a) (b) := HA.out.below st4 l_A
      have l_A : w.heap.size < V4.heap.size := Nat.lt_of_lt_of_le l_A st4.size
      have B : Blk2 V4 (w.heap.size + 1) (c) (d) := HB.out.below st4 l_B
      have l_B : w.heap.size + 1 < V4.heap.size := Nat.lt_of_lt_of_le l_B st4.size
      have P : Blk V4 (bP) (g0 (sz a * d)) (g1 (sz a * d)) (g2 (sz a * d)) (g3 (sz a * d)) := HP.out.below st4 l_P
      have l_P : bP < V4.heap.size := Nat.lt_of_lt_of_le l_P st4.size
      have hBV4 : Below w.heap.size w V4 := hBV3.trans (st4.mono hBV3.size)
      clear hBV3 st4 HA HB HP
      go_upto_region 7 with fail
      have HA : Hid (Blk2 V4 (w.heap.size) (a) (b)) := A
      have HB : Hid (Blk2 V4 (w.heap.size + 1) (c) (d)) := B
      have HP : Hid (Blk V4 (bP) (g0 (sz a * d)) (g1 (sz a * d)) (g2 (sz a * d)) (g3 (sz a * d))) := P
      have HQ : Hid (Blk V4 (bQ) (g0 (sz c * b)) (g1 (sz c * b)) (g2 (sz c * b)) (g3 (sz c * b))) := Q
      clear A B P Q
      obtain ⟨A_0, A_1, -, -⟩ := HA.out
      obtain ⟨B_0, B_1, -, -⟩ := HB.out
      obtain ⟨P_0, P_1, P_2, P_3, -, -, -, -⟩ := HP.out
      obtain ⟨Q_0, Q_1, Q_2, Q_3, -, -, -, -⟩ := HQ.out
      rcases hcase with ⟨s1, s2, hr⟩ | ⟨s1, s2, hr⟩ | ⟨s1, s2, hr⟩ | ⟨s1, s2, hr⟩
      · have hr : Hid (r = _) := hr
        go_wp2
        go_ret
        exact ⟨ret_int hr.out.symm, (by repeat' (first | (with_reducible exact Below.refl _ _) | (with_reducible assumption) | (with_reducible refine bdrewN _ ?_) | (with_reducible refine Below.alloc ?_ ?_ _) | (with_reducible refine Below.setCell ?_ ?_ _) | (with_reducible refine Below.drew ?_) | go_size | (simp; omega)))⟩
      · have f1 : (a < 0) = False := by simp; omega
        have hr : Hid (r = _) := hr
        go_wp2
        go_ret
        exact ⟨ret_int hr.out.symm, (by repeat' (first | (with_reducible exact Below.refl _ _) | (with_reducible assumption) | (with_reducible refine bdrewN _ ?_) | (with_reducible refine Below.alloc ?_ ?_ _) | (with_reducible refine Below.setCell ?_ ?_ _) | (with_reducible refine Below.drew ?_) | go_size | (simp; omega)))⟩
      · have f1 : (0 ≤ c) = False := by simp; omega
        have f2 : (0 ≤ a) = False := by simp; omega
        have hr : Hid (r = _) := hr
        go_wp2_with fail
        refine (rcompare_any (sz c * b) (sz a * d) _ hQ hQ' hP hP').mono ?_
        rintro e w9 ⟨rfl, hb9⟩
        have hB9 := hBV4.trans (hb9.mono hBV4.size)
        go_wp2
        go_ret
        exact ⟨ret_int hr.out.symm, (by repeat' (first | (with_reducible exact Below.refl _ _) | (with_reducible assumption) | (with_reducible refine bdrewN _ ?_) | (with_reducible refine Below.alloc ?_ ?_ _) | (with_reducible refine Below.setCell ?_ ?_ _) | (with_reducible refine Below.drew ?_) | go_size | (simp; omega)))⟩
      · have f1 : (a < 0) = False := by simp; omega
        have f2 : (c < 0) = False := by simp; omega
        have hr : Hid (r = _) := hr
        go_wp2_with fail
        refine (rcompare_any (sz a * d) (sz c * b) _ hP hP' hQ hQ').mono ?_
        rintro e w9 ⟨rfl, hb9⟩
        have hB9 := hBV4.trans (hb9.mono hBV4.size)
        go_wp2
        go_ret
        exact ⟨ret_int hr.out.symm, (by repeat' (first | (with_reducible exact Below.refl _ _) | (with_reducible assumption) | (with_reducible refine bdrewN _ ?_) | (with_reducible refine Below.alloc ?_ ?_ _) | (with_reducible refine Below.setCell ?_ ?_ _) | (with_reducible refine Below.drew ?_) | go_size | (simp; omega)))⟩

theorem prod_le {x y : Int} (hx : 0 ≤ x) (hx' : x ≤ 9223372036854775808) (hy : 0 ≤ y) (hy' : y ≤ 9223372036854775808) : 0 ≤ x * y ∧ x * y ≤ 85070591730234615865843651857942052864 := by
  have h := mul_bd hx hx' hy hy'
  exact ⟨h.1, by omega⟩

set_option maxHeartbeats 400000 in
theorem rcmp_no1 (a b c d : Int) (w : World) (ha : -9223372036854775808 ≤ a) (ha' : a ≤ 9223372036854775807) (hb : -9223372036854775808 ≤ b) (hb' : b ≤ 9223372036854775807) (hc : -9223372036854775808 ≤ c) (hc' : c ≤ 9223372036854775807) (hd : -9223372036854775808 ≤ d) (hd' : d ≤ 9223372036854775807) (m1 : mayB a b = false) :
    Calls Tryz.prog 106 #[.agg #[.int .i64 a, .int .i64 b], .agg #[.int .i64 c, .int .i64 d]] w fun e w' => e = .returned (.int .i64 0) ∧ Below w.heap.size w w' := by
  go_enter Tryz.func106, Tryz.ntmps106
  go_upto_region 1 with fail
  refine wp_world ?_
  intro W0 hW0
  have A : Blk2 W0 (w.heap.size) (a) (b) := by rw [hW0]; constructor <;> simp (maxDischargeDepth := 12) [go_sem]
  have l_A : w.heap.size < W0.heap.size := by rw [hW0]; first | (simp; done) | (simp; omega)
  have B : Blk2 W0 (w.heap.size + 1) (c) (d) := by rw [hW0]; constructor <;> simp (maxDischargeDepth := 12) [go_sem]
  have l_B : w.heap.size + 1 < W0.heap.size := by rw [hW0]; first | (simp; done) | (simp; omega)
  have hB0 : Below w.heap.size w W0 := by rw [hW0]; exact (by repeat' (first | (with_reducible exact Below.refl _ _) | (with_reducible assumption) | (with_reducible refine bdrewN _ ?_) | (with_reducible refine Below.alloc ?_ ?_ _) | (with_reducible refine Below.setCell ?_ ?_ _) | (with_reducible refine Below.drew ?_) | go_size | (simp; omega)))
  clear hW0
  have HA : Hid (Blk2 W0 (w.heap.size) (a) (b)) := A
  have HB : Hid (Blk2 W0 (w.heap.size + 1) (c) (d)) := B
  clear A B
  obtain ⟨A_0, A_1, -, -⟩ := HA.out
  go_wp2_with fail
  refine (rmay_any a b _ ha ha' hb hb').mono ?_
  rintro e w1 ⟨rfl, hb1⟩
  rw [m1]
  have hs1 := hb1.size
  have b1 := HB.out.below hb1 l_B
  obtain ⟨x0, x1, -, -⟩ := b1
  go_wp2_with fail
  refine (rmay_any c d _ hc hc' hd hd').mono ?_
  rintro e w2 ⟨rfl, hb2⟩
  have hB2 : Below w.heap.size w w2 := (hB0.trans (hb1.mono hB0.size)).trans (hb2.mono (by have := hB0.size; omega))
  go_wp2
  go_ret
  exact ⟨rfl, hB2⟩
set_option maxHeartbeats 400000 in
theorem rcmp_no2 (a b c d : Int) (w : World) (ha : -9223372036854775808 ≤ a) (ha' : a ≤ 9223372036854775807) (hb : -9223372036854775808 ≤ b) (hb' : b ≤ 9223372036854775807) (hc : -9223372036854775808 ≤ c) (hc' : c ≤ 9223372036854775807) (hd : -9223372036854775808 ≤ d) (hd' : d ≤ 9223372036854775807) (m1 : mayB a b = true) (m2 : mayB c d = false) :
    Calls Tryz.prog 106 #[.agg #[.int .i64 a, .int .i64 b], .agg #[.int .i64 c, .int .i64 d]] w fun e w' => e = .returned (.int .i64 0) ∧ Below w.heap.size w w' := by
  go_enter Tryz.func106, Tryz.ntmps106
  go_upto_region 1 with fail
  refine wp_world ?_
  intro W0 hW0
  have A : Blk2 W0 (w.heap.size) (a) (b) := by rw [hW0]; constructor <;> simp (maxDischargeDepth := 12) [go_sem]
  have l_A : w.heap.size < W0.heap.size := by rw [hW0]; first | (simp; done) | (simp; omega)
  have B : Blk2 W0 (w.heap.size + 1) (c) (d) := by rw [hW0]; constructor <;> simp (maxDischargeDepth := 12) [go_sem]
  have l_B : w.heap.size + 1 < W0.heap.size := by rw [hW0]; first | (simp; done) | (simp; omega)
  have hB0 : Below w.heap.size w W0 := by rw [hW0]; exact (by repeat' (first | (with_reducible exact Below.refl _ _) | (with_reducible assumption) | (with_reducible refine bdrewN _ ?_) | (with_reducible refine Below.alloc ?_ ?_ _) | (with_reducible refine Below.setCell ?_ ?_ _) | (with_reducible refine Below.drew ?_) | go_size | (simp; omega)))
  clear hW0
  have HA : Hid (Blk2 W0 (w.heap.size) (a) (b)) := A
  have HB : Hid (Blk2 W0 (w.heap.size + 1) (c) (d)) := B
  clear A B
  obtain ⟨A_0, A_1, -, -⟩ := HA.out
  go_wp2_with fail
  refine (rmay_any a b _ ha ha' hb hb').mono ?_
  rintro e w1 ⟨rfl, hb1⟩
  rw [m1]
  have hs1 := hb1.size
  have b1 := HB.out.below hb1 l_B
  obtain ⟨x0, x1, -, -⟩ := b1
  go_wp2_with fail
  refine (rmay_any c d _ hc hc' hd hd').mono ?_
  rintro e w2 ⟨rfl, hb2⟩
  rw [m2]
  have hB2 : Below w.heap.size w w2 := (hB0.trans (hb1.mono hB0.size)).trans (hb2.mono (by have := hB0.size; omega))
  go_wp2
  go_ret
  exact ⟨rfl, hB2⟩
theorem rcmp_all (a b c d : Int) (w : World) (ha : -9223372036854775808 ≤ a) (ha' : a ≤ 9223372036854775807) (hb : -9223372036854775808 ≤ b) (hb' : b ≤ 9223372036854775807) (hc : -9223372036854775808 ≤ c) (hc' : c ≤ 9223372036854775807) (hd : -9223372036854775808 ≤ d) (hd' : d ≤ 9223372036854775807) :
    Calls Tryz.prog 106 #[.agg #[.int .i64 a, .int .i64 b], .agg #[.int .i64 c, .int .i64 d]] w fun e w' => e = .returned (.int .i64 (cmpV a b c d)) ∧ Below w.heap.size w w' := by
  cases m1 : mayB a b
  · have e : cmpV a b c d = 0 := by simp [cmpV, both, m1]
    rw [e]; exact rcmp_no1 a b c d w ha ha' hb hb' hc hc' hd hd' m1
  · cases m2 : mayB c d
    · have e : cmpV a b c d = 0 := by simp [cmpV, both, m2]
      rw [e]; exact rcmp_no2 a b c d w ha ha' hb hb' hc hc' hd hd' m1 m2
    · have pb := (may_of m1).1
      have pd := (may_of m2).1
      have za := sz_nonneg a
      have zc := sz_nonneg c
      have za' := sz_le ha ha'
      have zc' := sz_le hc hc'
      have kP := prod_le za za' (show 0 ≤ d by omega) (by omega)
      have kQ := prod_le zc zc' (show 0 ≤ b by omega) (by omega)
      refine rcmp_raw a b c d _ w ha ha' hb hb' hc hc' hd hd' m1 m2 pb pd za za' zc zc' kP.1 (by omega) kQ.1 (by omega) ?_
      have e : cmpV a b c d = cmpI (a * d) (c * b) := by simp [cmpV, both, m1, m2, cmpI]
      rw [e]
      by_cases s1 : a < 0 <;> by_cases s2 : c < 0
      · refine Or.inr (Or.inr (Or.inl ⟨s1, s2, ?_⟩))
        rw [sz_of_neg s1, sz_of_neg s2, Int.neg_mul, Int.neg_mul]
        unfold cmpI; split <;> split <;> (try split) <;> (try split) <;> omega
      · refine Or.inl ⟨s1, by omega, ?_⟩
        have e1 : a * d < 0 := Int.mul_neg_of_neg_of_pos s1 pd
        have e2 : 0 ≤ c * b := Int.mul_nonneg (by omega) (by omega)
        unfold cmpI; rw [if_pos (by omega)]
      · refine Or.inr (Or.inl ⟨by omega, s2, ?_⟩)
        have e1 : 0 ≤ a * d := Int.mul_nonneg (by omega) (by omega)
        have e2 : c * b < 0 := Int.mul_neg_of_neg_of_pos s2 pb
        unfold cmpI; rw [if_neg (by omega), if_pos (by omega)]
      · refine Or.inr (Or.inr (Or.inr ⟨by omega, by omega, ?_⟩))
        rw [sz_of_nonneg (show 0 ≤ a by omega), sz_of_nonneg (show 0 ≤ c by omega)]

end Go.Proofs.YteipohpfaofchaaGreat

namespace Go.Proofs.YteipohpfaofchaaGreat
open Go.RowKit Go.Shelf
set_option linter.unusedVariables false

theorem chk_short {n d : Int} {s : ByteArray} (h : chk 3 n d s = 0) : s.size ≤ 64 := by
  by_cases hl : 64 < s.size
  · exfalso
    by_cases hp : pureB 3 n d s = false
    · have e0 : chk 3 n d s = 20 := by simp [chk, hp]
      omega
    · have e0 : chk 3 n d s = 2 := by simp [chk, hp, hl]
      omega
  · omega

set_option maxRecDepth 100000 in
set_option maxHeartbeats 400000 in
theorem rfrac_ex (k n d : Int) (s : ByteArray) (w : World) :
    Calls Tryz.prog 105 #[.agg #[.int .i64 k, .int .i64 n, .int .i64 d, .string s]] w fun e w' => e = .returned (.agg #[.int .i64 n, .int .i64 d]) ∧ ∃ c1 c2 : Array Value, w' = (w.alloc (.cells c1 47)).alloc (.cells c2 114) := by
  go_enter Tryz.func105, Tryz.ntmps105
  go_wp2
  go_returns
  exact ⟨rfl, _, _, rfl⟩

set_option maxRecDepth 100000 in
set_option maxHeartbeats 2000000 in
theorem rcmp_bad1 (k n d : Int) (s : ByteArray) (k' n' d' : Int) (s' : ByteArray) (w : World) (h1 : -9223372036854775808 ≤ n) (h2 : n ≤ 9223372036854775807) (g1 : -9223372036854775808 ≤ d) (g2 : d ≤ 9223372036854775807) (h1' : -9223372036854775808 ≤ n') (h2' : n' ≤ 9223372036854775807) (g1' : -9223372036854775808 ≤ d') (g2' : d' ≤ 9223372036854775807) (C E : Int) (c1 : chk k n d s = C) (c2 : chk k' n' d' s' = E) (c3 : (C != 0) = true) :
    Calls Tryz.prog 71 #[.agg #[.int .i64 k, .int .i64 n, .int .i64 d, .string s], .agg #[.int .i64 k', .int .i64 n', .int .i64 d', .string s']] w fun e w' => e = .returned (.int .i64 0) ∧ Below w.heap.size w w' := by
  go_enter Tryz.func71, Tryz.ntmps71
  go_upto_region 1 with fail
  refine wp_world ?_
  intro W0 hW0
  have A0 : Hid (BlkV W0 w.heap.size k n d s) := by rw [hW0]; constructor <;> simp (maxDischargeDepth := 12) [go_sem]
  have B0 : Hid (BlkV W0 (w.heap.size + 1) k' n' d' s') := by rw [hW0]; constructor <;> simp (maxDischargeDepth := 12) [go_sem]
  have z0 : w.heap.size + 1 < W0.heap.size := by rw [hW0]; simp
  have K0 : Below w.heap.size w W0 := by rw [hW0]; go_grown
  clear hW0
  obtain ⟨a0, a1, a2, a3, -, -, -, -⟩ := A0.out
  go_wp2_with fail
  refine (rcheck_any k n d s _ h1 h2 g1 g2).mono ?_
  rintro e w1 ⟨rfl, hb1⟩
  rw [c1]
  clear a0 a1 a2 a3
  have A1 : Hid (BlkV w1 w.heap.size k n d s) := A0.out.below hb1 (by omega)
  have B1 : Hid (BlkV w1 (w.heap.size + 1) k' n' d' s') := B0.out.below hb1 z0
  have z1 : w.heap.size + 1 < w1.heap.size := by have := hb1.size; omega
  have K1 : Below w.heap.size w w1 := K0.trans (hb1.mono K0.size)
  clear A0 B0 z0 K0 hb1
  obtain ⟨a0, a1, a2, a3, -, -, -, -⟩ := B1.out
  go_wp2_with fail
  refine (rcheck_any k' n' d' s' _ h1' h2' g1' g2').mono ?_
  rintro e w2 ⟨rfl, hb2⟩
  rw [c2]
  clear a0 a1 a2 a3
  have A2 : Hid (BlkV w2 w.heap.size k n d s) := A1.out.below hb2 (by omega)
  have B2 : Hid (BlkV w2 (w.heap.size + 1) k' n' d' s') := B1.out.below hb2 z1
  have z2 : w.heap.size + 1 < w2.heap.size := by have := hb2.size; omega
  have K2 : Below w.heap.size w w2 := K1.trans (hb2.mono K1.size)
  clear A1 B1 z1 K1 hb2
  obtain ⟨a0, a1, a2, a3, -, -, -, -⟩ := A2.out
  obtain ⟨b0, b1, b2, b3, -, -, -, -⟩ := B2.out
  go_wp2
  go_ret
  exact ⟨rfl, K2⟩

set_option maxRecDepth 100000 in
set_option maxHeartbeats 2000000 in
theorem rcmp_bad2 (k n d : Int) (s : ByteArray) (k' n' d' : Int) (s' : ByteArray) (w : World) (h1 : -9223372036854775808 ≤ n) (h2 : n ≤ 9223372036854775807) (g1 : -9223372036854775808 ≤ d) (g2 : d ≤ 9223372036854775807) (h1' : -9223372036854775808 ≤ n') (h2' : n' ≤ 9223372036854775807) (g1' : -9223372036854775808 ≤ d') (g2' : d' ≤ 9223372036854775807) (C : Int) (c1 : chk k n d s = 0) (c2 : chk k' n' d' s' = C) (c3 : (C != 0) = true) :
    Calls Tryz.prog 71 #[.agg #[.int .i64 k, .int .i64 n, .int .i64 d, .string s], .agg #[.int .i64 k', .int .i64 n', .int .i64 d', .string s']] w fun e w' => e = .returned (.int .i64 0) ∧ Below w.heap.size w w' := by
  go_enter Tryz.func71, Tryz.ntmps71
  go_upto_region 1 with fail
  refine wp_world ?_
  intro W0 hW0
  have A0 : Hid (BlkV W0 w.heap.size k n d s) := by rw [hW0]; constructor <;> simp (maxDischargeDepth := 12) [go_sem]
  have B0 : Hid (BlkV W0 (w.heap.size + 1) k' n' d' s') := by rw [hW0]; constructor <;> simp (maxDischargeDepth := 12) [go_sem]
  have z0 : w.heap.size + 1 < W0.heap.size := by rw [hW0]; simp
  have K0 : Below w.heap.size w W0 := by rw [hW0]; go_grown
  clear hW0
  obtain ⟨a0, a1, a2, a3, -, -, -, -⟩ := A0.out
  go_wp2_with fail
  refine (rcheck_any k n d s _ h1 h2 g1 g2).mono ?_
  rintro e w1 ⟨rfl, hb1⟩
  rw [c1]
  clear a0 a1 a2 a3
  have A1 : Hid (BlkV w1 w.heap.size k n d s) := A0.out.below hb1 (by omega)
  have B1 : Hid (BlkV w1 (w.heap.size + 1) k' n' d' s') := B0.out.below hb1 z0
  have z1 : w.heap.size + 1 < w1.heap.size := by have := hb1.size; omega
  have K1 : Below w.heap.size w w1 := K0.trans (hb1.mono K0.size)
  clear A0 B0 z0 K0 hb1
  obtain ⟨a0, a1, a2, a3, -, -, -, -⟩ := B1.out
  go_wp2_with fail
  refine (rcheck_any k' n' d' s' _ h1' h2' g1' g2').mono ?_
  rintro e w2 ⟨rfl, hb2⟩
  rw [c2]
  clear a0 a1 a2 a3
  have A2 : Hid (BlkV w2 w.heap.size k n d s) := A1.out.below hb2 (by omega)
  have B2 : Hid (BlkV w2 (w.heap.size + 1) k' n' d' s') := B1.out.below hb2 z1
  have z2 : w.heap.size + 1 < w2.heap.size := by have := hb2.size; omega
  have K2 : Below w.heap.size w w2 := K1.trans (hb2.mono K1.size)
  clear A1 B1 z1 K1 hb2
  obtain ⟨a0, a1, a2, a3, -, -, -, -⟩ := A2.out
  obtain ⟨b0, b1, b2, b3, -, -, -, -⟩ := B2.out
  go_wp2
  go_ret
  exact ⟨rfl, K2⟩

set_option maxRecDepth 100000 in
set_option maxHeartbeats 2000000 in
theorem rcmp_12 (n d : Int) (s : ByteArray) (n' d' : Int) (s' : ByteArray) (w : World) (h1 : -9223372036854775808 ≤ n) (h2 : n ≤ 9223372036854775807) (g1 : -9223372036854775808 ≤ d) (g2 : d ≤ 9223372036854775807) (h1' : -9223372036854775808 ≤ n') (h2' : n' ≤ 9223372036854775807) (g1' : -9223372036854775808 ≤ d') (g2' : d' ≤ 9223372036854775807) (c1 : chk 1 n d s = 0) (c2 : chk 2 n' d' s' = 0) :
    Calls Tryz.prog 71 #[.agg #[.int .i64 1, .int .i64 n, .int .i64 d, .string s], .agg #[.int .i64 2, .int .i64 n', .int .i64 d', .string s']] w fun e w' => e = .returned (.int .i64 (-1)) ∧ Below w.heap.size w w' := by
  go_enter Tryz.func71, Tryz.ntmps71
  go_upto_region 1 with fail
  refine wp_world ?_
  intro W0 hW0
  have A0 : Hid (BlkV W0 w.heap.size 1 n d s) := by rw [hW0]; constructor <;> simp (maxDischargeDepth := 12) [go_sem]
  have B0 : Hid (BlkV W0 (w.heap.size + 1) 2 n' d' s') := by rw [hW0]; constructor <;> simp (maxDischargeDepth := 12) [go_sem]
  have z0 : w.heap.size + 1 < W0.heap.size := by rw [hW0]; simp
  have K0 : Below w.heap.size w W0 := by rw [hW0]; go_grown
  clear hW0
  obtain ⟨a0, a1, a2, a3, -, -, -, -⟩ := A0.out
  go_wp2_with fail
  refine (rcheck_any 1 n d s _ h1 h2 g1 g2).mono ?_
  rintro e w1 ⟨rfl, hb1⟩
  rw [c1]
  clear a0 a1 a2 a3
  have A1 : Hid (BlkV w1 w.heap.size 1 n d s) := A0.out.below hb1 (by omega)
  have B1 : Hid (BlkV w1 (w.heap.size + 1) 2 n' d' s') := B0.out.below hb1 z0
  have z1 : w.heap.size + 1 < w1.heap.size := by have := hb1.size; omega
  have K1 : Below w.heap.size w w1 := K0.trans (hb1.mono K0.size)
  clear A0 B0 z0 K0 hb1
  obtain ⟨a0, a1, a2, a3, -, -, -, -⟩ := B1.out
  go_wp2_with fail
  refine (rcheck_any 2 n' d' s' _ h1' h2' g1' g2').mono ?_
  rintro e w2 ⟨rfl, hb2⟩
  rw [c2]
  clear a0 a1 a2 a3
  have A2 : Hid (BlkV w2 w.heap.size 1 n d s) := A1.out.below hb2 (by omega)
  have B2 : Hid (BlkV w2 (w.heap.size + 1) 2 n' d' s') := B1.out.below hb2 z1
  have z2 : w.heap.size + 1 < w2.heap.size := by have := hb2.size; omega
  have K2 : Below w.heap.size w w2 := K1.trans (hb2.mono K1.size)
  clear A1 B1 z1 K1 hb2
  obtain ⟨a0, a1, a2, a3, -, -, -, -⟩ := A2.out
  obtain ⟨b0, b1, b2, b3, -, -, -, -⟩ := B2.out
  go_wp2
  go_ret
  exact ⟨rfl, K2⟩

set_option maxRecDepth 100000 in
set_option maxHeartbeats 2000000 in
theorem rcmp_13 (n d : Int) (s : ByteArray) (n' d' : Int) (s' : ByteArray) (w : World) (h1 : -9223372036854775808 ≤ n) (h2 : n ≤ 9223372036854775807) (g1 : -9223372036854775808 ≤ d) (g2 : d ≤ 9223372036854775807) (h1' : -9223372036854775808 ≤ n') (h2' : n' ≤ 9223372036854775807) (g1' : -9223372036854775808 ≤ d') (g2' : d' ≤ 9223372036854775807) (c1 : chk 1 n d s = 0) (c2 : chk 3 n' d' s' = 0) :
    Calls Tryz.prog 71 #[.agg #[.int .i64 1, .int .i64 n, .int .i64 d, .string s], .agg #[.int .i64 3, .int .i64 n', .int .i64 d', .string s']] w fun e w' => e = .returned (.int .i64 (-1)) ∧ Below w.heap.size w w' := by
  go_enter Tryz.func71, Tryz.ntmps71
  go_upto_region 1 with fail
  refine wp_world ?_
  intro W0 hW0
  have A0 : Hid (BlkV W0 w.heap.size 1 n d s) := by rw [hW0]; constructor <;> simp (maxDischargeDepth := 12) [go_sem]
  have B0 : Hid (BlkV W0 (w.heap.size + 1) 3 n' d' s') := by rw [hW0]; constructor <;> simp (maxDischargeDepth := 12) [go_sem]
  have z0 : w.heap.size + 1 < W0.heap.size := by rw [hW0]; simp
  have K0 : Below w.heap.size w W0 := by rw [hW0]; go_grown
  clear hW0
  obtain ⟨a0, a1, a2, a3, -, -, -, -⟩ := A0.out
  go_wp2_with fail
  refine (rcheck_any 1 n d s _ h1 h2 g1 g2).mono ?_
  rintro e w1 ⟨rfl, hb1⟩
  rw [c1]
  clear a0 a1 a2 a3
  have A1 : Hid (BlkV w1 w.heap.size 1 n d s) := A0.out.below hb1 (by omega)
  have B1 : Hid (BlkV w1 (w.heap.size + 1) 3 n' d' s') := B0.out.below hb1 z0
  have z1 : w.heap.size + 1 < w1.heap.size := by have := hb1.size; omega
  have K1 : Below w.heap.size w w1 := K0.trans (hb1.mono K0.size)
  clear A0 B0 z0 K0 hb1
  obtain ⟨a0, a1, a2, a3, -, -, -, -⟩ := B1.out
  go_wp2_with fail
  refine (rcheck_any 3 n' d' s' _ h1' h2' g1' g2').mono ?_
  rintro e w2 ⟨rfl, hb2⟩
  rw [c2]
  clear a0 a1 a2 a3
  have A2 : Hid (BlkV w2 w.heap.size 1 n d s) := A1.out.below hb2 (by omega)
  have B2 : Hid (BlkV w2 (w.heap.size + 1) 3 n' d' s') := B1.out.below hb2 z1
  have z2 : w.heap.size + 1 < w2.heap.size := by have := hb2.size; omega
  have K2 : Below w.heap.size w w2 := K1.trans (hb2.mono K1.size)
  clear A1 B1 z1 K1 hb2
  obtain ⟨a0, a1, a2, a3, -, -, -, -⟩ := A2.out
  obtain ⟨b0, b1, b2, b3, -, -, -, -⟩ := B2.out
  go_wp2
  go_ret
  exact ⟨rfl, K2⟩

set_option maxRecDepth 100000 in
set_option maxHeartbeats 2000000 in
theorem rcmp_21 (n d : Int) (s : ByteArray) (n' d' : Int) (s' : ByteArray) (w : World) (h1 : -9223372036854775808 ≤ n) (h2 : n ≤ 9223372036854775807) (g1 : -9223372036854775808 ≤ d) (g2 : d ≤ 9223372036854775807) (h1' : -9223372036854775808 ≤ n') (h2' : n' ≤ 9223372036854775807) (g1' : -9223372036854775808 ≤ d') (g2' : d' ≤ 9223372036854775807) (c1 : chk 2 n d s = 0) (c2 : chk 1 n' d' s' = 0) :
    Calls Tryz.prog 71 #[.agg #[.int .i64 2, .int .i64 n, .int .i64 d, .string s], .agg #[.int .i64 1, .int .i64 n', .int .i64 d', .string s']] w fun e w' => e = .returned (.int .i64 (1)) ∧ Below w.heap.size w w' := by
  go_enter Tryz.func71, Tryz.ntmps71
  go_upto_region 1 with fail
  refine wp_world ?_
  intro W0 hW0
  have A0 : Hid (BlkV W0 w.heap.size 2 n d s) := by rw [hW0]; constructor <;> simp (maxDischargeDepth := 12) [go_sem]
  have B0 : Hid (BlkV W0 (w.heap.size + 1) 1 n' d' s') := by rw [hW0]; constructor <;> simp (maxDischargeDepth := 12) [go_sem]
  have z0 : w.heap.size + 1 < W0.heap.size := by rw [hW0]; simp
  have K0 : Below w.heap.size w W0 := by rw [hW0]; go_grown
  clear hW0
  obtain ⟨a0, a1, a2, a3, -, -, -, -⟩ := A0.out
  go_wp2_with fail
  refine (rcheck_any 2 n d s _ h1 h2 g1 g2).mono ?_
  rintro e w1 ⟨rfl, hb1⟩
  rw [c1]
  clear a0 a1 a2 a3
  have A1 : Hid (BlkV w1 w.heap.size 2 n d s) := A0.out.below hb1 (by omega)
  have B1 : Hid (BlkV w1 (w.heap.size + 1) 1 n' d' s') := B0.out.below hb1 z0
  have z1 : w.heap.size + 1 < w1.heap.size := by have := hb1.size; omega
  have K1 : Below w.heap.size w w1 := K0.trans (hb1.mono K0.size)
  clear A0 B0 z0 K0 hb1
  obtain ⟨a0, a1, a2, a3, -, -, -, -⟩ := B1.out
  go_wp2_with fail
  refine (rcheck_any 1 n' d' s' _ h1' h2' g1' g2').mono ?_
  rintro e w2 ⟨rfl, hb2⟩
  rw [c2]
  clear a0 a1 a2 a3
  have A2 : Hid (BlkV w2 w.heap.size 2 n d s) := A1.out.below hb2 (by omega)
  have B2 : Hid (BlkV w2 (w.heap.size + 1) 1 n' d' s') := B1.out.below hb2 z1
  have z2 : w.heap.size + 1 < w2.heap.size := by have := hb2.size; omega
  have K2 : Below w.heap.size w w2 := K1.trans (hb2.mono K1.size)
  clear A1 B1 z1 K1 hb2
  obtain ⟨a0, a1, a2, a3, -, -, -, -⟩ := A2.out
  obtain ⟨b0, b1, b2, b3, -, -, -, -⟩ := B2.out
  go_wp2
  go_ret
  exact ⟨rfl, K2⟩

set_option maxRecDepth 100000 in
set_option maxHeartbeats 2000000 in
theorem rcmp_23 (n d : Int) (s : ByteArray) (n' d' : Int) (s' : ByteArray) (w : World) (h1 : -9223372036854775808 ≤ n) (h2 : n ≤ 9223372036854775807) (g1 : -9223372036854775808 ≤ d) (g2 : d ≤ 9223372036854775807) (h1' : -9223372036854775808 ≤ n') (h2' : n' ≤ 9223372036854775807) (g1' : -9223372036854775808 ≤ d') (g2' : d' ≤ 9223372036854775807) (c1 : chk 2 n d s = 0) (c2 : chk 3 n' d' s' = 0) :
    Calls Tryz.prog 71 #[.agg #[.int .i64 2, .int .i64 n, .int .i64 d, .string s], .agg #[.int .i64 3, .int .i64 n', .int .i64 d', .string s']] w fun e w' => e = .returned (.int .i64 (-1)) ∧ Below w.heap.size w w' := by
  go_enter Tryz.func71, Tryz.ntmps71
  go_upto_region 1 with fail
  refine wp_world ?_
  intro W0 hW0
  have A0 : Hid (BlkV W0 w.heap.size 2 n d s) := by rw [hW0]; constructor <;> simp (maxDischargeDepth := 12) [go_sem]
  have B0 : Hid (BlkV W0 (w.heap.size + 1) 3 n' d' s') := by rw [hW0]; constructor <;> simp (maxDischargeDepth := 12) [go_sem]
  have z0 : w.heap.size + 1 < W0.heap.size := by rw [hW0]; simp
  have K0 : Below w.heap.size w W0 := by rw [hW0]; go_grown
  clear hW0
  obtain ⟨a0, a1, a2, a3, -, -, -, -⟩ := A0.out
  go_wp2_with fail
  refine (rcheck_any 2 n d s _ h1 h2 g1 g2).mono ?_
  rintro e w1 ⟨rfl, hb1⟩
  rw [c1]
  clear a0 a1 a2 a3
  have A1 : Hid (BlkV w1 w.heap.size 2 n d s) := A0.out.below hb1 (by omega)
  have B1 : Hid (BlkV w1 (w.heap.size + 1) 3 n' d' s') := B0.out.below hb1 z0
  have z1 : w.heap.size + 1 < w1.heap.size := by have := hb1.size; omega
  have K1 : Below w.heap.size w w1 := K0.trans (hb1.mono K0.size)
  clear A0 B0 z0 K0 hb1
  obtain ⟨a0, a1, a2, a3, -, -, -, -⟩ := B1.out
  go_wp2_with fail
  refine (rcheck_any 3 n' d' s' _ h1' h2' g1' g2').mono ?_
  rintro e w2 ⟨rfl, hb2⟩
  rw [c2]
  clear a0 a1 a2 a3
  have A2 : Hid (BlkV w2 w.heap.size 2 n d s) := A1.out.below hb2 (by omega)
  have B2 : Hid (BlkV w2 (w.heap.size + 1) 3 n' d' s') := B1.out.below hb2 z1
  have z2 : w.heap.size + 1 < w2.heap.size := by have := hb2.size; omega
  have K2 : Below w.heap.size w w2 := K1.trans (hb2.mono K1.size)
  clear A1 B1 z1 K1 hb2
  obtain ⟨a0, a1, a2, a3, -, -, -, -⟩ := A2.out
  obtain ⟨b0, b1, b2, b3, -, -, -, -⟩ := B2.out
  go_wp2
  go_ret
  exact ⟨rfl, K2⟩

set_option maxRecDepth 100000 in
set_option maxHeartbeats 2000000 in
theorem rcmp_31 (n d : Int) (s : ByteArray) (n' d' : Int) (s' : ByteArray) (w : World) (h1 : -9223372036854775808 ≤ n) (h2 : n ≤ 9223372036854775807) (g1 : -9223372036854775808 ≤ d) (g2 : d ≤ 9223372036854775807) (h1' : -9223372036854775808 ≤ n') (h2' : n' ≤ 9223372036854775807) (g1' : -9223372036854775808 ≤ d') (g2' : d' ≤ 9223372036854775807) (c1 : chk 3 n d s = 0) (c2 : chk 1 n' d' s' = 0) :
    Calls Tryz.prog 71 #[.agg #[.int .i64 3, .int .i64 n, .int .i64 d, .string s], .agg #[.int .i64 1, .int .i64 n', .int .i64 d', .string s']] w fun e w' => e = .returned (.int .i64 (1)) ∧ Below w.heap.size w w' := by
  go_enter Tryz.func71, Tryz.ntmps71
  go_upto_region 1 with fail
  refine wp_world ?_
  intro W0 hW0
  have A0 : Hid (BlkV W0 w.heap.size 3 n d s) := by rw [hW0]; constructor <;> simp (maxDischargeDepth := 12) [go_sem]
  have B0 : Hid (BlkV W0 (w.heap.size + 1) 1 n' d' s') := by rw [hW0]; constructor <;> simp (maxDischargeDepth := 12) [go_sem]
  have z0 : w.heap.size + 1 < W0.heap.size := by rw [hW0]; simp
  have K0 : Below w.heap.size w W0 := by rw [hW0]; go_grown
  clear hW0
  obtain ⟨a0, a1, a2, a3, -, -, -, -⟩ := A0.out
  go_wp2_with fail
  refine (rcheck_any 3 n d s _ h1 h2 g1 g2).mono ?_
  rintro e w1 ⟨rfl, hb1⟩
  rw [c1]
  clear a0 a1 a2 a3
  have A1 : Hid (BlkV w1 w.heap.size 3 n d s) := A0.out.below hb1 (by omega)
  have B1 : Hid (BlkV w1 (w.heap.size + 1) 1 n' d' s') := B0.out.below hb1 z0
  have z1 : w.heap.size + 1 < w1.heap.size := by have := hb1.size; omega
  have K1 : Below w.heap.size w w1 := K0.trans (hb1.mono K0.size)
  clear A0 B0 z0 K0 hb1
  obtain ⟨a0, a1, a2, a3, -, -, -, -⟩ := B1.out
  go_wp2_with fail
  refine (rcheck_any 1 n' d' s' _ h1' h2' g1' g2').mono ?_
  rintro e w2 ⟨rfl, hb2⟩
  rw [c2]
  clear a0 a1 a2 a3
  have A2 : Hid (BlkV w2 w.heap.size 3 n d s) := A1.out.below hb2 (by omega)
  have B2 : Hid (BlkV w2 (w.heap.size + 1) 1 n' d' s') := B1.out.below hb2 z1
  have z2 : w.heap.size + 1 < w2.heap.size := by have := hb2.size; omega
  have K2 : Below w.heap.size w w2 := K1.trans (hb2.mono K1.size)
  clear A1 B1 z1 K1 hb2
  obtain ⟨a0, a1, a2, a3, -, -, -, -⟩ := A2.out
  obtain ⟨b0, b1, b2, b3, -, -, -, -⟩ := B2.out
  go_wp2
  go_ret
  exact ⟨rfl, K2⟩

set_option maxRecDepth 100000 in
set_option maxHeartbeats 2000000 in
theorem rcmp_32 (n d : Int) (s : ByteArray) (n' d' : Int) (s' : ByteArray) (w : World) (h1 : -9223372036854775808 ≤ n) (h2 : n ≤ 9223372036854775807) (g1 : -9223372036854775808 ≤ d) (g2 : d ≤ 9223372036854775807) (h1' : -9223372036854775808 ≤ n') (h2' : n' ≤ 9223372036854775807) (g1' : -9223372036854775808 ≤ d') (g2' : d' ≤ 9223372036854775807) (c1 : chk 3 n d s = 0) (c2 : chk 2 n' d' s' = 0) :
    Calls Tryz.prog 71 #[.agg #[.int .i64 3, .int .i64 n, .int .i64 d, .string s], .agg #[.int .i64 2, .int .i64 n', .int .i64 d', .string s']] w fun e w' => e = .returned (.int .i64 (1)) ∧ Below w.heap.size w w' := by
  go_enter Tryz.func71, Tryz.ntmps71
  go_upto_region 1 with fail
  refine wp_world ?_
  intro W0 hW0
  have A0 : Hid (BlkV W0 w.heap.size 3 n d s) := by rw [hW0]; constructor <;> simp (maxDischargeDepth := 12) [go_sem]
  have B0 : Hid (BlkV W0 (w.heap.size + 1) 2 n' d' s') := by rw [hW0]; constructor <;> simp (maxDischargeDepth := 12) [go_sem]
  have z0 : w.heap.size + 1 < W0.heap.size := by rw [hW0]; simp
  have K0 : Below w.heap.size w W0 := by rw [hW0]; go_grown
  clear hW0
  obtain ⟨a0, a1, a2, a3, -, -, -, -⟩ := A0.out
  go_wp2_with fail
  refine (rcheck_any 3 n d s _ h1 h2 g1 g2).mono ?_
  rintro e w1 ⟨rfl, hb1⟩
  rw [c1]
  clear a0 a1 a2 a3
  have A1 : Hid (BlkV w1 w.heap.size 3 n d s) := A0.out.below hb1 (by omega)
  have B1 : Hid (BlkV w1 (w.heap.size + 1) 2 n' d' s') := B0.out.below hb1 z0
  have z1 : w.heap.size + 1 < w1.heap.size := by have := hb1.size; omega
  have K1 : Below w.heap.size w w1 := K0.trans (hb1.mono K0.size)
  clear A0 B0 z0 K0 hb1
  obtain ⟨a0, a1, a2, a3, -, -, -, -⟩ := B1.out
  go_wp2_with fail
  refine (rcheck_any 2 n' d' s' _ h1' h2' g1' g2').mono ?_
  rintro e w2 ⟨rfl, hb2⟩
  rw [c2]
  clear a0 a1 a2 a3
  have A2 : Hid (BlkV w2 w.heap.size 3 n d s) := A1.out.below hb2 (by omega)
  have B2 : Hid (BlkV w2 (w.heap.size + 1) 2 n' d' s') := B1.out.below hb2 z1
  have z2 : w.heap.size + 1 < w2.heap.size := by have := hb2.size; omega
  have K2 : Below w.heap.size w w2 := K1.trans (hb2.mono K1.size)
  clear A1 B1 z1 K1 hb2
  obtain ⟨a0, a1, a2, a3, -, -, -, -⟩ := A2.out
  obtain ⟨b0, b1, b2, b3, -, -, -, -⟩ := B2.out
  go_wp2
  go_ret
  exact ⟨rfl, K2⟩

set_option maxRecDepth 100000 in
set_option maxHeartbeats 2000000 in
theorem rcmp_11lt (n d : Int) (s : ByteArray) (n' d' : Int) (s' : ByteArray) (w : World) (h1 : -9223372036854775808 ≤ n) (h2 : n ≤ 9223372036854775807) (g1 : -9223372036854775808 ≤ d) (g2 : d ≤ 9223372036854775807) (h1' : -9223372036854775808 ≤ n') (h2' : n' ≤ 9223372036854775807) (g1' : -9223372036854775808 ≤ d') (g2' : d' ≤ 9223372036854775807) (c1 : chk 1 n d s = 0) (c2 : chk 1 n' d' s' = 0) (m1 : n < n') :
    Calls Tryz.prog 71 #[.agg #[.int .i64 1, .int .i64 n, .int .i64 d, .string s], .agg #[.int .i64 1, .int .i64 n', .int .i64 d', .string s']] w fun e w' => e = .returned (.int .i64 (-1)) ∧ Below w.heap.size w w' := by
  go_enter Tryz.func71, Tryz.ntmps71
  go_upto_region 1 with fail
  refine wp_world ?_
  intro W0 hW0
  have A0 : Hid (BlkV W0 w.heap.size 1 n d s) := by rw [hW0]; constructor <;> simp (maxDischargeDepth := 12) [go_sem]
  have B0 : Hid (BlkV W0 (w.heap.size + 1) 1 n' d' s') := by rw [hW0]; constructor <;> simp (maxDischargeDepth := 12) [go_sem]
  have z0 : w.heap.size + 1 < W0.heap.size := by rw [hW0]; simp
  have K0 : Below w.heap.size w W0 := by rw [hW0]; go_grown
  clear hW0
  obtain ⟨a0, a1, a2, a3, -, -, -, -⟩ := A0.out
  go_wp2_with fail
  refine (rcheck_any 1 n d s _ h1 h2 g1 g2).mono ?_
  rintro e w1 ⟨rfl, hb1⟩
  rw [c1]
  clear a0 a1 a2 a3
  have A1 : Hid (BlkV w1 w.heap.size 1 n d s) := A0.out.below hb1 (by omega)
  have B1 : Hid (BlkV w1 (w.heap.size + 1) 1 n' d' s') := B0.out.below hb1 z0
  have z1 : w.heap.size + 1 < w1.heap.size := by have := hb1.size; omega
  have K1 : Below w.heap.size w w1 := K0.trans (hb1.mono K0.size)
  clear A0 B0 z0 K0 hb1
  obtain ⟨a0, a1, a2, a3, -, -, -, -⟩ := B1.out
  go_wp2_with fail
  refine (rcheck_any 1 n' d' s' _ h1' h2' g1' g2').mono ?_
  rintro e w2 ⟨rfl, hb2⟩
  rw [c2]
  clear a0 a1 a2 a3
  have A2 : Hid (BlkV w2 w.heap.size 1 n d s) := A1.out.below hb2 (by omega)
  have B2 : Hid (BlkV w2 (w.heap.size + 1) 1 n' d' s') := B1.out.below hb2 z1
  have z2 : w.heap.size + 1 < w2.heap.size := by have := hb2.size; omega
  have K2 : Below w.heap.size w w2 := K1.trans (hb2.mono K1.size)
  clear A1 B1 z1 K1 hb2
  obtain ⟨a0, a1, a2, a3, -, -, -, -⟩ := A2.out
  obtain ⟨b0, b1, b2, b3, -, -, -, -⟩ := B2.out
  go_wp2
  go_ret
  exact ⟨rfl, K2⟩

set_option maxRecDepth 100000 in
set_option maxHeartbeats 2000000 in
theorem rcmp_11gt (n d : Int) (s : ByteArray) (n' d' : Int) (s' : ByteArray) (w : World) (h1 : -9223372036854775808 ≤ n) (h2 : n ≤ 9223372036854775807) (g1 : -9223372036854775808 ≤ d) (g2 : d ≤ 9223372036854775807) (h1' : -9223372036854775808 ≤ n') (h2' : n' ≤ 9223372036854775807) (g1' : -9223372036854775808 ≤ d') (g2' : d' ≤ 9223372036854775807) (c1 : chk 1 n d s = 0) (c2 : chk 1 n' d' s' = 0) (m1 : (n < n') = False) (m2 : n' < n) :
    Calls Tryz.prog 71 #[.agg #[.int .i64 1, .int .i64 n, .int .i64 d, .string s], .agg #[.int .i64 1, .int .i64 n', .int .i64 d', .string s']] w fun e w' => e = .returned (.int .i64 1) ∧ Below w.heap.size w w' := by
  go_enter Tryz.func71, Tryz.ntmps71
  go_upto_region 1 with fail
  refine wp_world ?_
  intro W0 hW0
  have A0 : Hid (BlkV W0 w.heap.size 1 n d s) := by rw [hW0]; constructor <;> simp (maxDischargeDepth := 12) [go_sem]
  have B0 : Hid (BlkV W0 (w.heap.size + 1) 1 n' d' s') := by rw [hW0]; constructor <;> simp (maxDischargeDepth := 12) [go_sem]
  have z0 : w.heap.size + 1 < W0.heap.size := by rw [hW0]; simp
  have K0 : Below w.heap.size w W0 := by rw [hW0]; go_grown
  clear hW0
  obtain ⟨a0, a1, a2, a3, -, -, -, -⟩ := A0.out
  go_wp2_with fail
  refine (rcheck_any 1 n d s _ h1 h2 g1 g2).mono ?_
  rintro e w1 ⟨rfl, hb1⟩
  rw [c1]
  clear a0 a1 a2 a3
  have A1 : Hid (BlkV w1 w.heap.size 1 n d s) := A0.out.below hb1 (by omega)
  have B1 : Hid (BlkV w1 (w.heap.size + 1) 1 n' d' s') := B0.out.below hb1 z0
  have z1 : w.heap.size + 1 < w1.heap.size := by have := hb1.size; omega
  have K1 : Below w.heap.size w w1 := K0.trans (hb1.mono K0.size)
  clear A0 B0 z0 K0 hb1
  obtain ⟨a0, a1, a2, a3, -, -, -, -⟩ := B1.out
  go_wp2_with fail
  refine (rcheck_any 1 n' d' s' _ h1' h2' g1' g2').mono ?_
  rintro e w2 ⟨rfl, hb2⟩
  rw [c2]
  clear a0 a1 a2 a3
  have A2 : Hid (BlkV w2 w.heap.size 1 n d s) := A1.out.below hb2 (by omega)
  have B2 : Hid (BlkV w2 (w.heap.size + 1) 1 n' d' s') := B1.out.below hb2 z1
  have z2 : w.heap.size + 1 < w2.heap.size := by have := hb2.size; omega
  have K2 : Below w.heap.size w w2 := K1.trans (hb2.mono K1.size)
  clear A1 B1 z1 K1 hb2
  obtain ⟨a0, a1, a2, a3, -, -, -, -⟩ := A2.out
  obtain ⟨b0, b1, b2, b3, -, -, -, -⟩ := B2.out
  go_wp2
  go_ret
  exact ⟨rfl, K2⟩

set_option maxRecDepth 100000 in
set_option maxHeartbeats 2000000 in
theorem rcmp_11eq (n d : Int) (s : ByteArray) (n' d' : Int) (s' : ByteArray) (w : World) (h1 : -9223372036854775808 ≤ n) (h2 : n ≤ 9223372036854775807) (g1 : -9223372036854775808 ≤ d) (g2 : d ≤ 9223372036854775807) (h1' : -9223372036854775808 ≤ n') (h2' : n' ≤ 9223372036854775807) (g1' : -9223372036854775808 ≤ d') (g2' : d' ≤ 9223372036854775807) (c1 : chk 1 n d s = 0) (c2 : chk 1 n' d' s' = 0) (m1 : (n < n') = False) (m2 : (n' < n) = False) :
    Calls Tryz.prog 71 #[.agg #[.int .i64 1, .int .i64 n, .int .i64 d, .string s], .agg #[.int .i64 1, .int .i64 n', .int .i64 d', .string s']] w fun e w' => e = .returned (.int .i64 0) ∧ Below w.heap.size w w' := by
  go_enter Tryz.func71, Tryz.ntmps71
  go_upto_region 1 with fail
  refine wp_world ?_
  intro W0 hW0
  have A0 : Hid (BlkV W0 w.heap.size 1 n d s) := by rw [hW0]; constructor <;> simp (maxDischargeDepth := 12) [go_sem]
  have B0 : Hid (BlkV W0 (w.heap.size + 1) 1 n' d' s') := by rw [hW0]; constructor <;> simp (maxDischargeDepth := 12) [go_sem]
  have z0 : w.heap.size + 1 < W0.heap.size := by rw [hW0]; simp
  have K0 : Below w.heap.size w W0 := by rw [hW0]; go_grown
  clear hW0
  obtain ⟨a0, a1, a2, a3, -, -, -, -⟩ := A0.out
  go_wp2_with fail
  refine (rcheck_any 1 n d s _ h1 h2 g1 g2).mono ?_
  rintro e w1 ⟨rfl, hb1⟩
  rw [c1]
  clear a0 a1 a2 a3
  have A1 : Hid (BlkV w1 w.heap.size 1 n d s) := A0.out.below hb1 (by omega)
  have B1 : Hid (BlkV w1 (w.heap.size + 1) 1 n' d' s') := B0.out.below hb1 z0
  have z1 : w.heap.size + 1 < w1.heap.size := by have := hb1.size; omega
  have K1 : Below w.heap.size w w1 := K0.trans (hb1.mono K0.size)
  clear A0 B0 z0 K0 hb1
  obtain ⟨a0, a1, a2, a3, -, -, -, -⟩ := B1.out
  go_wp2_with fail
  refine (rcheck_any 1 n' d' s' _ h1' h2' g1' g2').mono ?_
  rintro e w2 ⟨rfl, hb2⟩
  rw [c2]
  clear a0 a1 a2 a3
  have A2 : Hid (BlkV w2 w.heap.size 1 n d s) := A1.out.below hb2 (by omega)
  have B2 : Hid (BlkV w2 (w.heap.size + 1) 1 n' d' s') := B1.out.below hb2 z1
  have z2 : w.heap.size + 1 < w2.heap.size := by have := hb2.size; omega
  have K2 : Below w.heap.size w w2 := K1.trans (hb2.mono K1.size)
  clear A1 B1 z1 K1 hb2
  obtain ⟨a0, a1, a2, a3, -, -, -, -⟩ := A2.out
  obtain ⟨b0, b1, b2, b3, -, -, -, -⟩ := B2.out
  go_wp2
  go_ret
  exact ⟨rfl, K2⟩

set_option maxRecDepth 100000 in
set_option maxHeartbeats 2000000 in
theorem rcmp_33 (n d : Int) (s : ByteArray) (n' d' : Int) (s' : ByteArray) (w : World) (h1 : -9223372036854775808 ≤ n) (h2 : n ≤ 9223372036854775807) (g1 : -9223372036854775808 ≤ d) (g2 : d ≤ 9223372036854775807) (h1' : -9223372036854775808 ≤ n') (h2' : n' ≤ 9223372036854775807) (g1' : -9223372036854775808 ≤ d') (g2' : d' ≤ 9223372036854775807) (c1 : chk 3 n d s = 0) (c2 : chk 3 n' d' s' = 0) :
    Calls Tryz.prog 71 #[.agg #[.int .i64 3, .int .i64 n, .int .i64 d, .string s], .agg #[.int .i64 3, .int .i64 n', .int .i64 d', .string s']] w fun e w' => e = .returned (.int .i64 (Lib.compareBytes s.data.toList s'.data.toList)) ∧ Below w.heap.size w w' := by
  have y1 := chk_short c1
  have y2 := chk_short c2
  go_enter Tryz.func71, Tryz.ntmps71
  go_upto_region 1 with fail
  refine wp_world ?_
  intro W0 hW0
  have A0 : Hid (BlkV W0 w.heap.size 3 n d s) := by rw [hW0]; constructor <;> simp (maxDischargeDepth := 12) [go_sem]
  have B0 : Hid (BlkV W0 (w.heap.size + 1) 3 n' d' s') := by rw [hW0]; constructor <;> simp (maxDischargeDepth := 12) [go_sem]
  have z0 : w.heap.size + 1 < W0.heap.size := by rw [hW0]; simp
  have K0 : Below w.heap.size w W0 := by rw [hW0]; go_grown
  clear hW0
  obtain ⟨a0, a1, a2, a3, -, -, -, -⟩ := A0.out
  go_wp2_with fail
  refine (rcheck_any 3 n d s _ h1 h2 g1 g2).mono ?_
  rintro e w1 ⟨rfl, hb1⟩
  rw [c1]
  clear a0 a1 a2 a3
  have A1 : Hid (BlkV w1 w.heap.size 3 n d s) := A0.out.below hb1 (by omega)
  have B1 : Hid (BlkV w1 (w.heap.size + 1) 3 n' d' s') := B0.out.below hb1 z0
  have z1 : w.heap.size + 1 < w1.heap.size := by have := hb1.size; omega
  have K1 : Below w.heap.size w w1 := K0.trans (hb1.mono K0.size)
  clear A0 B0 z0 K0 hb1
  obtain ⟨a0, a1, a2, a3, -, -, -, -⟩ := B1.out
  go_wp2_with fail
  refine (rcheck_any 3 n' d' s' _ h1' h2' g1' g2').mono ?_
  rintro e w2 ⟨rfl, hb2⟩
  rw [c2]
  clear a0 a1 a2 a3
  have A2 : Hid (BlkV w2 w.heap.size 3 n d s) := A1.out.below hb2 (by omega)
  have B2 : Hid (BlkV w2 (w.heap.size + 1) 3 n' d' s') := B1.out.below hb2 z1
  have z2 : w.heap.size + 1 < w2.heap.size := by have := hb2.size; omega
  have K2 : Below w.heap.size w w2 := K1.trans (hb2.mono K1.size)
  clear A1 B1 z1 K1 hb2
  obtain ⟨a0, a1, a2, a3, -, -, -, -⟩ := A2.out
  obtain ⟨b0, b1, b2, b3, -, -, -, -⟩ := B2.out
  go_wp2_with fail
  refine (texts_any s s' _ (by omega) (by omega)).mono ?_
  rintro e w3 ⟨rfl, hb3⟩
  go_wp2
  go_ret
  exact ⟨rfl, K2.trans (hb3.mono K2.size)⟩

set_option maxRecDepth 100000 in
set_option maxHeartbeats 2000000 in
theorem rcmp_22 (n d : Int) (s : ByteArray) (n' d' : Int) (s' : ByteArray) (w : World) (h1 : -9223372036854775808 ≤ n) (h2 : n ≤ 9223372036854775807) (g1 : -9223372036854775808 ≤ d) (g2 : d ≤ 9223372036854775807) (h1' : -9223372036854775808 ≤ n') (h2' : n' ≤ 9223372036854775807) (g1' : -9223372036854775808 ≤ d') (g2' : d' ≤ 9223372036854775807) (c1 : chk 2 n d s = 0) (c2 : chk 2 n' d' s' = 0) :
    Calls Tryz.prog 71 #[.agg #[.int .i64 2, .int .i64 n, .int .i64 d, .string s], .agg #[.int .i64 2, .int .i64 n', .int .i64 d', .string s']] w fun e w' => e = .returned (.int .i64 (cmpV n d n' d')) ∧ Below w.heap.size w w' := by
  go_enter Tryz.func71, Tryz.ntmps71
  go_upto_region 1 with fail
  refine wp_world ?_
  intro W0 hW0
  have A0 : Hid (BlkV W0 w.heap.size 2 n d s) := by rw [hW0]; constructor <;> simp (maxDischargeDepth := 12) [go_sem]
  have B0 : Hid (BlkV W0 (w.heap.size + 1) 2 n' d' s') := by rw [hW0]; constructor <;> simp (maxDischargeDepth := 12) [go_sem]
  have z0 : w.heap.size + 1 < W0.heap.size := by rw [hW0]; simp
  have K0 : Below w.heap.size w W0 := by rw [hW0]; go_grown
  clear hW0
  obtain ⟨a0, a1, a2, a3, -, -, -, -⟩ := A0.out
  go_wp2_with fail
  refine (rcheck_any 2 n d s _ h1 h2 g1 g2).mono ?_
  rintro e w1 ⟨rfl, hb1⟩
  rw [c1]
  clear a0 a1 a2 a3
  have A1 : Hid (BlkV w1 w.heap.size 2 n d s) := A0.out.below hb1 (by omega)
  have B1 : Hid (BlkV w1 (w.heap.size + 1) 2 n' d' s') := B0.out.below hb1 z0
  have z1 : w.heap.size + 1 < w1.heap.size := by have := hb1.size; omega
  have K1 : Below w.heap.size w w1 := K0.trans (hb1.mono K0.size)
  clear A0 B0 z0 K0 hb1
  obtain ⟨a0, a1, a2, a3, -, -, -, -⟩ := B1.out
  go_wp2_with fail
  refine (rcheck_any 2 n' d' s' _ h1' h2' g1' g2').mono ?_
  rintro e w2 ⟨rfl, hb2⟩
  rw [c2]
  clear a0 a1 a2 a3
  have A2 : Hid (BlkV w2 w.heap.size 2 n d s) := A1.out.below hb2 (by omega)
  have B2 : Hid (BlkV w2 (w.heap.size + 1) 2 n' d' s') := B1.out.below hb2 z1
  have z2 : w.heap.size + 1 < w2.heap.size := by have := hb2.size; omega
  have K2 : Below w.heap.size w w2 := K1.trans (hb2.mono K1.size)
  clear A1 B1 z1 K1 hb2
  obtain ⟨a0, a1, a2, a3, -, -, -, -⟩ := A2.out
  obtain ⟨b0, b1, b2, b3, -, -, -, -⟩ := B2.out
  have up : ∀ w9, Below w2.heap.size w2 w9 → Below w.heap.size w w9 := fun _ g => K2.trans (g.mono K2.size)
  have z_a : w.heap.size < w2.heap.size := by omega
  go_upto_region 6 with fail
  go_region_held3 (fun w' => w'.cell? ⟨w.heap.size, 0, none⟩ = some (.int .i64 2) ∧ w'.cell? ⟨w.heap.size, 1, none⟩ = some (.int .i64 n) ∧ w'.cell? ⟨w.heap.size, 2, none⟩ = some (.int .i64 d) ∧ w'.cell? ⟨w.heap.size, 3, none⟩ = some (.string s) ∧ w'.cell? ⟨w.heap.size + 1, 0, none⟩ = some (.int .i64 2) ∧ w'.cell? ⟨w.heap.size + 1, 1, none⟩ = some (.int .i64 n') ∧ w'.cell? ⟨w.heap.size + 1, 2, none⟩ = some (.int .i64 d') ∧ w'.cell? ⟨w.heap.size + 1, 3, none⟩ = some (.string s')) (exact keep8 (show Below w2.heap.size w2 _ from (by repeat' (first | (with_reducible exact Below.refl _ _) | (with_reducible assumption) | (with_reducible refine bdrewN _ ?_) | (with_reducible refine Below.alloc ?_ ?_ _) | (with_reducible refine Below.drew ?_) | go_size))) a0 a1 a2 a3 b0 b1 b2 b3 z_a z2)
    (first
      | (go_at_call 105; refine (rfrac_ex _ _ _ _ _).mono ?_; rintro e wa ⟨rfl, ca1, ca2, rfl⟩)
      | (go_at_call 106; refine (rcmp_all n d n' d' _ h1 h2 g1 g2 h1' h2' g1' g2').mono ?_; rintro e w1 ⟨rfl, hb1⟩; obtain ⟨hc1, hf1, hz1, hB1, hn1, hm1⟩ := bg (n := w2.heap.size) (W0 := w2) (by repeat' (first | (with_reducible exact Below.refl _ _) | (with_reducible assumption) | (with_reducible refine bdrewN _ ?_) | (with_reducible refine Below.alloc ?_ ?_ _) | (with_reducible refine Below.drew ?_) | go_size)) (by go_size) hb1; clear hm1))
  all_goals
    go_wp2
    go_ret
    refine ⟨rfl, up _ ?_⟩
    exact (by repeat' (first | (with_reducible exact Below.refl _ _) | (with_reducible assumption) | (with_reducible refine bdrewN _ ?_) | (with_reducible refine Below.alloc ?_ ?_ _) | (with_reducible refine Below.drew ?_) | go_size))

theorem dcompare_any (k n d : Int) (s : ByteArray) (k' n' d' : Int) (s' : ByteArray) (w : World) (h1 : -9223372036854775808 ≤ n) (h2 : n ≤ 9223372036854775807) (g1 : -9223372036854775808 ≤ d) (g2 : d ≤ 9223372036854775807) (h1' : -9223372036854775808 ≤ n') (h2' : n' ≤ 9223372036854775807) (g1' : -9223372036854775808 ≤ d') (g2' : d' ≤ 9223372036854775807) :
    Calls Tryz.prog 71 #[.agg #[.int .i64 k, .int .i64 n, .int .i64 d, .string s], .agg #[.int .i64 k', .int .i64 n', .int .i64 d', .string s']] w fun e w' => e = .returned (.int .i64 (vcmp k n d s k' n' d' s')) ∧ Below w.heap.size w w' := by
  by_cases c1 : chk k n d s = 0
  · by_cases c2 : chk k' n' d' s' = 0
    · rcases chk_kind c1 with rfl | rfl | rfl <;> rcases chk_kind c2 with rfl | rfl | rfl
      · by_cases m1 : n < n'
        · have e0 : vcmp 1 n d s 1 n' d' s' = -1 := by simp [vcmp, c1, c2, Lib.compareInt, m1]
          rw [e0]
          exact rcmp_11lt n d s n' d' s' w h1 h2 g1 g2 h1' h2' g1' g2' c1 c2 m1
        · by_cases m2 : n' < n
          · have e0 : vcmp 1 n d s 1 n' d' s' = 1 := by simp [vcmp, c1, c2, Lib.compareInt, m1, m2]
            rw [e0]
            exact rcmp_11gt n d s n' d' s' w h1 h2 g1 g2 h1' h2' g1' g2' c1 c2 (by simp; omega) m2
          · have e0 : vcmp 1 n d s 1 n' d' s' = 0 := by simp [vcmp, c1, c2, Lib.compareInt, m1, m2]
            rw [e0]
            exact rcmp_11eq n d s n' d' s' w h1 h2 g1 g2 h1' h2' g1' g2' c1 c2 (by simp; omega) (by simp; omega)
      · have e0 : vcmp 1 n d s 2 n' d' s' = -1 := by simp [vcmp, c1, c2, Lib.compareInt]
        rw [e0]
        exact rcmp_12 n d s n' d' s' w h1 h2 g1 g2 h1' h2' g1' g2' c1 c2
      · have e0 : vcmp 1 n d s 3 n' d' s' = -1 := by simp [vcmp, c1, c2, Lib.compareInt]
        rw [e0]
        exact rcmp_13 n d s n' d' s' w h1 h2 g1 g2 h1' h2' g1' g2' c1 c2
      · have e0 : vcmp 2 n d s 1 n' d' s' = 1 := by simp [vcmp, c1, c2, Lib.compareInt]
        rw [e0]
        exact rcmp_21 n d s n' d' s' w h1 h2 g1 g2 h1' h2' g1' g2' c1 c2
      · have e0 : vcmp 2 n d s 2 n' d' s' = (cmpV n d n' d') := by simp [vcmp, c1, c2]
        rw [e0]
        exact rcmp_22 n d s n' d' s' w h1 h2 g1 g2 h1' h2' g1' g2' c1 c2
      · have e0 : vcmp 2 n d s 3 n' d' s' = -1 := by simp [vcmp, c1, c2, Lib.compareInt]
        rw [e0]
        exact rcmp_23 n d s n' d' s' w h1 h2 g1 g2 h1' h2' g1' g2' c1 c2
      · have e0 : vcmp 3 n d s 1 n' d' s' = 1 := by simp [vcmp, c1, c2, Lib.compareInt]
        rw [e0]
        exact rcmp_31 n d s n' d' s' w h1 h2 g1 g2 h1' h2' g1' g2' c1 c2
      · have e0 : vcmp 3 n d s 2 n' d' s' = 1 := by simp [vcmp, c1, c2, Lib.compareInt]
        rw [e0]
        exact rcmp_32 n d s n' d' s' w h1 h2 g1 g2 h1' h2' g1' g2' c1 c2
      · have e0 : vcmp 3 n d s 3 n' d' s' = (Lib.compareBytes s.data.toList s'.data.toList) := by simp [vcmp, c1, c2]
        rw [e0]
        exact rcmp_33 n d s n' d' s' w h1 h2 g1 g2 h1' h2' g1' g2' c1 c2
    · have e0 : vcmp k n d s k' n' d' s' = 0 := by simp [vcmp, c2]
      rw [e0]
      exact rcmp_bad2 k n d s k' n' d' s' w h1 h2 g1 g2 h1' h2' g1' g2' _ c1 rfl (by simpa using c2)
  · have e0 : vcmp k n d s k' n' d' s' = 0 := by simp [vcmp, c1]
    rw [e0]
    exact rcmp_bad1 k n d s k' n' d' s' w h1 h2 g1 g2 h1' h2' g1' g2' _ _ rfl rfl (by simpa using c1)

end Go.Proofs.YteipohpfaofchaaGreat

namespace Go.Proofs.YteipohpfaofchaaGreat
open Go.RowKit Go.Shelf
set_option linter.unusedVariables false

set_option maxRecDepth 100000 in
set_option maxHeartbeats 2000000 in
theorem drow_core (b off c b' off' c' : Nat) (xs ys : List Val) (w : World) (fx : ∀ v ∈ xs, v.Fits) (fy : ∀ v ∈ ys, v.Fits) (hb : b < w.heap.size) (hb' : b' < w.heap.size)
    (hx : Lies w b off xs) (hy : Lies w b' off' ys) (lx : xs.length ≤ 9223372036854775807) (ly : ys.length ≤ 9223372036854775807) :
    Calls Tryz.prog 40 #[.slice (some ⟨b, off, none⟩) xs.length c, .slice (some ⟨b', off', none⟩) ys.length c'] w fun e w' => e = .returned (.int .i64 (rowC xs ys)) ∧ Below w.heap.size w w' := by
  obtain ⟨n, en⟩ : ∃ n : Nat, Hid (xs.length = n) := ⟨_, rfl⟩
  obtain ⟨m, em⟩ : ∃ m : Nat, Hid (ys.length = m) := ⟨_, rfl⟩
  rw [en.out] at lx ⊢
  rw [em.out] at ly ⊢
  obtain ⟨u, eu⟩ : ∃ u : Nat, Hid (min n m = u) := ⟨_, rfl⟩
  have HX : Hid (Lies w b off xs) := hx
  have HY : Hid (Lies w b' off' ys) := hy
  clear hx hy
  go_enter Tryz.func40, Tryz.ntmps40
  go_wp2
  go_loopw [5] (fun i wr => ∃ k : Nat, k ≤ u ∧ i = .int .i64 k ∧ Hid (rowC xs ys = rowC (xs.drop k) (ys.drop k)) ∧ Below w.heap.size w wr) (fun i _ => u - (intOf i).toNat)
  case atStart => exact ⟨0, Nat.zero_le _, rfl, (show rowC xs ys = rowC (xs.drop 0) (ys.drop 0) by simp), Below.refl _ _⟩
  case round =>
    obtain ⟨k, hk, rfl, hr, hB⟩ := hrel
    by_cases hlt : k < u
    · have kx : k < xs.length := by have := eu.out; have := en.out; omega
      have ky : k < ys.length := by have := eu.out; have := em.out; omega
      have kn : k < n := by have := en.out; omega
      have km : k < m := by have := em.out; omega
      have q1 := (HX.out.below hB hb) k kx
      have q2 := (HY.out.below hB hb') k ky
      have f1 := fx xs[k] (List.getElem_mem kx)
      have f2 := fy ys[k] (List.getElem_mem ky)
      have dx := drop_at kx
      have dy := drop_at ky
      generalize xs[k] = X at q1 f1 dx
      generalize ys[k] = Y at q2 f2 dy
      have hr2 : Hid (rowC xs ys = if X.cmp Y = 0 then rowC (xs.drop (k + 1)) (ys.drop (k + 1)) else X.cmp Y) := by
        have := hr.out
        rw [dx, dy] at this
        exact this
      clear dx dy hr
      obtain ⟨a0, a1, a2, a3⟩ := q1
      obtain ⟨b0, b1, b2, b3⟩ := q2
      have hbr : b < wr.heap.size := Nat.lt_of_lt_of_le hb hB.size
      have hbr' : b' < wr.heap.size := Nat.lt_of_lt_of_le hb' hB.size
      obtain ⟨C, eC⟩ : ∃ C : Int, Hid (X.cmp Y = C) := ⟨_, rfl⟩
      have ct : Hid (∀ W : World, Calls Tryz.prog 71 #[.agg #[.int .i64 X.k, .int .i64 X.n, .int .i64 X.d, .string X.s], .agg #[.int .i64 Y.k, .int .i64 Y.n, .int .i64 Y.d, .string Y.s]] W fun e w' => e = .returned (.int .i64 C) ∧ Below W.heap.size W w') := fun W => by
        have h := dcompare_any X.k X.n X.d X.s Y.k Y.n Y.d Y.s W f1.n1 f1.n2 f1.d1 f1.d2 f2.n1 f2.n2 f2.d1 f2.d2
        rw [show vcmp X.k X.n X.d X.s Y.k Y.n Y.d Y.s = C from eC.out] at h
        exact h
      rw [eC.out] at hr2
      clear f1 f2
      go_upto_region 4 with fail
      go_region_held3 (fun w' => w'.cell? ⟨b, off + k * 4, none⟩ = some (.int .i64 X.k) ∧ w'.cell? ⟨b, off + k * 4 + 1, none⟩ = some (.int .i64 X.n) ∧ w'.cell? ⟨b, off + k * 4 + 2, none⟩ = some (.int .i64 X.d) ∧ w'.cell? ⟨b, off + k * 4 + 3, none⟩ = some (.string X.s) ∧ w'.cell? ⟨b', off' + k * 4, none⟩ = some (.int .i64 Y.k) ∧ w'.cell? ⟨b', off' + k * 4 + 1, none⟩ = some (.int .i64 Y.n) ∧ w'.cell? ⟨b', off' + k * 4 + 2, none⟩ = some (.int .i64 Y.d) ∧ w'.cell? ⟨b', off' + k * 4 + 3, none⟩ = some (.string Y.s))
        (exact ⟨bcl (n := wr.heap.size) (by go_grown) a0 hbr, bcl (n := wr.heap.size) (by go_grown) a1 hbr, bcl (n := wr.heap.size) (by go_grown) a2 hbr, bcl (n := wr.heap.size) (by go_grown) a3 hbr, bcl (n := wr.heap.size) (by go_grown) b0 hbr', bcl (n := wr.heap.size) (by go_grown) b1 hbr', bcl (n := wr.heap.size) (by go_grown) b2 hbr', bcl (n := wr.heap.size) (by go_grown) b3 hbr'⟩)
        (first
          | (go_at_call 71; refine (ct.out _).mono ?_; rintro e v1 ⟨rfl, hv1⟩; obtain ⟨hw1, hn1⟩ := bg0 (n := wr.heap.size) (W0 := wr) (by go_grown) (by go_size) hv1; clear hv1))
      clear a0 a1 a2 a3 b0 b1 b2 b3
      have hB2 : Below w.heap.size w v1 := hB.trans (hw1.mono hB.size)
      clear hw1 hB
      by_cases hC : C = 0
      · have hr3 : Hid (rowC xs ys = rowC (xs.drop (k + 1)) (ys.drop (k + 1))) := by have := hr2.out; rw [if_pos hC] at this; exact this
        clear hr2 eC ct
        subst hC
        go_wp2
        exact ⟨⟨k + 1, by omega, by go_num, hr3, hB2⟩, by simp [intOf]; omega⟩
      · have hC' : (C != 0) = true := by simpa using hC
        go_wp2
        go_ret
        exact ⟨ret_int (by have := hr2.out; rw [if_neg hC] at this; exact this.symm), hB2⟩
    · have ek : k = u := by omega
      have hz : Hid (rowC xs ys = Lib.compareInt n m) := by
        have h1 := hr.out
        have h2 := rowC_end' xs ys k (by have := eu.out; have := en.out; have := em.out; omega) (by have := eu.out; have := en.out; have := em.out; omega) (by have := eu.out; have := en.out; have := em.out; omega)
        rw [en.out, em.out] at h2
        exact h1.trans h2
      clear hr
      have hB1 : Hid (Below w.heap.size w wr) := hB
      clear hB
      by_cases c1 : k < n
      all_goals
        have c2 : k < n → ¬ k < m := fun _ => by have := eu.out; omega
        first
          | (have c3 := c2 c1; clear c2)
          | clear c2
        go_wp2_with fail
        refine (sizes_any n m _).mono ?_
        rintro e w3 ⟨rfl, rfl⟩
        go_wp2
        go_ret
        exact ⟨ret_int hz.out.symm, hB1.out⟩

set_option maxRecDepth 100000 in
set_option maxHeartbeats 2000000 in
theorem drow_left (p q : Option Addr) (c m c' : Nat) (w : World) (hm : m ≤ 9223372036854775807) :
    Calls Tryz.prog 40 #[.slice p 0 c, .slice q m c'] w fun e w' => e = .returned (.int .i64 (Lib.compareInt 0 m)) ∧ w' = w := by
  go_enter Tryz.func40, Tryz.ntmps40
  go_wp2
  refine wp_loop_rounds 1 ?_
  rw [rounds_succ]
  go_wp2_with fail
  refine (sizes_any 0 m _).mono ?_
  rintro e w3 ⟨rfl, rfl⟩
  go_wp2
  go_ret
  exact ⟨rfl, rfl⟩

set_option maxRecDepth 100000 in
set_option maxHeartbeats 2000000 in
theorem drow_right (p q : Option Addr) (c m c' : Nat) (w : World) (hm : m ≤ 9223372036854775807) (hp : 0 < m) :
    Calls Tryz.prog 40 #[.slice p m c, .slice q 0 c'] w fun e w' => e = .returned (.int .i64 (Lib.compareInt m 0)) ∧ w' = w := by
  go_enter Tryz.func40, Tryz.ntmps40
  go_wp2
  refine wp_loop_rounds 1 ?_
  rw [rounds_succ]
  go_wp2_with fail
  refine (sizes_any m 0 _).mono ?_
  rintro e w3 ⟨rfl, rfl⟩
  go_wp2
  go_ret
  exact ⟨rfl, rfl⟩

end Go.Proofs.YteipohpfaofchaaGreat

namespace Go.Proofs.YteipohpfaofchaaGreat
open Go.RowKit Go.Shelf
set_option linter.unusedVariables false

theorem inV : (Tryz.prog.info? 47).map (fun i => (i.zero, i.size, i.bytes)) = some (some (.agg #[.int .i64 0, .int .i64 0, .int .i64 0, .string ⟨#[]⟩]), 4, 40) := by kernel_rfl

/-- The cells of a value, and of a row. -/
def vcells (x : Val) : List Value := [.int .i64 x.k, .int .i64 x.n, .int .i64 x.d, .string x.s]
def flat (xs : List Val) : List Value := xs.flatMap vcells
theorem flat_len (xs : List Val) : (flat xs).length = xs.length * 4 := by
  induction xs with
  | nil => rfl
  | cons x xs ih => simp only [flat, List.flatMap_cons, List.length_append, List.length_cons] at ih ⊢; rw [ih]; simp [vcells]; omega
theorem flat_get : ∀ (xs : List Val) (i j : Nat) (h : i < xs.length), j < 4 → (flat xs)[i * 4 + j]? = (vcells xs[i])[j]?
  | [], i, j, h, _ => by simp at h
  | x :: xs, 0, j, h, hj => by
    simp only [flat, List.flatMap_cons, Nat.zero_mul, Nat.zero_add, List.getElem_cons_zero]
    rw [List.getElem?_append_left (by simpa [vcells] using hj)]
  | x :: xs, i + 1, j, h, hj => by
    have ih := flat_get xs i j (by simpa using h) hj
    simp only [flat, List.flatMap_cons, List.getElem_cons_succ] at ih ⊢
    rw [List.getElem?_append_right (by simp [vcells]; omega), ← ih]
    congr 1
    simp [vcells]
    omega
theorem flat_one (xs : List Val) : ∀ u ∈ flat xs, u.oneCell' = true := by
  intro u hu
  simp only [flat, List.mem_flatMap, vcells] at hu
  obtain ⟨x, _, hx⟩ := hu
  simp at hx
  rcases hx with rfl | rfl | rfl | rfl <;> rfl
theorem lies_cells {w : World} {b off : Nat} {xs : List Val} (h : Lies w b off xs) (j : Nat) (u : Value) (hj : (flat xs)[j]? = some u) : w.cell? ⟨b, off + j, none⟩ = some u := by
  have hl : j < (flat xs).length := by
    rcases Nat.lt_or_ge j (flat xs).length with g | g
    · exact g
    · rw [List.getElem?_eq_none g] at hj; cases hj
  rw [flat_len] at hl
  have hi : j / 4 < xs.length := by omega
  obtain ⟨c0, c1, c2, c3⟩ := h (j / 4) hi
  have hr : j % 4 = 0 ∨ j % 4 = 1 ∨ j % 4 = 2 ∨ j % 4 = 3 := by omega
  have e : j = j / 4 * 4 + j % 4 := by omega
  have g := flat_get xs (j / 4) (j % 4) hi (by omega)
  rw [← e, hj] at g
  rcases hr with r | r | r | r
  · rw [r] at g e; rw [e, Nat.add_zero]; simp [vcells] at g; rw [c0, g]
  · rw [r] at g e; rw [e, ← Nat.add_assoc]; simp [vcells] at g; rw [c1, g]
  · rw [r] at g e; rw [e, ← Nat.add_assoc]; simp [vcells] at g; rw [c2, g]
  · rw [r] at g e; rw [e, ← Nat.add_assoc]; simp [vcells] at g; rw [c3, g]
/-- A slice value that holds a row, nil or not. -/
def RowAt (w : World) (v : Value) (xs : List Val) : Prop := ∃ p c, v = .slice p xs.length c ∧ (xs = [] ∨ ∃ b off, p = some ⟨b, off, none⟩ ∧ b < w.heap.size ∧ Lies w b off xs)
theorem RowAt.below {w w' : World} {v : Value} {xs : List Val} (h : RowAt w v xs) (hb : Below w.heap.size w w') : RowAt w' v xs := by
  obtain ⟨p, c, e, h⟩ := h
  refine ⟨p, c, e, ?_⟩
  rcases h with h | ⟨b, off, h1, h2, h3⟩
  · exact Or.inl h
  · exact Or.inr ⟨b, off, h1, Nat.lt_of_lt_of_le h2 hb.size, h3.below hb h2⟩

theorem row_gen (v v' : Value) (xs ys : List Val) (w : World) (fx : ∀ v ∈ xs, v.Fits) (fy : ∀ v ∈ ys, v.Fits) (hx : RowAt w v xs) (hy : RowAt w v' ys) (lx : xs.length ≤ 9223372036854775807) (ly : ys.length ≤ 9223372036854775807) :
    Calls Tryz.prog 38 #[v, v'] w fun e w' => e = .returned (.int .i64 (rowC xs ys)) ∧ Below w.heap.size w w' := by
  obtain ⟨p, c, rfl, h⟩ := hx
  obtain ⟨q, c', rfl, h'⟩ := hy
  rcases h with rfl | ⟨b, off, rfl, hb, hl⟩
  · refine (row_left p q c ys.length c' w ly).mono ?_
    rintro e w' ⟨rfl, rfl⟩
    exact ⟨by rw [rowC_end [] ys (Or.inl rfl)]; rfl, Below.refl _ _⟩
  · rcases h' with rfl | ⟨b', off', rfl, hb', hl'⟩
    · refine (row_right _ q c xs.length c' w lx).mono ?_
      rintro e w' ⟨rfl, rfl⟩
      exact ⟨by rw [rowC_end xs [] (Or.inr rfl)]; rfl, Below.refl _ _⟩
    · exact row_core b off c b' off' c' xs ys w fx fy hb hb' hl hl' lx ly
theorem drow_gen (v v' : Value) (xs ys : List Val) (w : World) (fx : ∀ v ∈ xs, v.Fits) (fy : ∀ v ∈ ys, v.Fits) (hx : RowAt w v xs) (hy : RowAt w v' ys) (lx : xs.length ≤ 9223372036854775807) (ly : ys.length ≤ 9223372036854775807) :
    Calls Tryz.prog 40 #[v, v'] w fun e w' => e = .returned (.int .i64 (rowC xs ys)) ∧ Below w.heap.size w w' := by
  obtain ⟨p, c, rfl, h⟩ := hx
  obtain ⟨q, c', rfl, h'⟩ := hy
  rcases h with rfl | ⟨b, off, rfl, hb, hl⟩
  · refine (drow_left p q c ys.length c' w ly).mono ?_
    rintro e w' ⟨rfl, rfl⟩
    exact ⟨by rw [rowC_end [] ys (Or.inl rfl)]; rfl, Below.refl _ _⟩
  · rcases h' with rfl | ⟨b', off', rfl, hb', hl'⟩
    · by_cases hz : 0 < xs.length
      · refine (drow_right _ q c xs.length c' w lx hz).mono ?_
        rintro e w' ⟨rfl, rfl⟩
        exact ⟨by rw [rowC_end xs [] (Or.inr rfl)]; rfl, Below.refl _ _⟩
      · obtain rfl : xs = [] := List.eq_nil_of_length_eq_zero (by omega)
        refine (drow_left _ q c 0 c' w (by omega)).mono ?_
        rintro e w' ⟨rfl, rfl⟩
        exact ⟨by rw [rowC_end [] [] (Or.inl rfl)]; rfl, Below.refl _ _⟩
    · exact drow_core b off c b' off' c' xs ys w fx fy hb hb' hl hl' lx ly

end Go.Proofs.YteipohpfaofchaaGreat

namespace Go.Proofs.YteipohpfaofchaaGreat
open Go.RowKit Go.Shelf
set_option linter.unusedVariables false

/-- Texts lie at a place. -/
def Strs (w : World) (b off : Nat) (vs : List ByteArray) : Prop := ∀ i (h : i < vs.length), w.cell? ⟨b, off + i, none⟩ = some (.string vs[i])
theorem Strs.below {w w' : World} {b off : Nat} {vs : List ByteArray} (h : Strs w b off vs) {B : Nat} (hb : Below B w w') (hlt : b < B) : Strs w' b off vs := fun i hi => (hb.cell (p := ⟨b, _, none⟩) hlt).trans (h i hi)

/-- Each text is less than the next. -/
def riseB : List ByteArray → Bool
  | x :: y :: l => Op.bytesLess x.toList y.toList && riseB (y :: l)
  | _ => true
theorem riseB_short {l : List ByteArray} (h : l.length ≤ 1) : riseB l = true := by
  match l, h with
  | [], _ => rfl
  | [_], _ => rfl
theorem riseB_at {l : List ByteArray} {k : Nat} (h : k + 1 < l.length) : riseB (l.drop k) = (Op.bytesLess (l[k]'(by omega)).toList (l[k + 1]).toList && riseB (l.drop (k + 1))) := by
  rw [List.drop_eq_getElem_cons (show k < l.length by omega), List.drop_eq_getElem_cons h]
  rfl

set_option maxRecDepth 100000 in
set_option maxHeartbeats 2000000 in
theorem rise_core (b off c : Nat) (vs : List ByteArray) (w : World) (hb : b < w.heap.size) (hv : Strs w b off vs) (lv : vs.length ≤ 9223372036854775807) :
    Calls Tryz.prog 36 #[.slice (some ⟨b, off, none⟩) vs.length c] w fun e w' => e = .returned (.bool (riseB vs)) ∧ Below w.heap.size w w' := by
  obtain ⟨n, en⟩ : ∃ n : Nat, Hid (vs.length = n) := ⟨_, rfl⟩
  rw [en.out] at lv ⊢
  have HV : Hid (Strs w b off vs) := hv
  clear hv
  go_enter Tryz.func36, Tryz.ntmps36
  go_wp2
  go_loopw [3] (fun i wr => ∃ k : Nat, (k + 1 ≤ n ∨ k = 0) ∧ i = .int .i64 ((k + 1 : Nat) : Int) ∧ Hid (riseB vs = riseB (vs.drop k)) ∧ Below w.heap.size w wr) (fun i _ => n - (intOf i).toNat)
  case atStart => exact ⟨0, Or.inr rfl, rfl, (show riseB vs = riseB (vs.drop 0) by simp), Below.refl _ _⟩
  case round =>
    obtain ⟨k, hk, rfl, hr, hB⟩ := hrel
    by_cases hlt : k + 1 < n
    · have q1 := (HV.out.below hB hb) k (by have := en.out; omega)
      have q2 := (HV.out.below hB hb) (k + 1) (by have := en.out; omega)
      have hr2 := riseB_at (l := vs) (k := k) (by have := en.out; omega)
      generalize vs[k]'(by have := en.out; omega) = X at q1 hr2
      generalize vs[k + 1]'(by have := en.out; omega) = Y at q2 hr2
      have hr3 : Hid (riseB vs = (Op.bytesLess X.toList Y.toList && riseB (vs.drop (k + 1)))) := hr.out.trans hr2
      clear hr hr2
      have kn : k < n := by omega
      have hbr : b < wr.heap.size := Nat.lt_of_lt_of_le hb hB.size
      have ek : ((k + 1 : Nat) : Int) - 1 = (k : Int) := by omega
      have hB2 : Below w.heap.size w wr.drew := by go_grown
      obtain ⟨L, eL⟩ : ∃ L : Bool, Hid (Op.bytesLess X.toList Y.toList = L) := ⟨_, rfl⟩
      go_upto_region 4 with fail
      go_region
      rw [eL.out] at hr3 ⊢
      clear eL q1 q2
      cases L with
      | true =>
        have hr4 : Hid (riseB vs = riseB (vs.drop (k + 1))) := by have := hr3.out; rwa [Bool.true_and] at this
        go_wp2
        exact ⟨⟨k + 1, Or.inl (by omega), by go_num, hr4, hB2⟩, by simp [intOf]; omega⟩
      | false =>
        have hr4 : Hid (riseB vs = false) := by have := hr3.out; rwa [Bool.false_and] at this
        go_wp2
        go_ret
        exact ⟨ret_bool hr4.out.symm, hB2⟩
    · have c1 : ¬ ((k + 1 : Nat) : Int) < n := by omega
      have hr4 : Hid (riseB vs = true) := hr.out.trans (riseB_short (by have := en.out; simp; omega))
      go_wp2
      go_ret
      exact ⟨ret_bool hr4.out.symm, hB⟩

set_option maxRecDepth 100000 in
theorem rise_nil (p : Option Addr) (c : Nat) (w : World) :
    Calls Tryz.prog 36 #[.slice p 0 c] w fun e w' => e = .returned (.bool true) ∧ w' = w := by
  go_enter Tryz.func36, Tryz.ntmps36
  go_wp2
  refine wp_loop_rounds 1 ?_
  rw [rounds_succ]
  go_wp2
  go_ret
  exact ⟨rfl, rfl⟩

end Go.Proofs.YteipohpfaofchaaGreat

namespace Go.Proofs.YteipohpfaofchaaGreat
open Go.RowKit Go.Shelf
set_option linter.unusedVariables false

/-- The first of a row's values that may not be: why. -/
def rowE : List Val → Int
  | [] => 0
  | x :: l => if x.may = 0 then rowE l else x.may
def rowChk (xs : List Val) (m : Nat) : Int := if xs.length = m then rowE xs else 1

set_option maxRecDepth 100000 in
set_option maxHeartbeats 2000000 in
theorem crow_core (b off c m : Nat) (xs : List Val) (w : World) (fx : ∀ v ∈ xs, v.Fits) (hb : b < w.heap.size) (hx : Lies w b off xs) (lx : xs.length ≤ 9223372036854775807) (lm : m ≤ 9223372036854775807) :
    Calls Tryz.prog 37 #[.slice (some ⟨b, off, none⟩) xs.length c, .int .i64 m] w fun e w' => e = .returned (.int .i64 (rowChk xs m)) ∧ Below w.heap.size w w' := by
  obtain ⟨n, en⟩ : ∃ n : Nat, Hid (xs.length = n) := ⟨_, rfl⟩
  rw [en.out] at lx ⊢
  have HX : Hid (Lies w b off xs) := hx
  clear hx
  go_enter Tryz.func37, Tryz.ntmps37
  by_cases hm : n = m
  · subst hm
    have hz : Hid (rowChk xs n = rowE xs) := if_pos en.out
    go_wp2
    go_loopw [14] (fun i wr => ∃ k : Nat, k ≤ n ∧ i = .int .i64 k ∧ Hid (rowE xs = rowE (xs.drop k)) ∧ Below w.heap.size w wr) (fun i _ => n - (intOf i).toNat)
    case atStart => exact ⟨0, Nat.zero_le _, rfl, (show rowE xs = rowE (xs.drop 0) by simp), Below.refl _ _⟩
    case round =>
      obtain ⟨k, hk, rfl, hr, hB⟩ := hrel
      by_cases hlt : k < n
      · have kx : k < xs.length := by have := en.out; omega
        have q1 := (HX.out.below hB hb) k kx
        have f1 := fx xs[k] (List.getElem_mem kx)
        have hr2 : Hid (rowE xs = if xs[k].may = 0 then rowE (xs.drop (k + 1)) else xs[k].may) := by
          have h := hr.out
          rw [List.drop_eq_getElem_cons kx] at h
          exact h
        generalize xs[k] = X at q1 f1 hr2
        clear hr
        obtain ⟨a0, a1, a2, a3⟩ := q1
        obtain ⟨C, eC⟩ : ∃ C : Int, Hid (X.may = C) := ⟨_, rfl⟩
        rw [eC.out] at hr2
        have hbr : b < wr.heap.size := Nat.lt_of_lt_of_le hb hB.size
        go_wp2_with fail
        refine (check_any X.k X.n X.d X.s _ f1.n1 f1.n2 f1.d1 f1.d2).mono ?_
        rintro e w1 ⟨rfl, hb1⟩
        rw [show chk X.k X.n X.d X.s = C from eC.out]
        obtain ⟨hw1, hn1⟩ := bg0 (n := wr.heap.size) (W0 := wr) (by go_grown) (by go_size) hb1
        have hB2 : Below w.heap.size w w1 := hB.trans (hw1.mono hB.size)
        clear a0 a1 a2 a3 hb1 eC f1
        by_cases hC : C = 0
        · have hr3 : Hid (rowE xs = rowE (xs.drop (k + 1))) := by have := hr2.out; rwa [if_pos hC] at this
          clear hr2
          subst hC
          go_wp2
          exact ⟨⟨k + 1, by omega, by go_num, hr3, hB2⟩, by simp [intOf]; omega⟩
        · have hr3 : Hid (rowE xs = C) := by have := hr2.out; rwa [if_neg hC] at this
          have hC' : (C != 0) = true := by simpa using hC
          go_wp2
          go_ret
          exact ⟨ret_int (hr3.out.symm.trans hz.out.symm), hB2⟩
      · have c2 : ¬ (k : Int) < n := by omega
        have hr3 : Hid (rowE xs = 0) := by
          have h := hr.out
          rw [List.drop_eq_nil_of_le (by have := en.out; omega)] at h
          exact h
        go_wp2
        go_ret
        exact ⟨ret_int (hr3.out.symm.trans hz.out.symm), hB⟩
  · have c1 : ¬ (n : Int) = (m : Int) := by omega
    have hz : Hid (rowChk xs m = 1) := if_neg (by rw [en.out]; exact hm)
    go_wp2
    go_ret
    exact ⟨ret_int hz.out.symm, Below.refl _ _⟩

set_option maxRecDepth 100000 in
theorem crow_nil (p : Option Addr) (c m : Nat) (w : World) (lm : m ≤ 9223372036854775807) :
    Calls Tryz.prog 37 #[.slice p 0 c, .int .i64 m] w fun e w' => e = .returned (.int .i64 (rowChk [] m)) ∧ Below w.heap.size w w' := by
  go_enter Tryz.func37, Tryz.ntmps37
  by_cases hm : m = 0
  · subst hm
    go_wp2
    refine wp_loop_rounds 1 ?_
    rw [rounds_succ]
    go_wp2
    go_ret
    exact ⟨rfl, Below.refl _ _⟩
  · have c1 : ¬ (0 : Int) = (m : Int) := by omega
    have hz : Hid (rowChk [] m = 1) := if_neg (by simp; omega)
    go_wp2
    go_ret
    exact ⟨ret_int hz.out.symm, Below.refl _ _⟩

end Go.Proofs.YteipohpfaofchaaGreat
