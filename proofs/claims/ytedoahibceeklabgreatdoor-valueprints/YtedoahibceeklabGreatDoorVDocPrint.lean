/- The document's Print. -/
import Derived.Test.YtedoahibceeklabGreatDoorVCheck0
import Derived.Test.YtedoahibceeklabGreatDoorVDocQuote
namespace Go.Proofs.YtedoahibceeklabGreatDoor
open Go.RowKit Go.Shelf
set_option linter.unusedVariables false

set_option maxRecDepth 100000 in
set_option maxHeartbeats 2000000 in
theorem dprint_no (k n d : Int) (s : ByteArray) (w : World) (h1 : -9223372036854775808 ≤ n) (h2 : n ≤ 9223372036854775807) (g1 : -9223372036854775808 ≤ d) (g2 : d ≤ 9223372036854775807) (hc1 : (chk k n d s != 0) = true) :
    Calls Tryz.prog 15 #[.agg #[.int .i64 k, .int .i64 n, .int .i64 d, .string s]] w fun e w' => e = .returned (.tuple #[.string ⟨#[]⟩, .int .i64 (chk k n d s)]) ∧ Below w.heap.size w w' := by
  go_enter Tryz.func15, Tryz.ntmps15
  go_wp2_with fail
  refine (rcheck_any k n d s _ h1 h2 g1 g2).mono ?_
  rintro e w1 ⟨rfl, hb⟩
  obtain ⟨hc, hf, hz, hB⟩ := bf (w := w) (by go_grown) hb
  go_wp2
  go_ret2
  exact ⟨rfl, hB⟩

set_option maxRecDepth 100000 in
set_option maxHeartbeats 2000000 in
theorem dprint_1 (n d : Int) (s : ByteArray) (w : World) (h1 : -9223372036854775808 ≤ n) (h2 : n ≤ 9223372036854775807) (g1 : -9223372036854775808 ≤ d) (g2 : d ≤ 9223372036854775807) (c0 : chk 1 n d s = 0) :
    Calls Tryz.prog 15 #[.agg #[.int .i64 1, .int .i64 n, .int .i64 d, .string s]] w fun e w' => e = .returned (.tuple #[.string ⟨(Lib.itoa n).toArray⟩, .int .i64 0]) ∧ Below w.heap.size w w' := by
  go_enter Tryz.func15, Tryz.ntmps15
  go_wp2_with fail
  refine (rcheck_any 1 n d s _ h1 h2 g1 g2).mono ?_
  rintro e w1 ⟨rfl, hb⟩
  obtain ⟨hc, hf, hz, hB⟩ := bf (w := w) (by go_grown) hb
  rw [c0]
  have a1 : w1.cell? ⟨w.heap.size, 0, none⟩ = some (.int .i64 1) := by rw [hc _ _ (by simp)]; simp [go_sem]
  have a2 : w1.cell? ⟨w.heap.size, 1, none⟩ = some (.int .i64 n) := by rw [hc _ _ (by simp)]; simp [go_sem]
  clear hc hf hz hb
  go_wp2_with fail
  refine (ddec_any n _ h1 h2).mono ?_
  rintro e w2 ⟨rfl, hb2⟩
  go_wp2
  go_ret2
  exact ⟨rfl, hB.trans (hb2.mono hB.size)⟩

set_option maxRecDepth 100000 in
set_option maxHeartbeats 2000000 in
theorem dprint_3 (n d : Int) (s : ByteArray) (w : World) (h1 : -9223372036854775808 ≤ n) (h2 : n ≤ 9223372036854775807) (g1 : -9223372036854775808 ≤ d) (g2 : d ≤ 9223372036854775807) (c0 : chk 3 n d s = 0) :
    Calls Tryz.prog 15 #[.agg #[.int .i64 3, .int .i64 n, .int .i64 d, .string s]] w fun e w' => e = .returned (.tuple #[.string ⟨(quoted s.data.toList).toArray⟩, .int .i64 0]) ∧ Below w.heap.size w w' := by
  have hs := chk_size c0
  go_enter Tryz.func15, Tryz.ntmps15
  go_wp2_with fail
  refine (rcheck_any 3 n d s _ h1 h2 g1 g2).mono ?_
  rintro e w1 ⟨rfl, hb⟩
  obtain ⟨hc, hf, hz, hB⟩ := bf (w := w) (by go_grown) hb
  rw [c0]
  have a1 : w1.cell? ⟨w.heap.size, 0, none⟩ = some (.int .i64 3) := by rw [hc _ _ (by simp)]; simp [go_sem]
  have a2 : w1.cell? ⟨w.heap.size, 3, none⟩ = some (.string s) := by rw [hc _ _ (by simp)]; simp [go_sem]
  clear hc hf hz hb
  go_wp2_with fail
  refine (dquote_any s _ (by omega)).mono ?_
  rintro e w2 ⟨rfl, hb2⟩
  go_wp2
  go_ret2
  exact ⟨rfl, hB.trans (hb2.mono hB.size)⟩

set_option maxRecDepth 100000 in
set_option maxHeartbeats 2000000 in
theorem dprint_2 (n d : Int) (s : ByteArray) (w : World) (h1 : -9223372036854775808 ≤ n) (h2 : n ≤ 9223372036854775807) (g1 : -9223372036854775808 ≤ d) (g2 : d ≤ 9223372036854775807) (c0 : chk 2 n d s = 0) :
    Calls Tryz.prog 15 #[.agg #[.int .i64 2, .int .i64 n, .int .i64 d, .string s]] w fun e w' => e = .returned (.tuple #[.string ⟨(Lib.itoa n ++ 47 :: Lib.itoa d).toArray⟩, .int .i64 0]) ∧ Below w.heap.size w w' := by
  go_enter Tryz.func15, Tryz.ntmps15
  go_wp2_with fail
  refine (rcheck_any 2 n d s _ h1 h2 g1 g2).mono ?_
  rintro e W0 ⟨rfl, hb⟩
  obtain ⟨hc, hf, hz, hB⟩ := bf (w := w) (by go_grown) hb
  rw [c0]
  have c3 : W0.cell? ⟨w.heap.size, 0, none⟩ = some (.int .i64 2) := by rw [hc _ _ (by simp)]; simp [go_sem]
  have c1 : W0.cell? ⟨w.heap.size, 1, none⟩ = some (.int .i64 n) := by rw [hc _ _ (by simp)]; simp [go_sem]
  have c2 : W0.cell? ⟨w.heap.size, 2, none⟩ = some (.int .i64 d) := by rw [hc _ _ (by simp)]; simp [go_sem]
  have k1 : w.heap.size < W0.heap.size := by simp at hz; omega
  have k0 : Below w.heap.size w W0 := hB
  clear hc hf hz hb hB
  go_upto_region 8 with fail
  have lA := Lib.itoa_length_le n h1 h2
  have lB := Lib.itoa_length_le d g1 g2
  obtain ⟨A, eA⟩ : ∃ A : ByteArray, A = ⟨(Lib.itoa n).toArray⟩ := ⟨_, rfl⟩
  obtain ⟨B, eB⟩ : ∃ B : ByteArray, B = ⟨(Lib.itoa d).toArray⟩ := ⟨_, rfl⟩
  have sA : A.size ≤ 21 := by rw [eA]; show (Lib.itoa n).toArray.size ≤ 21; simpa using lA
  have sB : B.size ≤ 21 := by rw [eB]; show (Lib.itoa d).toArray.size ≤ 21; simpa using lB
  have DA := fun (W : World) => ddec_any n W h1 h2
  have DB := fun (W : World) => ddec_any d W g1 g2
  rw [← eA] at DA
  rw [← eB] at DB
  obtain ⟨C, eC⟩ : ∃ C : ByteArray, C = A ++ ⟨#[47]⟩ := ⟨_, rfl⟩
  have sC : C.size ≤ 22 := by rw [eC, ByteArray.size_append]; have : (⟨#[47]⟩ : ByteArray).size = 1 := rfl
                              omega
  have x1 : ∀ W : World, (Op.stringOp .add A ⟨#[47]⟩).run Tryz.prog W = .ok (.string C) W := fun W => by
    rw [run_string_add_sum W _ _ (by have : (⟨#[47]⟩ : ByteArray).size = 1 := rfl
                                     omega), eC]
  have x2 : ∀ W : World, (Op.stringOp .add C B).run Tryz.prog W = .ok (.string (C ++ B)) W := fun W => run_string_add_sum W _ _ (by omega)
  have eF : Hid (C ++ B = ⟨(Lib.itoa n ++ 47 :: Lib.itoa d).toArray⟩) := by
    rw [eC, eA, eB]
    apply ByteArray.ext
    simp
  have DA' : Hid (∀ W : World, Calls Tryz.prog 28 #[.int .i64 n] W fun e w' => e = .returned (.string A) ∧ Below W.heap.size W w') := DA
  have DB' : Hid (∀ W : World, Calls Tryz.prog 28 #[.int .i64 d] W fun e w' => e = .returned (.string B) ∧ Below W.heap.size W w') := DB
  clear DA DB eA eB eC sA sB sC lA lB
  go_region_held3 (fun w' => w'.cell? ⟨w.heap.size, 1, none⟩ = some (.int .i64 n) ∧ w'.cell? ⟨w.heap.size, 2, none⟩ = some (.int .i64 d)) (exact ⟨bcl (n := W0.heap.size) (by go_grown) c1 k1, bcl (n := W0.heap.size) (by go_grown) c2 k1⟩)
    (first
      | (go_at_call_of 28 (Value.int IntKind.i64 n); refine (DA'.out _).mono ?_; rintro e w1 ⟨rfl, hb1⟩; obtain ⟨hB1, hn1⟩ := bg0 (n := W0.heap.size) (W0 := W0) (by go_grown) (by go_size) hb1)
      | (go_at_call_of 28 (Value.int IntKind.i64 d); refine (DB'.out _).mono ?_; rintro e w2 ⟨rfl, hb2⟩; obtain ⟨hB2, hn2⟩ := bg0 (n := W0.heap.size) (W0 := W0) (by go_grown) (by go_size) hb2))
  all_goals
    go_wp2
    go_ret2
    exact ⟨by rw [eF.out]; rfl, k0.trans (Below.mono (B := W0.heap.size) (by go_grown) k0.size)⟩

theorem chk_kind0 {k n d : Int} {s : ByteArray} (h : chk k n d s = 0) : k = 1 ∨ k = 2 ∨ k = 3 := by
  by_cases k1 : k = 1
  · exact Or.inl k1
  · by_cases k2 : k = 2
    · exact Or.inr (Or.inl k2)
    · by_cases k3 : k = 3
      · exact Or.inr (Or.inr k3)
      · exfalso
        have e0 : chk k n d s = 20 := by simp [chk, pureB, k1, k2, k3]
        omega

theorem dprint_any (k n d : Int) (s : ByteArray) (w : World) (h1 : -9223372036854775808 ≤ n) (h2 : n ≤ 9223372036854775807) (g1 : -9223372036854775808 ≤ d) (g2 : d ≤ 9223372036854775807) :
    Calls Tryz.prog 15 #[.agg #[.int .i64 k, .int .i64 n, .int .i64 d, .string s]] w fun e w' => e = .returned (.tuple #[.string ⟨(if chk k n d s = 0 then vtext k n d s else []).toArray⟩, .int .i64 (chk k n d s)]) ∧ Below w.heap.size w w' := by
  by_cases hc0 : chk k n d s = 0
  · rw [if_pos hc0, hc0]
    rcases chk_kind0 hc0 with rfl | rfl | rfl
    · have h := dprint_1 n d s w h1 h2 g1 g2 hc0
      exact h
    · have h := dprint_2 n d s w h1 h2 g1 g2 hc0
      exact h
    · have h := dprint_3 n d s w h1 h2 g1 g2 hc0
      exact h
  · rw [if_neg hc0]
    exact dprint_no k n d s w h1 h2 g1 g2 (by simpa using hc0)

end Go.Proofs.YtedoahibceeklabGreatDoor
