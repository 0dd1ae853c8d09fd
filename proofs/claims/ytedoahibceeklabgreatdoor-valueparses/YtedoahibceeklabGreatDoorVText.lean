/- The text of a value. -/
import Derived.Test.YtedoahibceeklabGreatDoorVSimple
import Derived.Lib.AppendIntMem
import Derived.Lib.ItoaLen
import Derived.Test.YtedoahibceeklabGreatDoorDivd1
namespace Go.Proofs.YtedoahibceeklabGreatDoor
open Go.RowKit Go.Shelf

/-- The table of the powers of ten lies as it was laid. -/
def Pow (w : World) : Prop := Lib.TabIs Tryz.prog w "internal/strconv.uint64pow10" .u64 Lib.pow10Tab
theorem Pow.below {w W : World} (h : Pow w) (hb : Below w.heap.size w W) : Pow W := Lib.tabBelow_of_tabIs h W hb

theorem below_grow (w : World) (k : Nat) (os : Array Obj) : Below w.heap.size w (Sort.grow (w.drewN k) os) :=
  ⟨rfl, rfl, rfl, by simp [Sort.grow], fun i hi => by simp [Sort.grow, Array.getElem?_append, hi]⟩

set_option maxRecDepth 100000 in
set_option maxHeartbeats 400000 in
theorem dec_any (n : Int) (w : World) (h1 : -9223372036854775808 ≤ n) (h2 : n ≤ 9223372036854775807) (ht : Pow w) :
    Calls Tryz.prog 40 #[.int .i64 n] w fun e w' => e = .returned (.string ⟨(Lib.itoa n).toArray⟩) ∧ Below w.heap.size w w' := by
  go_enter Tryz.func40, Tryz.ntmps40
  go_wp2_with fail
  refine (Tryz.strconv_FormatInt_10 n h1 h2 _ ht).mono ?_
  rintro e w1 ⟨rfl, k, os, rfl⟩
  go_wp2
  go_ret
  exact ⟨rfl, below_grow w k os⟩

set_option maxRecDepth 100000 in
set_option maxHeartbeats 1000000 in
theorem text_rat (n d : Int) (s : ByteArray) (w : World) (h1 : -9223372036854775808 ≤ n) (h2 : n ≤ 9223372036854775807) (g1 : -9223372036854775808 ≤ d) (g2 : d ≤ 9223372036854775807) (ht : Pow w) :
    Calls Tryz.prog 26 #[.agg #[.int .i64 2, .int .i64 n, .int .i64 d, .string s]] w fun e w' => e = .returned (.string ⟨(Lib.itoa n ++ 47 :: Lib.itoa d).toArray⟩) ∧ Below w.heap.size w w' := by
  go_enter Tryz.func26, Tryz.ntmps26
  go_upto_region 5 with fail
  refine wp_world ?_
  intro W0 hW0
  have c1 : W0.cell? ⟨w.heap.size, 1, none⟩ = some (.int .i64 n) := by rw [hW0]; simp [go_sem]
  have c2 : W0.cell? ⟨w.heap.size, 2, none⟩ = some (.int .i64 d) := by rw [hW0]; simp [go_sem]
  have k0 : Below w.heap.size w W0 := by rw [hW0]; go_grown
  have k1 : w.heap.size < W0.heap.size := by rw [hW0]; simp
  clear hW0
  have lA := Lib.itoa_length_le n h1 h2
  have lB := Lib.itoa_length_le d g1 g2
  obtain ⟨A, eA⟩ : ∃ A : ByteArray, A = ⟨(Lib.itoa n).toArray⟩ := ⟨_, rfl⟩
  obtain ⟨B, eB⟩ : ∃ B : ByteArray, B = ⟨(Lib.itoa d).toArray⟩ := ⟨_, rfl⟩
  have sA : A.size ≤ 21 := by rw [eA]; show (Lib.itoa n).toArray.size ≤ 21; simpa using lA
  have sB : B.size ≤ 21 := by rw [eB]; show (Lib.itoa d).toArray.size ≤ 21; simpa using lB
  have DA := fun (W : World) (h : Pow W) => dec_any n W h1 h2 h
  have DB := fun (W : World) (h : Pow W) => dec_any d W g1 g2 h
  rw [← eA] at DA
  rw [← eB] at DB
  obtain ⟨C, eC⟩ : ∃ C : ByteArray, C = A ++ ⟨#[47]⟩ := ⟨_, rfl⟩
  have sC : C.size ≤ 22 := by rw [eC, ByteArray.size_append]; have : (⟨#[47]⟩ : ByteArray).size = 1 := rfl
                              omega
  have x1 : ∀ W : World, (Op.stringOp .add A ⟨#[47]⟩).run Tryz.prog W = .ok (.string C) W := fun W => by
    rw [run_string_add_sum W _ _ (by have : (⟨#[47]⟩ : ByteArray).size = 1 := rfl
                                     omega), eC]
  have x2 : ∀ W : World, (Op.stringOp .add C B).run Tryz.prog W = .ok (.string (C ++ B)) W := fun W => run_string_add_sum W _ _ (by omega)
  have eF : Hid (C ++ B = ⟨(Lib.itoa n ++ 47 :: Lib.itoa d).toArray⟩) := by
    rw [eC, eA, eB]
    apply ByteArray.ext
    simp
  have DA' : Hid (∀ W : World, Pow W → Calls Tryz.prog 40 #[.int .i64 n] W fun e w' => e = .returned (.string A) ∧ Below W.heap.size W w') := DA
  have DB' : Hid (∀ W : World, Pow W → Calls Tryz.prog 40 #[.int .i64 d] W fun e w' => e = .returned (.string B) ∧ Below W.heap.size W w') := DB
  clear DA DB eA eB eC sA sB sC lA lB
  go_region_held3 (fun w' => w'.cell? ⟨w.heap.size, 1, none⟩ = some (.int .i64 n) ∧ w'.cell? ⟨w.heap.size, 2, none⟩ = some (.int .i64 d)) (exact ⟨bcl (n := W0.heap.size) (by go_grown) c1 k1, bcl (n := W0.heap.size) (by go_grown) c2 k1⟩)
    (first
      | (go_at_call_of 40 (Value.int IntKind.i64 n); refine (DA'.out _ (ht.below (k0.trans (Below.mono (B := W0.heap.size) (by go_grown) k0.size)))).mono ?_; rintro e w1 ⟨rfl, hb1⟩; obtain ⟨hB1, hn1⟩ := bg0 (n := W0.heap.size) (W0 := W0) (by go_grown) (by go_size) hb1)
      | (go_at_call_of 40 (Value.int IntKind.i64 d); refine (DB'.out _ (ht.below (k0.trans (Below.mono (B := W0.heap.size) (by go_grown) k0.size)))).mono ?_; rintro e w2 ⟨rfl, hb2⟩; obtain ⟨hB2, hn2⟩ := bg0 (n := W0.heap.size) (W0 := W0) (by go_grown) (by go_size) hb2))
  all_goals
    go_wp2
    go_ret
    exact ⟨by rw [eF.out]; rfl, k0.trans (Below.mono (B := W0.heap.size) (by go_grown) k0.size)⟩

set_option maxRecDepth 100000 in
set_option maxHeartbeats 1000000 in
theorem text_int (n d : Int) (s : ByteArray) (w : World) (h1 : -9223372036854775808 ≤ n) (h2 : n ≤ 9223372036854775807) (ht : Pow w) :
    Calls Tryz.prog 26 #[.agg #[.int .i64 1, .int .i64 n, .int .i64 d, .string s]] w fun e w' => e = .returned (.string ⟨(Lib.itoa n).toArray⟩) ∧ Below w.heap.size w w' := by
  go_enter Tryz.func26, Tryz.ntmps26
  go_wp2_with fail
  refine (dec_any n _ h1 h2 (ht.below (by go_grown))).mono ?_
  rintro e w1 ⟨rfl, hb⟩
  obtain ⟨hc, hf, hz, hB⟩ := bf (w := w) (by go_grown) hb
  go_wp2
  go_ret
  exact ⟨rfl, hB⟩

set_option maxRecDepth 100000 in
set_option maxHeartbeats 1000000 in
theorem text_str (k n d : Int) (s : ByteArray) (w : World) (hs : s.size ≤ 35184372088830) (k1 : (k == 1) = false) (k2 : (k == 2) = false) :
    Calls Tryz.prog 26 #[.agg #[.int .i64 k, .int .i64 n, .int .i64 d, .string s]] w fun e w' => e = .returned (.string ⟨(quoted s.data.toList).toArray⟩) ∧ Below w.heap.size w w' := by
  go_enter Tryz.func26, Tryz.ntmps26
  go_wp2_with fail
  refine (quote_any s _ hs).mono ?_
  rintro e w1 ⟨rfl, hb⟩
  obtain ⟨hc, hf, hz, hB⟩ := bf (w := w) (by go_grown) hb
  go_wp2
  go_ret
  exact ⟨rfl, hB⟩

/-- A value's text. -/
def vtext (k n d : Int) (s : ByteArray) : List UInt8 := if k = 1 then Lib.itoa n else if k = 2 then Lib.itoa n ++ 47 :: Lib.itoa d else quoted s.data.toList

theorem text_any (k n d : Int) (s : ByteArray) (w : World) (h1 : -9223372036854775808 ≤ n) (h2 : n ≤ 9223372036854775807) (g1 : -9223372036854775808 ≤ d) (g2 : d ≤ 9223372036854775807) (hs : s.size ≤ 35184372088830) (ht : Pow w) :
    Calls Tryz.prog 26 #[.agg #[.int .i64 k, .int .i64 n, .int .i64 d, .string s]] w fun e w' => e = .returned (.string ⟨(vtext k n d s).toArray⟩) ∧ Below w.heap.size w w' := by
  unfold vtext
  by_cases k1 : k = 1
  · subst k1; exact text_int n d s w h1 h2 ht
  · rw [if_neg k1]
    by_cases k2 : k = 2
    · subst k2; exact text_rat n d s w h1 h2 g1 g2 ht
    · rw [if_neg k2]; exact text_str k n d s w hs (by simpa using k1) (by simpa using k2)

theorem chk_size {k n d : Int} {s : ByteArray} (h : chk k n d s = 0) : s.size ≤ 64 := by
  unfold chk at h
  split at h
  · cases h
  · split at h
    · cases h
    · omega

set_option maxRecDepth 100000 in
set_option maxHeartbeats 1000000 in
theorem print_any (k n d : Int) (s : ByteArray) (w : World) (h1 : -9223372036854775808 ≤ n) (h2 : n ≤ 9223372036854775807) (g1 : -9223372036854775808 ≤ d) (g2 : d ≤ 9223372036854775807) (ht : Pow w) :
    Calls Tryz.prog 14 #[.agg #[.int .i64 k, .int .i64 n, .int .i64 d, .string s]] w fun e w' => e = .returned (.tuple #[.string ⟨(if chk k n d s = 0 then vtext k n d s else []).toArray⟩, .int .i64 (chk k n d s)]) ∧ Below w.heap.size w w' := by
  by_cases hc0 : chk k n d s = 0
  · have hs := chk_size hc0
    rw [if_pos hc0, hc0]
    go_enter Tryz.func14, Tryz.ntmps14
    go_wp2_with fail
    refine (check_any k n d s _ h1 h2 g1 g2).mono ?_
    rintro e w1 ⟨rfl, hb⟩
    obtain ⟨hc, hf, hz, hB⟩ := bf (w := w) (by go_grown) hb
    rw [hc0]
    have ht1 := ht.below hB
    go_wp2_with fail
    refine (text_any k n d s _ h1 h2 g1 g2 (by omega) ht1).mono ?_
    rintro e w2 ⟨rfl, hb2⟩
    go_wp2
    go_ret2
    exact ⟨rfl, hB.trans (hb2.mono hB.size)⟩
  · rw [if_neg hc0]
    have hc1 : (chk k n d s != 0) = true := by simpa using hc0
    go_enter Tryz.func14, Tryz.ntmps14
    go_wp2_with fail
    refine (check_any k n d s _ h1 h2 g1 g2).mono ?_
    rintro e w1 ⟨rfl, hb⟩
    obtain ⟨hc, hf, hz, hB⟩ := bf (w := w) (by go_grown) hb
    go_wp2
    go_ret2
    exact ⟨rfl, hB⟩

end Go.Proofs.YtedoahibceeklabGreatDoor
