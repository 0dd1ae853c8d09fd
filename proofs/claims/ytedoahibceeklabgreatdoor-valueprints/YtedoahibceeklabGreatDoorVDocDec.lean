/- The document's Decimal: a number's digits. -/
import Derived.Test.YtedoahibceeklabGreatDoorVText
namespace Go.Proofs.YtedoahibceeklabGreatDoor
open Go.RowKit Go.Shelf
set_option linter.unusedVariables false

abbrev hexS : ByteArray := { data := #[48, 49, 50, 51, 52, 53, 54, 55, 56, 57, 97, 98, 99, 100, 101, 102] }

theorem dig_ext (d : Nat) (h : d < 10) : hexS.extract d (d + 1) = ⟨#[UInt8.ofNat (48 + d)]⟩ := by
  match d, h with
  | 0, _ => rfl
  | 1, _ => rfl
  | 2, _ => rfl
  | 3, _ => rfl
  | 4, _ => rfl
  | 5, _ => rfl
  | 6, _ => rfl
  | 7, _ => rfl
  | 8, _ => rfl
  | 9, _ => rfl
theorem dec_last (v : Nat) (h : v < 10) : Lib.decDigits v = [UInt8.ofNat (48 + v % 10)] := by rw [Lib.decDigits_one h, Nat.mod_eq_of_lt h]
theorem dec_more (v : Nat) (h : ¬ v < 10) : Lib.decDigits v = Lib.decDigits (v / 10) ++ [UInt8.ofNat (48 + v % 10)] := by rw [Lib.decDigits, dif_neg h]

set_option maxRecDepth 100000 in
set_option maxHeartbeats 1000000 in
theorem ddec_pos (u : Nat) (w : World) (h2 : u ≤ 9223372036854775807) (hl : (Lib.decDigits u).length ≤ 21) :
    Calls Tryz.prog 28 #[.int .i64 u] w fun e w' => e = .returned (.string ⟨(Lib.decDigits u).toArray⟩) ∧ Below w.heap.size w w' := by
  have HL : Hid ((Lib.decDigits u).length ≤ 21) := hl
  clear hl
  go_enter Tryz.func28, Tryz.ntmps28
  go_wp2
  go_loopw [3, 4] (fun s r wr => ∃ (S : List UInt8) (v : Nat), v ≤ u ∧ s = .string ⟨S.toArray⟩ ∧ r = .int .i64 v ∧ Hid (Lib.decDigits v ++ S = Lib.decDigits u) ∧ Below w.heap.size w wr) (fun _ r _ => (intOf r).toNat)
  case atStart => exact ⟨[], u, Nat.le_refl _, rfl, rfl, (show Lib.decDigits u ++ [] = Lib.decDigits u by simp), Below.refl _ _⟩
  case round =>
    obtain ⟨S, v, hv, rfl, rfl, hS, hB⟩ := hrel
    obtain ⟨q, eq⟩ : ∃ q : Nat, Hid (v % 10 = q) := ⟨_, rfl⟩
    obtain ⟨t, et⟩ : ∃ t : Nat, Hid (v / 10 = t) := ⟨_, rfl⟩
    have hq : q < 10 := by have := eq.out; omega
    have hm : (v : Int) % 10 = (q : Int) := by have := eq.out; omega
    have hd : (v : Int) / 10 = (t : Int) := by have := et.out; omega
    have lS : S.length ≤ 21 := by
      have h1 := congrArg List.length hS.out
      have h2 := HL.out
      simp only [List.length_append] at h1
      omega
    obtain ⟨c, ec⟩ : ∃ c : UInt8, Hid (UInt8.ofNat (48 + q) = c) := ⟨_, rfl⟩
    have x1 : ∀ W : World, (Op.stringOp .add (hexS.extract q (q + 1)) ⟨S.toArray⟩).run Tryz.prog W = .ok (.string ⟨(c :: S).toArray⟩) W := fun W => by
      rw [run_string_add_sum W _ _ (by
        rw [dig_ext q hq]
        have e1 : (⟨#[UInt8.ofNat (48 + q)]⟩ : ByteArray).size = 1 := rfl
        have e2 : (⟨S.toArray⟩ : ByteArray).size = S.length := by show S.toArray.size = _; simp
        omega), dig_ext q hq, ec.out]
      first | rfl | (congr 2; apply ByteArray.ext; simp)
    by_cases ht : t = 0
    · have hE : Hid (c :: S = Lib.decDigits u) := by
        have h1 := hS.out
        rw [dec_last v (by have := et.out; omega), eq.out, ec.out] at h1
        exact h1
      clear hS eq et HL
      subst ht
      rw [hE.out] at x1
      go_wp2
      go_ret
      exact ⟨rfl, hB⟩
    · have ht' : ((t : Int) == 0) = false := by simp; omega
      have hE : Hid (Lib.decDigits t ++ (c :: S) = Lib.decDigits u) := by
        have h1 := hS.out
        rw [dec_more v (by have := et.out; omega), eq.out, et.out, ec.out, List.append_assoc] at h1
        exact h1
      have hlt : t < v := by have := et.out; omega
      clear hS eq et HL
      go_wp2
      exact ⟨⟨_, t, by omega, rfl, rfl, hE, hB⟩, by simp [intOf]; omega⟩

set_option maxRecDepth 100000 in
set_option maxHeartbeats 1000000 in
theorem ddec_neg (u : Nat) (w : World) (h2 : u ≤ 9223372036854775808) (h0 : 0 < u) (hl : (Lib.decDigits u).length ≤ 21) :
    Calls Tryz.prog 28 #[.int .i64 (-(u : Int))] w fun e w' => e = .returned (.string ⟨(45 :: Lib.decDigits u).toArray⟩) ∧ Below w.heap.size w w' := by
  have HL : Hid ((Lib.decDigits u).length ≤ 21) := hl
  clear hl
  go_enter Tryz.func28, Tryz.ntmps28
  go_wp2
  go_loopw [3, 4] (fun s r wr => ∃ (S : List UInt8) (v : Nat), v ≤ u ∧ s = .string ⟨S.toArray⟩ ∧ r = .int .i64 (-(v : Int)) ∧ Hid (Lib.decDigits v ++ S = Lib.decDigits u) ∧ Below w.heap.size w wr) (fun _ r _ => (intOf r).natAbs)
  case atStart => exact ⟨[], u, Nat.le_refl _, rfl, rfl, (show Lib.decDigits u ++ [] = Lib.decDigits u by simp), Below.refl _ _⟩
  case round =>
    obtain ⟨S, v, hv, rfl, rfl, hS, hB⟩ := hrel
    obtain ⟨q, eq⟩ : ∃ q : Nat, Hid (v % 10 = q) := ⟨_, rfl⟩
    obtain ⟨t, et⟩ : ∃ t : Nat, Hid (v / 10 = t) := ⟨_, rfl⟩
    have hq : q < 10 := by have := eq.out; omega
    have hm : (-(v : Int)).tmod 10 = -(q : Int) := by rw [Int.neg_tmod]; have := eq.out; rw [← this]; rfl
    have hd : (-(v : Int)).tdiv 10 = -(t : Int) := by rw [Int.neg_tdiv]; have := et.out; rw [← this]; rfl
    have lS : S.length ≤ 21 := by
      have h1 := congrArg List.length hS.out
      have h2 := HL.out
      simp only [List.length_append] at h1
      omega
    obtain ⟨c, ec⟩ : ∃ c : UInt8, Hid (UInt8.ofNat (48 + q) = c) := ⟨_, rfl⟩
    have x1 : ∀ W : World, (Op.stringOp .add (hexS.extract q (q + 1)) ⟨S.toArray⟩).run Tryz.prog W = .ok (.string ⟨(c :: S).toArray⟩) W := fun W => by
      rw [run_string_add_sum W _ _ (by
        rw [dig_ext q hq]
        have e1 : (⟨#[UInt8.ofNat (48 + q)]⟩ : ByteArray).size = 1 := rfl
        have e2 : (⟨S.toArray⟩ : ByteArray).size = S.length := by show S.toArray.size = _; simp
        omega), dig_ext q hq, ec.out]
      first | rfl | (congr 2; apply ByteArray.ext; simp)
    have z1 : ∀ W : World, (Op.stringOp .add ⟨#[45]⟩ ⟨(Lib.decDigits u).toArray⟩).run Tryz.prog W = .ok (.string ⟨(45 :: Lib.decDigits u).toArray⟩) W := fun W => by
      rw [run_string_add_sum W _ _ (by
        have e1 : (⟨#[45]⟩ : ByteArray).size = 1 := rfl
        have e2 : (⟨(Lib.decDigits u).toArray⟩ : ByteArray).size = (Lib.decDigits u).length := by show (Lib.decDigits u).toArray.size = _; simp
        have := HL.out
        omega)]
      first | rfl | (congr 2; apply ByteArray.ext; simp)
    by_cases ht : t = 0
    · have hE : Hid (c :: S = Lib.decDigits u) := by
        have h1 := hS.out
        rw [dec_last v (by have := et.out; omega), eq.out, ec.out] at h1
        exact h1
      clear hS eq et HL
      subst ht
      have hn : -(u : Int) < 0 := by omega
      rw [hE.out] at x1
      by_cases hq0 : q = 0
      · subst hq0
        go_wp2
        go_ret
        exact ⟨rfl, hB⟩
      · have hq1 : -(q : Int) < 0 := by omega
        go_wp2
        go_ret
        exact ⟨rfl, hB⟩
    · have ht' : ((t : Int) == 0) = false := by simp; omega
      have hE : Hid (Lib.decDigits t ++ (c :: S) = Lib.decDigits u) := by
        have h1 := hS.out
        rw [dec_more v (by have := et.out; omega), eq.out, et.out, ec.out, List.append_assoc] at h1
        exact h1
      have hlt : t < v := by have := et.out; omega
      clear hS eq et HL z1
      have ht2 : (-(t : Int) == 0) = false := by simp; omega
      by_cases hq0 : q = 0
      · subst hq0
        go_wp2
        exact ⟨⟨_, t, by omega, rfl, rfl, hE, hB⟩, by simp [intOf]; omega⟩
      · have hq1 : -(q : Int) < 0 := by omega
        go_wp2
        exact ⟨⟨_, t, by omega, rfl, rfl, hE, hB⟩, by simp [intOf]; omega⟩

theorem ddec_any (n : Int) (w : World) (h1 : -9223372036854775808 ≤ n) (h2 : n ≤ 9223372036854775807) :
    Calls Tryz.prog 28 #[.int .i64 n] w fun e w' => e = .returned (.string ⟨(Lib.itoa n).toArray⟩) ∧ Below w.heap.size w w' := by
  have hl := Lib.itoa_length_le n h1 h2
  by_cases hn : n < 0
  · unfold Lib.itoa at hl ⊢
    rw [if_pos hn] at hl ⊢
    have h := ddec_neg n.natAbs w (by omega) (by omega) (by simp at hl; omega)
    rwa [show -((n.natAbs : Nat) : Int) = n by omega] at h
  · unfold Lib.itoa at hl ⊢
    rw [if_neg hn] at hl ⊢
    have h := ddec_pos n.toNat w (by omega) hl
    rwa [show ((n.toNat : Nat) : Int) = n by omega] at h

end Go.Proofs.YtedoahibceeklabGreatDoor
