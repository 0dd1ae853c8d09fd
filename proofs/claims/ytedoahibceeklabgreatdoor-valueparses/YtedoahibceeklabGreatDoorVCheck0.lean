/- The document's Check. -/
import Derived.Test.YtedoahibceeklabGreatDoorVSimple
import Derived.Test.YtedoahibceeklabGreatDoorRef1
namespace Go.Proofs.YtedoahibceeklabGreatDoor
open Go.RowKit Go.Shelf

theorem size_empty {s : ByteArray} (h : s.toList.isEmpty = true) : s.size = 0 := by
  rw [ByteArray.toList_eq] at h
  cases hl : s.data.toList with
  | nil =>
    have h3 : s.data.toList.length = 0 := by rw [hl]; rfl
    exact h3
  | cons a b => rw [hl] at h; exact Bool.noConfusion h

set_option maxRecDepth 100000 in
set_option maxHeartbeats 400000 in
theorem rfrac_any (k n d : Int) (s : ByteArray) (w : World) :
    Calls Tryz.prog 43 #[.agg #[.int .i64 k, .int .i64 n, .int .i64 d, .string s]] w fun e w' => e = .returned (.agg #[.int .i64 n, .int .i64 d]) ∧ Below w.heap.size w w' := by
  go_enter Tryz.func43, Tryz.ntmps43
  go_wp2
  go_returns
  exact ⟨rfl, by go_grown⟩

set_option maxRecDepth 100000 in
set_option maxHeartbeats 1000000 in
theorem rcheck_1 (n d : Int) (s : ByteArray) (w : World) :
    Calls Tryz.prog 27 #[.agg #[.int .i64 1, .int .i64 n, .int .i64 d, .string s]] w fun e w' => e = .returned (.int .i64 (chk 1 n d s)) ∧ Below w.heap.size w w' := by
  cases hd : d == 0
  · have e0 : chk 1 n d s = 20 := by simp [chk, pureB, hd]
    have d1 : ¬ d = 0 := by simpa using hd
    have d2 : (d != 0) = true := by simpa using d1
    rw [e0]
    go_enter Tryz.func27, Tryz.ntmps27
    go_wp2
    go_ret
    exact ⟨rfl, by go_grown⟩
  · have hd' : d = 0 := by simpa using hd
    subst hd'
    cases hs : s.toList.isEmpty
    · have e0 : chk 1 n 0 s = 20 := by simp [chk, pureB, hs]
      rw [e0]
      go_enter Tryz.func27, Tryz.ntmps27
      go_wp2
      go_ret
      exact ⟨rfl, by go_grown⟩
    · have e0 : chk 1 n 0 s = 0 := by have := size_empty hs; simp [chk, pureB, hs, this]
      rw [e0]
      go_enter Tryz.func27, Tryz.ntmps27
      go_wp2
      go_ret
      exact ⟨rfl, by go_grown⟩

set_option maxRecDepth 100000 in
set_option maxHeartbeats 1000000 in
theorem rcheck_2 (n d : Int) (s : ByteArray) (w : World) (h1 : -9223372036854775808 ≤ n) (h2 : n ≤ 9223372036854775807) (g1 : -9223372036854775808 ≤ d) (g2 : d ≤ 9223372036854775807) :
    Calls Tryz.prog 27 #[.agg #[.int .i64 2, .int .i64 n, .int .i64 d, .string s]] w fun e w' => e = .returned (.int .i64 (chk 2 n d s)) ∧ Below w.heap.size w w' := by
  cases hs : s.toList.isEmpty
  · have e0 : chk 2 n d s = 20 := by simp [chk, pureB, hs]
    rw [e0]
    go_enter Tryz.func27, Tryz.ntmps27
    go_wp2_with fail
    refine (rfrac_any 2 n d s _).mono ?_
    rintro e w1 ⟨rfl, hb1⟩
    go_wp2_with fail
    refine (rmay_any n d _ h1 h2 g1 g2).mono ?_
    rintro e w2 ⟨rfl, hb2⟩
    obtain ⟨hc, hf, hz, hB⟩ := bf (w := w) (by go_grown) (hb1.trans (hb2.mono hb1.size))
    simp only [World.size_alloc] at hz
    have z0 : w.heap.size < w2.heap.size := by omega
    go_wp2
    go_ret
    exact ⟨rfl, hB⟩
  · have z := size_empty hs
    cases hm : mayB n d
    · have e0 : chk 2 n d s = 20 := by simp [chk, pureB, hm]
      rw [e0]
      go_enter Tryz.func27, Tryz.ntmps27
      go_wp2_with fail
      refine (rfrac_any 2 n d s _).mono ?_
      rintro e w1 ⟨rfl, hb1⟩
      go_wp2_with fail
      refine (rmay_any n d _ h1 h2 g1 g2).mono ?_
      rintro e w2 ⟨rfl, hb2⟩
      obtain ⟨hc, hf, hz, hB⟩ := bf (w := w) (by go_grown) (hb1.trans (hb2.mono hb1.size))
      simp only [World.size_alloc] at hz
      have z0 : w.heap.size < w2.heap.size := by omega
      rw [hm]
      go_wp2
      go_ret
      exact ⟨rfl, hB⟩
    · have e0 : chk 2 n d s = 0 := by simp [chk, pureB, hm, hs, z]
      rw [e0]
      go_enter Tryz.func27, Tryz.ntmps27
      go_wp2_with fail
      refine (rfrac_any 2 n d s _).mono ?_
      rintro e w1 ⟨rfl, hb1⟩
      go_wp2_with fail
      refine (rmay_any n d _ h1 h2 g1 g2).mono ?_
      rintro e w2 ⟨rfl, hb2⟩
      obtain ⟨hc, hf, hz, hB⟩ := bf (w := w) (by go_grown) (hb1.trans (hb2.mono hb1.size))
      simp only [World.size_alloc] at hz
      have z0 : w.heap.size < w2.heap.size := by omega
      rw [hm]
      go_wp2
      go_ret
      exact ⟨rfl, hB⟩

set_option maxRecDepth 100000 in
set_option maxHeartbeats 1000000 in
theorem rcheck_3 (n d : Int) (s : ByteArray) (w : World) :
    Calls Tryz.prog 27 #[.agg #[.int .i64 3, .int .i64 n, .int .i64 d, .string s]] w fun e w' => e = .returned (.int .i64 (chk 3 n d s)) ∧ Below w.heap.size w w' := by
  cases hn : n == 0
  · have e0 : chk 3 n d s = 20 := by simp [chk, pureB, hn]
    have d1 : ¬ n = 0 := by simpa using hn
    have d2 : (n != 0) = true := by simpa using d1
    rw [e0]
    go_enter Tryz.func27, Tryz.ntmps27
    go_wp2
    go_ret
    exact ⟨rfl, by go_grown⟩
  · have hn' : n = 0 := by simpa using hn
    subst hn'
    cases hd : d == 0
    · have e0 : chk 3 0 d s = 20 := by simp [chk, pureB, hd]
      have d1 : ¬ d = 0 := by simpa using hd
      have d2 : (d != 0) = true := by simpa using d1
      rw [e0]
      go_enter Tryz.func27, Tryz.ntmps27
      go_wp2
      go_ret
      exact ⟨rfl, by go_grown⟩
    · have hd' : d = 0 := by simpa using hd
      subst hd'
      by_cases hl : 64 < s.size
      · have e0 : chk 3 0 0 s = 2 := by simp [chk, pureB, hl]
        rw [e0]
        have hl' : (64 : Int) < s.size := by omega
        go_enter Tryz.func27, Tryz.ntmps27
        go_wp2
        go_ret
        exact ⟨rfl, by go_grown⟩
      · have e0 : chk 3 0 0 s = 0 := by simp [chk, pureB, hl]
        rw [e0]
        have hl' : ((64 : Int) < s.size) = False := by simp; omega
        go_enter Tryz.func27, Tryz.ntmps27
        go_wp2
        go_ret
        exact ⟨rfl, by go_grown⟩

set_option maxRecDepth 100000 in
set_option maxHeartbeats 1000000 in
theorem rcheck_any (k n d : Int) (s : ByteArray) (w : World) (h1 : -9223372036854775808 ≤ n) (h2 : n ≤ 9223372036854775807) (g1 : -9223372036854775808 ≤ d) (g2 : d ≤ 9223372036854775807) :
    Calls Tryz.prog 27 #[.agg #[.int .i64 k, .int .i64 n, .int .i64 d, .string s]] w fun e w' => e = .returned (.int .i64 (chk k n d s)) ∧ Below w.heap.size w w' := by
  by_cases k1 : k = 1
  · subst k1; exact rcheck_1 n d s w
  · by_cases k2 : k = 2
    · subst k2; exact rcheck_2 n d s w h1 h2 g1 g2
    · by_cases k3 : k = 3
      · subst k3; exact rcheck_3 n d s w
      · have e0 : chk k n d s = 20 := by simp [chk, pureB, k1, k2, k3]
        rw [e0]
        have k1' : (k == 1) = false := by simpa using k1
        have k2' : (k == 2) = false := by simpa using k2
        have k3' : (k == 3) = false := by simpa using k3
        go_enter Tryz.func27, Tryz.ntmps27
        go_wp2
        go_ret
        exact ⟨rfl, by go_grown⟩

end Go.Proofs.YtedoahibceeklabGreatDoor
