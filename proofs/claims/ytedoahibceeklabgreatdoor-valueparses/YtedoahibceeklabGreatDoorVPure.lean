/- Which values may be. -/
import Derived.Test.YtedoahibceeklabGreatDoorAny
import Derived.Test.YtedoahibceeklabGreatDoorVQuote
namespace Go.Proofs.YtedoahibceeklabGreatDoor
open Go.RowKit Go.Shelf

/-- May a value be, its length aside? -/
def pureB (k n d : Int) (s : ByteArray) : Bool := if k = 1 then d == 0 && s.toList.isEmpty else if k = 2 then mayB n d && s.toList.isEmpty else if k = 3 then n == 0 && d == 0 else false
/-- Why a value may not be. -/
def chk (k n d : Int) (s : ByteArray) : Int := if pureB k n d s = false then 20 else if 64 < s.size then 2 else 0

theorem ret_bool {a b : Bool} (h : a = b) : Ending.returned (.bool a) = .returned (.bool b) := by rw [h]

set_option maxRecDepth 100000 in
set_option maxHeartbeats 1000000 in
theorem pure_any (k n d : Int) (s : ByteArray) (w : World) (h1 : -9223372036854775808 ≤ n) (h2 : n ≤ 9223372036854775807) (g1 : -9223372036854775808 ≤ d) (g2 : d ≤ 9223372036854775807) :
    Calls Tryz.prog 31 #[.agg #[.int .i64 k, .int .i64 n, .int .i64 d, .string s]] w fun e w' => e = .returned (.bool (pureB k n d s)) ∧ Below w.heap.size w w' := by
  by_cases k1 : k = 1
  · subst k1
    cases hd : d == 0
    · go_enter Tryz.func31, Tryz.ntmps31
      go_wp2
      go_ret
      exact ⟨ret_bool (by simp [pureB, hd]), by go_grown⟩
    · have hd' : d = 0 := by simpa using hd
      subst hd'
      go_enter Tryz.func31, Tryz.ntmps31
      go_wp2
      go_ret
      exact ⟨ret_bool (by simp [pureB]), by go_grown⟩
  · have k1' : (k == 1) = false := by simpa using k1
    by_cases k2 : k = 2
    · subst k2
      have e0 : pureB 2 n d s = (mayB n d && s.toList.isEmpty) := by simp [pureB]
      rw [e0]
      by_cases a1 : oE n d = 0
      · cases m : (oN n d == n && oD n d == d)
        · go_enter Tryz.func31, Tryz.ntmps31
          go_wp2_with (first
            | (go_at_call 48; refine (of_all _ _ _ h1 h2 g1 g2).mono ?_; rintro e w1 ⟨rfl, hb⟩; obtain ⟨hc, hf, hz, hB⟩ := bf (w := w) (by go_grown) hb; simp only [World.size_alloc] at hz; have z0 : w.heap.size < w1.heap.size := (by omega)))
          all_goals
            go_ret
            exact ⟨ret_bool (by simp_all [mayB]), by go_grown⟩
        · go_enter Tryz.func31, Tryz.ntmps31
          go_wp2_with (first
            | (go_at_call 48; refine (of_all _ _ _ h1 h2 g1 g2).mono ?_; rintro e w1 ⟨rfl, hb⟩; obtain ⟨hc, hf, hz, hB⟩ := bf (w := w) (by go_grown) hb; simp only [World.size_alloc] at hz; have z0 : w.heap.size < w1.heap.size := (by omega)))
          all_goals
            go_ret
            exact ⟨ret_bool (by simp_all [mayB]), by go_grown⟩
      · have a2 : (oE n d == 0) = false := by simpa using a1
        go_enter Tryz.func31, Tryz.ntmps31
        go_wp2_with (first
          | (go_at_call 48; refine (of_all _ _ _ h1 h2 g1 g2).mono ?_; rintro e w1 ⟨rfl, hb⟩; obtain ⟨hc, hf, hz, hB⟩ := bf (w := w) (by go_grown) hb; simp only [World.size_alloc] at hz; have z0 : w.heap.size < w1.heap.size := (by omega)))
        all_goals
          go_ret
          exact ⟨ret_bool (by simp [mayB, a2]), by go_grown⟩
    · have k2' : (k == 2) = false := by simpa using k2
      by_cases k3 : k = 3
      · subst k3
        have e0 : pureB 3 n d s = (n == 0 && d == 0) := by simp [pureB]
        rw [e0]
        cases hn : n == 0
        · go_enter Tryz.func31, Tryz.ntmps31
          go_wp2
          go_ret
          exact ⟨ret_bool (by simp), by go_grown⟩
        · go_enter Tryz.func31, Tryz.ntmps31
          go_wp2
          go_ret
          exact ⟨ret_bool (by simp), by go_grown⟩
      · have k3' : (k == 3) = false := by simpa using k3
        have e0 : pureB k n d s = false := by simp [pureB, k1, k2, k3]
        rw [e0]
        go_enter Tryz.func31, Tryz.ntmps31
        go_wp2
        go_ret
        exact ⟨rfl, by go_grown⟩

end Go.Proofs.YtedoahibceeklabGreatDoor
