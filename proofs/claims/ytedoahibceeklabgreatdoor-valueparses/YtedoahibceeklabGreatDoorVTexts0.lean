/- The document's Same, texts, sizes; value's Same. -/
import Derived.Test.YtedoahibceeklabGreatDoorVSimple
import Derived.BigQuiet
namespace Go.Proofs.YtedoahibceeklabGreatDoor
open Go.RowKit Go.Shelf

/-- Are two values the same? -/
def sameB (k n d : Int) (s : ByteArray) (k' n' d' : Int) (s' : ByteArray) : Bool := k == k' && (n == n' && (d == d' && s.toList == s'.toList))

theorem at_drop (s : ByteArray) (k : Nat) (h : k < s.size) : s.data.toList.drop k = s[k] :: s.data.toList.drop (k + 1) := by
  have h' : k < s.data.toList.length := by simpa using h
  rw [List.drop_eq_getElem_cons h']
  rfl
theorem drop_all (s : ByteArray) (k : Nat) (h : s.size ≤ k) : s.data.toList.drop k = [] := List.drop_of_length_le (by simpa using h)

theorem cb_end (a b : ByteArray) (k : Nat) (ha : k ≤ a.size) (hb : k ≤ b.size) (h : k = a.size ∨ k = b.size) : Lib.compareBytes (a.data.toList.drop k) (b.data.toList.drop k) = Lib.compareInt a.size b.size := by
  by_cases h1 : k < a.size
  · rw [at_drop a k h1, drop_all b k (by omega)]
    simp only [Lib.compareBytes, Lib.compareInt]
    rw [if_neg (by omega), if_pos (by omega)]
  · rw [drop_all a k (by omega)]
    by_cases h2 : k < b.size
    · rw [at_drop b k h2]
      simp only [Lib.compareBytes, Lib.compareInt]
      rw [if_pos (by omega)]
    · rw [drop_all b k (by omega)]
      simp only [Lib.compareBytes, Lib.compareInt]
      rw [if_neg (by omega), if_neg (by omega)]
theorem cb_step (a b : ByteArray) (k : Nat) (ha : k < a.size) (hb : k < b.size) : Lib.compareBytes (a.data.toList.drop k) (b.data.toList.drop k) = if (a[k].toNat : Int) < b[k].toNat then -1 else if (b[k].toNat : Int) < a[k].toNat then 1 else Lib.compareBytes (a.data.toList.drop (k + 1)) (b.data.toList.drop (k + 1)) := by
  rw [at_drop a k ha, at_drop b k hb]
  simp only [Lib.compareBytes, UInt8.lt_iff_toNat_lt, Int.ofNat_lt]

set_option maxRecDepth 100000 in
set_option maxHeartbeats 1000000 in
theorem vsame_any (k n d : Int) (s : ByteArray) (k' n' d' : Int) (s' : ByteArray) (w : World) :
    Calls Tryz.prog 25 #[.agg #[.int .i64 k, .int .i64 n, .int .i64 d, .string s], .agg #[.int .i64 k', .int .i64 n', .int .i64 d', .string s']] w fun e w' => e = .returned (.bool (sameB k n d s k' n' d' s')) ∧ Below w.heap.size w w' := by
  go_enter Tryz.func25, Tryz.ntmps25
  go_wp2
  all_goals
    go_ret
    exact ⟨ret_bool (by simp_all [sameB]), by go_grown⟩

end Go.Proofs.YtedoahibceeklabGreatDoor
