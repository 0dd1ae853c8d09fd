/- The document's Same, texts, sizes; value's Same. -/
import Derived.Test.YtedoahibceeklaaGreatDoorVCheck0
import Derived.BigQuiet
namespace Go.Proofs.YtedoahibceeklaaGreatDoor
open Go.RowKit Go.Shelf

/-- Are two values the same? -/
def sameB (k n d : Int) (s : ByteArray) (k' n' d' : Int) (s' : ByteArray) : Bool := k == k' && (n == n' && (d == d' && s.toList == s'.toList))

set_option maxRecDepth 100000 in
set_option maxHeartbeats 1000000 in
theorem sizes_any (a b : Int) (w : World) :
    Calls Tryz.prog 36 #[.int .i64 a, .int .i64 b] w fun e w' => e = .returned (.int .i64 (Lib.compareInt a b)) ∧ w' = w := by
  by_cases h1 : a < b
  · have e0 : Lib.compareInt a b = -1 := by simp [Lib.compareInt, h1]
    rw [e0]
    go_enter Tryz.func36, Tryz.ntmps36
    go_wp2
    go_ret
    exact ⟨rfl, rfl⟩
  · have h1' : (a < b) = False := by simp; omega
    by_cases h2 : b < a
    · have e0 : Lib.compareInt a b = 1 := by simp [Lib.compareInt, h1, h2]
      rw [e0]
      go_enter Tryz.func36, Tryz.ntmps36
      go_wp2
      go_ret
      exact ⟨rfl, rfl⟩
    · have h2' : (b < a) = False := by simp; omega
      have e0 : Lib.compareInt a b = 0 := by simp [Lib.compareInt, h1, h2]
      rw [e0]
      go_enter Tryz.func36, Tryz.ntmps36
      go_wp2
      go_ret
      exact ⟨rfl, rfl⟩

theorem at_drop (s : ByteArray) (k : Nat) (h : k < s.size) : s.data.toList.drop k = s[k] :: s.data.toList.drop (k + 1) := by
  have h' : k < s.data.toList.length := by simpa using h
  rw [List.drop_eq_getElem_cons h']
  rfl
theorem drop_all (s : ByteArray) (k : Nat) (h : s.size ≤ k) : s.data.toList.drop k = [] := List.drop_of_length_le (by simpa using h)

theorem cb_end (a b : ByteArray) (k : Nat) (ha : k ≤ a.size) (hb : k ≤ b.size) (h : k = a.size ∨ k = b.size) : Lib.compareBytes (a.data.toList.drop k) (b.data.toList.drop k) = Lib.compareInt a.size b.size := by
  by_cases h1 : k < a.size
  · rw [at_drop a k h1, drop_all b k (by omega)]
    simp only [Lib.compareBytes, Lib.compareInt]
    rw [if_neg (by omega), if_pos (by omega)]
  · rw [drop_all a k (by omega)]
    by_cases h2 : k < b.size
    · rw [at_drop b k h2]
      simp only [Lib.compareBytes, Lib.compareInt]
      rw [if_pos (by omega)]
    · rw [drop_all b k (by omega)]
      simp only [Lib.compareBytes, Lib.compareInt]
      rw [if_neg (by omega), if_neg (by omega)]
theorem cb_step (a b : ByteArray) (k : Nat) (ha : k < a.size) (hb : k < b.size) : Lib.compareBytes (a.data.toList.drop k) (b.data.toList.drop k) = if (a[k].toNat : Int) < b[k].toNat then -1 else if (b[k].toNat : Int) < a[k].toNat then 1 else Lib.compareBytes (a.data.toList.drop (k + 1)) (b.data.toList.drop (k + 1)) := by
  rw [at_drop a k ha, at_drop b k hb]
  simp only [Lib.compareBytes, UInt8.lt_iff_toNat_lt, Int.ofNat_lt]

set_option maxRecDepth 100000 in
set_option maxHeartbeats 2000000 in
theorem texts_any (a b : ByteArray) (w : World) (za : a.size ≤ 140737488355328) (zb : b.size ≤ 140737488355328) :
    Calls Tryz.prog 33 #[.string a, .string b] w fun e w' => e = .returned (.int .i64 (Lib.compareBytes a.data.toList b.data.toList)) ∧ Below w.heap.size w w' := by
  go_enter Tryz.func33, Tryz.ntmps33
  go_wp2
  go_loopw [5] (fun i wr => ∃ k : Nat, k ≤ a.size ∧ k ≤ b.size ∧ i = .int .i64 k ∧ Hid (Lib.compareBytes (a.data.toList.drop k) (b.data.toList.drop k) = Lib.compareBytes a.data.toList b.data.toList) ∧ Below w.heap.size w wr) (fun i _ => a.size - (intOf i).toNat)
  case atStart => exact ⟨0, by omega, by omega, rfl, rfl, Below.refl _ w⟩
  case round =>
    obtain ⟨k, hk, hk', rfl, hE, hB⟩ := hrel
    by_cases h1 : k = a.size ∨ k = b.size
    · have e0 := cb_end a b k hk hk' h1
      rw [hE.out] at e0
      have E0 : Hid (Lib.compareBytes a.data.toList b.data.toList = Lib.compareInt a.size b.size) := e0
      clear hE e0
      by_cases h2 : k = a.size
      · have h3 : ((k : Int) < a.size) = False := by simp; omega
        go_wp2_with fail
        refine (sizes_any _ _ _).mono ?_
        rintro e w1 ⟨rfl, rfl⟩
        go_wp2
        go_ret
        exact ⟨ret_int E0.out.symm, hB⟩
      · have h3 : (k : Int) < a.size := by omega
        have h4 : ((k : Int) < b.size) = False := by simp; omega
        clear h1 h2
        go_wp2_with fail
        refine (sizes_any _ _ _).mono ?_
        rintro e w1 ⟨rfl, rfl⟩
        go_wp2
        go_ret
        exact ⟨ret_int E0.out.symm, hB⟩
    · have ha : k < a.size := by omega
      have hb : k < b.size := by omega
      have e0 := cb_step a b k ha hb
      rw [hE.out] at e0
      have ha' : (k : Int) < a.size := by omega
      have hb' : (k : Int) < b.size := by omega
      obtain ⟨x, hx⟩ : ∃ x : UInt8, a[k] = x := ⟨_, rfl⟩
      obtain ⟨y, hy⟩ : ∃ y : UInt8, b[k] = y := ⟨_, rfl⟩
      rw [hx, hy] at e0
      clear hE h1
      by_cases h1 : (x.toNat : Int) < y.toNat
      · rw [if_pos h1] at e0
        have E0 : Hid (Lib.compareBytes a.data.toList b.data.toList = -1) := e0
        clear e0
        go_wp2_with fail
        go_quiet (fail)
        go_wp2
        go_ret
        exact ⟨ret_int E0.out.symm, by repeat' (first | (with_reducible assumption) | (with_reducible refine bdrewN _ ?_))⟩
      · have h1' : ((x.toNat : Int) < y.toNat) = False := by simp; omega
        rw [if_neg h1] at e0
        by_cases h2 : (y.toNat : Int) < x.toNat
        · rw [if_pos h2] at e0
          have E0 : Hid (Lib.compareBytes a.data.toList b.data.toList = 1) := e0
          clear e0 h1
          go_wp2_with fail
          go_quiet (fail)
          go_wp2_with fail
          go_quiet (fail)
          go_wp2
          go_ret
          exact ⟨ret_int E0.out.symm, by repeat' (first | (with_reducible assumption) | (with_reducible refine bdrewN _ ?_))⟩
        · have h2' : ((y.toNat : Int) < x.toNat) = False := by simp; omega
          rw [if_neg h2] at e0
          have E0 : Hid (Lib.compareBytes (a.data.toList.drop (k + 1)) (b.data.toList.drop (k + 1)) = Lib.compareBytes a.data.toList b.data.toList) := e0.symm
          clear e0 h1 h2
          go_wp2_with fail
          go_quiet (fail)
          go_wp2_with fail
          go_quiet (fail)
          go_wp2
          refine ⟨⟨k + 1, by omega, by omega, by simp, E0, by repeat' (first | (with_reducible assumption) | (with_reducible refine bdrewN _ ?_))⟩, by simp [intOf]; omega⟩

set_option maxRecDepth 100000 in
set_option maxHeartbeats 1000000 in
theorem rsame_any (k n d : Int) (s : ByteArray) (k' n' d' : Int) (s' : ByteArray) (w : World) :
    Calls Tryz.prog 16 #[.agg #[.int .i64 k, .int .i64 n, .int .i64 d, .string s], .agg #[.int .i64 k', .int .i64 n', .int .i64 d', .string s']] w fun e w' => e = .returned (.bool (sameB k n d s k' n' d' s')) ∧ Below w.heap.size w w' := by
  by_cases hk : k = k'
  · subst hk
    by_cases hn : n = n'
    · subst hn
      by_cases hd : d = d'
      · subst hd
        go_enter Tryz.func16, Tryz.ntmps16
        go_wp2
        go_ret
        exact ⟨ret_bool (by simp [sameB]), by go_grown⟩
      · have e1 : (d == d') = false := by simpa using hd
        go_enter Tryz.func16, Tryz.ntmps16
        go_wp2
        go_ret
        exact ⟨ret_bool (by simp [sameB, hd]), by go_grown⟩
    · have e1 : (n == n') = false := by simpa using hn
      go_enter Tryz.func16, Tryz.ntmps16
      go_wp2
      go_ret
      exact ⟨ret_bool (by simp [sameB, hn]), by go_grown⟩
  · have e1 : (k == k') = false := by simpa using hk
    go_enter Tryz.func16, Tryz.ntmps16
    go_wp2
    go_ret
    exact ⟨ret_bool (by simp [sameB, hk]), by go_grown⟩

set_option maxRecDepth 100000 in
set_option maxHeartbeats 1000000 in
theorem vsame_any (k n d : Int) (s : ByteArray) (k' n' d' : Int) (s' : ByteArray) (w : World) :
    Calls Tryz.prog 18 #[.agg #[.int .i64 k, .int .i64 n, .int .i64 d, .string s], .agg #[.int .i64 k', .int .i64 n', .int .i64 d', .string s']] w fun e w' => e = .returned (.bool (sameB k n d s k' n' d' s')) ∧ Below w.heap.size w w' := by
  go_enter Tryz.func18, Tryz.ntmps18
  go_wp2
  all_goals
    go_ret
    exact ⟨ret_bool (by simp_all [sameB]), by go_grown⟩

end Go.Proofs.YtedoahibceeklaaGreatDoor
