/- The document's own token at a place: one, valued, number. -/
import Derived.Test.YtmegombglkcccaaGreatDoorZ01
import Derived.Test.YtmegombglkcccaaGreatDoorZ04

namespace Go.Proofs.YtmegombglkcccaaGreatDoor
open Go.RowKit Go.Shelf LX
set_option linter.unusedVariables false

theorem foldN_lt : ∀ (n : Nat) (l : List UInt8), l.length = n → (∀ c ∈ l, digN c.toNat = true) → foldN l < 10 ^ n := by
  intro n
  induction n with
  | zero => intro l h _; rw [List.length_eq_zero_iff.mp h]; decide
  | succ n ih =>
    intro l hn hd1
    have h0 : l ≠ [] := by intro h; rw [h] at hn; simp at hn
    obtain ⟨l', c, rfl⟩ : ∃ l' c, l = l' ++ [c] := ⟨l.dropLast, l.getLast h0, (List.dropLast_concat_getLast h0).symm⟩
    have hc : 48 ≤ c.toNat ∧ c.toNat ≤ 57 := by simpa [digN] using hd1 c (by simp)
    have := ih l' (by simp at hn; exact hn) (fun x hx => hd1 x (by simp [hx]))
    rw [foldN_app, Nat.pow_succ]
    omega
theorem take_more (s : ByteArray) (k : Nat) (h : k < s.size) : s.data.toList.take (k + 1) = s.data.toList.take k ++ [s[k]] := by
  have h' : k < s.data.toList.length := by simpa using h
  rw [List.take_add_one, List.getElem?_eq_getElem h']
  rfl
set_option maxRecDepth 100000 in
set_option maxHeartbeats 4000000 in
theorem rnum_no (s : ByteArray) (M : Int) (w : World) (h : s.size = 0 ∨ 18 < s.size ∨ (∃ h1 : 1 < s.size, s[0].toNat = 48)) :
    Calls Tryz.prog 23 #[.string s, .int .i64 M] w fun e w' => e = .returned (.tuple #[.int .i64 0, .bool false]) ∧ w' = w := by
  by_cases h0 : s.size = 0
  · have c0 : ((s.size : Int) == 0) = true := beq_iff_eq.mpr (by omega)
    have c0' : (s.size : Int) = 0 := by omega
    go_enter Tryz.func23, Tryz.ntmps23
    go_wp2
    refine bodyPost_ret (by simp [results, Tryz.results23, go_sem]; try rfl) rfl ?_
    exact ⟨rfl, rfl⟩
  · have c0 : ((s.size : Int) == 0) = false := beq_eq_false_iff_ne.mpr (by omega)
    by_cases h18 : 18 < s.size
    · have c1 : (18 : Int) < s.size := by omega
      go_enter Tryz.func23, Tryz.ntmps23
      go_wp2
      refine bodyPost_ret (by simp [results, Tryz.results23, go_sem]; try rfl) rfl ?_
      exact ⟨rfl, rfl⟩
    · have c1 : ¬ (18 : Int) < s.size := by omega
      rcases h with h | h | ⟨h1, h⟩
      · exact absurd h h0
      · exact absurd h h18
      · have c2 : (1 : Int) < s.size := by omega
        have c3 : ((s[0].toNat : Nat) : Int) = 48 := by omega
        have c4 : (0 : Int) < s.size := by omega
        have hz : 0 < s.size := by omega
        go_enter Tryz.func23, Tryz.ntmps23
        go_wp2
        refine bodyPost_ret (by simp [results, Tryz.results23, go_sem]; try rfl) rfl ?_
        exact ⟨rfl, rfl⟩
set_option maxRecDepth 100000 in
set_option maxHeartbeats 4000000 in
theorem rnum_go (s : ByteArray) (M : Int) (w : World) (h0 : 0 < s.size) (h18 : s.size ≤ 18) (hz : ∀ h1 : 1 < s.size, ¬ s[0].toNat = 48) :
    Calls Tryz.prog 23 #[.string s, .int .i64 M] w fun e w' => e = .returned (.tuple (if s.data.toList.all (fun c => digN c.toNat) = true then #[.int .i64 (foldN s.data.toList : Nat), .bool (decide (((foldN s.data.toList : Nat) : Int) ≤ M))] else #[.int .i64 0, .bool false])) ∧ w' = w := by
  have hl : s.data.toList.length = s.size := by simp
  have c0 : ((s.size : Int) == 0) = false := beq_eq_false_iff_ne.mpr (by omega)
  have c1 : ¬ (18 : Int) < s.size := by omega
  have c9 : (0 : Int) < s.size := by omega
  have DG : Hid (∀ (c : Nat) (W : World), c < 256 → Calls Tryz.prog 16 #[.int .u8 c] W fun x w' => x = .returned (.bool (digN c)) ∧ w' = W) := fun c W h => rdigit_any c W h
  obtain ⟨AN, eAN⟩ : ∃ AN : Array Value, Hid ((if s.data.toList.all (fun c => digN c.toNat) = true then #[.int .i64 (foldN s.data.toList : Nat), .bool (decide (((foldN s.data.toList : Nat) : Int) ≤ M))] else #[.int .i64 0, .bool false]) = AN) := ⟨_, rfl⟩
  rw [eAN.out]
  have c3 : 1 < s.size → ((s[0].toNat : Int) == 48) = false := fun h1 => beq_eq_false_iff_ne.mpr (by have := hz h1; omega)
  have body : ∀ (_ : True), Calls Tryz.prog 23 #[.string s, .int .i64 M] w fun e w' => e = .returned (.tuple AN) ∧ w' = w := by
    intro _
    by_cases h1 : 1 < s.size
    · have d1 : (1 : Int) < s.size := by omega
      have d2 := c3 h1
      have d3 : ¬ ((s[0].toNat : Nat) : Int) = 48 := by simpa using d2
      go_enter Tryz.func23, Tryz.ntmps23
      go_wp2
      go_loopw [6, 7] (fun v6 v7 wr => ∃ k : Nat, v6 = .int .i64 (foldN (s.data.toList.take k) : Nat) ∧ v7 = .int .i64 k ∧ k ≤ s.size ∧ wr = w ∧ Hid (∀ c ∈ s.data.toList.take k, digN c.toNat = true)) (fun _ v7 _ => s.size - (ivR v7).toNat)
      case atStart => exact ⟨0, rfl, rfl, Nat.zero_le _, rfl, (fun c hc => by simp at hc : ∀ c ∈ s.data.toList.take 0, digN c.toNat = true)⟩
      case round =>
        obtain ⟨k, rfl, rfl, hk, rfl, hD⟩ := hrel
        by_cases hlt : k < s.size
        · have c4 : (k : Int) < s.size := by omega
          have hF := foldN_lt k (s.data.toList.take k) (by simp; omega) hD.out
          have hp : 10 ^ k ≤ 10 ^ 17 := Nat.pow_le_pow_right (by decide) (by omega)
          have hF2 : foldN (s.data.toList.take k) < 100000000000000000 := by
            have : (10 : Nat) ^ 17 = 100000000000000000 := by decide
            omega
          have hnx : Hid (foldN (s.data.toList.take (k + 1)) = foldN (s.data.toList.take k) * 10 + (s[k].toNat - 48)) := by
            show _ = _
            rw [take_more s k hlt, foldN_app]
          have hmem : Hid (s[k] ∈ s.data.toList) := List.getElem_mem (l := s.data.toList) (by simpa using hlt)
          clear hF hp
          generalize foldN (s.data.toList.take k) = F at hF2 hnx
          go_wp2_with fail
          refine (DG.out _ _ s[k].toNat_lt).mono ?_
          rintro e w1 ⟨rfl, rfl⟩
          cases hd0 : digN s[k].toNat
          · have hAN : AN = #[.int .i64 0, .bool false] := by
              rw [← eAN.out, if_neg]
              intro hx
              rw [List.all_eq_true] at hx
              have := hx _ hmem.out
              rw [hd0] at this
              cases this
            subst hAN
            go_wp2
            refine bodyPost_ret (by simp [results, Tryz.results23, go_sem]; try rfl) rfl ?_
            exact ⟨rfl, rfl⟩
          · have hc : 48 ≤ s[k].toNat ∧ s[k].toNat ≤ 57 := by simpa [digN] using hd0
            have hc1 : (48 : Int) ≤ s[k].toNat := by omega
            have hc2 : ((s[k].toNat : Nat) : Int) ≤ 57 := by omega
            have hF3 : (F : Int) < 100000000000000000 := by omega
            have hD2 : Hid (∀ c ∈ s.data.toList.take (k + 1), digN c.toNat = true) := fun c hc => by
              rw [take_more s k hlt] at hc
              rcases List.mem_append.1 hc with hc | hc
              · exact hD.out c hc
              · rw [List.mem_singleton.1 hc]; exact hd0
            go_wp2
            refine ⟨⟨k + 1, ?_, by go_num, by omega, trivial, hD2⟩, by simp [ivR]; omega⟩
            rw [hnx.out]
            congr 1
            omega
        · have c4 : ¬ (k : Int) < s.size := by omega
          have hfin : s.data.toList.take k = s.data.toList := List.take_of_length_le (by omega)
          rw [hfin] at hD ⊢
          have hAN : AN = #[.int .i64 (foldN s.data.toList : Nat), .bool (decide (((foldN s.data.toList : Nat) : Int) ≤ M))] := by
            rw [← eAN.out, if_pos]
            rw [List.all_eq_true]
            exact hD.out
          subst hAN
          generalize hFe : foldN s.data.toList = F
          go_wp2
          refine bodyPost_ret (by simp [results, Tryz.results23, go_sem]; try rfl) rfl ?_
          exact ⟨rfl, rfl⟩
    · have d1 : ¬ (1 : Int) < s.size := by omega
      go_enter Tryz.func23, Tryz.ntmps23
      go_wp2
      go_loopw [6, 7] (fun v6 v7 wr => ∃ k : Nat, v6 = .int .i64 (foldN (s.data.toList.take k) : Nat) ∧ v7 = .int .i64 k ∧ k ≤ s.size ∧ wr = w ∧ Hid (∀ c ∈ s.data.toList.take k, digN c.toNat = true)) (fun _ v7 _ => s.size - (ivR v7).toNat)
      case atStart => exact ⟨0, rfl, rfl, Nat.zero_le _, rfl, (fun c hc => by simp at hc : ∀ c ∈ s.data.toList.take 0, digN c.toNat = true)⟩
      case round =>
        obtain ⟨k, rfl, rfl, hk, rfl, hD⟩ := hrel
        by_cases hlt : k < s.size
        · have c4 : (k : Int) < s.size := by omega
          have hF := foldN_lt k (s.data.toList.take k) (by simp; omega) hD.out
          have hp : 10 ^ k ≤ 10 ^ 17 := Nat.pow_le_pow_right (by decide) (by omega)
          have hF2 : foldN (s.data.toList.take k) < 100000000000000000 := by
            have : (10 : Nat) ^ 17 = 100000000000000000 := by decide
            omega
          have hnx : Hid (foldN (s.data.toList.take (k + 1)) = foldN (s.data.toList.take k) * 10 + (s[k].toNat - 48)) := by
            show _ = _
            rw [take_more s k hlt, foldN_app]
          have hmem : Hid (s[k] ∈ s.data.toList) := List.getElem_mem (l := s.data.toList) (by simpa using hlt)
          clear hF hp
          generalize foldN (s.data.toList.take k) = F at hF2 hnx
          go_wp2_with fail
          refine (DG.out _ _ s[k].toNat_lt).mono ?_
          rintro e w1 ⟨rfl, rfl⟩
          cases hd0 : digN s[k].toNat
          · have hAN : AN = #[.int .i64 0, .bool false] := by
              rw [← eAN.out, if_neg]
              intro hx
              rw [List.all_eq_true] at hx
              have := hx _ hmem.out
              rw [hd0] at this
              cases this
            subst hAN
            go_wp2
            refine bodyPost_ret (by simp [results, Tryz.results23, go_sem]; try rfl) rfl ?_
            exact ⟨rfl, rfl⟩
          · have hc : 48 ≤ s[k].toNat ∧ s[k].toNat ≤ 57 := by simpa [digN] using hd0
            have hc1 : (48 : Int) ≤ s[k].toNat := by omega
            have hc2 : ((s[k].toNat : Nat) : Int) ≤ 57 := by omega
            have hF3 : (F : Int) < 100000000000000000 := by omega
            have hD2 : Hid (∀ c ∈ s.data.toList.take (k + 1), digN c.toNat = true) := fun c hc => by
              rw [take_more s k hlt] at hc
              rcases List.mem_append.1 hc with hc | hc
              · exact hD.out c hc
              · rw [List.mem_singleton.1 hc]; exact hd0
            go_wp2
            refine ⟨⟨k + 1, ?_, by go_num, by omega, trivial, hD2⟩, by simp [ivR]; omega⟩
            rw [hnx.out]
            congr 1
            omega
        · have c4 : ¬ (k : Int) < s.size := by omega
          have hfin : s.data.toList.take k = s.data.toList := List.take_of_length_le (by omega)
          rw [hfin] at hD ⊢
          have hAN : AN = #[.int .i64 (foldN s.data.toList : Nat), .bool (decide (((foldN s.data.toList : Nat) : Int) ≤ M))] := by
            rw [← eAN.out, if_pos]
            rw [List.all_eq_true]
            exact hD.out
          subst hAN
          generalize hFe : foldN s.data.toList = F
          go_wp2
          refine bodyPost_ret (by simp [results, Tryz.results23, go_sem]; try rfl) rfl ?_
          exact ⟨rfl, rfl⟩
  exact body trivial
/-- Number at every text: the number, and whether it may be. -/
def numR (l : List UInt8) (M : Int) : Int × Bool := match refN l with
  | none => (0, false)
  | some n => (n, decide ((n : Int) ≤ M))
theorem rnumber_any (s : ByteArray) (M : Int) (w : World) :
    Calls Tryz.prog 23 #[.string s, .int .i64 M] w fun e w' => e = .returned (.tuple #[.int .i64 (numR s.data.toList M).1, .bool (numR s.data.toList M).2]) ∧ w' = w := by
  have hl : s.data.toList.length = s.size := by simp
  by_cases h : s.size = 0 ∨ 18 < s.size ∨ (∃ h1 : 1 < s.size, s[0].toNat = 48)
  · have e : refN s.data.toList = none := by
      unfold refN
      rw [if_pos]
      rcases h with h | h | ⟨h1, h⟩
      · left; exact List.length_eq_zero_iff.mp (by omega)
      · right; left; omega
      · right; right; left
        refine ⟨by omega, ?_⟩
        have := hd_drop s 0 (by omega)
        rw [List.drop_zero] at this
        rw [this]; exact h
    unfold numR
    rw [e]
    exact rnum_no s M w h
  · simp only [not_or] at h
    obtain ⟨h1, h2, h3⟩ := h
    have q := rnum_go s M w (by omega) (by omega) (fun h4 h5 => h3 ⟨h4, h5⟩)
    unfold numR
    cases ha : s.data.toList.all (fun c => digN c.toNat)
    · have e : refN s.data.toList = none := by unfold refN; rw [if_pos (.inr (.inr (.inr ha)))]
      rw [e]
      rw [ha] at q
      exact q
    · have e : refN s.data.toList = some (foldN s.data.toList) := by
        unfold refN
        rw [if_neg]
        rintro (h | h | ⟨h, h'⟩ | h)
        · rw [h] at hl; simp at hl; omega
        · omega
        · have := hd_drop s 0 (by omega)
          rw [List.drop_zero] at this
          rw [this] at h'
          exact h3 ⟨by omega, h'⟩
        · rw [ha] at h; cases h
      rw [e]
      rw [ha] at q
      exact q
theorem numR_B (l : List UInt8) : (numR l 1099511627776).2 = (numB l).2 ∧ ((numB l).2 = true → numB l = (⟨1, (numR l 1099511627776).1, 0, ⟨#[]⟩⟩, true)) := by
  unfold numR
  cases h : refN l with
  | none => rw [numB_no l (fun n hn => by rw [h] at hn; cases hn)]; exact ⟨rfl, fun h => by cases h⟩
  | some n =>
    by_cases hn : n ≤ 1099511627776
    · rw [numB_yes l n h hn]
      exact ⟨decide_eq_true (by omega), fun _ => rfl⟩
    · rw [numB_no l (fun m hm => by rw [h] at hm; cases hm; omega)]
      exact ⟨decide_eq_false (by omega), fun h => by cases h⟩
end Go.Proofs.YtmegombglkcccaaGreatDoor

namespace Go.Proofs.YtmegombglkcccaaGreatDoor
open Go.RowKit Go.Shelf LX
set_option linter.unusedVariables false

/-- An interval of some kind, and whether there is one. -/
def EndsOut (e : Ending) (b : Bool) : Prop := ∃ (lo hi : Int) (op : Bool), e = .returned (.tuple #[.agg #[.int .i64 lo, .int .i64 hi, .bool op], .bool b])
set_option maxRecDepth 100000 in
set_option maxHeartbeats 4000000 in
theorem ends_0 (s A B : ByteArray) (cm : Nat) (a b : Int) (oa ob : Bool) (w : World) (hs : s.size ≤ 16384) (hcm : cm ≤ s.size)
    (hne : Hid (∀ i (hi : i < s.size), i < cm → ¬ s[i].toNat = 44)) (heq : Hid (∀ h : cm < s.size, s[cm].toNat = 44))
    (NA : Hid (∀ W : World, Calls Tryz.prog 23 #[.string A, .int .i64 1099511627776] W fun e w' => e = .returned (.tuple #[.int .i64 a, .bool oa]) ∧ w' = W))
    (NB : Hid (∀ W : World, Calls Tryz.prog 23 #[.string B, .int .i64 1099511627776] W fun e w' => e = .returned (.tuple #[.int .i64 b, .bool ob]) ∧ w' = W)) (h : s.size < 5) :
    Calls Tryz.prog 19 #[.string s] w fun e w' => EndsOut e false ∧ Below w.heap.size w w' := by
  have q1 : (s.size : Int) < 5 := by omega
  go_enter Tryz.func19, Tryz.ntmps19
  go_wp2
  go_loopw [4] (fun v wr => ∃ k : Nat, v = .int .i64 k ∧ k ≤ cm ∧ wr = w.alloc (Obj.cells #[.int .i64 0, .int .i64 0, .bool false] 50)) (fun v _ => cm - (ivR v).toNat)
  case atStart => exact ⟨0, rfl, Nat.zero_le _, rfl⟩
  case round =>
    obtain ⟨k, rfl, hk, rfl⟩ := hrel
    by_cases hlt : k < cm
    · have hks : k < s.size := by omega
      have c1 : (k : Int) < s.size := by omega
      have n44 := hne.out k hks hlt
      have b44 : ((s[k].toNat : Int) != 44) = true := by simp; omega
      have n44' : ¬ ((s[k].toNat : Nat) : Int) = 44 := by omega
      go_wp2
      exact ⟨⟨k + 1, by go_num, by omega, trivial⟩, by simp [ivR]; omega⟩
    · have hke : k = cm := by omega
      subst hke
      by_cases hcs : k < s.size
      · have c1 : (k : Int) < s.size := by omega
        have h44 := heq.out hcs
        have h44' : ((s[k].toNat : Nat) : Int) = 44 := by omega
        go_wp2
        all_goals
          refine bodyPost_ret (by simp [results, Tryz.results19, go_sem]; try rfl) rfl ?_
          exact ⟨⟨_, _, _, rfl⟩, (Below.refl _ w).alloc (Nat.le_refl _) _⟩
      · have c1 : ¬ (k : Int) < s.size := by omega
        go_wp2
        all_goals
          refine bodyPost_ret (by simp [results, Tryz.results19, go_sem]; try rfl) rfl ?_
          exact ⟨⟨_, _, _, rfl⟩, (Below.refl _ w).alloc (Nat.le_refl _) _⟩
set_option maxRecDepth 100000 in
set_option maxHeartbeats 4000000 in
theorem ends_1 (s A B : ByteArray) (cm : Nat) (a b : Int) (oa ob : Bool) (w : World) (hs : s.size ≤ 16384) (hcm : cm ≤ s.size)
    (hne : Hid (∀ i (hi : i < s.size), i < cm → ¬ s[i].toNat = 44)) (heq : Hid (∀ h : cm < s.size, s[cm].toNat = 44))
    (NA : Hid (∀ W : World, Calls Tryz.prog 23 #[.string A, .int .i64 1099511627776] W fun e w' => e = .returned (.tuple #[.int .i64 a, .bool oa]) ∧ w' = W))
    (NB : Hid (∀ W : World, Calls Tryz.prog 23 #[.string B, .int .i64 1099511627776] W fun e w' => e = .returned (.tuple #[.int .i64 b, .bool ob]) ∧ w' = W)) (h : 5 ≤ s.size) (h1 : s.size < cm + 3) :
    Calls Tryz.prog 19 #[.string s] w fun e w' => EndsOut e false ∧ Below w.heap.size w w' := by
  have q1 : ¬ (s.size : Int) < 5 := by omega
  have q2 : (s.size : Int) - 3 < cm := by omega
  go_enter Tryz.func19, Tryz.ntmps19
  go_wp2
  go_loopw [4] (fun v wr => ∃ k : Nat, v = .int .i64 k ∧ k ≤ cm ∧ wr = w.alloc (Obj.cells #[.int .i64 0, .int .i64 0, .bool false] 50)) (fun v _ => cm - (ivR v).toNat)
  case atStart => exact ⟨0, rfl, Nat.zero_le _, rfl⟩
  case round =>
    obtain ⟨k, rfl, hk, rfl⟩ := hrel
    by_cases hlt : k < cm
    · have hks : k < s.size := by omega
      have c1 : (k : Int) < s.size := by omega
      have n44 := hne.out k hks hlt
      have b44 : ((s[k].toNat : Int) != 44) = true := by simp; omega
      have n44' : ¬ ((s[k].toNat : Nat) : Int) = 44 := by omega
      go_wp2
      exact ⟨⟨k + 1, by go_num, by omega, trivial⟩, by simp [ivR]; omega⟩
    · have hke : k = cm := by omega
      subst hke
      by_cases hcs : k < s.size
      · have c1 : (k : Int) < s.size := by omega
        have h44 := heq.out hcs
        have h44' : ((s[k].toNat : Nat) : Int) = 44 := by omega
        go_wp2
        all_goals
          refine bodyPost_ret (by simp [results, Tryz.results19, go_sem]; try rfl) rfl ?_
          exact ⟨⟨_, _, _, rfl⟩, (Below.refl _ w).alloc (Nat.le_refl _) _⟩
      · have c1 : ¬ (k : Int) < s.size := by omega
        go_wp2
        all_goals
          refine bodyPost_ret (by simp [results, Tryz.results19, go_sem]; try rfl) rfl ?_
          exact ⟨⟨_, _, _, rfl⟩, (Below.refl _ w).alloc (Nat.le_refl _) _⟩
set_option maxRecDepth 100000 in
set_option maxHeartbeats 4000000 in
theorem ends_2 (s A B : ByteArray) (cm : Nat) (a b : Int) (oa ob : Bool) (w : World) (hs : s.size ≤ 16384) (hcm : cm ≤ s.size)
    (hne : Hid (∀ i (hi : i < s.size), i < cm → ¬ s[i].toNat = 44)) (heq : Hid (∀ h : cm < s.size, s[cm].toNat = 44))
    (NA : Hid (∀ W : World, Calls Tryz.prog 23 #[.string A, .int .i64 1099511627776] W fun e w' => e = .returned (.tuple #[.int .i64 a, .bool oa]) ∧ w' = W))
    (NB : Hid (∀ W : World, Calls Tryz.prog 23 #[.string B, .int .i64 1099511627776] W fun e w' => e = .returned (.tuple #[.int .i64 b, .bool ob]) ∧ w' = W)) (h : 5 ≤ s.size) (h1 : cm + 3 ≤ s.size) (h91 : ∀ h0 : 0 < s.size, s[0].toNat = 91) (h93 : ∀ h0 : 0 < s.size, (s[s.size - 1]'(by omega)).toNat = 93) (eA : s.extract 1 cm = A) (eB : s.extract (cm + 1) (s.size - 1) = B) (h1c : 1 ≤ cm) (ho : oa = false) :
    Calls Tryz.prog 19 #[.string s] w fun e w' => EndsOut e false ∧ Below w.heap.size w w' := by
  subst ho
  have q1 : ¬ (s.size : Int) < 5 := by omega
  have q2 : ¬ (s.size : Int) - 3 < cm := by omega
  have e0 : ((s[0].toNat : Nat) : Int) = 91 := by have := h91 (by omega); omega
  have e1 : (((s[s.size - 1]'(by omega)).toNat : Nat) : Int) = 93 := by have := h93 (by omega); omega
  have q3 : (cm : Int) ≤ s.size := by omega
  have q4 : (1 : Int) ≤ cm := by omega
  have q5 : (cm : Int) + 1 ≤ (s.size : Int) - 1 := by omega
  have q6 : (s.size : Int) - 1 ≤ s.size := by omega
  have q7 : (0 : Int) ≤ (s.size : Int) - 1 := by omega
  go_enter Tryz.func19, Tryz.ntmps19
  go_wp2
  go_loopw [4] (fun v wr => ∃ k : Nat, v = .int .i64 k ∧ k ≤ cm ∧ wr = w.alloc (Obj.cells #[.int .i64 0, .int .i64 0, .bool false] 50)) (fun v _ => cm - (ivR v).toNat)
  case atStart => exact ⟨0, rfl, Nat.zero_le _, rfl⟩
  case round =>
    obtain ⟨k, rfl, hk, rfl⟩ := hrel
    by_cases hlt : k < cm
    · have hks : k < s.size := by omega
      have c1 : (k : Int) < s.size := by omega
      have n44 := hne.out k hks hlt
      have b44 : ((s[k].toNat : Int) != 44) = true := by simp; omega
      have n44' : ¬ ((s[k].toNat : Nat) : Int) = 44 := by omega
      go_wp2
      exact ⟨⟨k + 1, by go_num, by omega, trivial⟩, by simp [ivR]; omega⟩
    · have hke : k = cm := by omega
      subst hke
      have hcs : k < s.size := by omega
      have c1 : (k : Int) < s.size := by omega
      have h44 := heq.out hcs
      have h44' : ((s[k].toNat : Nat) : Int) = 44 := by omega
      have z0 : 0 < s.size := by omega
      have z0' : (0 : Int) < s.size := by omega
      go_wp2_with fail
      refine (NA.out _).mono ?_
      rintro e w1 ⟨rfl, rfl⟩
      go_wp2
      refine bodyPost_ret (by simp [results, Tryz.results19, go_sem]; try rfl) rfl ?_
      exact ⟨⟨_, _, _, rfl⟩, (Below.refl _ w).alloc (Nat.le_refl _) _⟩
set_option maxRecDepth 100000 in
set_option maxHeartbeats 4000000 in
theorem ends_3 (s A B : ByteArray) (cm : Nat) (a b : Int) (oa ob : Bool) (w : World) (hs : s.size ≤ 16384) (hcm : cm ≤ s.size)
    (hne : Hid (∀ i (hi : i < s.size), i < cm → ¬ s[i].toNat = 44)) (heq : Hid (∀ h : cm < s.size, s[cm].toNat = 44))
    (NA : Hid (∀ W : World, Calls Tryz.prog 23 #[.string A, .int .i64 1099511627776] W fun e w' => e = .returned (.tuple #[.int .i64 a, .bool oa]) ∧ w' = W))
    (NB : Hid (∀ W : World, Calls Tryz.prog 23 #[.string B, .int .i64 1099511627776] W fun e w' => e = .returned (.tuple #[.int .i64 b, .bool ob]) ∧ w' = W)) (h : 5 ≤ s.size) (h1 : cm + 3 ≤ s.size) (h91 : ∀ h0 : 0 < s.size, s[0].toNat = 91) (h93 : ∀ h0 : 0 < s.size, (s[s.size - 1]'(by omega)).toNat = 93) (eA : s.extract 1 cm = A) (eB : s.extract (cm + 1) (s.size - 1) = B) (h1c : 1 ≤ cm) (ho : oa = true) (hB : B = ⟨#[42]⟩) :
    Calls Tryz.prog 19 #[.string s] w fun e w' => EndsOut e true ∧ Below w.heap.size w w' := by
  subst ho
  subst hB
  have q1 : ¬ (s.size : Int) < 5 := by omega
  have q2 : ¬ (s.size : Int) - 3 < cm := by omega
  have e0 : ((s[0].toNat : Nat) : Int) = 91 := by have := h91 (by omega); omega
  have e1 : (((s[s.size - 1]'(by omega)).toNat : Nat) : Int) = 93 := by have := h93 (by omega); omega
  have q3 : (cm : Int) ≤ s.size := by omega
  have q4 : (1 : Int) ≤ cm := by omega
  have q5 : (cm : Int) + 1 ≤ (s.size : Int) - 1 := by omega
  have q6 : (s.size : Int) - 1 ≤ s.size := by omega
  have q7 : (0 : Int) ≤ (s.size : Int) - 1 := by omega
  go_enter Tryz.func19, Tryz.ntmps19
  go_wp2
  go_loopw [4] (fun v wr => ∃ k : Nat, v = .int .i64 k ∧ k ≤ cm ∧ wr = w.alloc (Obj.cells #[.int .i64 0, .int .i64 0, .bool false] 50)) (fun v _ => cm - (ivR v).toNat)
  case atStart => exact ⟨0, rfl, Nat.zero_le _, rfl⟩
  case round =>
    obtain ⟨k, rfl, hk, rfl⟩ := hrel
    by_cases hlt : k < cm
    · have hks : k < s.size := by omega
      have c1 : (k : Int) < s.size := by omega
      have n44 := hne.out k hks hlt
      have b44 : ((s[k].toNat : Int) != 44) = true := by simp; omega
      have n44' : ¬ ((s[k].toNat : Nat) : Int) = 44 := by omega
      go_wp2
      exact ⟨⟨k + 1, by go_num, by omega, trivial⟩, by simp [ivR]; omega⟩
    · have hke : k = cm := by omega
      subst hke
      have hcs : k < s.size := by omega
      have c1 : (k : Int) < s.size := by omega
      have h44 := heq.out hcs
      have h44' : ((s[k].toNat : Nat) : Int) = 44 := by omega
      have z0 : 0 < s.size := by omega
      have z0' : (0 : Int) < s.size := by omega
      go_wp2_with fail
      refine (NA.out _).mono ?_
      rintro e w1 ⟨rfl, rfl⟩
      go_wp2
      refine bodyPost_ret (by simp [results, Tryz.results19, go_sem]; try rfl) rfl ?_
      exact ⟨⟨_, _, _, rfl⟩, (Below.refl _ w).alloc (Nat.le_refl _) _⟩
set_option maxRecDepth 100000 in
set_option maxHeartbeats 4000000 in
theorem ends_4 (s A B : ByteArray) (cm : Nat) (a b : Int) (oa ob : Bool) (w : World) (hs : s.size ≤ 16384) (hcm : cm ≤ s.size)
    (hne : Hid (∀ i (hi : i < s.size), i < cm → ¬ s[i].toNat = 44)) (heq : Hid (∀ h : cm < s.size, s[cm].toNat = 44))
    (NA : Hid (∀ W : World, Calls Tryz.prog 23 #[.string A, .int .i64 1099511627776] W fun e w' => e = .returned (.tuple #[.int .i64 a, .bool oa]) ∧ w' = W))
    (NB : Hid (∀ W : World, Calls Tryz.prog 23 #[.string B, .int .i64 1099511627776] W fun e w' => e = .returned (.tuple #[.int .i64 b, .bool ob]) ∧ w' = W)) (h : 5 ≤ s.size) (h1 : cm + 3 ≤ s.size) (h91 : ∀ h0 : 0 < s.size, s[0].toNat = 91) (h93 : ∀ h0 : 0 < s.size, (s[s.size - 1]'(by omega)).toNat = 93) (eA : s.extract 1 cm = A) (eB : s.extract (cm + 1) (s.size - 1) = B) (h1c : 1 ≤ cm) (ho : oa = true) (hB : ¬ B = ⟨#[42]⟩) (hp : ob = false) :
    Calls Tryz.prog 19 #[.string s] w fun e w' => EndsOut e false ∧ Below w.heap.size w w' := by
  subst ho
  subst hp
  have hB1 : (B.toList == [42]) = false := beq_eq_false_iff_ne.mpr (fun h => hB (by rw [ByteArray.toList_eq] at h; exact ba_eq h))
  have q1 : ¬ (s.size : Int) < 5 := by omega
  have q2 : ¬ (s.size : Int) - 3 < cm := by omega
  have e0 : ((s[0].toNat : Nat) : Int) = 91 := by have := h91 (by omega); omega
  have e1 : (((s[s.size - 1]'(by omega)).toNat : Nat) : Int) = 93 := by have := h93 (by omega); omega
  have q3 : (cm : Int) ≤ s.size := by omega
  have q4 : (1 : Int) ≤ cm := by omega
  have q5 : (cm : Int) + 1 ≤ (s.size : Int) - 1 := by omega
  have q6 : (s.size : Int) - 1 ≤ s.size := by omega
  have q7 : (0 : Int) ≤ (s.size : Int) - 1 := by omega
  go_enter Tryz.func19, Tryz.ntmps19
  go_wp2
  go_loopw [4] (fun v wr => ∃ k : Nat, v = .int .i64 k ∧ k ≤ cm ∧ wr = w.alloc (Obj.cells #[.int .i64 0, .int .i64 0, .bool false] 50)) (fun v _ => cm - (ivR v).toNat)
  case atStart => exact ⟨0, rfl, Nat.zero_le _, rfl⟩
  case round =>
    obtain ⟨k, rfl, hk, rfl⟩ := hrel
    by_cases hlt : k < cm
    · have hks : k < s.size := by omega
      have c1 : (k : Int) < s.size := by omega
      have n44 := hne.out k hks hlt
      have b44 : ((s[k].toNat : Int) != 44) = true := by simp; omega
      have n44' : ¬ ((s[k].toNat : Nat) : Int) = 44 := by omega
      go_wp2
      exact ⟨⟨k + 1, by go_num, by omega, trivial⟩, by simp [ivR]; omega⟩
    · have hke : k = cm := by omega
      subst hke
      have hcs : k < s.size := by omega
      have c1 : (k : Int) < s.size := by omega
      have h44 := heq.out hcs
      have h44' : ((s[k].toNat : Nat) : Int) = 44 := by omega
      have z0 : 0 < s.size := by omega
      have z0' : (0 : Int) < s.size := by omega
      go_wp2_with fail
      refine (NA.out _).mono ?_
      rintro e w1 ⟨rfl, rfl⟩
      go_wp2_with fail
      refine (NB.out _).mono ?_
      rintro e w1 ⟨rfl, rfl⟩
      go_wp2
      refine bodyPost_ret (by simp [results, Tryz.results19, go_sem]; try rfl) rfl ?_
      exact ⟨⟨_, _, _, rfl⟩, (Below.refl _ w).alloc (Nat.le_refl _) _⟩
set_option maxRecDepth 100000 in
set_option maxHeartbeats 4000000 in
theorem ends_5 (s A B : ByteArray) (cm : Nat) (a b : Int) (oa ob : Bool) (w : World) (hs : s.size ≤ 16384) (hcm : cm ≤ s.size)
    (hne : Hid (∀ i (hi : i < s.size), i < cm → ¬ s[i].toNat = 44)) (heq : Hid (∀ h : cm < s.size, s[cm].toNat = 44))
    (NA : Hid (∀ W : World, Calls Tryz.prog 23 #[.string A, .int .i64 1099511627776] W fun e w' => e = .returned (.tuple #[.int .i64 a, .bool oa]) ∧ w' = W))
    (NB : Hid (∀ W : World, Calls Tryz.prog 23 #[.string B, .int .i64 1099511627776] W fun e w' => e = .returned (.tuple #[.int .i64 b, .bool ob]) ∧ w' = W)) (h : 5 ≤ s.size) (h1 : cm + 3 ≤ s.size) (h91 : ∀ h0 : 0 < s.size, s[0].toNat = 91) (h93 : ∀ h0 : 0 < s.size, (s[s.size - 1]'(by omega)).toNat = 93) (eA : s.extract 1 cm = A) (eB : s.extract (cm + 1) (s.size - 1) = B) (h1c : 1 ≤ cm) (ho : oa = true) (hB : ¬ B = ⟨#[42]⟩) (hp : ob = true) (hab : a ≤ b) :
    Calls Tryz.prog 19 #[.string s] w fun e w' => EndsOut e true ∧ Below w.heap.size w w' := by
  subst ho
  subst hp
  have hab1 : ¬ b < a := by omega
  have hB1 : (B.toList == [42]) = false := beq_eq_false_iff_ne.mpr (fun h => hB (by rw [ByteArray.toList_eq] at h; exact ba_eq h))
  have q1 : ¬ (s.size : Int) < 5 := by omega
  have q2 : ¬ (s.size : Int) - 3 < cm := by omega
  have e0 : ((s[0].toNat : Nat) : Int) = 91 := by have := h91 (by omega); omega
  have e1 : (((s[s.size - 1]'(by omega)).toNat : Nat) : Int) = 93 := by have := h93 (by omega); omega
  have q3 : (cm : Int) ≤ s.size := by omega
  have q4 : (1 : Int) ≤ cm := by omega
  have q5 : (cm : Int) + 1 ≤ (s.size : Int) - 1 := by omega
  have q6 : (s.size : Int) - 1 ≤ s.size := by omega
  have q7 : (0 : Int) ≤ (s.size : Int) - 1 := by omega
  go_enter Tryz.func19, Tryz.ntmps19
  go_wp2
  go_loopw [4] (fun v wr => ∃ k : Nat, v = .int .i64 k ∧ k ≤ cm ∧ wr = w.alloc (Obj.cells #[.int .i64 0, .int .i64 0, .bool false] 50)) (fun v _ => cm - (ivR v).toNat)
  case atStart => exact ⟨0, rfl, Nat.zero_le _, rfl⟩
  case round =>
    obtain ⟨k, rfl, hk, rfl⟩ := hrel
    by_cases hlt : k < cm
    · have hks : k < s.size := by omega
      have c1 : (k : Int) < s.size := by omega
      have n44 := hne.out k hks hlt
      have b44 : ((s[k].toNat : Int) != 44) = true := by simp; omega
      have n44' : ¬ ((s[k].toNat : Nat) : Int) = 44 := by omega
      go_wp2
      exact ⟨⟨k + 1, by go_num, by omega, trivial⟩, by simp [ivR]; omega⟩
    · have hke : k = cm := by omega
      subst hke
      have hcs : k < s.size := by omega
      have c1 : (k : Int) < s.size := by omega
      have h44 := heq.out hcs
      have h44' : ((s[k].toNat : Nat) : Int) = 44 := by omega
      have z0 : 0 < s.size := by omega
      have z0' : (0 : Int) < s.size := by omega
      go_wp2_with fail
      refine (NA.out _).mono ?_
      rintro e w1 ⟨rfl, rfl⟩
      go_wp2_with fail
      refine (NB.out _).mono ?_
      rintro e w1 ⟨rfl, rfl⟩
      go_wp2
      refine bodyPost_ret (by simp [results, Tryz.results19, go_sem]; try rfl) rfl ?_
      exact ⟨⟨_, _, _, rfl⟩, (Below.refl _ w).alloc (Nat.le_refl _) _⟩
set_option maxRecDepth 100000 in
set_option maxHeartbeats 4000000 in
theorem ends_6 (s A B : ByteArray) (cm : Nat) (a b : Int) (oa ob : Bool) (w : World) (hs : s.size ≤ 16384) (hcm : cm ≤ s.size)
    (hne : Hid (∀ i (hi : i < s.size), i < cm → ¬ s[i].toNat = 44)) (heq : Hid (∀ h : cm < s.size, s[cm].toNat = 44))
    (NA : Hid (∀ W : World, Calls Tryz.prog 23 #[.string A, .int .i64 1099511627776] W fun e w' => e = .returned (.tuple #[.int .i64 a, .bool oa]) ∧ w' = W))
    (NB : Hid (∀ W : World, Calls Tryz.prog 23 #[.string B, .int .i64 1099511627776] W fun e w' => e = .returned (.tuple #[.int .i64 b, .bool ob]) ∧ w' = W)) (h : 5 ≤ s.size) (h1 : cm + 3 ≤ s.size) (h91 : ∀ h0 : 0 < s.size, s[0].toNat = 91) (h93 : ∀ h0 : 0 < s.size, (s[s.size - 1]'(by omega)).toNat = 93) (eA : s.extract 1 cm = A) (eB : s.extract (cm + 1) (s.size - 1) = B) (h1c : 1 ≤ cm) (ho : oa = true) (hB : ¬ B = ⟨#[42]⟩) (hp : ob = true) (hab : b < a) :
    Calls Tryz.prog 19 #[.string s] w fun e w' => EndsOut e false ∧ Below w.heap.size w w' := by
  subst ho
  subst hp
  have hB1 : (B.toList == [42]) = false := beq_eq_false_iff_ne.mpr (fun h => hB (by rw [ByteArray.toList_eq] at h; exact ba_eq h))
  have q1 : ¬ (s.size : Int) < 5 := by omega
  have q2 : ¬ (s.size : Int) - 3 < cm := by omega
  have e0 : ((s[0].toNat : Nat) : Int) = 91 := by have := h91 (by omega); omega
  have e1 : (((s[s.size - 1]'(by omega)).toNat : Nat) : Int) = 93 := by have := h93 (by omega); omega
  have q3 : (cm : Int) ≤ s.size := by omega
  have q4 : (1 : Int) ≤ cm := by omega
  have q5 : (cm : Int) + 1 ≤ (s.size : Int) - 1 := by omega
  have q6 : (s.size : Int) - 1 ≤ s.size := by omega
  have q7 : (0 : Int) ≤ (s.size : Int) - 1 := by omega
  go_enter Tryz.func19, Tryz.ntmps19
  go_wp2
  go_loopw [4] (fun v wr => ∃ k : Nat, v = .int .i64 k ∧ k ≤ cm ∧ wr = w.alloc (Obj.cells #[.int .i64 0, .int .i64 0, .bool false] 50)) (fun v _ => cm - (ivR v).toNat)
  case atStart => exact ⟨0, rfl, Nat.zero_le _, rfl⟩
  case round =>
    obtain ⟨k, rfl, hk, rfl⟩ := hrel
    by_cases hlt : k < cm
    · have hks : k < s.size := by omega
      have c1 : (k : Int) < s.size := by omega
      have n44 := hne.out k hks hlt
      have b44 : ((s[k].toNat : Int) != 44) = true := by simp; omega
      have n44' : ¬ ((s[k].toNat : Nat) : Int) = 44 := by omega
      go_wp2
      exact ⟨⟨k + 1, by go_num, by omega, trivial⟩, by simp [ivR]; omega⟩
    · have hke : k = cm := by omega
      subst hke
      have hcs : k < s.size := by omega
      have c1 : (k : Int) < s.size := by omega
      have h44 := heq.out hcs
      have h44' : ((s[k].toNat : Nat) : Int) = 44 := by omega
      have z0 : 0 < s.size := by omega
      have z0' : (0 : Int) < s.size := by omega
      go_wp2_with fail
      refine (NA.out _).mono ?_
      rintro e w1 ⟨rfl, rfl⟩
      go_wp2_with fail
      refine (NB.out _).mono ?_
      rintro e w1 ⟨rfl, rfl⟩
      go_wp2
      refine bodyPost_ret (by simp [results, Tryz.results19, go_sem]; try rfl) rfl ?_
      exact ⟨⟨_, _, _, rfl⟩, (Below.refl _ w).alloc (Nat.le_refl _) _⟩
theorem cutC_notin : ∀ (l : List UInt8), (cutC l).2.2 = false → ∀ c ∈ l, c.toNat ≠ 44
  | [], _, c, hc => by cases hc
  | a :: r, h, c, hc => by
    unfold cutC at h
    by_cases ha : a.toNat = 44
    · rw [if_pos ha] at h; cases h
    · rw [if_neg ha] at h
      rcases List.mem_cons.1 hc with e | e
      · rw [e]; exact ha
      · exact cutC_notin r h c e
theorem cutC_fst : ∀ (l : List UInt8), ∀ c ∈ (cutC l).1, c.toNat ≠ 44
  | [], c, hc => by simp [cutC] at hc
  | a :: r, c, hc => by
    unfold cutC at hc
    by_cases ha : a.toNat = 44
    · rw [if_pos ha] at hc; simp at hc
    · rw [if_neg ha] at hc
      simp only [List.mem_cons] at hc
      rcases hc with e | e
      · rw [e]; exact ha
      · exact cutC_fst r c e
theorem numB_nil : (numB []).2 = false := by
  rw [numB_no [] (fun n h => by simp [refN] at h)]
/-- Ends at an interval's text. -/
theorem rends_any (s : ByteArray) (l : List UInt8) (w : World) (hs : s.size ≤ 16384) (hl : s.data.toList = 91 :: (l ++ [93])) :
    Calls Tryz.prog 19 #[.string s] w fun e w' => EndsOut e (ivB l) ∧ Below w.heap.size w w' := by
  have hlen : s.data.toList.length = s.size := by simp
  have hsz : s.size = l.length + 2 := by rw [← hlen, hl]; simp
  have get : ∀ i (hi : i < s.size), s[i] = (91 :: (l ++ [93]))[i]'(by simp; omega) := by
    intro i hi
    have : s[i] = s.data.toList[i]'(by omega) := rfl
    rw [this]
    simp only [hl]
  have h91 : ∀ h0 : 0 < s.size, s[0].toNat = 91 := fun h0 => by rw [get 0 h0]; rfl
  have h93 : ∀ h0 : 0 < s.size, (s[s.size - 1]'(by omega)).toNat = 93 := fun h0 => by
    rw [get _ (by omega)]
    have e : s.size - 1 = l.length + 1 := by omega
    simp [e]
  have N0 : ∀ (t : ByteArray) (W : World), Calls Tryz.prog 23 #[.string t, .int .i64 1099511627776] W fun e w' => e = .returned (.tuple #[.int .i64 (numR t.data.toList 1099511627776).1, .bool (numR t.data.toList 1099511627776).2]) ∧ w' = W := fun t W => rnumber_any t _ W
  unfold ivB
  cases hc : (cutC l).2.2
  · have hno : ∀ c ∈ l, c.toNat ≠ 44 := cutC_notin l hc
    have hne : ∀ i (hi : i < s.size), i < s.size → ¬ s[i].toNat = 44 := by
      intro i hi _ h
      rw [get i hi] at h
      have hm : (91 :: (l ++ [93]))[i]'(by simp; omega) ∈ (91 :: (l ++ [93])) := List.getElem_mem _
      rcases List.mem_cons.1 hm with hm | hm
      · rw [hm] at h; exact absurd h (by decide)
      · rcases List.mem_append.1 hm with hm | hm
        · exact hno _ hm h
        · rw [List.mem_singleton.1 hm] at h; exact absurd h (by decide)
    simp only [Bool.false_and]
    by_cases h5 : s.size < 5
    · exact ends_0 s s s s.size _ _ _ _ w hs (Nat.le_refl _) hne (fun h => absurd h (Nat.lt_irrefl _)) (N0 s) (N0 s) h5
    · exact ends_1 s s s s.size _ _ _ _ w hs (Nat.le_refl _) hne (fun h => absurd h (Nat.lt_irrefl _)) (N0 s) (N0 s) (by omega) (by omega)
  · obtain ⟨hcut, -⟩ := cutC_yes l hc
    have hfst := cutC_fst l
    generalize (cutC l).1 = A at hcut hfst
    generalize (cutC l).2.1 = B at hcut
    have hszl : s.size = A.length + B.length + 3 := by rw [hsz, hcut]; simp; omega
    have hl2 : s.data.toList = 91 :: (A ++ (44 :: (B ++ [93]))) := by rw [hl, hcut]; simp
    have hne : ∀ i (hi : i < s.size), i < A.length + 1 → ¬ s[i].toNat = 44 := by
      intro i hi h1 h
      have e : s[i] = s.data.toList[i]'(by omega) := rfl
      rw [e] at h
      simp only [hl2] at h
      cases i with
      | zero => exact absurd (show (91 : UInt8).toNat = 44 from h) (by decide)
      | succ i =>
        rw [List.getElem_cons_succ, List.getElem_append_left (by omega)] at h
        exact hfst _ (List.getElem_mem _) h
    have heq : ∀ h : A.length + 1 < s.size, s[A.length + 1].toNat = 44 := by
      intro h
      have e : s[A.length + 1] = s.data.toList[A.length + 1]'(by omega) := rfl
      rw [e]
      simp only [hl2]
      rw [List.getElem_cons_succ, List.getElem_append_right (Nat.le_refl _)]
      simp
    have eA : s.extract 1 (A.length + 1) = ⟨A.toArray⟩ := ba_eq (by rw [ext_mid, hl2]; simp)
    have eB : s.extract (A.length + 1 + 1) (s.size - 1) = ⟨B.toArray⟩ := ba_eq (by
      rw [ext_mid, hl2, show s.size - 1 - (A.length + 1 + 1) = B.length by omega]
      simp)
    have NA := N0 ⟨A.toArray⟩
    have NB := N0 ⟨B.toArray⟩
    simp only [Bool.true_and]
    by_cases h5 : s.size < 5
    · have hf : ((numB A).2 && (decide (B = [42]) || ((numB B).2 && decide ((numB A).1.n ≤ (numB B).1.n)))) = false := by
        cases A with
        | nil => rw [numB_nil]; rfl
        | cons a A =>
          have hB : B = [] := List.length_eq_zero_iff.mp (by simp at hszl; omega)
          subst hB
          rw [numB_nil]
          simp
      rw [hf]
      exact ends_0 s _ _ (A.length + 1) _ _ _ _ w hs (by omega) hne heq NA NB h5
    · by_cases h3 : s.size < A.length + 1 + 3
      · have hB : B = [] := List.length_eq_zero_iff.mp (by omega)
        have hf : ((numB A).2 && (decide (B = [42]) || ((numB B).2 && decide ((numB A).1.n ≤ (numB B).1.n)))) = false := by
          subst hB
          rw [numB_nil]
          simp
        rw [hf]
        exact ends_1 s _ _ (A.length + 1) _ _ _ _ w hs (by omega) hne heq NA NB (by omega) h3
      · obtain ⟨a1, a2⟩ := numR_B A
        obtain ⟨b1, b2⟩ := numR_B B
        cases ha : (numB A).2
        · exact ends_2 s _ _ (A.length + 1) _ _ _ _ w hs (by omega) hne heq NA NB (by omega) (by omega) h91 h93 eA eB (by omega) (a1.trans ha)
        · have ha2 := a2 ha
          by_cases hB : B = [42]
          · rw [decide_eq_true hB]
            subst hB
            exact ends_3 s _ _ (A.length + 1) _ _ _ _ w hs (by omega) hne heq NA NB (by omega) (by omega) h91 h93 eA eB (by omega) (a1.trans ha) rfl
          · have hB' : ¬ (⟨B.toArray⟩ : ByteArray) = ⟨#[42]⟩ := by
              intro h
              apply hB
              have := congrArg (fun x : ByteArray => x.data.toList) h
              simpa using this
            rw [decide_eq_false hB]
            cases hb : (numB B).2
            · exact ends_4 s _ _ (A.length + 1) _ _ _ _ w hs (by omega) hne heq NA NB (by omega) (by omega) h91 h93 eA eB (by omega) (a1.trans ha) hB' (b1.trans hb)
            · have hb2 := b2 hb
              have ea : (numB A).1.n = (numR A 1099511627776).1 := by rw [ha2]
              have eb : (numB B).1.n = (numR B 1099511627776).1 := by rw [hb2]
              rw [ea, eb]
              by_cases hab : (numR A 1099511627776).1 ≤ (numR B 1099511627776).1
              · rw [decide_eq_true hab]
                exact ends_5 s _ _ (A.length + 1) _ _ _ _ w hs (by omega) hne heq NA NB (by omega) (by omega) h91 h93 eA eB (by omega) (a1.trans ha) hB' (b1.trans hb) hab
              · rw [decide_eq_false hab]
                exact ends_6 s _ _ (A.length + 1) _ _ _ _ w hs (by omega) hne heq NA NB (by omega) (by omega) h91 h93 eA eB (by omega) (a1.trans ha) hB' (b1.trans hb) (show (numR B 1099511627776).1 < (numR A 1099511627776).1 by omega)
end Go.Proofs.YtmegombglkcccaaGreatDoor

namespace Go.Proofs.YtmegombglkcccaaGreatDoor
open Go.RowKit Go.Shelf LX
set_option linter.unusedVariables false

theorem sclone_any (s : ByteArray) (w : World) (hs : s.size ≤ 281474976710656) :
    Calls Tryz.prog 12 #[.string s] w fun e w' => e = .returned (.string s) ∧ Below w.heap.size w w' := by
  go_enter Tryz.func12, Tryz.ntmps12
  go_wp2_with fail
  refine (Tryz.stringslite_Clone s _ hs).mono ?_
  rintro e w1 ⟨rfl, hb⟩
  go_wp2
  go_ret
  exact ⟨rfl, hb⟩
/-- A block that holds a token. -/
structure BlkT (W : World) (B : Nat) (K at_ : Int) (x : ByteArray) (k n d : Int) (s : ByteArray) : Prop where
  c0 : W.cell? ⟨B, 0, none⟩ = some (.int .i64 K)
  c1 : W.cell? ⟨B, 1, none⟩ = some (.int .i64 at_)
  c2 : W.cell? ⟨B, 2, none⟩ = some (.string x)
  c3 : W.cell? ⟨B, 3, none⟩ = some (.int .i64 k)
  c4 : W.cell? ⟨B, 4, none⟩ = some (.int .i64 n)
  c5 : W.cell? ⟨B, 5, none⟩ = some (.int .i64 d)
  c6 : W.cell? ⟨B, 6, none⟩ = some (.string s)
  f0 : W.frozen? ⟨B, 0, none⟩ = false
  f1 : W.frozen? ⟨B, 1, none⟩ = false
  f2 : W.frozen? ⟨B, 2, none⟩ = false
  f3 : W.frozen? ⟨B, 3, none⟩ = false
  f4 : W.frozen? ⟨B, 4, none⟩ = false
  f5 : W.frozen? ⟨B, 5, none⟩ = false
  f6 : W.frozen? ⟨B, 6, none⟩ = false
theorem BlkT.below {W W' : World} {B m : Nat} {K at_ k n d : Int} {x s : ByteArray} (h : BlkT W B K at_ x k n d s) (hb : Below m W W') (hB : B < m) : BlkT W' B K at_ x k n d s :=
  ⟨(hb.cell (p := ⟨B, 0, none⟩) hB).trans h.c0, (hb.cell (p := ⟨B, 1, none⟩) hB).trans h.c1, (hb.cell (p := ⟨B, 2, none⟩) hB).trans h.c2, (hb.cell (p := ⟨B, 3, none⟩) hB).trans h.c3, (hb.cell (p := ⟨B, 4, none⟩) hB).trans h.c4, (hb.cell (p := ⟨B, 5, none⟩) hB).trans h.c5, (hb.cell (p := ⟨B, 6, none⟩) hB).trans h.c6,
   (hb.frozen (p := ⟨B, 0, none⟩) hB).trans h.f0, (hb.frozen (p := ⟨B, 1, none⟩) hB).trans h.f1, (hb.frozen (p := ⟨B, 2, none⟩) hB).trans h.f2, (hb.frozen (p := ⟨B, 3, none⟩) hB).trans h.f3, (hb.frozen (p := ⟨B, 4, none⟩) hB).trans h.f4, (hb.frozen (p := ⟨B, 5, none⟩) hB).trans h.f5, (hb.frozen (p := ⟨B, 6, none⟩) hB).trans h.f6⟩
theorem BlkT.seven {W : World} {B : Nat} {K at_ k n d K' at' k' n' d' : Int} {x s x' s' : ByteArray} (h : BlkT W B K at_ x k n d s) : BlkT (((((((W.setCell ⟨B, 0, none⟩ (.int .i64 K')).setCell ⟨B, 1, none⟩ (.int .i64 at')).setCell ⟨B, 2, none⟩ (.string x')).setCell ⟨B, 3, none⟩ (.int .i64 k')).setCell ⟨B, 4, none⟩ (.int .i64 n')).setCell ⟨B, 5, none⟩ (.int .i64 d')).setCell ⟨B, 6, none⟩ (.string s')) B K' at' x' k' n' d' s' := by
  obtain ⟨c0, c1, c2, c3, c4, c5, c6, f0, f1, f2, f3, f4, f5, f6⟩ := h
  constructor <;> simp (maxDischargeDepth := 16) [go_sem, c0, c1, c2, c3, c4, c5, c6, f0, f1, f2, f3, f4, f5, f6]
theorem below7 {B0 B : Nat} {w W : World} (h : Below B0 w W) (hB : B0 ≤ B) (v0 v1 v2 v3 v4 v5 v6 : Value) : Below B0 w (((((((W.setCell ⟨B, 0, none⟩ v0).setCell ⟨B, 1, none⟩ v1).setCell ⟨B, 2, none⟩ v2).setCell ⟨B, 3, none⟩ v3).setCell ⟨B, 4, none⟩ v4).setCell ⟨B, 5, none⟩ v5).setCell ⟨B, 6, none⟩ v6) :=
  ((((((h.setCell hB _).setCell hB _).setCell hB _).setCell hB _).setCell hB _).setCell hB _).setCell hB _
/-- A token as a value of the language. -/
def aggT (K at_ : Int) (x : ByteArray) (k n d : Int) (s : ByteArray) : Value := .agg #[.int .i64 K, .int .i64 at_, .string x, .int .i64 k, .int .i64 n, .int .i64 d, .string s]
set_option maxRecDepth 100000 in
set_option maxHeartbeats 4000000 in
theorem token_no (s : ByteArray) (i : Nat) (E : Int) (w : World)
    (BH : Hid (∀ W : World, Calls Tryz.prog 11 #[.string s, .int .i64 i] W fun e w' => e = .returned (.tuple #[.int .i64 0, .int .i64 E]) ∧ w' = W)) :
    Calls Tryz.prog 8 #[.string s, .int .i64 i] w fun e w' => e = .returned (.tuple #[.agg #[.int .i64 0, .int .i64 0, .string ⟨#[]⟩, .int .i64 0, .int .i64 0, .int .i64 0, .string ⟨#[]⟩], .bool false]) ∧ Below w.heap.size w w' := by
  go_enter Tryz.func8, Tryz.ntmps8
  go_wp2_with fail
  refine (BH.out _).mono ?_
  rintro e w1 ⟨rfl, rfl⟩
  go_wp2
  refine bodyPost_ret (by simp [results, Tryz.results8, go_sem]; try rfl) rfl ?_
  exact ⟨rfl, (Below.refl _ w).alloc (Nat.le_refl _) _⟩
set_option maxRecDepth 100000 in
set_option maxHeartbeats 4000000 in
theorem token_yes (s x S : ByteArray) (i m : Nat) (K k n d : Int) (ok : Bool) (w : World) (hK : ¬ K = 0) (him : i ≤ m) (hm : m ≤ s.size) (hs : s.size ≤ 16384) (hx : s.extract i m = x)
    (BH : Hid (∀ W : World, Calls Tryz.prog 11 #[.string s, .int .i64 i] W fun e w' => e = .returned (.tuple #[.int .i64 K, .int .i64 m]) ∧ w' = W))
    (CL : Hid (∀ W : World, Calls Tryz.prog 12 #[.string x] W fun e w' => e = .returned (.string x) ∧ Below W.heap.size W w'))
    (SA : Hid (∀ W : World, Pow W → Errs W → 6 ≤ W.heap.size → Calls Tryz.prog 13 #[.int .i64 K, .string x] W fun e w' => e = .returned (.tuple #[.agg #[.int .i64 k, .int .i64 n, .int .i64 d, .string S], .bool ok]) ∧ Below W.heap.size W w'))
    (ht : Pow w) (he : Errs w) (h8 : 6 ≤ w.heap.size) :
    Calls Tryz.prog 8 #[.string s, .int .i64 i] w fun e w' => e = .returned (.tuple #[.agg #[.int .i64 K, .int .i64 i, .string x, .int .i64 k, .int .i64 n, .int .i64 d, .string S], .bool ok]) ∧ Below w.heap.size w w' := by
  have HE : Hid (Errs w) := he
  have HP : Hid (Pow w) := ht
  clear he ht
  have him' : (i : Int) ≤ m := by omega
  have hm' : (m : Int) ≤ s.size := by omega
  go_enter Tryz.func8, Tryz.ntmps8
  go_wp2_with fail
  refine (BH.out _).mono ?_
  rintro e w1 ⟨rfl, rfl⟩
  go_wp2_with fail
  refine (CL.out _).mono ?_
  rintro e w1 ⟨rfl, hb1⟩
  have R1 : Hid (BlkT w1 w.heap.size 0 0 ⟨#[]⟩ 0 0 0 ⟨#[]⟩) := BlkT.below (by constructor <;> simp (maxDischargeDepth := 16) [go_sem]) hb1 (by simp)
  have B1 : Below w.heap.size w w1 := ((Below.refl _ w).alloc (Nat.le_refl _) _).trans (hb1.mono (by simp))
  have z1 : w.heap.size < w1.heap.size := by have := hb1.size; simp at this; omega
  clear hb1
  go_wp2_with fail
  refine (SA.out _ (HP.out.below B1) (HE.out.below B1 h8) (by omega)).mono ?_
  rintro e w2 ⟨rfl, hb2⟩
  have R2 : Hid (BlkT w2 w.heap.size 0 0 ⟨#[]⟩ 0 0 0 ⟨#[]⟩) := R1.out.below hb2 z1
  have B2 : Below w.heap.size w w2 := B1.trans (hb2.mono B1.size)
  have z2 : w.heap.size < w2.heap.size := by have := hb2.size; omega
  clear R1 B1 hb2
  go_upto_region 6 with fail
  refine wp_world ?_
  intro W3 hW3
  have R3 : Hid (BlkT W3 w.heap.size 0 0 ⟨#[]⟩ 0 0 0 ⟨#[]⟩) := by rw [hW3]; exact R2.out.below ((Below.refl w2.heap.size w2).alloc (Nat.le_refl _) _) z2
  have V3 : Hid (BlkV W3 w2.heap.size k n d S) := by rw [hW3]; constructor <;> simp (maxDischargeDepth := 12) [go_sem]
  have B3 : Below w.heap.size w W3 := by rw [hW3]; exact B2.alloc B2.size _
  clear hW3 R2 B2
  obtain ⟨r0, r1, r2, r3, r4, r5, r6, q0, q1, q2, q3, q4, q5, q6⟩ := R3.out
  obtain ⟨v0, v1, v2, v3, -, -, -, -⟩ := V3.out
  go_wp2
  generalize hW9 : World.setCell _ _ _ = W9
  have b9 : BlkT W9 w.heap.size K i x k n d S := by rw [← hW9]; exact R3.out.seven
  have hB9 : Below w.heap.size w W9 := by rw [← hW9]; exact below7 B3 (Nat.le_refl _) _ _ _ _ _ _ _
  clear hW9
  obtain ⟨x0, x1, x2, x3, x4, x5, x6, -, -, -, -, -, -, -⟩ := b9
  refine bodyPost_ret (by simp [results, Tryz.results8, go_sem, x0, x1, x2, x3, x4, x5, x6]; try rfl) rfl ?_
  exact ⟨rfl, hB9⟩
theorem beh_5 (l : List UInt8) (h : (beh l).1 = 5) : 2 ≤ (beh l).2 := by
  cases l with
  | nil => simp [beh] at h
  | cons c t =>
    revert h
    rw [beh_cons]
    split
    · simp
    split
    · simp
    split
    · simp
    split
    · simp
    split
    · simp
    split
    · simp
    split
    · cases hb : brk t with
      | none => simp
      | some k => intro _; have := brk_le t k hb; simp; omega
    split
    · cases hb : qend false t with
      | none => simp
      | some k => simp
    split
    · simp
    · simp
/-- token at every place of a text: the value, and whether there is a token. -/
theorem token_any (s : ByteArray) (i : Nat) (w : World) (hs : s.size ≤ 16384) (hi : i < s.size) (ht : Pow w) (he : Errs w) (h8 : 6 ≤ w.heap.size) :
    Calls Tryz.prog 8 #[.string s, .int .i64 i] w fun e w' => ∃ (K at_ k n d : Int) (x S : ByteArray) (ok : Bool), e = .returned (.tuple #[.agg #[.int .i64 K, .int .i64 at_, .string x, .int .i64 k, .int .i64 n, .int .i64 d, .string S], .bool ok]) ∧ Below w.heap.size w w' ∧
      Hid ((ok = true ↔ fine sdB (s.data.toList.drop i)) ∧ (ok = true → tokAt sdB (s.data.toList.drop i) i = ⟨K.toNat, at_.toNat, x.data.toList, ⟨k, n, d, S⟩⟩ ∧ K = K.toNat ∧ at_ = i ∧ 1 ≤ x.size ∧ i + x.size ≤ s.size)) := by
  have BH := fun (W : World) => behind_any s i W hs hi
  have hl : s.data.toList.length = s.size := by simp
  obtain ⟨b, hb⟩ : ∃ b, beh (s.data.toList.drop i) = b := ⟨_, rfl⟩
  obtain ⟨K, n⟩ := b
  rw [hb] at BH
  by_cases hK : K = 0
  · subst hK
    refine (token_no s i _ w BH).mono ?_
    rintro e w' ⟨rfl, hB⟩
    refine ⟨_, _, _, _, _, _, _, _, rfl, hB, ?_, ?_⟩
    · constructor
      · intro h; cases h
      · intro h; exact absurd (by rw [hb]) h.1
    · intro h; cases h
  · have hle := beh_le (s.data.toList.drop i) (by rw [hb]; exact hK)
    rw [hb] at hle
    simp only [List.length_drop, hl] at hle
    dsimp only at BH
    rw [if_neg hK] at BH
    have hx : s.extract i (i + n) = ⟨((s.data.toList.drop i).take n).toArray⟩ := ba_eq (by rw [ext_mid, Nat.add_sub_cancel_left])
    have hxl : (⟨((s.data.toList.drop i).take n).toArray⟩ : ByteArray).size = n := by
      show ((s.data.toList.drop i).take n).toArray.size = n
      simp
      omega
    have two : K = 5 → 2 ≤ n := by
      intro h5
      have := beh_5 (s.data.toList.drop i) (by rw [hb]; exact h5)
      rw [hb] at this
      exact this
    refine (token_yes s _ (sdB K ((s.data.toList.drop i).take n)).1.s i (i + n) K (sdB K ((s.data.toList.drop i).take n)).1.k (sdB K ((s.data.toList.drop i).take n)).1.n (sdB K ((s.data.toList.drop i).take n)).1.d (sdB K ((s.data.toList.drop i).take n)).2 w (by omega) (by omega) (by omega) hs hx BH (fun W => sclone_any _ W (by rw [hxl]; omega)) (fun W q1 q2 q3 => by
      have q := said_any K ⟨((s.data.toList.drop i).take n).toArray⟩ W (by rw [hxl]; omega) q1 q2 q3 (by rw [hxl]; exact two) (by rw [hxl]; intro _; omega)
      exact q) ht he h8).mono ?_
    rintro e w' ⟨rfl, hB⟩
    refine ⟨_, _, _, _, _, _, _, _, rfl, hB, ?_, ?_⟩
    · unfold fine
      rw [hb]
      exact ⟨fun h => ⟨hK, h⟩, fun h => h.2⟩
    · intro _
      refine ⟨?_, rfl, rfl, by rw [hxl]; omega, by rw [hxl]; omega⟩
      unfold tokAt
      rw [hb]
      rfl
end Go.Proofs.YtmegombglkcccaaGreatDoor

namespace Go.Proofs.YtmegombglkcccaaGreatDoor
open Go.RowKit Go.Shelf LX
set_option linter.unusedVariables false

set_option maxRecDepth 100000 in
set_option maxHeartbeats 4000000 in
theorem rvalued (x S : ByteArray) (i k n d E : Int) (w : World)
    (PA : Hid (∀ W : World, Calls Tryz.prog 34 #[.string x] W fun e w' => e = .returned (.tuple #[.agg #[.int .i64 k, .int .i64 n, .int .i64 d, .string S], .int .i64 E]) ∧ Below W.heap.size W w')) :
    Calls Tryz.prog 21 #[.string x, .int .i64 i] w fun e w' => e = .returned (.tuple #[.agg #[.int .i64 6, .int .i64 i, .string x, .int .i64 k, .int .i64 n, .int .i64 d, .string S], .bool (decide (E = 0))]) ∧ Below w.heap.size w w' := by
  go_enter Tryz.func21, Tryz.ntmps21
  go_wp2_with fail
  refine (PA.out _).mono ?_
  rintro e w1 ⟨rfl, hb1⟩
  have R1 : Hid (BlkT w1 w.heap.size 0 0 ⟨#[]⟩ 0 0 0 ⟨#[]⟩) := BlkT.below (by constructor <;> simp (maxDischargeDepth := 16) [go_sem]) hb1 (by simp)
  have B1 : Below w.heap.size w w1 := ((Below.refl _ w).alloc (Nat.le_refl _) _).trans (hb1.mono (by simp))
  have z1 : w.heap.size < w1.heap.size := by have := hb1.size; simp at this; omega
  clear hb1
  go_upto_region 2 with fail
  refine wp_world ?_
  intro W2 hW2
  have R2 : Hid (BlkT W2 w.heap.size 0 0 ⟨#[]⟩ 0 0 0 ⟨#[]⟩) := by rw [hW2]; exact R1.out.below ((Below.refl w1.heap.size w1).alloc (Nat.le_refl _) _) z1
  have V2 : Hid (BlkV W2 w1.heap.size k n d S) := by rw [hW2]; constructor <;> simp (maxDischargeDepth := 12) [go_sem]
  have B2 : Below w.heap.size w W2 := by rw [hW2]; exact B1.alloc B1.size _
  clear hW2 R1 B1 z1
  obtain ⟨r0, r1, r2, r3, r4, r5, r6, q0, q1, q2, q3, q4, q5, q6⟩ := R2.out
  obtain ⟨v0, v1, v2, v3, -, -, -, -⟩ := V2.out
  go_wp2
  generalize hW9 : World.setCell _ _ _ = W9
  have b9 : BlkT W9 w.heap.size 6 i x k n d S := by rw [← hW9]; exact R2.out.seven
  have hB9 : Below w.heap.size w W9 := by rw [← hW9]; exact below7 B2 (Nat.le_refl _) _ _ _ _ _ _ _
  clear hW9
  obtain ⟨x0, x1, x2, x3, x4, x5, x6, -, -, -, -, -, -, -⟩ := b9
  refine bodyPost_ret (by simp [results, Tryz.results21, go_sem, x0, x1, x2, x3, x4, x5, x6]; try rfl) rfl ?_
  exact ⟨rfl, hB9⟩
set_option maxRecDepth 100000 in
set_option maxHeartbeats 4000000 in
theorem rnum_a (s x S : ByteArray) (i D E2 : Nat) (k n d : Int) (ok : Bool) (w : World) (hs : s.size ≤ 16384) (hi : i < s.size) (hD : i + 1 ≤ D) (hDs : D ≤ s.size)
    (DI : Hid (∀ W : World, Calls Tryz.prog 22 #[.string s, .int .i64 ((i + 1 : Nat) : Int)] W fun e w' => e = .returned (.int .i64 D) ∧ w' = W))
    (VA : Hid (∀ W : World, Calls Tryz.prog 21 #[.string x, .int .i64 i] W fun e w' => e = .returned (.tuple #[.agg #[.int .i64 6, .int .i64 i, .string x, .int .i64 k, .int .i64 n, .int .i64 d, .string S], .bool ok]) ∧ Below W.heap.size W w')) (hx : s.extract i D = x) (h : s.size ≤ D + 1) :
    Calls Tryz.prog 17 #[.string s, .int .i64 i] w fun e w' => e = .returned (.tuple #[.agg #[.int .i64 6, .int .i64 i, .string x, .int .i64 k, .int .i64 n, .int .i64 d, .string S], .bool ok]) ∧ Below w.heap.size w w' := by
  have g1 : (i : Int) ≤ D := by omega
  have g2 : (D : Int) ≤ s.size := by omega
  have c1 : ¬ (D : Int) + 1 < s.size := by omega
  go_enter Tryz.func17, Tryz.ntmps17
  go_wp2_with fail
  refine (DI.out _).mono ?_
  rintro e w1 ⟨rfl, rfl⟩
  go_wp2_with fail
  refine (VA.out _).mono ?_
  rintro e w1 ⟨rfl, hb1⟩
  have R1 : Hid (BlkT w1 w.heap.size 0 0 ⟨#[]⟩ 0 0 0 ⟨#[]⟩) := BlkT.below (by constructor <;> simp (maxDischargeDepth := 16) [go_sem]) hb1 (by simp)
  have B1 : Below w.heap.size w w1 := ((Below.refl _ w).alloc (Nat.le_refl _) _).trans (hb1.mono (by simp))
  clear hb1
  obtain ⟨r0, r1, r2, r3, r4, r5, r6, q0, q1, q2, q3, q4, q5, q6⟩ := R1.out
  go_wp2
  generalize hW9 : World.setCell _ _ _ = W9
  have b9 : BlkT W9 w.heap.size 6 i x k n d S := by rw [← hW9]; exact R1.out.seven
  have hB9 : Below w.heap.size w W9 := by rw [← hW9]; exact below7 B1 (Nat.le_refl _) _ _ _ _ _ _ _
  clear hW9
  obtain ⟨x0, x1, x2, x3, x4, x5, x6, -, -, -, -, -, -, -⟩ := b9
  refine bodyPost_ret (by simp [results, Tryz.results17, go_sem, x0, x1, x2, x3, x4, x5, x6]; try rfl) rfl ?_
  exact ⟨rfl, hB9⟩
set_option maxRecDepth 100000 in
set_option maxHeartbeats 4000000 in
theorem rnum_b (s x S : ByteArray) (i D E2 : Nat) (k n d : Int) (ok : Bool) (w : World) (hs : s.size ≤ 16384) (hi : i < s.size) (hD : i + 1 ≤ D) (hDs : D ≤ s.size)
    (DI : Hid (∀ W : World, Calls Tryz.prog 22 #[.string s, .int .i64 ((i + 1 : Nat) : Int)] W fun e w' => e = .returned (.int .i64 D) ∧ w' = W))
    (VA : Hid (∀ W : World, Calls Tryz.prog 21 #[.string x, .int .i64 i] W fun e w' => e = .returned (.tuple #[.agg #[.int .i64 6, .int .i64 i, .string x, .int .i64 k, .int .i64 n, .int .i64 d, .string S], .bool ok]) ∧ Below W.heap.size W w')) (hx : s.extract i D = x) (h : D + 1 < s.size) (h47 : ¬ s[D].toNat = 47) :
    Calls Tryz.prog 17 #[.string s, .int .i64 i] w fun e w' => e = .returned (.tuple #[.agg #[.int .i64 6, .int .i64 i, .string x, .int .i64 k, .int .i64 n, .int .i64 d, .string S], .bool ok]) ∧ Below w.heap.size w w' := by
  have g1 : (i : Int) ≤ D := by omega
  have g2 : (D : Int) ≤ s.size := by omega
  have c1 : (D : Int) + 1 < s.size := by omega
  have c0 : D < s.size := by omega
  have c0' : (D : Int) < s.size := by omega
  have c2 : ((s[D].toNat : Int) == 47) = false := beq_eq_false_iff_ne.mpr (by omega)
  have c3 : ¬ ((s[D].toNat : Nat) : Int) = 47 := by omega
  go_enter Tryz.func17, Tryz.ntmps17
  go_wp2_with fail
  refine (DI.out _).mono ?_
  rintro e w1 ⟨rfl, rfl⟩
  go_wp2_with fail
  refine (VA.out _).mono ?_
  rintro e w1 ⟨rfl, hb1⟩
  have R1 : Hid (BlkT w1 w.heap.size 0 0 ⟨#[]⟩ 0 0 0 ⟨#[]⟩) := BlkT.below (by constructor <;> simp (maxDischargeDepth := 16) [go_sem]) hb1 (by simp)
  have B1 : Below w.heap.size w w1 := ((Below.refl _ w).alloc (Nat.le_refl _) _).trans (hb1.mono (by simp))
  clear hb1
  obtain ⟨r0, r1, r2, r3, r4, r5, r6, q0, q1, q2, q3, q4, q5, q6⟩ := R1.out
  go_wp2
  generalize hW9 : World.setCell _ _ _ = W9
  have b9 : BlkT W9 w.heap.size 6 i x k n d S := by rw [← hW9]; exact R1.out.seven
  have hB9 : Below w.heap.size w W9 := by rw [← hW9]; exact below7 B1 (Nat.le_refl _) _ _ _ _ _ _ _
  clear hW9
  obtain ⟨x0, x1, x2, x3, x4, x5, x6, -, -, -, -, -, -, -⟩ := b9
  refine bodyPost_ret (by simp [results, Tryz.results17, go_sem, x0, x1, x2, x3, x4, x5, x6]; try rfl) rfl ?_
  exact ⟨rfl, hB9⟩
set_option maxRecDepth 100000 in
set_option maxHeartbeats 4000000 in
theorem rnum_c (s x S : ByteArray) (i D E2 : Nat) (k n d : Int) (ok : Bool) (w : World) (hs : s.size ≤ 16384) (hi : i < s.size) (hD : i + 1 ≤ D) (hDs : D ≤ s.size)
    (DI : Hid (∀ W : World, Calls Tryz.prog 22 #[.string s, .int .i64 ((i + 1 : Nat) : Int)] W fun e w' => e = .returned (.int .i64 D) ∧ w' = W))
    (VA : Hid (∀ W : World, Calls Tryz.prog 21 #[.string x, .int .i64 i] W fun e w' => e = .returned (.tuple #[.agg #[.int .i64 6, .int .i64 i, .string x, .int .i64 k, .int .i64 n, .int .i64 d, .string S], .bool ok]) ∧ Below W.heap.size W w')) (hx : s.extract i D = x) (h : D + 1 < s.size) (h47 : s[D].toNat = 47) (hP : digN s[D + 1].toNat = false) :
    Calls Tryz.prog 17 #[.string s, .int .i64 i] w fun e w' => e = .returned (.tuple #[.agg #[.int .i64 6, .int .i64 i, .string x, .int .i64 k, .int .i64 n, .int .i64 d, .string S], .bool ok]) ∧ Below w.heap.size w w' := by
  have g1 : (i : Int) ≤ D := by omega
  have g2 : (D : Int) ≤ s.size := by omega
  have c1 : (D : Int) + 1 < s.size := by omega
  have c0 : D < s.size := by omega
  have c0' : (D : Int) < s.size := by omega
  have c3 : ((s[D].toNat : Nat) : Int) = 47 := by omega
  have DP : Hid (∀ (v : Int) (W : World), v = (s[D + 1].toNat : Int) → Calls Tryz.prog 16 #[.int .u8 v] W fun x w' => x = .returned (.bool false) ∧ w' = W) := fun v W h => by
    rw [h]; have q := rdigit_any s[D + 1].toNat W s[D + 1].toNat_lt; rw [hP] at q; exact q
  go_enter Tryz.func17, Tryz.ntmps17
  go_wp2_with fail
  refine (DI.out _).mono ?_
  rintro e w1 ⟨rfl, rfl⟩
  go_wp2_with fail
  refine (DP.out _ _ (by omega)).mono ?_
  rintro e w1 ⟨rfl, rfl⟩
  go_wp2_with fail
  refine (VA.out _).mono ?_
  rintro e w1 ⟨rfl, hb1⟩
  have R1 : Hid (BlkT w1 w.heap.size 0 0 ⟨#[]⟩ 0 0 0 ⟨#[]⟩) := BlkT.below (by constructor <;> simp (maxDischargeDepth := 16) [go_sem]) hb1 (by simp)
  have B1 : Below w.heap.size w w1 := ((Below.refl _ w).alloc (Nat.le_refl _) _).trans (hb1.mono (by simp))
  clear hb1
  obtain ⟨r0, r1, r2, r3, r4, r5, r6, q0, q1, q2, q3, q4, q5, q6⟩ := R1.out
  go_wp2
  generalize hW9 : World.setCell _ _ _ = W9
  have b9 : BlkT W9 w.heap.size 6 i x k n d S := by rw [← hW9]; exact R1.out.seven
  have hB9 : Below w.heap.size w W9 := by rw [← hW9]; exact below7 B1 (Nat.le_refl _) _ _ _ _ _ _ _
  clear hW9
  obtain ⟨x0, x1, x2, x3, x4, x5, x6, -, -, -, -, -, -, -⟩ := b9
  refine bodyPost_ret (by simp [results, Tryz.results17, go_sem, x0, x1, x2, x3, x4, x5, x6]; try rfl) rfl ?_
  exact ⟨rfl, hB9⟩
set_option maxRecDepth 100000 in
set_option maxHeartbeats 4000000 in
theorem rnum_d (s x S : ByteArray) (i D E2 : Nat) (k n d : Int) (ok : Bool) (w : World) (hs : s.size ≤ 16384) (hi : i < s.size) (hD : i + 1 ≤ D) (hDs : D ≤ s.size)
    (DI : Hid (∀ W : World, Calls Tryz.prog 22 #[.string s, .int .i64 ((i + 1 : Nat) : Int)] W fun e w' => e = .returned (.int .i64 D) ∧ w' = W))
    (VA : Hid (∀ W : World, Calls Tryz.prog 21 #[.string x, .int .i64 i] W fun e w' => e = .returned (.tuple #[.agg #[.int .i64 6, .int .i64 i, .string x, .int .i64 k, .int .i64 n, .int .i64 d, .string S], .bool ok]) ∧ Below W.heap.size W w')) (h : D + 1 < s.size) (h47 : s[D].toNat = 47) (hP : digN s[D + 1].toNat = true) (hE : D ≤ E2) (hEs : E2 ≤ s.size) (hx : s.extract i E2 = x)
    (DJ : Hid (∀ W : World, Calls Tryz.prog 22 #[.string s, .int .i64 ((D + 1 : Nat) : Int)] W fun e w' => e = .returned (.int .i64 E2) ∧ w' = W)) :
    Calls Tryz.prog 17 #[.string s, .int .i64 i] w fun e w' => e = .returned (.tuple #[.agg #[.int .i64 6, .int .i64 i, .string x, .int .i64 k, .int .i64 n, .int .i64 d, .string S], .bool ok]) ∧ Below w.heap.size w w' := by
  have g1 : (i : Int) ≤ D := by omega
  have g2 : (D : Int) ≤ s.size := by omega
  have c1 : (D : Int) + 1 < s.size := by omega
  have c0 : D < s.size := by omega
  have c0' : (D : Int) < s.size := by omega
  have c3 : ((s[D].toNat : Nat) : Int) = 47 := by omega
  have g3 : (i : Int) ≤ E2 := by omega
  have g4 : (E2 : Int) ≤ s.size := by omega
  have DP : Hid (∀ (v : Int) (W : World), v = (s[D + 1].toNat : Int) → Calls Tryz.prog 16 #[.int .u8 v] W fun x w' => x = .returned (.bool true) ∧ w' = W) := fun v W h => by
    rw [h]; have q := rdigit_any s[D + 1].toNat W s[D + 1].toNat_lt; rw [hP] at q; exact q
  go_enter Tryz.func17, Tryz.ntmps17
  go_wp2_with fail
  refine (DI.out _).mono ?_
  rintro e w1 ⟨rfl, rfl⟩
  go_wp2_with fail
  refine (DP.out _ _ (by omega)).mono ?_
  rintro e w1 ⟨rfl, rfl⟩
  go_wp2_with fail
  refine (DJ.out _).mono ?_
  rintro e w1 ⟨rfl, rfl⟩
  go_wp2_with fail
  refine (VA.out _).mono ?_
  rintro e w1 ⟨rfl, hb1⟩
  have R1 : Hid (BlkT w1 w.heap.size 0 0 ⟨#[]⟩ 0 0 0 ⟨#[]⟩) := BlkT.below (by constructor <;> simp (maxDischargeDepth := 16) [go_sem]) hb1 (by simp)
  have B1 : Below w.heap.size w w1 := ((Below.refl _ w).alloc (Nat.le_refl _) _).trans (hb1.mono (by simp))
  clear hb1
  obtain ⟨r0, r1, r2, r3, r4, r5, r6, q0, q1, q2, q3, q4, q5, q6⟩ := R1.out
  go_wp2
  generalize hW9 : World.setCell _ _ _ = W9
  have b9 : BlkT W9 w.heap.size 6 i x k n d S := by rw [← hW9]; exact R1.out.seven
  have hB9 : Below w.heap.size w W9 := by rw [← hW9]; exact below7 B1 (Nat.le_refl _) _ _ _ _ _ _ _
  clear hW9
  obtain ⟨x0, x1, x2, x3, x4, x5, x6, -, -, -, -, -, -, -⟩ := b9
  refine bodyPost_ret (by simp [results, Tryz.results17, go_sem, x0, x1, x2, x3, x4, x5, x6]; try rfl) rfl ?_
  exact ⟨rfl, hB9⟩
end Go.Proofs.YtmegombglkcccaaGreatDoor

namespace Go.Proofs.YtmegombglkcccaaGreatDoor
open Go.RowKit Go.Shelf LX
set_option linter.unusedVariables false

set_option maxRecDepth 100000 in
set_option maxHeartbeats 4000000 in
theorem one_40 (s x S : ByteArray) (i m : Nat) (k n d : Int) (ok : Bool) (w : World) (hs : s.size ≤ 16384) (hi : i < s.size) (h : s[i].toNat = 40) :
    Calls Tryz.prog 9 #[.string s, .int .i64 i] w fun e w' => e = .returned (.tuple #[.agg #[.int .i64 1, .int .i64 i, .string ⟨#[40]⟩, .int .i64 0, .int .i64 0, .int .i64 0, .string ⟨#[]⟩], .bool true]) ∧ Below w.heap.size w w' := by
  have hi' : (i : Int) < s.size := by omega
  have h40' : ((s[i].toNat : Nat) : Int) = 40 := by omega
  go_enter Tryz.func9, Tryz.ntmps9
  go_wp2
  refine bodyPost_ret (by simp [results, Tryz.results9, go_sem]; try rfl) rfl ?_
  exact ⟨rfl, (Below.refl _ w).alloc (Nat.le_refl _) _⟩
set_option maxRecDepth 100000 in
set_option maxHeartbeats 4000000 in
theorem one_41 (s x S : ByteArray) (i m : Nat) (k n d : Int) (ok : Bool) (w : World) (hs : s.size ≤ 16384) (hi : i < s.size) (h : s[i].toNat = 41) :
    Calls Tryz.prog 9 #[.string s, .int .i64 i] w fun e w' => e = .returned (.tuple #[.agg #[.int .i64 2, .int .i64 i, .string ⟨#[41]⟩, .int .i64 0, .int .i64 0, .int .i64 0, .string ⟨#[]⟩], .bool true]) ∧ Below w.heap.size w w' := by
  have hi' : (i : Int) < s.size := by omega
  have h41' : ((s[i].toNat : Nat) : Int) = 41 := by omega
  have n40 : ¬ ((s[i].toNat : Nat) : Int) = 40 := by omega
  go_enter Tryz.func9, Tryz.ntmps9
  go_wp2
  refine bodyPost_ret (by simp [results, Tryz.results9, go_sem]; try rfl) rfl ?_
  exact ⟨rfl, (Below.refl _ w).alloc (Nat.le_refl _) _⟩
set_option maxRecDepth 100000 in
set_option maxHeartbeats 4000000 in
theorem one_word (s x S : ByteArray) (i m : Nat) (k n d : Int) (ok : Bool) (w : World) (hs : s.size ≤ 16384) (hi : i < s.size) (hA : lowN s[i].toNat = true) (hm : i ≤ m) (hms : m ≤ s.size) (hx : s.extract i m = x)
    (WO : Hid (∀ W : World, Calls Tryz.prog 15 #[.string s, .int .i64 i] W fun e w' => e = .returned (.int .i64 m) ∧ w' = W)) :
    Calls Tryz.prog 9 #[.string s, .int .i64 i] w fun e w' => e = .returned (.tuple #[.agg #[.int .i64 3, .int .i64 i, .string x, .int .i64 0, .int .i64 0, .int .i64 0, .string ⟨#[]⟩], .bool (decide ((m : Int) - i ≤ 16))]) ∧ Below w.heap.size w w' := by
  have hi' : (i : Int) < s.size := by omega
  have hAA : 97 ≤ s[i].toNat ∧ s[i].toNat ≤ 122 := by simpa [lowN] using hA
  have g1 : (i : Int) ≤ m := by omega
  have g2 : (m : Int) ≤ s.size := by omega
  have n40 : ¬ ((s[i].toNat : Nat) : Int) = 40 := by omega
  have n41 : ¬ ((s[i].toNat : Nat) : Int) = 41 := by omega
  have A : Hid (∀ (v : Int) (W : World), v = (s[i].toNat : Int) → Calls Tryz.prog 14 #[.int .u8 v] W fun e w' => e = .returned (.bool true) ∧ w' = W) := fun v W h => by
    rw [h]; have q := rsmall_any s[i].toNat W s[i].toNat_lt; rw [hA] at q; exact q
  go_enter Tryz.func9, Tryz.ntmps9
  go_wp2_with fail
  refine (A.out _ _ (by omega)).mono ?_
  rintro e w1 ⟨rfl, rfl⟩
  go_wp2_with fail
  refine (WO.out _).mono ?_
  rintro e w1 ⟨rfl, rfl⟩
  go_wp2
  refine bodyPost_ret (by simp [results, Tryz.results9, go_sem]; try rfl) rfl ?_
  first
    | exact ⟨rfl, (Below.refl _ w).alloc (Nat.le_refl _) _⟩
    | exact ⟨by rw [hx], (Below.refl _ w).alloc (Nat.le_refl _) _⟩
set_option maxRecDepth 100000 in
set_option maxHeartbeats 4000000 in
theorem one_le (s x S : ByteArray) (i m : Nat) (k n d : Int) (ok : Bool) (w : World) (hs : s.size ≤ 16384) (hi : i < s.size) (hA : lowN s[i].toNat = false) (h : s[i].toNat = 60) (h1 : i + 1 < s.size) (h61 : s[i + 1].toNat = 61) :
    Calls Tryz.prog 9 #[.string s, .int .i64 i] w fun e w' => e = .returned (.tuple #[.agg #[.int .i64 4, .int .i64 i, .string ⟨#[60, 61]⟩, .int .i64 0, .int .i64 0, .int .i64 0, .string ⟨#[]⟩], .bool true]) ∧ Below w.heap.size w w' := by
  have hi' : (i : Int) < s.size := by omega
  have h60' : ((s[i].toNat : Nat) : Int) = 60 := by omega
  have n40 : ¬ ((s[i].toNat : Nat) : Int) = 40 := by omega
  have n41 : ¬ ((s[i].toNat : Nat) : Int) = 41 := by omega
  have g1 : (i : Int) + 1 < s.size := by omega
  have g2 : ((s[i + 1].toNat : Nat) : Int) = 61 := by omega
  have A : Hid (∀ (v : Int) (W : World), v = (s[i].toNat : Int) → Calls Tryz.prog 14 #[.int .u8 v] W fun e w' => e = .returned (.bool false) ∧ w' = W) := fun v W h => by
    rw [h]; have q := rsmall_any s[i].toNat W s[i].toNat_lt; rw [hA] at q; exact q
  go_enter Tryz.func9, Tryz.ntmps9
  go_wp2_with fail
  refine (A.out _ _ (by omega)).mono ?_
  rintro e w1 ⟨rfl, rfl⟩
  go_wp2
  refine bodyPost_ret (by simp [results, Tryz.results9, go_sem]; try rfl) rfl ?_
  exact ⟨rfl, (Below.refl _ w).alloc (Nat.le_refl _) _⟩
set_option maxRecDepth 100000 in
set_option maxHeartbeats 4000000 in
theorem one_num (s x S : ByteArray) (i m : Nat) (k n d : Int) (ok : Bool) (w : World) (hs : s.size ≤ 16384) (hi : i < s.size) (hA : lowN s[i].toNat = false) (hD : digN s[i].toNat = true)
    (NM : Hid (∀ W : World, Calls Tryz.prog 17 #[.string s, .int .i64 i] W fun e w' => e = .returned (.tuple #[.agg #[.int .i64 6, .int .i64 i, .string x, .int .i64 k, .int .i64 n, .int .i64 d, .string S], .bool ok]) ∧ Below W.heap.size W w')) :
    Calls Tryz.prog 9 #[.string s, .int .i64 i] w fun e w' => e = .returned (.tuple #[.agg #[.int .i64 6, .int .i64 i, .string x, .int .i64 k, .int .i64 n, .int .i64 d, .string S], .bool ok]) ∧ Below w.heap.size w w' := by
  have hi' : (i : Int) < s.size := by omega
  have hDD : 48 ≤ s[i].toNat ∧ s[i].toNat ≤ 57 := by simpa [digN] using hD
  have n40 : ¬ ((s[i].toNat : Nat) : Int) = 40 := by omega
  have n41 : ¬ ((s[i].toNat : Nat) : Int) = 41 := by omega
  have n60 : ¬ ((s[i].toNat : Nat) : Int) = 60 := by omega
  have A : Hid (∀ (v : Int) (W : World), v = (s[i].toNat : Int) → Calls Tryz.prog 14 #[.int .u8 v] W fun e w' => e = .returned (.bool false) ∧ w' = W) := fun v W h => by
    rw [h]; have q := rsmall_any s[i].toNat W s[i].toNat_lt; rw [hA] at q; exact q
  have D : Hid (∀ (v : Int) (W : World), v = (s[i].toNat : Int) → Calls Tryz.prog 16 #[.int .u8 v] W fun e w' => e = .returned (.bool true) ∧ w' = W) := fun v W h => by
    rw [h]; have q := rdigit_any s[i].toNat W s[i].toNat_lt; rw [hD] at q; exact q
  go_enter Tryz.func9, Tryz.ntmps9
  go_wp2_with fail
  refine (A.out _ _ (by omega)).mono ?_
  rintro e w1 ⟨rfl, rfl⟩
  go_wp2_with fail
  refine (D.out _ _ (by omega)).mono ?_
  rintro e w1 ⟨rfl, rfl⟩
  go_wp2_with fail
  refine (NM.out _).mono ?_
  rintro e w1 ⟨rfl, hb1⟩
  have R1 : Hid (BlkT w1 w.heap.size 0 0 ⟨#[]⟩ 0 0 0 ⟨#[]⟩) := BlkT.below (by constructor <;> simp (maxDischargeDepth := 16) [go_sem]) hb1 (by simp)
  have B1 : Below w.heap.size w w1 := ((Below.refl _ w).alloc (Nat.le_refl _) _).trans (hb1.mono (by simp))
  clear hb1
  obtain ⟨r0, r1, r2, r3, r4, r5, r6, q0, q1, q2, q3, q4, q5, q6⟩ := R1.out
  go_wp2
  generalize hW9 : World.setCell _ _ _ = W9
  have b9 : BlkT W9 w.heap.size 6 i x k n d S := by rw [← hW9]; exact R1.out.seven
  have hB9 : Below w.heap.size w W9 := by rw [← hW9]; exact below7 B1 (Nat.le_refl _) _ _ _ _ _ _ _
  clear hW9
  obtain ⟨x0, x1, x2, x3, x4, x5, x6, -, -, -, -, -, -, -⟩ := b9
  refine bodyPost_ret (by simp [results, Tryz.results9, go_sem, x0, x1, x2, x3, x4, x5, x6]; try rfl) rfl ?_
  exact ⟨rfl, hB9⟩
set_option maxRecDepth 100000 in
set_option maxHeartbeats 4000000 in
theorem one_neg (s x S : ByteArray) (i m : Nat) (k n d : Int) (ok : Bool) (w : World) (hs : s.size ≤ 16384) (hi : i < s.size) (hA : lowN s[i].toNat = false) (hD : digN s[i].toNat = false) (h : s[i].toNat = 45) (h1 : i + 1 < s.size) (hP : digN s[i + 1].toNat = true)
    (NM : Hid (∀ W : World, Calls Tryz.prog 17 #[.string s, .int .i64 i] W fun e w' => e = .returned (.tuple #[.agg #[.int .i64 6, .int .i64 i, .string x, .int .i64 k, .int .i64 n, .int .i64 d, .string S], .bool ok]) ∧ Below W.heap.size W w')) :
    Calls Tryz.prog 9 #[.string s, .int .i64 i] w fun e w' => e = .returned (.tuple #[.agg #[.int .i64 6, .int .i64 i, .string x, .int .i64 k, .int .i64 n, .int .i64 d, .string S], .bool ok]) ∧ Below w.heap.size w w' := by
  have hi' : (i : Int) < s.size := by omega
  have h45' : ((s[i].toNat : Nat) : Int) = 45 := by omega
  have n40 : ¬ ((s[i].toNat : Nat) : Int) = 40 := by omega
  have n41 : ¬ ((s[i].toNat : Nat) : Int) = 41 := by omega
  have n60 : ¬ ((s[i].toNat : Nat) : Int) = 60 := by omega
  have g1 : (i : Int) + 1 < s.size := by omega
  have A : Hid (∀ (v : Int) (W : World), v = (s[i].toNat : Int) → Calls Tryz.prog 14 #[.int .u8 v] W fun e w' => e = .returned (.bool false) ∧ w' = W) := fun v W h => by
    rw [h]; have q := rsmall_any s[i].toNat W s[i].toNat_lt; rw [hA] at q; exact q
  have D : Hid (∀ (v : Int) (W : World), v = (s[i].toNat : Int) → Calls Tryz.prog 16 #[.int .u8 v] W fun e w' => e = .returned (.bool false) ∧ w' = W) := fun v W h => by
    rw [h]; have q := rdigit_any s[i].toNat W s[i].toNat_lt; rw [hD] at q; exact q
  have DP : Hid (∀ (v : Int) (W : World), v = (s[i + 1].toNat : Int) → Calls Tryz.prog 16 #[.int .u8 v] W fun x w' => x = .returned (.bool true) ∧ w' = W) := fun v W h => by
    rw [h]; have q := rdigit_any s[i + 1].toNat W s[i + 1].toNat_lt; rw [hP] at q; exact q
  go_enter Tryz.func9, Tryz.ntmps9
  go_wp2_with fail
  refine (A.out _ _ (by omega)).mono ?_
  rintro e w1 ⟨rfl, rfl⟩
  go_wp2_with fail
  refine (D.out _ _ (by omega)).mono ?_
  rintro e w1 ⟨rfl, rfl⟩
  go_wp2_with fail
  refine (DP.out _ _ (by omega)).mono ?_
  rintro e w1 ⟨rfl, rfl⟩
  go_wp2_with fail
  refine (NM.out _).mono ?_
  rintro e w1 ⟨rfl, hb1⟩
  have R1 : Hid (BlkT w1 w.heap.size 0 0 ⟨#[]⟩ 0 0 0 ⟨#[]⟩) := BlkT.below (by constructor <;> simp (maxDischargeDepth := 16) [go_sem]) hb1 (by simp)
  have B1 : Below w.heap.size w w1 := ((Below.refl _ w).alloc (Nat.le_refl _) _).trans (hb1.mono (by simp))
  clear hb1
  obtain ⟨r0, r1, r2, r3, r4, r5, r6, q0, q1, q2, q3, q4, q5, q6⟩ := R1.out
  go_wp2
  generalize hW9 : World.setCell _ _ _ = W9
  have b9 : BlkT W9 w.heap.size 6 i x k n d S := by rw [← hW9]; exact R1.out.seven
  have hB9 : Below w.heap.size w W9 := by rw [← hW9]; exact below7 B1 (Nat.le_refl _) _ _ _ _ _ _ _
  clear hW9
  obtain ⟨x0, x1, x2, x3, x4, x5, x6, -, -, -, -, -, -, -⟩ := b9
  refine bodyPost_ret (by simp [results, Tryz.results9, go_sem, x0, x1, x2, x3, x4, x5, x6]; try rfl) rfl ?_
  exact ⟨rfl, hB9⟩
set_option maxRecDepth 100000 in
set_option maxHeartbeats 4000000 in
theorem one_61 (s x S : ByteArray) (i m : Nat) (k n d : Int) (ok : Bool) (w : World) (hs : s.size ≤ 16384) (hi : i < s.size) (hA : lowN s[i].toNat = false) (hD : digN s[i].toNat = false) (h : s[i].toNat = 61) (hx : s.extract i (i + 1) = x) :
    Calls Tryz.prog 9 #[.string s, .int .i64 i] w fun e w' => e = .returned (.tuple #[.agg #[.int .i64 4, .int .i64 i, .string x, .int .i64 0, .int .i64 0, .int .i64 0, .string ⟨#[]⟩], .bool true]) ∧ Below w.heap.size w w' := by
  have hi' : (i : Int) < s.size := by omega
  have h61' : ((s[i].toNat : Nat) : Int) = 61 := by omega
  have n40 : ¬ ((s[i].toNat : Nat) : Int) = 40 := by omega
  have n41 : ¬ ((s[i].toNat : Nat) : Int) = 41 := by omega
  have n60 : ¬ ((s[i].toNat : Nat) : Int) = 60 := by omega
  have n45 : ¬ ((s[i].toNat : Nat) : Int) = 45 := by omega
  have n43 : ¬ ((s[i].toNat : Nat) : Int) = 43 := by omega
  have n42 : ¬ ((s[i].toNat : Nat) : Int) = 42 := by omega
  have g3 : (i : Int) ≤ (i : Int) + 1 := by omega
  have g4 : (i : Int) + 1 ≤ s.size := by omega
  have A : Hid (∀ (v : Int) (W : World), v = (s[i].toNat : Int) → Calls Tryz.prog 14 #[.int .u8 v] W fun e w' => e = .returned (.bool false) ∧ w' = W) := fun v W h => by
    rw [h]; have q := rsmall_any s[i].toNat W s[i].toNat_lt; rw [hA] at q; exact q
  have D : Hid (∀ (v : Int) (W : World), v = (s[i].toNat : Int) → Calls Tryz.prog 16 #[.int .u8 v] W fun e w' => e = .returned (.bool false) ∧ w' = W) := fun v W h => by
    rw [h]; have q := rdigit_any s[i].toNat W s[i].toNat_lt; rw [hD] at q; exact q
  go_enter Tryz.func9, Tryz.ntmps9
  go_wp2_with fail
  refine (A.out _ _ (by omega)).mono ?_
  rintro e w1 ⟨rfl, rfl⟩
  go_wp2_with fail
  refine (D.out _ _ (by omega)).mono ?_
  rintro e w1 ⟨rfl, rfl⟩
  go_wp2
  refine bodyPost_ret (by simp [results, Tryz.results9, go_sem]; try rfl) rfl ?_
  first
    | exact ⟨rfl, (Below.refl _ w).alloc (Nat.le_refl _) _⟩
    | exact ⟨by rw [hx], (Below.refl _ w).alloc (Nat.le_refl _) _⟩
set_option maxRecDepth 100000 in
set_option maxHeartbeats 4000000 in
theorem one_43 (s x S : ByteArray) (i m : Nat) (k n d : Int) (ok : Bool) (w : World) (hs : s.size ≤ 16384) (hi : i < s.size) (hA : lowN s[i].toNat = false) (hD : digN s[i].toNat = false) (h : s[i].toNat = 43) (hx : s.extract i (i + 1) = x) :
    Calls Tryz.prog 9 #[.string s, .int .i64 i] w fun e w' => e = .returned (.tuple #[.agg #[.int .i64 4, .int .i64 i, .string x, .int .i64 0, .int .i64 0, .int .i64 0, .string ⟨#[]⟩], .bool true]) ∧ Below w.heap.size w w' := by
  have hi' : (i : Int) < s.size := by omega
  have h43' : ((s[i].toNat : Nat) : Int) = 43 := by omega
  have n40 : ¬ ((s[i].toNat : Nat) : Int) = 40 := by omega
  have n41 : ¬ ((s[i].toNat : Nat) : Int) = 41 := by omega
  have n60 : ¬ ((s[i].toNat : Nat) : Int) = 60 := by omega
  have n45 : ¬ ((s[i].toNat : Nat) : Int) = 45 := by omega
  have n61 : ¬ ((s[i].toNat : Nat) : Int) = 61 := by omega
  have n42 : ¬ ((s[i].toNat : Nat) : Int) = 42 := by omega
  have g3 : (i : Int) ≤ (i : Int) + 1 := by omega
  have g4 : (i : Int) + 1 ≤ s.size := by omega
  have A : Hid (∀ (v : Int) (W : World), v = (s[i].toNat : Int) → Calls Tryz.prog 14 #[.int .u8 v] W fun e w' => e = .returned (.bool false) ∧ w' = W) := fun v W h => by
    rw [h]; have q := rsmall_any s[i].toNat W s[i].toNat_lt; rw [hA] at q; exact q
  have D : Hid (∀ (v : Int) (W : World), v = (s[i].toNat : Int) → Calls Tryz.prog 16 #[.int .u8 v] W fun e w' => e = .returned (.bool false) ∧ w' = W) := fun v W h => by
    rw [h]; have q := rdigit_any s[i].toNat W s[i].toNat_lt; rw [hD] at q; exact q
  go_enter Tryz.func9, Tryz.ntmps9
  go_wp2_with fail
  refine (A.out _ _ (by omega)).mono ?_
  rintro e w1 ⟨rfl, rfl⟩
  go_wp2_with fail
  refine (D.out _ _ (by omega)).mono ?_
  rintro e w1 ⟨rfl, rfl⟩
  go_wp2
  refine bodyPost_ret (by simp [results, Tryz.results9, go_sem]; try rfl) rfl ?_
  first
    | exact ⟨rfl, (Below.refl _ w).alloc (Nat.le_refl _) _⟩
    | exact ⟨by rw [hx], (Below.refl _ w).alloc (Nat.le_refl _) _⟩
end Go.Proofs.YtmegombglkcccaaGreatDoor

namespace Go.Proofs.YtmegombglkcccaaGreatDoor
open Go.RowKit Go.Shelf LX
set_option linter.unusedVariables false

set_option maxRecDepth 100000 in
set_option maxHeartbeats 4000000 in
theorem one_42 (s x S : ByteArray) (i m : Nat) (k n d : Int) (ok : Bool) (w : World) (hs : s.size ≤ 16384) (hi : i < s.size) (hA : lowN s[i].toNat = false) (hD : digN s[i].toNat = false) (h : s[i].toNat = 42) (hx : s.extract i (i + 1) = x) :
    Calls Tryz.prog 9 #[.string s, .int .i64 i] w fun e w' => e = .returned (.tuple #[.agg #[.int .i64 4, .int .i64 i, .string x, .int .i64 0, .int .i64 0, .int .i64 0, .string ⟨#[]⟩], .bool true]) ∧ Below w.heap.size w w' := by
  have hi' : (i : Int) < s.size := by omega
  have h42' : ((s[i].toNat : Nat) : Int) = 42 := by omega
  have n40 : ¬ ((s[i].toNat : Nat) : Int) = 40 := by omega
  have n41 : ¬ ((s[i].toNat : Nat) : Int) = 41 := by omega
  have n60 : ¬ ((s[i].toNat : Nat) : Int) = 60 := by omega
  have n45 : ¬ ((s[i].toNat : Nat) : Int) = 45 := by omega
  have n61 : ¬ ((s[i].toNat : Nat) : Int) = 61 := by omega
  have n43 : ¬ ((s[i].toNat : Nat) : Int) = 43 := by omega
  have g3 : (i : Int) ≤ (i : Int) + 1 := by omega
  have g4 : (i : Int) + 1 ≤ s.size := by omega
  have A : Hid (∀ (v : Int) (W : World), v = (s[i].toNat : Int) → Calls Tryz.prog 14 #[.int .u8 v] W fun e w' => e = .returned (.bool false) ∧ w' = W) := fun v W h => by
    rw [h]; have q := rsmall_any s[i].toNat W s[i].toNat_lt; rw [hA] at q; exact q
  have D : Hid (∀ (v : Int) (W : World), v = (s[i].toNat : Int) → Calls Tryz.prog 16 #[.int .u8 v] W fun e w' => e = .returned (.bool false) ∧ w' = W) := fun v W h => by
    rw [h]; have q := rdigit_any s[i].toNat W s[i].toNat_lt; rw [hD] at q; exact q
  go_enter Tryz.func9, Tryz.ntmps9
  go_wp2_with fail
  refine (A.out _ _ (by omega)).mono ?_
  rintro e w1 ⟨rfl, rfl⟩
  go_wp2_with fail
  refine (D.out _ _ (by omega)).mono ?_
  rintro e w1 ⟨rfl, rfl⟩
  go_wp2
  refine bodyPost_ret (by simp [results, Tryz.results9, go_sem]; try rfl) rfl ?_
  first
    | exact ⟨rfl, (Below.refl _ w).alloc (Nat.le_refl _) _⟩
    | exact ⟨by rw [hx], (Below.refl _ w).alloc (Nat.le_refl _) _⟩
set_option maxRecDepth 100000 in
set_option maxHeartbeats 4000000 in
theorem one_lta (s x S : ByteArray) (i m : Nat) (k n d : Int) (ok : Bool) (w : World) (hs : s.size ≤ 16384) (hi : i < s.size) (hA : lowN s[i].toNat = false) (hD : digN s[i].toNat = false) (h : s[i].toNat = 60) (h1 : s.size ≤ i + 1) (hx : s.extract i (i + 1) = x) :
    Calls Tryz.prog 9 #[.string s, .int .i64 i] w fun e w' => e = .returned (.tuple #[.agg #[.int .i64 4, .int .i64 i, .string x, .int .i64 0, .int .i64 0, .int .i64 0, .string ⟨#[]⟩], .bool true]) ∧ Below w.heap.size w w' := by
  have hi' : (i : Int) < s.size := by omega
  have h60' : ((s[i].toNat : Nat) : Int) = 60 := by omega
  have n40 : ¬ ((s[i].toNat : Nat) : Int) = 40 := by omega
  have n41 : ¬ ((s[i].toNat : Nat) : Int) = 41 := by omega
  have n45 : ¬ ((s[i].toNat : Nat) : Int) = 45 := by omega
  have n61 : ¬ ((s[i].toNat : Nat) : Int) = 61 := by omega
  have n43 : ¬ ((s[i].toNat : Nat) : Int) = 43 := by omega
  have n42 : ¬ ((s[i].toNat : Nat) : Int) = 42 := by omega
  have g1 : ¬ (i : Int) + 1 < s.size := by omega
  have g3 : (i : Int) ≤ (i : Int) + 1 := by omega
  have g4 : (i : Int) + 1 ≤ s.size := by omega
  have A : Hid (∀ (v : Int) (W : World), v = (s[i].toNat : Int) → Calls Tryz.prog 14 #[.int .u8 v] W fun e w' => e = .returned (.bool false) ∧ w' = W) := fun v W h => by
    rw [h]; have q := rsmall_any s[i].toNat W s[i].toNat_lt; rw [hA] at q; exact q
  have D : Hid (∀ (v : Int) (W : World), v = (s[i].toNat : Int) → Calls Tryz.prog 16 #[.int .u8 v] W fun e w' => e = .returned (.bool false) ∧ w' = W) := fun v W h => by
    rw [h]; have q := rdigit_any s[i].toNat W s[i].toNat_lt; rw [hD] at q; exact q
  go_enter Tryz.func9, Tryz.ntmps9
  go_wp2_with fail
  refine (A.out _ _ (by omega)).mono ?_
  rintro e w1 ⟨rfl, rfl⟩
  go_wp2_with fail
  refine (D.out _ _ (by omega)).mono ?_
  rintro e w1 ⟨rfl, rfl⟩
  go_wp2
  refine bodyPost_ret (by simp [results, Tryz.results9, go_sem]; try rfl) rfl ?_
  first
    | exact ⟨rfl, (Below.refl _ w).alloc (Nat.le_refl _) _⟩
    | exact ⟨by rw [hx], (Below.refl _ w).alloc (Nat.le_refl _) _⟩
set_option maxRecDepth 100000 in
set_option maxHeartbeats 4000000 in
theorem one_ltb (s x S : ByteArray) (i m : Nat) (k n d : Int) (ok : Bool) (w : World) (hs : s.size ≤ 16384) (hi : i < s.size) (hA : lowN s[i].toNat = false) (hD : digN s[i].toNat = false) (h : s[i].toNat = 60) (h1 : i + 1 < s.size) (h61 : ¬ s[i + 1].toNat = 61) (hx : s.extract i (i + 1) = x) :
    Calls Tryz.prog 9 #[.string s, .int .i64 i] w fun e w' => e = .returned (.tuple #[.agg #[.int .i64 4, .int .i64 i, .string x, .int .i64 0, .int .i64 0, .int .i64 0, .string ⟨#[]⟩], .bool true]) ∧ Below w.heap.size w w' := by
  have hi' : (i : Int) < s.size := by omega
  have h60' : ((s[i].toNat : Nat) : Int) = 60 := by omega
  have n40 : ¬ ((s[i].toNat : Nat) : Int) = 40 := by omega
  have n41 : ¬ ((s[i].toNat : Nat) : Int) = 41 := by omega
  have n45 : ¬ ((s[i].toNat : Nat) : Int) = 45 := by omega
  have n61 : ¬ ((s[i].toNat : Nat) : Int) = 61 := by omega
  have n43 : ¬ ((s[i].toNat : Nat) : Int) = 43 := by omega
  have n42 : ¬ ((s[i].toNat : Nat) : Int) = 42 := by omega
  have g1 : (i : Int) + 1 < s.size := by omega
  have g2 : ¬ ((s[i + 1].toNat : Nat) : Int) = 61 := by omega
  have g2b : ((s[i + 1].toNat : Int) == 61) = false := beq_eq_false_iff_ne.mpr (by omega)
  have g3 : (i : Int) ≤ (i : Int) + 1 := by omega
  have g4 : (i : Int) + 1 ≤ s.size := by omega
  have A : Hid (∀ (v : Int) (W : World), v = (s[i].toNat : Int) → Calls Tryz.prog 14 #[.int .u8 v] W fun e w' => e = .returned (.bool false) ∧ w' = W) := fun v W h => by
    rw [h]; have q := rsmall_any s[i].toNat W s[i].toNat_lt; rw [hA] at q; exact q
  have D : Hid (∀ (v : Int) (W : World), v = (s[i].toNat : Int) → Calls Tryz.prog 16 #[.int .u8 v] W fun e w' => e = .returned (.bool false) ∧ w' = W) := fun v W h => by
    rw [h]; have q := rdigit_any s[i].toNat W s[i].toNat_lt; rw [hD] at q; exact q
  go_enter Tryz.func9, Tryz.ntmps9
  go_wp2_with fail
  refine (A.out _ _ (by omega)).mono ?_
  rintro e w1 ⟨rfl, rfl⟩
  go_wp2_with fail
  refine (D.out _ _ (by omega)).mono ?_
  rintro e w1 ⟨rfl, rfl⟩
  go_wp2
  refine bodyPost_ret (by simp [results, Tryz.results9, go_sem]; try rfl) rfl ?_
  first
    | exact ⟨rfl, (Below.refl _ w).alloc (Nat.le_refl _) _⟩
    | exact ⟨by rw [hx], (Below.refl _ w).alloc (Nat.le_refl _) _⟩
set_option maxRecDepth 100000 in
set_option maxHeartbeats 4000000 in
theorem one_mia (s x S : ByteArray) (i m : Nat) (k n d : Int) (ok : Bool) (w : World) (hs : s.size ≤ 16384) (hi : i < s.size) (hA : lowN s[i].toNat = false) (hD : digN s[i].toNat = false) (h : s[i].toNat = 45) (h1 : s.size ≤ i + 1) (hx : s.extract i (i + 1) = x) :
    Calls Tryz.prog 9 #[.string s, .int .i64 i] w fun e w' => e = .returned (.tuple #[.agg #[.int .i64 4, .int .i64 i, .string x, .int .i64 0, .int .i64 0, .int .i64 0, .string ⟨#[]⟩], .bool true]) ∧ Below w.heap.size w w' := by
  have hi' : (i : Int) < s.size := by omega
  have h45' : ((s[i].toNat : Nat) : Int) = 45 := by omega
  have n40 : ¬ ((s[i].toNat : Nat) : Int) = 40 := by omega
  have n41 : ¬ ((s[i].toNat : Nat) : Int) = 41 := by omega
  have n60 : ¬ ((s[i].toNat : Nat) : Int) = 60 := by omega
  have n61 : ¬ ((s[i].toNat : Nat) : Int) = 61 := by omega
  have n43 : ¬ ((s[i].toNat : Nat) : Int) = 43 := by omega
  have n42 : ¬ ((s[i].toNat : Nat) : Int) = 42 := by omega
  have g1 : ¬ (i : Int) + 1 < s.size := by omega
  have g3 : (i : Int) ≤ (i : Int) + 1 := by omega
  have g4 : (i : Int) + 1 ≤ s.size := by omega
  have A : Hid (∀ (v : Int) (W : World), v = (s[i].toNat : Int) → Calls Tryz.prog 14 #[.int .u8 v] W fun e w' => e = .returned (.bool false) ∧ w' = W) := fun v W h => by
    rw [h]; have q := rsmall_any s[i].toNat W s[i].toNat_lt; rw [hA] at q; exact q
  have D : Hid (∀ (v : Int) (W : World), v = (s[i].toNat : Int) → Calls Tryz.prog 16 #[.int .u8 v] W fun e w' => e = .returned (.bool false) ∧ w' = W) := fun v W h => by
    rw [h]; have q := rdigit_any s[i].toNat W s[i].toNat_lt; rw [hD] at q; exact q
  go_enter Tryz.func9, Tryz.ntmps9
  go_wp2_with fail
  refine (A.out _ _ (by omega)).mono ?_
  rintro e w1 ⟨rfl, rfl⟩
  go_wp2_with fail
  refine (D.out _ _ (by omega)).mono ?_
  rintro e w1 ⟨rfl, rfl⟩
  go_wp2
  refine bodyPost_ret (by simp [results, Tryz.results9, go_sem]; try rfl) rfl ?_
  first
    | exact ⟨rfl, (Below.refl _ w).alloc (Nat.le_refl _) _⟩
    | exact ⟨by rw [hx], (Below.refl _ w).alloc (Nat.le_refl _) _⟩
set_option maxRecDepth 100000 in
set_option maxHeartbeats 4000000 in
theorem one_mib (s x S : ByteArray) (i m : Nat) (k n d : Int) (ok : Bool) (w : World) (hs : s.size ≤ 16384) (hi : i < s.size) (hA : lowN s[i].toNat = false) (hD : digN s[i].toNat = false) (h : s[i].toNat = 45) (h1 : i + 1 < s.size) (hP : digN s[i + 1].toNat = false) (hx : s.extract i (i + 1) = x) :
    Calls Tryz.prog 9 #[.string s, .int .i64 i] w fun e w' => e = .returned (.tuple #[.agg #[.int .i64 4, .int .i64 i, .string x, .int .i64 0, .int .i64 0, .int .i64 0, .string ⟨#[]⟩], .bool true]) ∧ Below w.heap.size w w' := by
  have hi' : (i : Int) < s.size := by omega
  have h45' : ((s[i].toNat : Nat) : Int) = 45 := by omega
  have n40 : ¬ ((s[i].toNat : Nat) : Int) = 40 := by omega
  have n41 : ¬ ((s[i].toNat : Nat) : Int) = 41 := by omega
  have n60 : ¬ ((s[i].toNat : Nat) : Int) = 60 := by omega
  have n61 : ¬ ((s[i].toNat : Nat) : Int) = 61 := by omega
  have n43 : ¬ ((s[i].toNat : Nat) : Int) = 43 := by omega
  have n42 : ¬ ((s[i].toNat : Nat) : Int) = 42 := by omega
  have g1 : (i : Int) + 1 < s.size := by omega
  have g3 : (i : Int) ≤ (i : Int) + 1 := by omega
  have g4 : (i : Int) + 1 ≤ s.size := by omega
  have A : Hid (∀ (v : Int) (W : World), v = (s[i].toNat : Int) → Calls Tryz.prog 14 #[.int .u8 v] W fun e w' => e = .returned (.bool false) ∧ w' = W) := fun v W h => by
    rw [h]; have q := rsmall_any s[i].toNat W s[i].toNat_lt; rw [hA] at q; exact q
  have D : Hid (∀ (v : Int) (W : World), v = (s[i].toNat : Int) → Calls Tryz.prog 16 #[.int .u8 v] W fun e w' => e = .returned (.bool false) ∧ w' = W) := fun v W h => by
    rw [h]; have q := rdigit_any s[i].toNat W s[i].toNat_lt; rw [hD] at q; exact q
  have DP : Hid (∀ (v : Int) (W : World), v = (s[i + 1].toNat : Int) → Calls Tryz.prog 16 #[.int .u8 v] W fun x w' => x = .returned (.bool false) ∧ w' = W) := fun v W h => by
    rw [h]; have q := rdigit_any s[i + 1].toNat W s[i + 1].toNat_lt; rw [hP] at q; exact q
  go_enter Tryz.func9, Tryz.ntmps9
  go_wp2_with fail
  refine (A.out _ _ (by omega)).mono ?_
  rintro e w1 ⟨rfl, rfl⟩
  go_wp2_with fail
  refine (D.out _ _ (by omega)).mono ?_
  rintro e w1 ⟨rfl, rfl⟩
  go_wp2_with fail
  refine (DP.out _ _ (by omega)).mono ?_
  rintro e w1 ⟨rfl, rfl⟩
  go_wp2
  refine bodyPost_ret (by simp [results, Tryz.results9, go_sem]; try rfl) rfl ?_
  first
    | exact ⟨rfl, (Below.refl _ w).alloc (Nat.le_refl _) _⟩
    | exact ⟨by rw [hx], (Below.refl _ w).alloc (Nat.le_refl _) _⟩
set_option maxRecDepth 100000 in
set_option maxHeartbeats 4000000 in
theorem one_91n (s x S : ByteArray) (i m : Nat) (k n d : Int) (ok : Bool) (w : World) (hs : s.size ≤ 16384) (hi : i < s.size) (hA : lowN s[i].toNat = false) (hD : digN s[i].toNat = false) (h : s[i].toNat = 91)
    (BR : Hid (∀ W : World, Calls Tryz.prog 18 #[.string s, .int .i64 i] W fun e w' => e = .returned (.int .i64 0) ∧ w' = W)) :
    Calls Tryz.prog 9 #[.string s, .int .i64 i] w fun e w' => e = .returned (.tuple #[.agg #[.int .i64 0, .int .i64 0, .string ⟨#[]⟩, .int .i64 0, .int .i64 0, .int .i64 0, .string ⟨#[]⟩], .bool false]) ∧ Below w.heap.size w w' := by
  have hi' : (i : Int) < s.size := by omega
  have h91' : ((s[i].toNat : Nat) : Int) = 91 := by omega
  have n40 : ¬ ((s[i].toNat : Nat) : Int) = 40 := by omega
  have n41 : ¬ ((s[i].toNat : Nat) : Int) = 41 := by omega
  have n45 : ¬ ((s[i].toNat : Nat) : Int) = 45 := by omega
  have n60 : ¬ ((s[i].toNat : Nat) : Int) = 60 := by omega
  have n61 : ¬ ((s[i].toNat : Nat) : Int) = 61 := by omega
  have n43 : ¬ ((s[i].toNat : Nat) : Int) = 43 := by omega
  have n42 : ¬ ((s[i].toNat : Nat) : Int) = 42 := by omega
  have A : Hid (∀ (v : Int) (W : World), v = (s[i].toNat : Int) → Calls Tryz.prog 14 #[.int .u8 v] W fun e w' => e = .returned (.bool false) ∧ w' = W) := fun v W h => by
    rw [h]; have q := rsmall_any s[i].toNat W s[i].toNat_lt; rw [hA] at q; exact q
  have D : Hid (∀ (v : Int) (W : World), v = (s[i].toNat : Int) → Calls Tryz.prog 16 #[.int .u8 v] W fun e w' => e = .returned (.bool false) ∧ w' = W) := fun v W h => by
    rw [h]; have q := rdigit_any s[i].toNat W s[i].toNat_lt; rw [hD] at q; exact q
  go_enter Tryz.func9, Tryz.ntmps9
  go_wp2_with fail
  refine (A.out _ _ (by omega)).mono ?_
  rintro e w1 ⟨rfl, rfl⟩
  go_wp2_with fail
  refine (D.out _ _ (by omega)).mono ?_
  rintro e w1 ⟨rfl, rfl⟩
  go_wp2_with fail
  refine (BR.out _).mono ?_
  rintro e w1 ⟨rfl, rfl⟩
  go_wp2
  refine bodyPost_ret (by simp [results, Tryz.results9, go_sem]; try rfl) rfl ?_
  exact ⟨rfl, (Below.refl _ w).alloc (Nat.le_refl _) _⟩
set_option maxRecDepth 100000 in
set_option maxHeartbeats 4000000 in
theorem one_91s (s x S : ByteArray) (i m : Nat) (k n d : Int) (ok : Bool) (w : World) (hs : s.size ≤ 16384) (hi : i < s.size) (hA : lowN s[i].toNat = false) (hD : digN s[i].toNat = false) (h : s[i].toNat = 91) (hm : i < m) (hms : m ≤ s.size) (hx : s.extract i m = x)
    (BR : Hid (∀ W : World, Calls Tryz.prog 18 #[.string s, .int .i64 i] W fun e w' => e = .returned (.int .i64 m) ∧ w' = W))
    (EN : Hid (∀ W : World, Calls Tryz.prog 19 #[.string x] W fun e w' => EndsOut e ok ∧ Below W.heap.size W w')) :
    Calls Tryz.prog 9 #[.string s, .int .i64 i] w fun e w' => e = .returned (.tuple #[.agg #[.int .i64 5, .int .i64 i, .string x, .int .i64 0, .int .i64 0, .int .i64 0, .string ⟨#[]⟩], .bool ok]) ∧ Below w.heap.size w w' := by
  have hi' : (i : Int) < s.size := by omega
  have h91' : ((s[i].toNat : Nat) : Int) = 91 := by omega
  have n40 : ¬ ((s[i].toNat : Nat) : Int) = 40 := by omega
  have n41 : ¬ ((s[i].toNat : Nat) : Int) = 41 := by omega
  have n45 : ¬ ((s[i].toNat : Nat) : Int) = 45 := by omega
  have n60 : ¬ ((s[i].toNat : Nat) : Int) = 60 := by omega
  have n61 : ¬ ((s[i].toNat : Nat) : Int) = 61 := by omega
  have n43 : ¬ ((s[i].toNat : Nat) : Int) = 43 := by omega
  have n42 : ¬ ((s[i].toNat : Nat) : Int) = 42 := by omega
  have g1 : (i : Int) ≤ m := by omega
  have g2 : (m : Int) ≤ s.size := by omega
  have g5 : ¬ (m : Int) = 0 := by omega
  have g6 : ((m : Int) == 0) = false := beq_eq_false_iff_ne.mpr (by omega)
  have A : Hid (∀ (v : Int) (W : World), v = (s[i].toNat : Int) → Calls Tryz.prog 14 #[.int .u8 v] W fun e w' => e = .returned (.bool false) ∧ w' = W) := fun v W h => by
    rw [h]; have q := rsmall_any s[i].toNat W s[i].toNat_lt; rw [hA] at q; exact q
  have D : Hid (∀ (v : Int) (W : World), v = (s[i].toNat : Int) → Calls Tryz.prog 16 #[.int .u8 v] W fun e w' => e = .returned (.bool false) ∧ w' = W) := fun v W h => by
    rw [h]; have q := rdigit_any s[i].toNat W s[i].toNat_lt; rw [hD] at q; exact q
  go_enter Tryz.func9, Tryz.ntmps9
  go_wp2_with fail
  refine (A.out _ _ (by omega)).mono ?_
  rintro e w1 ⟨rfl, rfl⟩
  go_wp2_with fail
  refine (D.out _ _ (by omega)).mono ?_
  rintro e w1 ⟨rfl, rfl⟩
  go_wp2_with fail
  refine (BR.out _).mono ?_
  rintro e w1 ⟨rfl, rfl⟩
  go_wp2_with fail
  refine (EN.out _).mono ?_
  rintro e w1 ⟨⟨lo, hi2, op, rfl⟩, hb1⟩
  have R1 : Hid (BlkT w1 w.heap.size 0 0 ⟨#[]⟩ 0 0 0 ⟨#[]⟩) := BlkT.below (by constructor <;> simp (maxDischargeDepth := 16) [go_sem]) hb1 (by simp)
  have B1 : Below w.heap.size w w1 := ((Below.refl _ w).alloc (Nat.le_refl _) _).trans (hb1.mono (by simp))
  have z1 : w.heap.size < w1.heap.size := by have := hb1.size; simp at this; omega
  clear hb1
  go_upto_region 20 with fail
  refine wp_world ?_
  intro W2 hW2
  have R2 : Hid (BlkT W2 w.heap.size 0 0 ⟨#[]⟩ 0 0 0 ⟨#[]⟩) := by rw [hW2]; exact R1.out.below ((Below.refl w1.heap.size w1).alloc (Nat.le_refl _) _) z1
  have B2 : Below w.heap.size w W2 := by rw [hW2]; exact B1.alloc B1.size _
  clear hW2 R1 B1 z1
  obtain ⟨r0, r1, r2, r3, r4, r5, r6, q0, q1, q2, q3, q4, q5, q6⟩ := R2.out
  go_wp2
  generalize hW9 : World.setCell _ _ _ = W9
  have b9 : BlkT W9 w.heap.size 5 i x 0 0 0 ⟨#[]⟩ := by rw [← hW9]; exact R2.out.seven
  have hB9 : Below w.heap.size w W9 := by rw [← hW9]; exact below7 B2 (Nat.le_refl _) _ _ _ _ _ _ _
  clear hW9
  obtain ⟨x0, x1, x2, x3, x4, x5, x6, -, -, -, -, -, -, -⟩ := b9
  refine bodyPost_ret (by simp [results, Tryz.results9, go_sem, x0, x1, x2, x3, x4, x5, x6]; try rfl) rfl ?_
  exact ⟨rfl, hB9⟩
set_option maxRecDepth 100000 in
set_option maxHeartbeats 4000000 in
theorem one_34n (s x S : ByteArray) (i m : Nat) (k n d : Int) (ok : Bool) (w : World) (hs : s.size ≤ 16384) (hi : i < s.size) (hA : lowN s[i].toNat = false) (hD : digN s[i].toNat = false) (h : s[i].toNat = 34)
    (QU : Hid (∀ W : World, Calls Tryz.prog 20 #[.string s, .int .i64 i] W fun e w' => e = .returned (.int .i64 0) ∧ w' = W)) :
    Calls Tryz.prog 9 #[.string s, .int .i64 i] w fun e w' => e = .returned (.tuple #[.agg #[.int .i64 0, .int .i64 0, .string ⟨#[]⟩, .int .i64 0, .int .i64 0, .int .i64 0, .string ⟨#[]⟩], .bool false]) ∧ Below w.heap.size w w' := by
  have hi' : (i : Int) < s.size := by omega
  have h34' : ((s[i].toNat : Nat) : Int) = 34 := by omega
  have n40 : ¬ ((s[i].toNat : Nat) : Int) = 40 := by omega
  have n41 : ¬ ((s[i].toNat : Nat) : Int) = 41 := by omega
  have n45 : ¬ ((s[i].toNat : Nat) : Int) = 45 := by omega
  have n60 : ¬ ((s[i].toNat : Nat) : Int) = 60 := by omega
  have n61 : ¬ ((s[i].toNat : Nat) : Int) = 61 := by omega
  have n43 : ¬ ((s[i].toNat : Nat) : Int) = 43 := by omega
  have n42 : ¬ ((s[i].toNat : Nat) : Int) = 42 := by omega
  have n91 : ¬ ((s[i].toNat : Nat) : Int) = 91 := by omega
  have A : Hid (∀ (v : Int) (W : World), v = (s[i].toNat : Int) → Calls Tryz.prog 14 #[.int .u8 v] W fun e w' => e = .returned (.bool false) ∧ w' = W) := fun v W h => by
    rw [h]; have q := rsmall_any s[i].toNat W s[i].toNat_lt; rw [hA] at q; exact q
  have D : Hid (∀ (v : Int) (W : World), v = (s[i].toNat : Int) → Calls Tryz.prog 16 #[.int .u8 v] W fun e w' => e = .returned (.bool false) ∧ w' = W) := fun v W h => by
    rw [h]; have q := rdigit_any s[i].toNat W s[i].toNat_lt; rw [hD] at q; exact q
  go_enter Tryz.func9, Tryz.ntmps9
  go_wp2_with fail
  refine (A.out _ _ (by omega)).mono ?_
  rintro e w1 ⟨rfl, rfl⟩
  go_wp2_with fail
  refine (D.out _ _ (by omega)).mono ?_
  rintro e w1 ⟨rfl, rfl⟩
  go_wp2_with fail
  refine (QU.out _).mono ?_
  rintro e w1 ⟨rfl, rfl⟩
  go_wp2
  refine bodyPost_ret (by simp [results, Tryz.results9, go_sem]; try rfl) rfl ?_
  exact ⟨rfl, (Below.refl _ w).alloc (Nat.le_refl _) _⟩
end Go.Proofs.YtmegombglkcccaaGreatDoor

namespace Go.Proofs.YtmegombglkcccaaGreatDoor
open Go.RowKit Go.Shelf LX
set_option linter.unusedVariables false

set_option maxRecDepth 100000 in
set_option maxHeartbeats 4000000 in
theorem one_34s (s x S : ByteArray) (i m : Nat) (k n d : Int) (ok : Bool) (w : World) (hs : s.size ≤ 16384) (hi : i < s.size) (hA : lowN s[i].toNat = false) (hD : digN s[i].toNat = false) (h : s[i].toNat = 34) (hm : i < m) (hms : m ≤ s.size) (hx : s.extract i m = x)
    (QU : Hid (∀ W : World, Calls Tryz.prog 20 #[.string s, .int .i64 i] W fun e w' => e = .returned (.int .i64 m) ∧ w' = W))
    (VA : Hid (∀ W : World, Calls Tryz.prog 21 #[.string x, .int .i64 i] W fun e w' => e = .returned (.tuple #[.agg #[.int .i64 6, .int .i64 i, .string x, .int .i64 k, .int .i64 n, .int .i64 d, .string S], .bool ok]) ∧ Below W.heap.size W w')) :
    Calls Tryz.prog 9 #[.string s, .int .i64 i] w fun e w' => e = .returned (.tuple #[.agg #[.int .i64 6, .int .i64 i, .string x, .int .i64 k, .int .i64 n, .int .i64 d, .string S], .bool ok]) ∧ Below w.heap.size w w' := by
  have hi' : (i : Int) < s.size := by omega
  have h34' : ((s[i].toNat : Nat) : Int) = 34 := by omega
  have n40 : ¬ ((s[i].toNat : Nat) : Int) = 40 := by omega
  have n41 : ¬ ((s[i].toNat : Nat) : Int) = 41 := by omega
  have n45 : ¬ ((s[i].toNat : Nat) : Int) = 45 := by omega
  have n60 : ¬ ((s[i].toNat : Nat) : Int) = 60 := by omega
  have n61 : ¬ ((s[i].toNat : Nat) : Int) = 61 := by omega
  have n43 : ¬ ((s[i].toNat : Nat) : Int) = 43 := by omega
  have n42 : ¬ ((s[i].toNat : Nat) : Int) = 42 := by omega
  have n91 : ¬ ((s[i].toNat : Nat) : Int) = 91 := by omega
  have g1 : (i : Int) ≤ m := by omega
  have g2 : (m : Int) ≤ s.size := by omega
  have g5 : ¬ (m : Int) = 0 := by omega
  have g6 : ((m : Int) == 0) = false := beq_eq_false_iff_ne.mpr (by omega)
  have A : Hid (∀ (v : Int) (W : World), v = (s[i].toNat : Int) → Calls Tryz.prog 14 #[.int .u8 v] W fun e w' => e = .returned (.bool false) ∧ w' = W) := fun v W h => by
    rw [h]; have q := rsmall_any s[i].toNat W s[i].toNat_lt; rw [hA] at q; exact q
  have D : Hid (∀ (v : Int) (W : World), v = (s[i].toNat : Int) → Calls Tryz.prog 16 #[.int .u8 v] W fun e w' => e = .returned (.bool false) ∧ w' = W) := fun v W h => by
    rw [h]; have q := rdigit_any s[i].toNat W s[i].toNat_lt; rw [hD] at q; exact q
  go_enter Tryz.func9, Tryz.ntmps9
  go_wp2_with fail
  refine (A.out _ _ (by omega)).mono ?_
  rintro e w1 ⟨rfl, rfl⟩
  go_wp2_with fail
  refine (D.out _ _ (by omega)).mono ?_
  rintro e w1 ⟨rfl, rfl⟩
  go_wp2_with fail
  refine (QU.out _).mono ?_
  rintro e w1 ⟨rfl, rfl⟩
  go_wp2_with fail
  refine (VA.out _).mono ?_
  rintro e w1 ⟨rfl, hb1⟩
  have R1 : Hid (BlkT w1 w.heap.size 0 0 ⟨#[]⟩ 0 0 0 ⟨#[]⟩) := BlkT.below (by constructor <;> simp (maxDischargeDepth := 16) [go_sem]) hb1 (by simp)
  have B1 : Below w.heap.size w w1 := ((Below.refl _ w).alloc (Nat.le_refl _) _).trans (hb1.mono (by simp))
  clear hb1
  obtain ⟨r0, r1, r2, r3, r4, r5, r6, q0, q1, q2, q3, q4, q5, q6⟩ := R1.out
  go_wp2
  generalize hW9 : World.setCell _ _ _ = W9
  have b9 : BlkT W9 w.heap.size 6 i x k n d S := by rw [← hW9]; exact R1.out.seven
  have hB9 : Below w.heap.size w W9 := by rw [← hW9]; exact below7 B1 (Nat.le_refl _) _ _ _ _ _ _ _
  clear hW9
  obtain ⟨x0, x1, x2, x3, x4, x5, x6, -, -, -, -, -, -, -⟩ := b9
  refine bodyPost_ret (by simp [results, Tryz.results9, go_sem, x0, x1, x2, x3, x4, x5, x6]; try rfl) rfl ?_
  exact ⟨rfl, hB9⟩
set_option maxRecDepth 100000 in
set_option maxHeartbeats 4000000 in
theorem one_64 (s x S : ByteArray) (i m : Nat) (k n d : Int) (ok : Bool) (w : World) (hs : s.size ≤ 16384) (hi : i < s.size) (hA : lowN s[i].toNat = false) (hD : digN s[i].toNat = false) (h : s[i].toNat = 64) (hm : i + 1 ≤ m) (hms : m ≤ s.size) (hx : s.extract i m = x) (hS : s.extract (i + 1) m = S)
    (DI : Hid (∀ W : World, Calls Tryz.prog 22 #[.string s, .int .i64 ((i + 1 : Nat) : Int)] W fun e w' => e = .returned (.int .i64 m) ∧ w' = W))
    (NU : Hid (∀ W : World, Calls Tryz.prog 23 #[.string S, .int .i64 1099511627776] W fun e w' => e = .returned (.tuple #[.int .i64 n, .bool ok]) ∧ w' = W)) :
    Calls Tryz.prog 9 #[.string s, .int .i64 i] w fun e w' => e = .returned (.tuple #[.agg #[.int .i64 7, .int .i64 i, .string x, .int .i64 1, .int .i64 n, .int .i64 0, .string ⟨#[]⟩], .bool ok]) ∧ Below w.heap.size w w' := by
  have hi' : (i : Int) < s.size := by omega
  have h64' : ((s[i].toNat : Nat) : Int) = 64 := by omega
  have n40 : ¬ ((s[i].toNat : Nat) : Int) = 40 := by omega
  have n41 : ¬ ((s[i].toNat : Nat) : Int) = 41 := by omega
  have n45 : ¬ ((s[i].toNat : Nat) : Int) = 45 := by omega
  have n60 : ¬ ((s[i].toNat : Nat) : Int) = 60 := by omega
  have n61 : ¬ ((s[i].toNat : Nat) : Int) = 61 := by omega
  have n43 : ¬ ((s[i].toNat : Nat) : Int) = 43 := by omega
  have n42 : ¬ ((s[i].toNat : Nat) : Int) = 42 := by omega
  have n91 : ¬ ((s[i].toNat : Nat) : Int) = 91 := by omega
  have n34 : ¬ ((s[i].toNat : Nat) : Int) = 34 := by omega
  have g1 : (i : Int) ≤ m := by omega
  have g2 : (m : Int) ≤ s.size := by omega
  have g3 : (i : Int) + 1 ≤ m := by omega
  have A : Hid (∀ (v : Int) (W : World), v = (s[i].toNat : Int) → Calls Tryz.prog 14 #[.int .u8 v] W fun e w' => e = .returned (.bool false) ∧ w' = W) := fun v W h => by
    rw [h]; have q := rsmall_any s[i].toNat W s[i].toNat_lt; rw [hA] at q; exact q
  have D : Hid (∀ (v : Int) (W : World), v = (s[i].toNat : Int) → Calls Tryz.prog 16 #[.int .u8 v] W fun e w' => e = .returned (.bool false) ∧ w' = W) := fun v W h => by
    rw [h]; have q := rdigit_any s[i].toNat W s[i].toNat_lt; rw [hD] at q; exact q
  go_enter Tryz.func9, Tryz.ntmps9
  go_wp2_with fail
  refine (A.out _ _ (by omega)).mono ?_
  rintro e w1 ⟨rfl, rfl⟩
  go_wp2_with fail
  refine (D.out _ _ (by omega)).mono ?_
  rintro e w1 ⟨rfl, rfl⟩
  go_wp2_with fail
  refine (DI.out _).mono ?_
  rintro e w1 ⟨rfl, rfl⟩
  go_wp2_with fail
  refine (NU.out _).mono ?_
  rintro e w1 ⟨rfl, rfl⟩
  go_wp2
  refine bodyPost_ret (by simp [results, Tryz.results9, go_sem]; try rfl) rfl ?_
  first
    | exact ⟨rfl, (Below.refl _ w).alloc (Nat.le_refl _) _⟩
    | exact ⟨by rw [hx], (Below.refl _ w).alloc (Nat.le_refl _) _⟩
set_option maxRecDepth 100000 in
set_option maxHeartbeats 4000000 in
theorem one_no (s x S : ByteArray) (i m : Nat) (k n d : Int) (ok : Bool) (w : World) (hs : s.size ≤ 16384) (hi : i < s.size) (hA : lowN s[i].toNat = false) (hD : digN s[i].toNat = false) (m40 : ¬ s[i].toNat = 40) (m41 : ¬ s[i].toNat = 41) (m45 : ¬ s[i].toNat = 45) (m60 : ¬ s[i].toNat = 60) (m61 : ¬ s[i].toNat = 61) (m43 : ¬ s[i].toNat = 43) (m42 : ¬ s[i].toNat = 42) (m91 : ¬ s[i].toNat = 91) (m34 : ¬ s[i].toNat = 34) (m64 : ¬ s[i].toNat = 64) :
    Calls Tryz.prog 9 #[.string s, .int .i64 i] w fun e w' => e = .returned (.tuple #[.agg #[.int .i64 0, .int .i64 0, .string ⟨#[]⟩, .int .i64 0, .int .i64 0, .int .i64 0, .string ⟨#[]⟩], .bool false]) ∧ Below w.heap.size w w' := by
  have hi' : (i : Int) < s.size := by omega
  have n40 : ¬ ((s[i].toNat : Nat) : Int) = 40 := by omega
  have n41 : ¬ ((s[i].toNat : Nat) : Int) = 41 := by omega
  have n45 : ¬ ((s[i].toNat : Nat) : Int) = 45 := by omega
  have n60 : ¬ ((s[i].toNat : Nat) : Int) = 60 := by omega
  have n61 : ¬ ((s[i].toNat : Nat) : Int) = 61 := by omega
  have n43 : ¬ ((s[i].toNat : Nat) : Int) = 43 := by omega
  have n42 : ¬ ((s[i].toNat : Nat) : Int) = 42 := by omega
  have n91 : ¬ ((s[i].toNat : Nat) : Int) = 91 := by omega
  have n34 : ¬ ((s[i].toNat : Nat) : Int) = 34 := by omega
  have n64 : ¬ ((s[i].toNat : Nat) : Int) = 64 := by omega
  have b40 : ((s[i].toNat : Int) == 40) = false := beq_eq_false_iff_ne.mpr (by omega)
  have b41 : ((s[i].toNat : Int) == 41) = false := beq_eq_false_iff_ne.mpr (by omega)
  have b45 : ((s[i].toNat : Int) == 45) = false := beq_eq_false_iff_ne.mpr (by omega)
  have b60 : ((s[i].toNat : Int) == 60) = false := beq_eq_false_iff_ne.mpr (by omega)
  have b61 : ((s[i].toNat : Int) == 61) = false := beq_eq_false_iff_ne.mpr (by omega)
  have b43 : ((s[i].toNat : Int) == 43) = false := beq_eq_false_iff_ne.mpr (by omega)
  have b42 : ((s[i].toNat : Int) == 42) = false := beq_eq_false_iff_ne.mpr (by omega)
  have b91 : ((s[i].toNat : Int) == 91) = false := beq_eq_false_iff_ne.mpr (by omega)
  have b34 : ((s[i].toNat : Int) == 34) = false := beq_eq_false_iff_ne.mpr (by omega)
  have b64 : ((s[i].toNat : Int) == 64) = false := beq_eq_false_iff_ne.mpr (by omega)
  have A : Hid (∀ (v : Int) (W : World), v = (s[i].toNat : Int) → Calls Tryz.prog 14 #[.int .u8 v] W fun e w' => e = .returned (.bool false) ∧ w' = W) := fun v W h => by
    rw [h]; have q := rsmall_any s[i].toNat W s[i].toNat_lt; rw [hA] at q; exact q
  have D : Hid (∀ (v : Int) (W : World), v = (s[i].toNat : Int) → Calls Tryz.prog 16 #[.int .u8 v] W fun e w' => e = .returned (.bool false) ∧ w' = W) := fun v W h => by
    rw [h]; have q := rdigit_any s[i].toNat W s[i].toNat_lt; rw [hD] at q; exact q
  go_enter Tryz.func9, Tryz.ntmps9
  go_wp2_with fail
  refine (A.out _ _ (by omega)).mono ?_
  rintro e w1 ⟨rfl, rfl⟩
  go_wp2_with fail
  refine (D.out _ _ (by omega)).mono ?_
  rintro e w1 ⟨rfl, rfl⟩
  go_wp2
  refine bodyPost_ret (by simp [results, Tryz.results9, go_sem]; try rfl) rfl ?_
  exact ⟨rfl, (Below.refl _ w).alloc (Nat.le_refl _) _⟩
end Go.Proofs.YtmegombglkcccaaGreatDoor


