/- What a formula must be, whatever stands within. -/
import Derived.Test.YtfajjphfjilpnabRows
import Derived.WalkKit
import Derived.WalkSpells
import Derived.WalkLawsBesides
import Derived.Handy
import Derived.BigQuiet
import Derived.Deep.QuietTactic
import Derived.WalkMore
import Derived.ScopeJumps
import Derived.Deep.RegionHeld3
import Derived.Test.YtfajjphfjilpnabProg
import Derived.LaidEql
import Derived.Stop.Asserts
import Derived.RowKitTokens
import Derived.Shelf.Abstract
import Derived.Shelf.Small.Bits
import Derived.Shelf.Strconv.Itoa0
import Derived.Shelf.LaysM
import Derived.Shelf.Strconv.Clone
import Derived.Shelf.Sort.Plain
import Derived.Shelf.Slices.Turned
import Derived.Shelf.Slices.Equal
import Derived.Shelf.Slices.CompactS
import Derived.Shelf.Slices.Cells
import Derived.Shelf.Slices.In.SortNone
import Derived.Shelf.Slices.Empties2
import Derived.Laws.MathBits
import Derived.Deep.DeepCutAuto
import Derived.Lib.AppendStr
import Derived.Lib.UnsafeStr
import Derived.Lib.MakeNoZero
import Derived.Laws.Externs
import Derived.OwnWalk
import Derived.LoopN
import Derived.ChangeKeysEq
import Derived.Deep.Cut
import Derived.Lib.Bytealg
import Derived.Lib.AppendIntMem
import Derived.Lib.ItoaLen
import Derived.Lib.ConvBytes
import Derived.Lib.AtoiErrMem
import Derived.Laws.EntriesVeiled

namespace Go.Proofs.Ytfajjphfjilpnab
namespace LX
def digN (n : Nat) : Bool := decide (48 ≤ n) && decide (n ≤ 57)
def lowN (n : Nat) : Bool := decide (97 ≤ n) && decide (n ≤ 122)
def inwN (n : Nat) : Bool := lowN n || digN n || n == 95
def hd : List UInt8 → Nat
  | [] => 0
  | c :: _ => c.toNat
def run (p : Nat → Bool) : List UInt8 → Nat
  | [] => 0
  | c :: t => if p c.toNat then run p t + 1 else 0
def numLen (l : List UInt8) : Nat :=
  if hd (l.drop (run digN l)) = 47 ∧ digN (hd (l.drop (run digN l + 1))) = true then run digN l + 1 + run digN (l.drop (run digN l + 1)) else run digN l
def brk : List UInt8 → Option Nat
  | [] => none
  | c :: t => if c.toNat = 93 then some 1 else (brk t).map (· + 1)
def qend : Bool → List UInt8 → Option Nat
  | _, [] => none
  | true, _ :: t => (qend false t).map (· + 1)
  | false, c :: t => if c.toNat = 34 then some 1 else (qend (c.toNat == 92) t).map (· + 1)
def beh : List UInt8 → Nat × Nat
  | [] => (0, 0)
  | c :: t =>
    if c.toNat = 40 then (1, 1) else if c.toNat = 41 then (2, 1) else if lowN c.toNat then (3, 1 + run inwN t)
    else if digN c.toNat || (c.toNat == 45 && digN (hd t)) then (6, 1 + numLen t)
    else if c.toNat = 60 ∧ hd t = 61 then (4, 2)
    else if c.toNat = 61 ∨ c.toNat = 43 ∨ c.toNat = 42 ∨ c.toNat = 60 ∨ c.toNat = 45 then (4, 1)
    else if c.toNat = 91 then ((brk t).elim (0, 0) fun k => (5, 1 + k))
    else if c.toNat = 34 then ((qend false t).elim (0, 0) fun k => (6, 1 + k))
    else if c.toNat = 64 then (7, 1 + run digN t)
    else (0, 0)

section
variable {V : Type} (sd : Nat → List UInt8 → V × Bool)
def fine (l : List UInt8) : Prop := (beh l).1 ≠ 0 ∧ (sd (beh l).1 (l.take (beh l).2)).2 = true
instance (l : List UInt8) : Decidable (fine sd l) := inferInstanceAs (Decidable (_ ∧ _))
end
end LX
end Go.Proofs.Ytfajjphfjilpnab

namespace Go.Proofs.Ytfajjphfjilpnab
open LX
set_option linter.unusedVariables false

/-- The words that are no names. -/
def resv : List (List UInt8) := [[116, 114, 117, 101], [102, 97, 108, 115, 101], [110, 111, 116], [97, 110, 100], [111, 114], [101, 120, 105, 115, 116, 115], [112, 114, 101, 118], [110, 101, 120, 116], [111, 110, 99, 101], [115, 111, 111, 110], [115, 105, 110, 99, 101], [117, 110, 116, 105, 108], [98, 101, 102, 111, 114, 101], [97, 102, 116, 101, 114], [97, 103, 103], [108, 101, 116], [108, 101, 116, 112, 97, 115, 116], [106, 111, 105, 110], [97, 110, 121], [116, 101, 115, 116], [97, 108, 116], [115, 101, 113], [115, 116, 97, 114]]
/-- Are all letters, digits or low lines? -/
def inAll : List UInt8 → Bool
  | [] => true
  | c :: l => inwN c.toNat && inAll l
/-- Is a text a name? -/
def nameL (l : List UInt8) : Bool := decide (1 ≤ l.length) && decide (l.length ≤ 16) && lowN (hd l) && !resv.contains l && inAll l
def nameB (s : ByteArray) : Bool := nameL s.data.toList

end Go.Proofs.Ytfajjphfjilpnab

namespace Go.Proofs.Ytfajjphfjilpnab
open Go.RowKit LX

section
variable {P : Program} {a : Act} {w : World} {Q : Exit → Act → World → Prop}
end


theorem retb {a b : Bool} (h : a = b) : Ending.returned (.bool a) = .returned (.bool b) := by rw [h]
theorem hd_drop (s : ByteArray) (i : Nat) (h : i < s.size) : hd (s.data.toList.drop i) = s[i].toNat := by
  have h' : i < s.data.toList.length := by simpa using h
  rw [List.drop_eq_getElem_cons h']
  rfl
end Go.Proofs.Ytfajjphfjilpnab

namespace Go.Proofs.Ytfajjphfjilpnab
open Go.RowKit LX
set_option linter.unusedVariables false

theorem aletter_any (c : Nat) (w : World) (hc : c < 256) :
    Calls Try.prog 43 #[.int .u8 c] w fun e w' => e = .returned (.bool (lowN c)) ∧ w' = w := by
  go_enter Try.func43, Try.ntmps43
  go_wp2
  all_goals go_ret
  all_goals refine ⟨retb ?_, rfl⟩
  all_goals unfold lowN
  all_goals rw [Bool.eq_iff_iff]
  all_goals simp
  all_goals omega

theorem ne_list {s : ByteArray} {l : List UInt8} (h : ¬ s.data.toList = l) : (s.toList == l) = false := by rw [ByteArray.toList_eq]; simpa using h
theorem of_list {s : ByteArray} {l : List UInt8} (h : s.data.toList = l) : s = ⟨l.toArray⟩ := by
  cases s
  subst h
  simp

set_option maxHeartbeats 4000000 in
set_option maxRecDepth 100000 in
theorem reserved_any (s : ByteArray) (w : World) :
    Calls Try.prog 44 #[.string s] w fun e w' => e = .returned (.bool (resv.contains s.data.toList)) ∧ w' = w := by
  by_cases h0 : s.data.toList = [116, 114, 117, 101]
  · have hs := of_list h0
    subst hs
    go_enter Try.func44, Try.ntmps44
    go_wp2
    go_ret
    exact ⟨rfl, rfl⟩
  by_cases h1 : s.data.toList = [102, 97, 108, 115, 101]
  · have hs := of_list h1
    subst hs
    go_enter Try.func44, Try.ntmps44
    go_wp2
    go_ret
    exact ⟨rfl, rfl⟩
  by_cases h2 : s.data.toList = [110, 111, 116]
  · have hs := of_list h2
    subst hs
    go_enter Try.func44, Try.ntmps44
    go_wp2
    go_ret
    exact ⟨rfl, rfl⟩
  by_cases h3 : s.data.toList = [97, 110, 100]
  · have hs := of_list h3
    subst hs
    go_enter Try.func44, Try.ntmps44
    go_wp2
    go_ret
    exact ⟨rfl, rfl⟩
  by_cases h4 : s.data.toList = [111, 114]
  · have hs := of_list h4
    subst hs
    go_enter Try.func44, Try.ntmps44
    go_wp2
    go_ret
    exact ⟨rfl, rfl⟩
  by_cases h5 : s.data.toList = [101, 120, 105, 115, 116, 115]
  · have hs := of_list h5
    subst hs
    go_enter Try.func44, Try.ntmps44
    go_wp2
    go_ret
    exact ⟨rfl, rfl⟩
  by_cases h6 : s.data.toList = [112, 114, 101, 118]
  · have hs := of_list h6
    subst hs
    go_enter Try.func44, Try.ntmps44
    go_wp2
    go_ret
    exact ⟨rfl, rfl⟩
  by_cases h7 : s.data.toList = [110, 101, 120, 116]
  · have hs := of_list h7
    subst hs
    go_enter Try.func44, Try.ntmps44
    go_wp2
    go_ret
    exact ⟨rfl, rfl⟩
  by_cases h8 : s.data.toList = [111, 110, 99, 101]
  · have hs := of_list h8
    subst hs
    go_enter Try.func44, Try.ntmps44
    go_wp2
    go_ret
    exact ⟨rfl, rfl⟩
  by_cases h9 : s.data.toList = [115, 111, 111, 110]
  · have hs := of_list h9
    subst hs
    go_enter Try.func44, Try.ntmps44
    go_wp2
    go_ret
    exact ⟨rfl, rfl⟩
  by_cases h10 : s.data.toList = [115, 105, 110, 99, 101]
  · have hs := of_list h10
    subst hs
    go_enter Try.func44, Try.ntmps44
    go_wp2
    go_ret
    exact ⟨rfl, rfl⟩
  by_cases h11 : s.data.toList = [117, 110, 116, 105, 108]
  · have hs := of_list h11
    subst hs
    go_enter Try.func44, Try.ntmps44
    go_wp2
    go_ret
    exact ⟨rfl, rfl⟩
  by_cases h12 : s.data.toList = [98, 101, 102, 111, 114, 101]
  · have hs := of_list h12
    subst hs
    go_enter Try.func44, Try.ntmps44
    go_wp2
    go_ret
    exact ⟨rfl, rfl⟩
  by_cases h13 : s.data.toList = [97, 102, 116, 101, 114]
  · have hs := of_list h13
    subst hs
    go_enter Try.func44, Try.ntmps44
    go_wp2
    go_ret
    exact ⟨rfl, rfl⟩
  by_cases h14 : s.data.toList = [97, 103, 103]
  · have hs := of_list h14
    subst hs
    go_enter Try.func44, Try.ntmps44
    go_wp2
    go_ret
    exact ⟨rfl, rfl⟩
  by_cases h15 : s.data.toList = [108, 101, 116]
  · have hs := of_list h15
    subst hs
    go_enter Try.func44, Try.ntmps44
    go_wp2
    go_ret
    exact ⟨rfl, rfl⟩
  by_cases h16 : s.data.toList = [108, 101, 116, 112, 97, 115, 116]
  · have hs := of_list h16
    subst hs
    go_enter Try.func44, Try.ntmps44
    go_wp2
    go_ret
    exact ⟨rfl, rfl⟩
  by_cases h17 : s.data.toList = [106, 111, 105, 110]
  · have hs := of_list h17
    subst hs
    go_enter Try.func44, Try.ntmps44
    go_wp2
    go_ret
    exact ⟨rfl, rfl⟩
  by_cases h18 : s.data.toList = [97, 110, 121]
  · have hs := of_list h18
    subst hs
    go_enter Try.func44, Try.ntmps44
    go_wp2
    go_ret
    exact ⟨rfl, rfl⟩
  by_cases h19 : s.data.toList = [116, 101, 115, 116]
  · have hs := of_list h19
    subst hs
    go_enter Try.func44, Try.ntmps44
    go_wp2
    go_ret
    exact ⟨rfl, rfl⟩
  by_cases h20 : s.data.toList = [97, 108, 116]
  · have hs := of_list h20
    subst hs
    go_enter Try.func44, Try.ntmps44
    go_wp2
    go_ret
    exact ⟨rfl, rfl⟩
  by_cases h21 : s.data.toList = [115, 101, 113]
  · have hs := of_list h21
    subst hs
    go_enter Try.func44, Try.ntmps44
    go_wp2
    go_ret
    exact ⟨rfl, rfl⟩
  by_cases h22 : s.data.toList = [115, 116, 97, 114]
  · have hs := of_list h22
    subst hs
    go_enter Try.func44, Try.ntmps44
    go_wp2
    go_ret
    exact ⟨rfl, rfl⟩
  have g0 := ne_list h0
  have g1 := ne_list h1
  have g2 := ne_list h2
  have g3 := ne_list h3
  have g4 := ne_list h4
  have g5 := ne_list h5
  have g6 := ne_list h6
  have g7 := ne_list h7
  have g8 := ne_list h8
  have g9 := ne_list h9
  have g10 := ne_list h10
  have g11 := ne_list h11
  have g12 := ne_list h12
  have g13 := ne_list h13
  have g14 := ne_list h14
  have g15 := ne_list h15
  have g16 := ne_list h16
  have g17 := ne_list h17
  have g18 := ne_list h18
  have g19 := ne_list h19
  have g20 := ne_list h20
  have g21 := ne_list h21
  have g22 := ne_list h22
  have hn : Hid (resv.contains s.data.toList = false) := by
    unfold Hid resv
    simp [h0, h1, h2, h3, h4, h5, h6, h7, h8, h9, h10, h11, h12, h13, h14, h15, h16, h17, h18, h19, h20, h21, h22]
  rw [hn.out]
  clear h0 h1 h2 h3 h4 h5 h6 h7 h8 h9 h10 h11 h12 h13 h14 h15 h16 h17 h18 h19 h20 h21 h22
  go_enter Try.func44, Try.ntmps44
  go_wp2
  go_ret
  exact ⟨rfl, rfl⟩

theorem nameL_len {l : List UInt8} (h : nameL l = true) : l.length ≤ 16 := by
  unfold nameL at h
  simp at h
  exact h.1.1.1.2
theorem nameL_all {l : List UInt8} (h1 : 1 ≤ l.length) (h2 : l.length ≤ 16) (h3 : lowN (hd l) = true) (h4 : resv.contains l = false) : nameL l = inAll l := by
  unfold nameL
  rw [h3, h4, decide_eq_true h1, decide_eq_true h2]
  rfl

set_option maxHeartbeats 4000000 in
set_option maxRecDepth 100000 in
theorem name_any (s : ByteArray) (w : World) :
    Calls Try.prog 26 #[.string s] w fun e w' => e = .returned (.bool (nameB s)) ∧ w' = w := by
  have hl : s.data.toList.length = s.size := by simp
  by_cases h0 : s.size = 0
  · have hs : s = ⟨#[]⟩ := of_list (l := []) (List.eq_nil_of_length_eq_zero (by omega))
    subst hs
    go_enter Try.func26, Try.ntmps26
    go_wp2
    go_ret
    exact ⟨rfl, rfl⟩
  · have e0 : (s.toList == []) = false := by
      rw [ByteArray.toList_eq]
      simp
      intro h
      apply h0
      rw [← hl, h]
      rfl
    by_cases h1 : 16 < s.size
    · have hn : Hid (nameB s = false) := by
        unfold Hid nameB
        cases h : nameL s.data.toList with
        | false => rfl
        | true => exact absurd (nameL_len h) (by omega)
      have h1' : (16 : Int) < s.size := by omega
      rw [hn.out]
      go_enter Try.func26, Try.ntmps26
      go_wp2
      go_ret
      exact ⟨rfl, rfl⟩
    · have h1' : ¬ (16 : Int) < s.size := by omega
      have hp : 0 < s.size := by omega
      have hh : hd s.data.toList = s[0].toNat := by simpa using hd_drop s 0 hp
      have A : Hid (∀ W : World, Calls Try.prog 43 #[.int .u8 s[0].toNat] W fun e w' => e = .returned (.bool (lowN (hd s.data.toList))) ∧ w' = W) := fun W => by
        rw [hh]
        exact aletter_any _ W s[0].toNat_lt
      have R : Hid (∀ W : World, Calls Try.prog 44 #[.string s] W fun e w' => e = .returned (.bool (resv.contains s.data.toList)) ∧ w' = W) := fun W => reserved_any s W
      by_cases hb : lowN (hd s.data.toList) = true
      · by_cases hr : resv.contains s.data.toList = true
        · have hn : Hid (nameB s = false) := by unfold Hid nameB nameL; rw [hr]; simp
          rw [hn.out]
          rw [hb] at A
          rw [hr] at R
          clear hh hb hr
          go_enter Try.func26, Try.ntmps26
          go_wp2_with fail
          refine (A.out _).mono ?_
          rintro e w1 ⟨rfl, rfl⟩
          go_wp2_with fail
          refine (R.out _).mono ?_
          rintro e w1 ⟨rfl, rfl⟩
          go_wp2
          go_ret
          exact ⟨rfl, rfl⟩
        · have hr' : resv.contains s.data.toList = false := by simpa using hr
          have hn : Hid (nameB s = inAll s.data.toList) := nameL_all (by omega) (by omega) hb hr'
          rw [hn.out]
          rw [hb] at A
          rw [hr'] at R
          clear hh hb hr hr' hn
          obtain ⟨n, en⟩ : ∃ n : Nat, Hid (s.size = n) := ⟨_, rfl⟩
          go_enter Try.func26, Try.ntmps26
          go_wp2_with fail
          refine (A.out _).mono ?_
          rintro e w1 ⟨rfl, rfl⟩
          go_wp2_with fail
          refine (R.out _).mono ?_
          rintro e w1 ⟨rfl, rfl⟩
          clear A R
          go_wp2
          go_loop [24] (fun i => ∃ k : Nat, k ≤ s.size ∧ i = .int .i64 k ∧ Hid (inAll s.data.toList = inAll (s.data.toList.drop k))) (fun i => s.size - (intOf i).toNat)
          case atStart => exact ⟨0, Nat.zero_le _, rfl, by simp [Hid]⟩
          case round =>
            obtain ⟨k, hk, rfl, hrr⟩ := hrel
            by_cases hlt : k < s.size
            · have hd1 : s.data.toList.drop k = s[k] :: s.data.toList.drop (k + 1) := by
                rw [List.drop_eq_getElem_cons (by omega)]
                rfl
              have hr2 : Hid (inAll s.data.toList = (inwN s[k].toNat && inAll (s.data.toList.drop (k + 1)))) := by
                have h := hrr.out
                rw [hd1] at h
                exact h
              have hlt' : (k : Int) < s.size := by omega
              have hC := s[k].toNat_lt
              have A : Hid (∀ W : World, Calls Try.prog 43 #[.int .u8 s[k].toNat] W fun e w' => e = .returned (.bool (lowN s[k].toNat)) ∧ w' = W) := fun W => aletter_any _ W hC
              clear hrr hd1
              obtain ⟨c, ec⟩ : ∃ c : Nat, Hid (s[k].toNat = c) := ⟨_, (show s[k].toNat = s[k].toNat from rfl)⟩
              rw [ec.out] at A hr2 hC
              have ec2 := ec.out
              cases hA : lowN c with
              | true =>
                have hr3 : Hid (inAll s.data.toList = inAll (s.data.toList.drop (k + 1))) := by
                  have h := hr2.out
                  have hi : inwN c = true := by unfold inwN; rw [hA]; rfl
                  rw [hi, Bool.true_and] at h
                  exact h
                rw [hA] at A
                go_wp2_with fail
                refine (A.out _).mono ?_
                rintro e w1 ⟨rfl, rfl⟩
                clear A
                go_wp2
                exact ⟨⟨k + 1, by omega, by go_num, hr3⟩, by simp [intOf]; omega⟩
              | false =>
                rw [hA] at A
                by_cases hI : inwN c = true
                · have hr3 : Hid (inAll s.data.toList = inAll (s.data.toList.drop (k + 1))) := by
                    have h := hr2.out
                    rw [hI, Bool.true_and] at h
                    exact h
                  have hx : (48 ≤ c ∧ c ≤ 57) ∨ c = 95 := by
                    unfold inwN digN at hI
                    rw [hA] at hI
                    simpa using hI
                  rcases hx with ⟨x1, x2⟩ | x3
                  · have y1 : ¬ (c : Int) < 48 := by omega
                    have y2 : ¬ (57 : Int) < c := by omega
                    clear hI
                    go_wp2_with fail
                    refine (A.out _).mono ?_
                    rintro e w1 ⟨rfl, rfl⟩
                    clear A
                    go_wp2
                    exact ⟨⟨k + 1, by omega, by go_num, hr3⟩, by simp [intOf]; omega⟩
                  · subst x3
                    clear hI
                    go_wp2_with fail
                    refine (A.out _).mono ?_
                    rintro e w1 ⟨rfl, rfl⟩
                    clear A
                    go_wp2
                    exact ⟨⟨k + 1, by omega, by go_num, hr3⟩, by simp [intOf]; omega⟩
                · have hI' : inwN c = false := by simpa using hI
                  have hr3 : Hid (inAll s.data.toList = false) := by
                    have h := hr2.out
                    rw [hI', Bool.false_and] at h
                    exact h
                  have hx : (c < 48 ∨ 57 < c) ∧ c ≠ 95 := by
                    unfold inwN digN at hI'
                    rw [hA] at hI'
                    simp at hI'
                    omega
                  have y3 : ((c : Int) == 95) = false := by simp; omega
                  clear hI hI'
                  rcases hx.1 with x1 | x1
                  · have y1 : (c : Int) < 48 := by omega
                    go_wp2_with fail
                    refine (A.out _).mono ?_
                    rintro e w1 ⟨rfl, rfl⟩
                    clear A
                    go_wp2
                    go_ret
                    exact ⟨retb hr3.out.symm, rfl⟩
                  · have y1 : ¬ (c : Int) < 48 := by omega
                    have y2 : (57 : Int) < c := by omega
                    go_wp2_with fail
                    refine (A.out _).mono ?_
                    rintro e w1 ⟨rfl, rfl⟩
                    clear A
                    go_wp2
                    go_ret
                    exact ⟨retb hr3.out.symm, rfl⟩
            · have hlt' : ¬ (k : Int) < s.size := by omega
              have hr3 : Hid (inAll s.data.toList = true) := by
                have h := hrr.out
                rw [List.drop_eq_nil_of_le (by omega)] at h
                exact h
              go_wp2
              go_ret
              exact ⟨retb hr3.out.symm, rfl⟩
      · have hb' : lowN (hd s.data.toList) = false := by simpa using hb
        have hn : Hid (nameB s = false) := by unfold Hid nameB nameL; rw [hb']; simp
        rw [hn.out]
        rw [hb'] at A
        clear hh hb hb'
        go_enter Try.func26, Try.ntmps26
        go_wp2_with fail
        refine (A.out _).mono ?_
        rintro e w1 ⟨rfl, rfl⟩
        go_wp2
        go_ret
        exact ⟨rfl, rfl⟩

end Go.Proofs.Ytfajjphfjilpnab

namespace Go.Proofs.Ytfajjphfjilpnab
open Go.RowKit Go.Extern.Stop Go.Stop Go.Extern
set_option linter.unusedVariables false

end Go.Proofs.Ytfajjphfjilpnab

namespace Go.Proofs.Ytfajjphfjilpnab
open Go.RowKit Go.Extern.Stop Go.Stop Go.Extern
set_option linter.unusedVariables false

end Go.Proofs.Ytfajjphfjilpnab

namespace Go.Proofs.Ytfajjphfjilpnab
open Go.RowKit Go.Extern.Stop Go.Stop Go.Extern
set_option linter.unusedVariables false

theorem bgX {n : Nat} {W0 W w1 : World} (h0 : Below n W0 W) (hn : n ≤ W.heap.size) (hb : Below W.heap.size W w1) : Below n W0 w1 ∧ n ≤ w1.heap.size := ⟨h0.trans (hb.mono hn), Nat.le_trans hn hb.size⟩
end Go.Proofs.Ytfajjphfjilpnab

namespace Go.Proofs.Ytfajjphfjilpnab
open Go.RowKit LX Go.Shelf
set_option linter.unusedVariables false

end Go.Proofs.Ytfajjphfjilpnab

namespace Go.Proofs.Ytfajjphfjilpnab

/-- How far a number is from 0. -/
def sz (n : Int) : Int := (n.natAbs : Int)
/-- The greatest common divisor of two numbers from 0 on. -/
def gc (a b : Int) : Int := ((Nat.gcd a.toNat b.toNat : Nat) : Int)

theorem sz_of_neg {n : Int} (h : n < 0) : sz n = -n := by unfold sz; omega
theorem sz_of_nonneg {n : Int} (h : 0 ≤ n) : sz n = n := by unfold sz; omega
theorem sz_nonneg (n : Int) : 0 ≤ sz n := by unfold sz; omega
theorem sz_le {n : Int} (h1 : -9223372036854775808 ≤ n) (h2 : n ≤ 9223372036854775807) : sz n ≤ 9223372036854775808 := by unfold sz; omega
theorem gc_zero (a : Int) (h : 0 ≤ a) : gc a 0 = a := by unfold gc; simp; omega
theorem gc_step (a b : Int) (ha : 0 ≤ a) (hb : 0 < b) : gc b (a % b) = gc a b := by
  unfold gc
  have e : (a % b).toNat = a.toNat % b.toNat := by
    obtain ⟨x, rfl⟩ := Int.eq_ofNat_of_zero_le ha
    obtain ⟨y, rfl⟩ := Int.eq_ofNat_of_zero_le (Int.le_of_lt hb)
    simp [← Int.natCast_emod]
  rw [e, Nat.gcd_comm b.toNat, ← Nat.gcd_rec, Nat.gcd_comm]

/-- A number by its sign and size. -/
def sg (b : Bool) (n : Int) : Int := if b then -n else n
/-- Does a fraction in its least form fit 64 bits? What is told of it: N, D, the error. -/
def okF (p q : Int) : Bool := decide (-9223372036854775808 ≤ p ∧ p ≤ 9223372036854775807 ∧ q ≤ 9223372036854775807)
def outN (p q : Int) : Int := if okF p q then p else 0
def outD (p q : Int) : Int := if okF p q then q else 0
def outE (p q : Int) : Int := if okF p q then 0 else 10

/-- p / q, q above 0, in its least form, if that fits. -/
def rN (p q : Int) : Int := outN (p / gc (sz p) q) (q / gc (sz p) q)
def rD (p q : Int) : Int := outD (p / gc (sz p) q) (q / gc (sz p) q)
def rE (p q : Int) : Int := outE (p / gc (sz p) q) (q / gc (sz p) q)

theorem sz_sg (b : Bool) (n : Int) : sz (sg b n) = sz n := by unfold sz sg; split <;> omega
theorem gc_pos (a b : Int) (hb : 0 < b) : 0 < gc a b := by
  unfold gc
  have : 0 < Nat.gcd a.toNat b.toNat := Nat.gcd_pos_of_pos_right _ (by omega)
  omega
theorem gc_dvd_left (a b : Int) (ha : 0 ≤ a) : gc a b ∣ a := by
  unfold gc
  have h := Int.natCast_dvd_natCast.2 (Nat.gcd_dvd_left a.toNat b.toNat)
  have e : ((a.toNat : Nat) : Int) = a := by omega
  rwa [e] at h
theorem sg_div (b : Bool) (n g : Int) (h : g ∣ n) : sg b (n / g) = sg b n / g := by
  unfold sg; split
  · exact (Int.neg_ediv_of_dvd h).symm
  · rfl
theorem sg_sz (n : Int) (b : Bool) : sg (decide (n < 0) != b) (sz n) = sg b n := by
  unfold sg sz
  by_cases h : n < 0 <;> cases b <;> simp [h] <;> omega
theorem div_le_self (a g : Int) (ha : 0 ≤ a) (hg : 0 < g) : a / g ≤ a := by
  have h1 := Int.ediv_mul_le a (show g ≠ 0 by omega)
  have h2 : 0 ≤ a / g := Int.ediv_nonneg ha (by omega)
  have h3 : a / g * 1 ≤ a / g * g := Int.mul_le_mul_of_nonneg_left (by omega) h2
  omega

end Go.Proofs.Ytfajjphfjilpnab

namespace Go.Proofs.Ytfajjphfjilpnab
open Go.RowKit

theorem ret_int {k : IntKind} {a b : Int} (h : a = b) : Ending.returned (.int k a) = .returned (.int k b) := by rw [h]

theorem bdrewN {B : Nat} {a w : World} (n : Nat) (h : Below B a w) : Below B a (w.drewN n) := ⟨h.os, h.tape, h.output, h.size, h.block⟩

/-- What a caller knows of the world behind a callee that only makes new memory: old cells and marks, the heap's size, and that nothing older has turned. -/
theorem bf {w W w1 : World} (h0 : Below w.heap.size w W) (hb : Below W.heap.size W w1) :
    (∀ b o, b < W.heap.size → w1.cell? ⟨b, o, none⟩ = W.cell? ⟨b, o, none⟩) ∧ (∀ b o, b < W.heap.size → w1.frozen? ⟨b, o, none⟩ = W.frozen? ⟨b, o, none⟩) ∧ W.heap.size ≤ w1.heap.size ∧ Below w.heap.size w w1 :=
  ⟨fun b o h => hb.cell (p := ⟨b, o, none⟩) h, fun b o h => hb.frozen (p := ⟨b, o, none⟩) h, hb.size, h0.trans (hb.mono h0.size)⟩

set_option maxHeartbeats 400000 in
theorem size_any (n : Int) (w : World) (h1 : -9223372036854775808 ≤ n) (h2 : n ≤ 9223372036854775807) :
    Calls Try.prog 97 #[.int .i64 n] w fun e w' => e = .returned (.int .u64 (sz n)) ∧ w' = w := by
  by_cases h : n < 0
  · go_enter Try.func97, Try.ntmps97
    go_wp2
    go_ret
    exact ⟨ret_int (by rw [sz_of_neg h]; go_arith), rfl⟩
  · have h' : 0 ≤ n := by omega
    go_enter Try.func97, Try.ntmps97
    go_wp2
    go_ret
    exact ⟨ret_int (by rw [sz_of_nonneg h']), rfl⟩

set_option maxHeartbeats 400000 in
theorem divisor_any (a b : Int) (w : World) (ha : 0 ≤ a) (hb : 0 ≤ b) (ha' : a ≤ 18446744073709551615) (hb' : b ≤ 18446744073709551615) :
    Calls Try.prog 98 #[.int .u64 a, .int .u64 b] w fun e w' => e = .returned (.int .u64 (gc a b)) ∧ ∃ k, w' = w.drewN k := by
  go_enter Try.func98, Try.ntmps98
  go_wp2
  go_loopw [0, 1] (fun u v wr => ∃ x y : Int, 0 ≤ x ∧ 0 ≤ y ∧ x ≤ 18446744073709551615 ∧ y ≤ 18446744073709551615 ∧ Hid (gc x y = gc a b) ∧ u = .int .u64 x ∧ v = .int .u64 y ∧ ∃ k, wr = w.drewN k) (fun _ v _ => (intOf v).toNat)
  case atStart => exact ⟨a, b, ha, hb, ha', hb', rfl, rfl, rfl, 0, rfl⟩
  case round =>
    obtain ⟨x, y, hx, hy, hx', hy', hg, rfl, rfl, k, rfl⟩ := hrel
    by_cases hz : y = 0
    · subst hz
      go_wp2
      go_ret
      exact ⟨ret_int (by rw [← hg.out, gc_zero _ hx]), k, rfl⟩
    · have hz' : (y != 0) = true := by simpa using hz
      have hp : 0 < y := by omega
      go_wp2
      go_quiet (fail)
      go_wp2
      exact ⟨⟨y, x % y, hy, Int.emod_nonneg _ hz, hy', by have := Int.emod_lt_of_pos x hp; omega, (gc_step x y hx hp).trans hg.out, rfl, rfl, k + nq, World.drewN_drewN ..⟩, by have := Int.emod_lt_of_pos x hp; have := Int.emod_nonneg x hz; simp [intOf]; omega⟩

theorem out_yes {p q : Int} (h1 : -9223372036854775808 ≤ p) (h2 : p ≤ 9223372036854775807) (h3 : q ≤ 9223372036854775807) : outN p q = p ∧ outD p q = q ∧ outE p q = 0 := by
  have h : okF p q = true := by simp [okF]; omega
  simp [outN, outD, outE, h]
theorem out_no {p q : Int} (h : ¬ (-9223372036854775808 ≤ p ∧ p ≤ 9223372036854775807 ∧ q ≤ 9223372036854775807)) : outN p q = 0 ∧ outD p q = 0 ∧ outE p q = 10 := by
  have h : okF p q = false := by simp [okF]; omega
  simp [outN, outD, outE, h]

theorem ret_frac {a b c a' b' c' : Int} (h1 : a = a') (h2 : b = b') (h3 : c = c') : Ending.returned (.tuple #[.agg #[.int .i64 a, .int .i64 b], .int .i64 c]) = Ending.returned (.tuple #[.agg #[.int .i64 a', .int .i64 b'], .int .i64 c']) := by rw [h1, h2, h3]

set_option maxHeartbeats 1000000 in
theorem fit_any (b : Bool) (n d : Int) (w : World) (h0 : 0 ≤ n) (h1 : n ≤ 18446744073709551615) (g0 : 0 ≤ d) (g1 : d ≤ 18446744073709551615) :
    Calls Try.prog 99 #[.agg #[.bool b, .int .u64 n, .int .u64 d]] w fun e w' => e = .returned (.tuple #[.agg #[.int .i64 (outN (sg b n) d), .int .i64 (outD (sg b n) d)], .int .i64 (outE (sg b n) d)]) ∧ Below w.heap.size w w' := by
  cases b
  · by_cases a1 : n ≤ 9223372036854775807
    · by_cases a2 : d ≤ 9223372036854775807
      · obtain ⟨e1, e2, e3⟩ := out_yes (p := n) (q := d) (by omega) a1 a2
        have H1 : Hid (outN (sg false n) d = n) := e1
        have H2 : Hid (outD (sg false n) d = d) := e2
        have H3 : Hid (outE (sg false n) d = 0) := e3
        clear e1 e2 e3
        go_enter Try.func99, Try.ntmps99
        go_wp2
        go_returns
        exact ⟨ret_frac H1.out.symm H2.out.symm H3.out.symm, by go_grown⟩
      · obtain ⟨e1, e2, e3⟩ := out_no (p := n) (q := d) (by omega)
        have H1 : Hid (outN (sg false n) d = 0) := e1
        have H2 : Hid (outD (sg false n) d = 0) := e2
        have H3 : Hid (outE (sg false n) d = 10) := e3
        clear e1 e2 e3
        go_enter Try.func99, Try.ntmps99
        go_wp2
        go_returns
        exact ⟨ret_frac H1.out.symm H2.out.symm H3.out.symm, by go_grown⟩
    · obtain ⟨e1, e2, e3⟩ := out_no (p := n) (q := d) (by omega)
      have H1 : Hid (outN (sg false n) d = 0) := e1
      have H2 : Hid (outD (sg false n) d = 0) := e2
      have H3 : Hid (outE (sg false n) d = 10) := e3
      clear e1 e2 e3
      go_enter Try.func99, Try.ntmps99
      go_wp2
      go_returns
      exact ⟨ret_frac H1.out.symm H2.out.symm H3.out.symm, by go_grown⟩
  · by_cases a1 : n ≤ 9223372036854775808
    · by_cases a2 : d ≤ 9223372036854775807
      · obtain ⟨e1, e2, e3⟩ := out_yes (p := -n) (q := d) (by omega) (by omega) a2
        have H1 : Hid (outN (sg true n) d = -n) := e1
        have H2 : Hid (outD (sg true n) d = d) := e2
        have H3 : Hid (outE (sg true n) d = 0) := e3
        clear e1 e2 e3
        go_enter Try.func99, Try.ntmps99
        go_wp2
        go_returns
        exact ⟨ret_frac (H1.out.trans (by go_arith)).symm H2.out.symm H3.out.symm, by go_grown⟩
      · obtain ⟨e1, e2, e3⟩ := out_no (p := -n) (q := d) (by omega)
        have H1 : Hid (outN (sg true n) d = 0) := e1
        have H2 : Hid (outD (sg true n) d = 0) := e2
        have H3 : Hid (outE (sg true n) d = 10) := e3
        clear e1 e2 e3
        go_enter Try.func99, Try.ntmps99
        go_wp2
        go_returns
        exact ⟨ret_frac H1.out.symm H2.out.symm H3.out.symm, by go_grown⟩
    · obtain ⟨e1, e2, e3⟩ := out_no (p := -n) (q := d) (by omega)
      have H1 : Hid (outN (sg true n) d = 0) := e1
      have H2 : Hid (outD (sg true n) d = 0) := e2
      have H3 : Hid (outE (sg true n) d = 10) := e3
      clear e1 e2 e3
      go_enter Try.func99, Try.ntmps99
      go_wp2
      go_returns
      exact ⟨ret_frac H1.out.symm H2.out.symm H3.out.symm, by go_grown⟩

end Go.Proofs.Ytfajjphfjilpnab

namespace Go.Proofs.Ytfajjphfjilpnab
open Go.RowKit

theorem u64_tdiv (a b : Int) (ha : 0 ≤ a) (ha' : a ≤ 18446744073709551615) (hb : 0 < b) : IntKind.u64.wrap (a.tdiv b) = a / b := by
  rw [Int.tdiv_eq_ediv_of_nonneg ha, IntKind.wrap_u64]
  have h1 := div_le_self a b ha hb
  have h2 : 0 ≤ a / b := Int.ediv_nonneg ha (by omega)
  omega

set_option maxHeartbeats 400000 in
theorem of_zero (n : Int) (w : World) :
    Calls Try.prog 96 #[.int .i64 n, .int .i64 0] w fun e w' => e = .returned (.tuple #[.agg #[.int .i64 0, .int .i64 0], .int .i64 11]) ∧ Below w.heap.size w w' := by
  go_enter Try.func96, Try.ntmps96
  go_wp2
  go_returns
  exact ⟨rfl, by go_grown⟩

set_option maxHeartbeats 400000 in
theorem of_raw (n d : Int) (w : World) (h1 : -9223372036854775808 ≤ n) (h2 : n ≤ 9223372036854775807) (g1 : -9223372036854775808 ≤ d) (g2 : d ≤ 9223372036854775807) (hd : (d == 0) = false) :
    Calls Try.prog 96 #[.int .i64 n, .int .i64 d] w fun e w' => (∃ b : Bool, b = (!(decide (n < 0) == decide (d < 0))) ∧ e = .returned (.tuple #[.agg #[.int .i64 (outN (sg b (sz n / gc (sz n) (sz d))) (sz d / gc (sz n) (sz d))), .int .i64 (outD (sg b (sz n / gc (sz n) (sz d))) (sz d / gc (sz n) (sz d)))], .int .i64 (outE (sg b (sz n / gc (sz n) (sz d))) (sz d / gc (sz n) (sz d)))])) ∧ Below w.heap.size w w' := by
  have hd' : d ≠ 0 := by simpa using hd
  have hz : 0 < sz d := by unfold sz; omega
  have hz2 := sz_nonneg n
  have hz3 := sz_le h1 h2
  have hz4 := sz_le g1 g2
  have hp := gc_pos (sz n) (sz d) hz
  have q1 : 0 ≤ sz n / gc (sz n) (sz d) := Int.ediv_nonneg hz2 (by omega)
  have q2 : 0 ≤ sz d / gc (sz n) (sz d) := Int.ediv_nonneg (by omega) (by omega)
  have q3 := div_le_self (sz n) _ hz2 hp
  have q4 := div_le_self (sz d) _ (by omega) hp
  have hne : ¬ gc (sz n) (sz d) = 0 := by omega
  have t1 := u64_tdiv (sz n) (gc (sz n) (sz d)) hz2 (by omega) hp
  have t2 := u64_tdiv (sz d) (gc (sz n) (sz d)) (by omega) (by omega) hp
  clear hd'
  go_enter Try.func96, Try.ntmps96
  go_wp2_with (first
    | (go_at_call 97; refine (size_any _ _ (by omega) (by omega)).mono ?_; rintro e w' ⟨rfl, rfl⟩)
    | (go_at_call 98; refine (divisor_any _ _ _ (by omega) (by omega) (by omega) (by omega)).mono ?_; rintro e w' ⟨rfl, k, rfl⟩))
  go_region_held3 (fun _ => True) (trivial)
    (first
      | (go_at_call 99; refine (fit_any _ _ _ _ q1 (by omega) q2 (by omega)).mono ?_; rintro e w1 ⟨rfl, hb⟩; obtain ⟨hc, hf, hz5, hB⟩ := bf (w := w) (bdrewN _ (by go_grown)) hb))
  go_wp2
  refine bodyPost_ret (by simp [results, Try.results96, go_sem, hc]; try rfl) rfl ?_
  refine ⟨⟨_, rfl, rfl⟩, ?_⟩
  go_grown

/-- The numerator that Of takes to the least form: d's sign goes there. -/
def ofP (n d : Int) : Int := sg (decide (d < 0)) n

theorem of_any (n d : Int) (w : World) (h1 : -9223372036854775808 ≤ n) (h2 : n ≤ 9223372036854775807) (g1 : -9223372036854775808 ≤ d) (g2 : d ≤ 9223372036854775807) (hd : (d == 0) = false) :
    Calls Try.prog 96 #[.int .i64 n, .int .i64 d] w fun e w' => e = .returned (.tuple #[.agg #[.int .i64 (rN (ofP n d) (sz d)), .int .i64 (rD (ofP n d) (sz d))], .int .i64 (rE (ofP n d) (sz d))]) ∧ Below w.heap.size w w' := by
  refine (of_raw n d w h1 h2 g1 g2 hd).mono ?_
  rintro e w' ⟨⟨b, rfl, rfl⟩, hb⟩
  refine ⟨?_, hb⟩
  have e1 : sg (!(decide (n < 0) == decide (d < 0))) (sz n / gc (sz n) (sz d)) = ofP n d / gc (sz n) (sz d) := by
    rw [sg_div _ _ _ (gc_dvd_left _ _ (sz_nonneg n))]
    exact congrArg (· / gc (sz n) (sz d)) (sg_sz n (decide (d < 0)))
  have e2 : sz (ofP n d) = sz n := sz_sg _ _
  unfold rN rD rE
  rw [e1, e2]

/-- What Of tells of any two numbers. -/
def oN (n d : Int) : Int := if d = 0 then 0 else rN (ofP n d) (sz d)
def oD (n d : Int) : Int := if d = 0 then 0 else rD (ofP n d) (sz d)
def oE (n d : Int) : Int := if d = 0 then 11 else rE (ofP n d) (sz d)

theorem of_all (n d : Int) (w : World) (h1 : -9223372036854775808 ≤ n) (h2 : n ≤ 9223372036854775807) (g1 : -9223372036854775808 ≤ d) (g2 : d ≤ 9223372036854775807) :
    Calls Try.prog 96 #[.int .i64 n, .int .i64 d] w fun e w' => e = .returned (.tuple #[.agg #[.int .i64 (oN n d), .int .i64 (oD n d)], .int .i64 (oE n d)]) ∧ Below w.heap.size w w' := by
  unfold oN oD oE
  by_cases h : d = 0
  · subst h; simpa using of_zero n w
  · simpa [h] using of_any n d w h1 h2 g1 g2 (by simpa using h)

/-- May a fraction be, by Of alone? -/
def mayB (n d : Int) : Bool := oE n d == 0 && (oN n d == n && oD n d == d)

end Go.Proofs.Ytfajjphfjilpnab

namespace Go.Proofs
open Go.Shelf
def Try.laysM316_ren : Go.Shelf.Ren := ⟨fun | 316 => 46 | n => n, fun | 9 => 9 | 3 => 3 | 4 => 4 | 37 => 84 | 0 => 0 | 127 => 85 | 5 => 5 | n => n, fun | n => n⟩
theorem Try.laysM316 : Go.Proofs.LaysM.n316 Try.prog Try.laysM316_ren := {
  mixed := by kernel_rfl
  f316 := Try.func46.trans (congrArg some (by kernel_rfl))
  t0 := Try.underlying0
  a0 := Try.isAgg0
  z0 := Try.sizeOf0
  v0 := Try.zeroValue0
  t3 := Try.underlying3
  a3 := Try.isAgg3
  z3 := Try.sizeOf3
  v3 := Try.zeroValue3
  t4 := Try.underlying4
  a4 := Try.isAgg4
  z4 := Try.sizeOf4
  v4 := Try.zeroValue4
  t9 := Try.underlying9
  a9 := Try.isAgg9
  z9 := Try.sizeOf9
  v9 := Try.zeroValue9
  t37 := Try.underlying84
  a37 := Try.isAgg84
  z37 := Try.sizeOf84
  v37 := Try.zeroValue84
  t127 := Try.underlying85
  a127 := Try.isAgg85
  z127 := Try.sizeOf85
  v127 := Try.zeroValue85
  t5 := Try.underlying5
  a5 := Try.isAgg5
  z5 := Try.sizeOf5
  v5 := Try.zeroValue5
  i0 := by kernel_rfl
  i3 := by kernel_rfl
  i4 := by kernel_rfl
  i5 := by kernel_rfl
  i9 := by kernel_rfl
  i37 := by kernel_rfl
  i127 := by kernel_rfl }
open Go.RowKit in
theorem Try.stringslite_Clone (s : ByteArray) (w : World) (hlim : s.size ≤ 281474976710656) :
    Calls Try.prog 46 #[.string s] w fun e w' => e = .returned (.string s) ∧ Below w.heap.size w w' := Any.stringslite_Clone Try.laysM316 s w hlim
def Try.lays190_ren : Go.Shelf.Ren := ⟨fun | 190 => 50 | 125 => 61 | 258 => 60 | 128 => 78 | 129 => 79 | 302 => 69 | 303 => 70 | 304 => 71 | 305 => 72 | 306 => 73 | 307 => 74 | 308 => 75 | 309 => 76 | 310 => 77 | 333 => 88 | 329 => 89 | 330 => 90 | 334 => 91 | 335 => 92 | 336 => 93 | 344 => 95 | n => n, fun | 31 => 22 | 9 => 9 | 3 => 3 | 46 => 94 | 0 => 0 | 51 => 109 | 53 => 111 | 4 => 4 | 183 => 101 | 182 => 100 | 131 => 106 | 5 => 5 | 218 => 123 | 222 => 127 | 228 => 130 | 229 => 131 | n => n, fun | n => n⟩
theorem Try.lays190 : Go.Proofs.Lays.n190 Try.prog Try.lays190_ren := {
  mixed := by kernel_rfl
  f125 := Try.func61.trans (congrArg some (by kernel_rfl))
  f128 := Try.func78.trans (congrArg some (by kernel_rfl))
  f129 := Try.func79.trans (congrArg some (by kernel_rfl))
  f190 := Try.func50.trans (congrArg some (by kernel_rfl))
  f258 := Try.func60.trans (congrArg some (by kernel_rfl))
  f302 := Try.func69.trans (congrArg some (by kernel_rfl))
  f303 := Try.func70.trans (congrArg some (by kernel_rfl))
  f304 := Try.func71.trans (congrArg some (by kernel_rfl))
  f305 := Try.func72.trans (congrArg some (by kernel_rfl))
  f306 := Try.func73.trans (congrArg some (by kernel_rfl))
  f307 := Try.func74.trans (congrArg some (by kernel_rfl))
  f308 := Try.func75.trans (congrArg some (by kernel_rfl))
  f309 := Try.func76.trans (congrArg some (by kernel_rfl))
  f310 := Try.func77.trans (congrArg some (by kernel_rfl))
  f329 := Try.func89.trans (congrArg some (by kernel_rfl))
  f330 := Try.func90.trans (congrArg some (by kernel_rfl))
  f333 := Try.func88.trans (congrArg some (by kernel_rfl))
  f334 := Try.func91.trans (congrArg some (by kernel_rfl))
  f335 := Try.func92.trans (congrArg some (by kernel_rfl))
  f336 := Try.func93.trans (congrArg some (by kernel_rfl))
  f344 := Try.func95.trans (congrArg some (by kernel_rfl))
  t0 := Try.underlying0
  a0 := Try.isAgg0
  z0 := Try.sizeOf0
  v0 := Try.zeroValue0
  t3 := Try.underlying3
  a3 := Try.isAgg3
  z3 := Try.sizeOf3
  v3 := Try.zeroValue3
  t4 := Try.underlying4
  a4 := Try.isAgg4
  z4 := Try.sizeOf4
  v4 := Try.zeroValue4
  t5 := Try.underlying5
  a5 := Try.isAgg5
  z5 := Try.sizeOf5
  v5 := Try.zeroValue5
  t9 := Try.underlying9
  a9 := Try.isAgg9
  z9 := Try.sizeOf9
  v9 := Try.zeroValue9
  t31 := Try.underlying22
  a31 := Try.isAgg22
  z31 := Try.sizeOf22
  v31 := Try.zeroValue22
  t46 := Try.underlying94
  a46 := Try.isAgg94
  z46 := Try.sizeOf94
  v46 := Try.zeroValue94
  t51 := Try.underlying109
  a51 := Try.isAgg109
  z51 := Try.sizeOf109
  v51 := Try.zeroValue109
  t53 := Try.underlying111
  a53 := Try.isAgg111
  z53 := Try.sizeOf111
  v53 := Try.zeroValue111
  t131 := Try.underlying106
  a131 := Try.isAgg106
  z131 := Try.sizeOf106
  v131 := Try.zeroValue106
  t182 := Try.underlying100
  a182 := Try.isAgg100
  z182 := Try.sizeOf100
  v182 := Try.zeroValue100
  t183 := Try.underlying101
  a183 := Try.isAgg101
  z183 := Try.sizeOf101
  v183 := Try.zeroValue101
  t218 := Try.underlying123
  a218 := Try.isAgg123
  z218 := Try.sizeOf123
  v218 := Try.zeroValue123
  t222 := Try.underlying127
  a222 := Try.isAgg127
  z222 := Try.sizeOf127
  v222 := Try.zeroValue127
  t228 := Try.underlying130
  a228 := Try.isAgg130
  z228 := Try.sizeOf130
  v228 := Try.zeroValue130
  t229 := Try.underlying131
  a229 := Try.isAgg131
  z229 := Try.sizeOf131
  v229 := Try.zeroValue131 }
def Try.lays110_ren : Go.Shelf.Ren := ⟨fun | 110 => 65 | 109 => 86 | n => n, fun | 31 => 22 | 9 => 9 | 4 => 4 | 3 => 3 | 0 => 0 | n => n, fun | n => n⟩
theorem Try.lays110 : Go.Proofs.Lays.n110 Try.prog Try.lays110_ren := {
  mixed := by kernel_rfl
  f109 := Try.func86.trans (congrArg some (by kernel_rfl))
  f110 := Try.func65.trans (congrArg some (by kernel_rfl))
  t0 := Try.underlying0
  a0 := Try.isAgg0
  z0 := Try.sizeOf0
  v0 := Try.zeroValue0
  t3 := Try.underlying3
  a3 := Try.isAgg3
  z3 := Try.sizeOf3
  v3 := Try.zeroValue3
  t4 := Try.underlying4
  a4 := Try.isAgg4
  z4 := Try.sizeOf4
  v4 := Try.zeroValue4
  t9 := Try.underlying9
  a9 := Try.isAgg9
  z9 := Try.sizeOf9
  v9 := Try.zeroValue9
  t31 := Try.underlying22
  a31 := Try.isAgg22
  z31 := Try.sizeOf22
  v31 := Try.zeroValue22 }
open Go.Lib in
theorem Try.slices_Contains_string (b off n c : Nat) (zs : List ByteArray) (x : ByteArray) (w : World) (hz : n ≤ zs.length) (hbig : n ≤ 9223372036854775807) (hc : ∀ j, j < zs.length → w.cell? ⟨b, off + j, none⟩ = some (.string (zs.getD j ByteArray.empty))) :
    Calls Try.prog 65 #[.slice (some ⟨b, off, none⟩) n c, .string x] w fun e w' => e = .returned (.bool (Lib.containsS (zs.take n) x)) ∧ w' = w := Any.slices_Contains_string Try.lays110 b off n c zs x w hz hbig hc
open Go.Lib in
theorem Try.slices_Contains_string_empty (a : Option Addr) (c : Nat) (x : ByteArray) (w : World) :
    Calls Try.prog 65 #[.slice a 0 c, .string x] w fun e w' => e = .returned (.bool false) ∧ w' = w := Any.slices_Contains_string_empty Try.lays110 a c x w
def Try.lays193_ren : Go.Shelf.Ren := ⟨fun | 193 => 27 | n => n, fun | 31 => 22 | 9 => 9 | 4 => 4 | 3 => 3 | 0 => 0 | n => n, fun | n => n⟩
theorem Try.lays193 : Go.Proofs.Lays.n193 Try.prog Try.lays193_ren := {
  mixed := by kernel_rfl
  f193 := Try.func27.trans (congrArg some (by kernel_rfl))
  t0 := Try.underlying0
  a0 := Try.isAgg0
  z0 := Try.sizeOf0
  v0 := Try.zeroValue0
  t3 := Try.underlying3
  a3 := Try.isAgg3
  z3 := Try.sizeOf3
  v3 := Try.zeroValue3
  t4 := Try.underlying4
  a4 := Try.isAgg4
  z4 := Try.sizeOf4
  v4 := Try.zeroValue4
  t9 := Try.underlying9
  a9 := Try.isAgg9
  z9 := Try.sizeOf9
  v9 := Try.zeroValue9
  t31 := Try.underlying22
  a31 := Try.isAgg22
  z31 := Try.sizeOf22
  v31 := Try.zeroValue22 }
open Go.RowKit Go.Lib in
theorem Try.slices_Equal_string (b1 o1 n c b2 o2 m d : Nat) (xs ys : List ByteArray) (w : World) (hx : n ≤ xs.length) (hy : m ≤ ys.length) (hbig : n ≤ 9223372036854775807) (hbig2 : m ≤ 9223372036854775807) (hc1 : ∀ j, j < xs.length → w.cell? ⟨b1, o1 + j, none⟩ = some (.string (xs.getD j ByteArray.empty))) (hc2 : ∀ j, j < ys.length → w.cell? ⟨b2, o2 + j, none⟩ = some (.string (ys.getD j ByteArray.empty))) :
    Calls Try.prog 27 #[.slice (some ⟨b1, o1, none⟩) n c, .slice (some ⟨b2, o2, none⟩) m d] w fun e w' => e = .returned (.bool (decide (xs.take n = ys.take m))) ∧ ∃ q, w' = w.drewN q := Any.slices_Equal_string Try.lays193 b1 o1 n c b2 o2 m d xs ys w hx hy hbig hbig2 hc1 hc2
open Go.RowKit Go.Lib in
theorem Try.slices_Equal_string_empty (a1 a2 : Option Addr) (c m d : Nat) (w : World) (hbig2 : m ≤ 9223372036854775807) :
    Calls Try.prog 27 #[.slice a1 0 c, .slice a2 m d] w fun e w' => e = .returned (.bool (decide (m = 0))) ∧ w' = w := Any.slices_Equal_string_empty Try.lays193 a1 a2 c m d w hbig2
def Try.lays194_ren : Go.Shelf.Ren := ⟨fun | 194 => 51 | n => n, fun | 31 => 22 | 9 => 9 | 3 => 3 | 4 => 4 | 0 => 0 | n => n, fun | n => n⟩
theorem Try.lays194 : Go.Proofs.Lays.n194 Try.prog Try.lays194_ren := {
  mixed := by kernel_rfl
  f194 := Try.func51.trans (congrArg some (by kernel_rfl))
  t0 := Try.underlying0
  a0 := Try.isAgg0
  z0 := Try.sizeOf0
  v0 := Try.zeroValue0
  t3 := Try.underlying3
  a3 := Try.isAgg3
  z3 := Try.sizeOf3
  v3 := Try.zeroValue3
  t4 := Try.underlying4
  a4 := Try.isAgg4
  z4 := Try.sizeOf4
  v4 := Try.zeroValue4
  t9 := Try.underlying9
  a9 := Try.isAgg9
  z9 := Try.sizeOf9
  v9 := Try.zeroValue9
  t31 := Try.underlying22
  a31 := Try.isAgg22
  z31 := Try.sizeOf22
  v31 := Try.zeroValue22 }
open Go.RowKit Go.Lib Go.Sort in
theorem Try.slices_Compact_string (blk off cap : Nat) (zs : List (List UInt8)) (w : World) (hH : Holds encStr w blk off zs.toArray) (hsz : zs.length ≤ 9223372036854775807) (hcap : zs.length ≤ cap) :
    Calls Try.prog 51 #[.slice (some ⟨blk, off, none⟩) zs.length cap] w fun e w' => e = .returned (.slice (some ⟨blk, off, none⟩) (Lib.compact zs).length cap) ∧ ∃ q, w' = putRow encStr (Sort.ahead w q) blk off (Lib.compact zs ++ List.replicate (zs.length - (Lib.compact zs).length) []).toArray := Any.slices_Compact_string Try.lays194 blk off cap zs w hH hsz hcap
open Go.RowKit Go.Lib Go.Sort in
theorem Try.slices_Compact_string_empty (a : Option Addr) (cap : Nat) (w : World) :
    Calls Try.prog 51 #[.slice a 0 cap] w fun e w' => e = .returned (.slice a 0 cap) ∧ w' = w := Any.slices_Compact_string_empty Try.lays194 a cap w
open Go.RowKit Go.Lib in
theorem Try.slices_Equal_string_lens (a1 a2 : Option Addr) (n c m d : Nat) (w : World) (hnm : n ≠ m) :
    Calls Try.prog 27 #[.slice a1 n c, .slice a2 m d] w fun e w' => e = .returned (.bool false) ∧ w' = w := Any.slices_Equal_string_lens Try.lays193 a1 a2 n c m d w hnm
end Go.Proofs

namespace Go.Proofs.Ytfajjphfjilpnab
open Go.RowKit Go.Shelf

/-- The two words of a number of 128 bits. -/
def hi (x : Int) : Int := x / 18446744073709551616
def lo (x : Int) : Int := x % 18446744073709551616
end Go.Proofs.Ytfajjphfjilpnab

namespace Go.Proofs.Ytfajjphfjilpnab

end Go.Proofs.Ytfajjphfjilpnab

namespace Go.Proofs.Ytfajjphfjilpnab
open Go.RowKit Go.Shelf

end Go.Proofs.Ytfajjphfjilpnab

namespace Go.Proofs.Ytfajjphfjilpnab
open Go.RowKit Go.Shelf

end Go.Proofs.Ytfajjphfjilpnab

namespace Go.Proofs.Ytfajjphfjilpnab
open Go.RowKit Go.Shelf

end Go.Proofs.Ytfajjphfjilpnab

namespace Go.Proofs.Ytfajjphfjilpnab
open Go.RowKit Go.Shelf

end Go.Proofs.Ytfajjphfjilpnab

namespace Go.Proofs.Ytfajjphfjilpnab

end Go.Proofs.Ytfajjphfjilpnab

namespace Go.Proofs.Ytfajjphfjilpnab
open Go.RowKit Go.Shelf

end Go.Proofs.Ytfajjphfjilpnab

namespace Go.Proofs.Ytfajjphfjilpnab
open Go.RowKit Go.Shelf

end Go.Proofs.Ytfajjphfjilpnab

namespace Go.Proofs.Ytfajjphfjilpnab
open Go.RowKit Go.Shelf

end Go.Proofs.Ytfajjphfjilpnab

namespace Go.Proofs.Ytfajjphfjilpnab
open Go.RowKit Go.Shelf

/-- May a value be, its length aside? -/
def pureB (k n d : Int) (s : ByteArray) : Bool := if k = 1 then d == 0 && s.toList.isEmpty else if k = 2 then mayB n d && s.toList.isEmpty else if k = 3 then n == 0 && d == 0 else false
/-- Why a value may not be. -/
def chk (k n d : Int) (s : ByteArray) : Int := if pureB k n d s = false then 20 else if 64 < s.size then 2 else 0

theorem ret_bool {a b : Bool} (h : a = b) : Ending.returned (.bool a) = .returned (.bool b) := by rw [h]

set_option maxRecDepth 100000 in
set_option maxHeartbeats 1000000 in
theorem pure_any (k n d : Int) (s : ByteArray) (w : World) (h1 : -9223372036854775808 ≤ n) (h2 : n ≤ 9223372036854775807) (g1 : -9223372036854775808 ≤ d) (g2 : d ≤ 9223372036854775807) :
    Calls Try.prog 94 #[.agg #[.int .i64 k, .int .i64 n, .int .i64 d, .string s]] w fun e w' => e = .returned (.bool (pureB k n d s)) ∧ Below w.heap.size w w' := by
  by_cases k1 : k = 1
  · subst k1
    cases hd : d == 0
    · go_enter Try.func94, Try.ntmps94
      go_wp2
      go_ret
      exact ⟨ret_bool (by simp [pureB, hd]), by go_grown⟩
    · have hd' : d = 0 := by simpa using hd
      subst hd'
      go_enter Try.func94, Try.ntmps94
      go_wp2
      go_ret
      exact ⟨ret_bool (by simp [pureB]), by go_grown⟩
  · have k1' : (k == 1) = false := by simpa using k1
    by_cases k2 : k = 2
    · subst k2
      have e0 : pureB 2 n d s = (mayB n d && s.toList.isEmpty) := by simp [pureB]
      rw [e0]
      by_cases a1 : oE n d = 0
      · cases m : (oN n d == n && oD n d == d)
        · go_enter Try.func94, Try.ntmps94
          go_wp2_with (first
            | (go_at_call 96; refine (of_all _ _ _ h1 h2 g1 g2).mono ?_; rintro e w1 ⟨rfl, hb⟩; obtain ⟨hc, hf, hz, hB⟩ := bf (w := w) (by go_grown) hb; simp only [World.size_alloc] at hz; have z0 : w.heap.size < w1.heap.size := (by omega)))
          all_goals
            go_ret
            exact ⟨ret_bool (by simp_all [mayB]), by go_grown⟩
        · go_enter Try.func94, Try.ntmps94
          go_wp2_with (first
            | (go_at_call 96; refine (of_all _ _ _ h1 h2 g1 g2).mono ?_; rintro e w1 ⟨rfl, hb⟩; obtain ⟨hc, hf, hz, hB⟩ := bf (w := w) (by go_grown) hb; simp only [World.size_alloc] at hz; have z0 : w.heap.size < w1.heap.size := (by omega)))
          all_goals
            go_ret
            exact ⟨ret_bool (by simp_all [mayB]), by go_grown⟩
      · have a2 : (oE n d == 0) = false := by simpa using a1
        go_enter Try.func94, Try.ntmps94
        go_wp2_with (first
          | (go_at_call 96; refine (of_all _ _ _ h1 h2 g1 g2).mono ?_; rintro e w1 ⟨rfl, hb⟩; obtain ⟨hc, hf, hz, hB⟩ := bf (w := w) (by go_grown) hb; simp only [World.size_alloc] at hz; have z0 : w.heap.size < w1.heap.size := (by omega)))
        all_goals
          go_ret
          exact ⟨ret_bool (by simp [mayB, a2]), by go_grown⟩
    · have k2' : (k == 2) = false := by simpa using k2
      by_cases k3 : k = 3
      · subst k3
        have e0 : pureB 3 n d s = (n == 0 && d == 0) := by simp [pureB]
        rw [e0]
        cases hn : n == 0
        · go_enter Try.func94, Try.ntmps94
          go_wp2
          go_ret
          exact ⟨ret_bool (by simp), by go_grown⟩
        · go_enter Try.func94, Try.ntmps94
          go_wp2
          go_ret
          exact ⟨ret_bool (by simp), by go_grown⟩
      · have k3' : (k == 3) = false := by simpa using k3
        have e0 : pureB k n d s = false := by simp [pureB, k1, k2, k3]
        rw [e0]
        go_enter Try.func94, Try.ntmps94
        go_wp2
        go_ret
        exact ⟨rfl, by go_grown⟩

end Go.Proofs.Ytfajjphfjilpnab

namespace Go.Proofs.Ytfajjphfjilpnab
open Go.RowKit Go.Shelf

set_option maxRecDepth 100000 in
set_option maxHeartbeats 1000000 in
theorem check_any (k n d : Int) (s : ByteArray) (w : World) (h1 : -9223372036854775808 ≤ n) (h2 : n ≤ 9223372036854775807) (g1 : -9223372036854775808 ≤ d) (g2 : d ≤ 9223372036854775807) :
    Calls Try.prog 87 #[.agg #[.int .i64 k, .int .i64 n, .int .i64 d, .string s]] w fun e w' => e = .returned (.int .i64 (chk k n d s)) ∧ Below w.heap.size w w' := by
  cases hp : pureB k n d s
  · have e0 : chk k n d s = 20 := by simp [chk, hp]
    rw [e0]
    go_enter Try.func87, Try.ntmps87
    go_wp2_with fail
    refine (pure_any k n d s _ h1 h2 g1 g2).mono ?_
    rintro e w1 ⟨rfl, hb⟩
    obtain ⟨hc, hf, hz, hB⟩ := bf (w := w) (by go_grown) hb
    rw [hp]
    go_wp2
    go_ret
    exact ⟨rfl, hB⟩
  · by_cases hl : 64 < s.size
    · have e0 : chk k n d s = 2 := by simp [chk, hp, hl]
      rw [e0]
      have hl' : (64 : Int) < s.size := by omega
      go_enter Try.func87, Try.ntmps87
      go_wp2_with fail
      refine (pure_any k n d s _ h1 h2 g1 g2).mono ?_
      rintro e w1 ⟨rfl, hb⟩
      obtain ⟨hc, hf, hz, hB⟩ := bf (w := w) (by go_grown) hb
      rw [hp]
      go_wp2
      go_ret
      exact ⟨rfl, hB⟩
    · have e0 : chk k n d s = 0 := by simp [chk, hp, hl]
      rw [e0]
      have hl' : ((64 : Int) < s.size) = False := by simp; omega
      go_enter Try.func87, Try.ntmps87
      go_wp2_with fail
      refine (pure_any k n d s _ h1 h2 g1 g2).mono ?_
      rintro e w1 ⟨rfl, hb⟩
      obtain ⟨hc, hf, hz, hB⟩ := bf (w := w) (by go_grown) hb
      rw [hp]
      go_wp2
      go_ret
      exact ⟨rfl, hB⟩

end Go.Proofs.Ytfajjphfjilpnab

namespace Go.Proofs.Ytfajjphfjilpnab

end Go.Proofs.Ytfajjphfjilpnab

namespace Go.Proofs.Ytfajjphfjilpnab
open Go.RowKit

end Go.Proofs.Ytfajjphfjilpnab

namespace Go.Proofs.Ytfajjphfjilpnab
open Go.RowKit

theorem wp_world {P : Program} {c : Code} {Q : Exit → Act → World → Prop} {a : Act} {w : World} (h : ∀ W, W = w → c.wp P Q a W) : c.wp P Q a w := h w rfl

end Go.Proofs.Ytfajjphfjilpnab

namespace Go.Proofs.Ytfajjphfjilpnab
open Go.RowKit

end Go.Proofs.Ytfajjphfjilpnab

namespace Go.Proofs.Ytfajjphfjilpnab
open Go.RowKit

end Go.Proofs.Ytfajjphfjilpnab

namespace Go.Proofs.Ytfajjphfjilpnab
open Go.RowKit

end Go.Proofs.Ytfajjphfjilpnab

namespace Go.Proofs.Ytfajjphfjilpnab
open Go.RowKit

end Go.Proofs.Ytfajjphfjilpnab

namespace Go.Proofs.Ytfajjphfjilpnab
open Go.RowKit

end Go.Proofs.Ytfajjphfjilpnab

namespace Go.Proofs.Ytfajjphfjilpnab
open Go.RowKit Go.Shelf

end Go.Proofs.Ytfajjphfjilpnab

namespace Go.Proofs.Ytfajjphfjilpnab
open Go.RowKit Go.Shelf

/-- Are two values the same? -/
def sameB (k n d : Int) (s : ByteArray) (k' n' d' : Int) (s' : ByteArray) : Bool := k == k' && (n == n' && (d == d' && s.toList == s'.toList))

set_option maxRecDepth 100000 in
set_option maxHeartbeats 1000000 in
theorem rsame_any (k n d : Int) (s : ByteArray) (k' n' d' : Int) (s' : ByteArray) (w : World) :
    Calls Try.prog 53 #[.agg #[.int .i64 k, .int .i64 n, .int .i64 d, .string s], .agg #[.int .i64 k', .int .i64 n', .int .i64 d', .string s']] w fun e w' => e = .returned (.bool (sameB k n d s k' n' d' s')) ∧ Below w.heap.size w w' := by
  by_cases hk : k = k'
  · subst hk
    by_cases hn : n = n'
    · subst hn
      by_cases hd : d = d'
      · subst hd
        go_enter Try.func53, Try.ntmps53
        go_wp2
        go_ret
        exact ⟨ret_bool (by simp [sameB]), by go_grown⟩
      · have e1 : (d == d') = false := by simpa using hd
        go_enter Try.func53, Try.ntmps53
        go_wp2
        go_ret
        exact ⟨ret_bool (by simp [sameB, hd]), by go_grown⟩
    · have e1 : (n == n') = false := by simpa using hn
      go_enter Try.func53, Try.ntmps53
      go_wp2
      go_ret
      exact ⟨ret_bool (by simp [sameB, hn]), by go_grown⟩
  · have e1 : (k == k') = false := by simpa using hk
    go_enter Try.func53, Try.ntmps53
    go_wp2
    go_ret
    exact ⟨ret_bool (by simp [sameB, hk]), by go_grown⟩

set_option maxRecDepth 100000 in
set_option maxHeartbeats 1000000 in
theorem vsame_any (k n d : Int) (s : ByteArray) (k' n' d' : Int) (s' : ByteArray) (w : World) :
    Calls Try.prog 45 #[.agg #[.int .i64 k, .int .i64 n, .int .i64 d, .string s], .agg #[.int .i64 k', .int .i64 n', .int .i64 d', .string s']] w fun e w' => e = .returned (.bool (sameB k n d s k' n' d' s')) ∧ Below w.heap.size w w' := by
  go_enter Try.func45, Try.ntmps45
  go_wp2
  all_goals
    go_ret
    exact ⟨ret_bool (by simp_all [sameB]), by go_grown⟩

end Go.Proofs.Ytfajjphfjilpnab

namespace Go.Proofs.Ytfajjphfjilpnab
open Go.RowKit Go.Shelf

end Go.Proofs.Ytfajjphfjilpnab

namespace Go.Proofs.Ytfajjphfjilpnab
open Go.RowKit Go.Shelf

end Go.Proofs.Ytfajjphfjilpnab

namespace Go.Proofs.Ytfajjphfjilpnab
open Go.RowKit Go.Shelf

end Go.Proofs.Ytfajjphfjilpnab

namespace Go.Proofs.Ytfajjphfjilpnab
open Go.RowKit Go.Shelf

end Go.Proofs.Ytfajjphfjilpnab

namespace Go.Proofs.Ytfajjphfjilpnab
open Go.RowKit Go.Shelf

end Go.Proofs.Ytfajjphfjilpnab

namespace Go.Proofs.Ytfajjphfjilpnab
open Go.RowKit Go.Shelf

end Go.Proofs.Ytfajjphfjilpnab

namespace Go.Proofs.Ytfajjphfjilpnab
open Go.RowKit Go.Shelf

end Go.Proofs.Ytfajjphfjilpnab

namespace Go.Proofs.Ytfajjphfjilpnab
open Go.RowKit Go.Shelf

end Go.Proofs.Ytfajjphfjilpnab

namespace Go.Proofs.Ytfajjphfjilpnab
open Go.RowKit Go.Shelf

end Go.Proofs.Ytfajjphfjilpnab

namespace Go.Proofs.Ytfajjphfjilpnab
open Go.RowKit Go.Shelf

end Go.Proofs.Ytfajjphfjilpnab

namespace Go.Proofs.Ytfajjphfjilpnab
open Go.RowKit Go.Shelf

end Go.Proofs.Ytfajjphfjilpnab

namespace Go.Proofs.Ytfajjphfjilpnab
open Go.RowKit Go.Shelf

end Go.Proofs.Ytfajjphfjilpnab

namespace Go.Proofs.Ytfajjphfjilpnab
open Go.RowKit Go.Shelf

end Go.Proofs.Ytfajjphfjilpnab

namespace Go.Proofs.Ytfajjphfjilpnab
open Go.RowKit Go.Shelf
set_option linter.unusedVariables false

end Go.Proofs.Ytfajjphfjilpnab

namespace Go.Proofs.Ytfajjphfjilpnab
open Go.RowKit Go.Shelf
set_option linter.unusedVariables false

/-- A value, as four plain things. -/
structure Val where
  k : Int
  n : Int
  d : Int
  s : ByteArray
/-- May a value be at all: its numbers fit 64 bits. -/
structure Val.Fits (x : Val) : Prop where
  n1 : -9223372036854775808 ≤ x.n
  n2 : x.n ≤ 9223372036854775807
  d1 : -9223372036854775808 ≤ x.d
  d2 : x.d ≤ 9223372036854775807
def Val.may (x : Val) : Int := chk x.k x.n x.d x.s
def Val.same (x y : Val) : Bool := sameB x.k x.n x.d x.s y.k y.n y.d y.s

end Go.Proofs.Ytfajjphfjilpnab

namespace Go.Proofs.Ytfajjphfjilpnab
open Go.RowKit Go.Shelf
set_option linter.unusedVariables false

end Go.Proofs.Ytfajjphfjilpnab

namespace Go.Proofs.Ytfajjphfjilpnab
open Go.RowKit LX Go.Shelf
set_option linter.unusedVariables false

/-- A term. -/
inductive Tm where
  | mk (k : Int) (nm : ByteArray) (v : Val) (subs : List Tm)
section
mutual
/-- A formula. -/
inductive Fm where
  | mk (k : Int) (nm : ByteArray) (op : Int) (vars : List ByteArray) (terms : List Tm) (lo : Int) (hi : Int) (opn : Bool) (subs : List Fm) (rgx : List Rx)
/-- A regex. -/
inductive Rx where
  | mk (k : Int) (test : List Fm) (subs : List Rx)
end
end
def Tm.k : Tm → Int | .mk k _ _ _ => k
def Tm.nm : Tm → ByteArray | .mk _ n _ _ => n
def Tm.v : Tm → Val | .mk _ _ v _ => v
def Tm.subs : Tm → List Tm | .mk _ _ _ s => s
def Fm.k : Fm → Int | .mk k _ _ _ _ _ _ _ _ _ => k
def Fm.nm : Fm → ByteArray | .mk _ n _ _ _ _ _ _ _ _ => n
def Fm.op : Fm → Int | .mk _ _ o _ _ _ _ _ _ _ => o
def Fm.vars : Fm → List ByteArray | .mk _ _ _ v _ _ _ _ _ _ => v
def Fm.terms : Fm → List Tm | .mk _ _ _ _ t _ _ _ _ _ => t
def Fm.lo : Fm → Int | .mk _ _ _ _ _ l _ _ _ _ => l
def Fm.hi : Fm → Int | .mk _ _ _ _ _ _ h _ _ _ => h
def Fm.opn : Fm → Bool | .mk _ _ _ _ _ _ _ o _ _ => o
def Fm.subs : Fm → List Fm | .mk _ _ _ _ _ _ _ _ s _ => s
def Fm.rgx : Fm → List Rx | .mk _ _ _ _ _ _ _ _ _ r => r
def Rx.k : Rx → Int | .mk k _ _ => k
def Rx.test : Rx → List Fm | .mk _ t _ => t
def Rx.subs : Rx → List Rx | .mk _ _ s => s
/-- What is within is smaller. -/
theorem Tm.subs_lt (t : Tm) : SizeOf.sizeOf t.subs < SizeOf.sizeOf t := by cases t; simp [Tm.subs]; omega
theorem Fm.subs_lt (f : Fm) : SizeOf.sizeOf f.subs < SizeOf.sizeOf f := by cases f; simp [Fm.subs]; omega
theorem Fm.rgx_lt (f : Fm) : SizeOf.sizeOf f.rgx < SizeOf.sizeOf f := by cases f; simp [Fm.rgx]; omega
theorem Rx.test_lt (r : Rx) : SizeOf.sizeOf r.test < SizeOf.sizeOf r := by cases r; simp [Rx.test]; omega
theorem Rx.subs_lt (r : Rx) : SizeOf.sizeOf r.subs < SizeOf.sizeOf r := by cases r; simp [Rx.subs]; omega
theorem mem_lt {α : Type} [SizeOf α] {l : List α} (i : Nat) (h : i < l.length) : SizeOf.sizeOf l[i] < SizeOf.sizeOf l := List.sizeOf_lt_of_mem (List.getElem_mem h)

/-- Texts where they lie. -/
def NmsAt (w : World) (v : Value) (vs : List ByteArray) : Prop := vs.length ≤ 9223372036854775807 ∧ ∃ p c, v = .slice p vs.length c ∧ vs.length ≤ c ∧ (vs = [] ∨ ∃ b off, p = some ⟨b, off, none⟩ ∧ b < w.heap.size ∧ ∀ i (h : i < vs.length), w.cell? ⟨b, off + i, none⟩ = some (.string vs[i]))
/-- A term's cells, its parts' slice apart. -/
def TmC (w : World) (b o : Nat) (t : Tm) (u : Value) : Prop := w.cell? ⟨b, o, none⟩ = some (.int .i64 t.k) ∧ w.cell? ⟨b, o + 1, none⟩ = some (.string t.nm) ∧ w.cell? ⟨b, o + 2, none⟩ = some (.int .i64 t.v.k) ∧ w.cell? ⟨b, o + 3, none⟩ = some (.int .i64 t.v.n) ∧ w.cell? ⟨b, o + 4, none⟩ = some (.int .i64 t.v.d) ∧ w.cell? ⟨b, o + 5, none⟩ = some (.string t.v.s) ∧ w.cell? ⟨b, o + 6, none⟩ = some u
inductive TmsAt (w : World) : Value → List Tm → Prop
  | nil {p : Option Addr} {c : Nat} : TmsAt w (.slice p 0 c) []
  | row {b off c : Nat} {ts : List Tm} (us : Nat → Value) (hl : ts.length ≤ 9223372036854775807) (fit : ∀ i (h : i < ts.length), ts[i].v.Fits) (hc : ts.length ≤ c) (hb : b < w.heap.size) (cells : ∀ i (h : i < ts.length), TmC w b (off + i * 7) ts[i] (us i)) (sub : ∀ i (h : i < ts.length), TmsAt w (us i) ts[i].subs) : TmsAt w (.slice (some ⟨b, off, none⟩) ts.length c) ts
/-- A formula's cells: its four slices apart. -/
def FmC (w : World) (b o : Nat) (f : Fm) (uv ut us ur : Value) : Prop := w.cell? ⟨b, o, none⟩ = some (.int .i64 f.k) ∧ w.cell? ⟨b, o + 1, none⟩ = some (.string f.nm) ∧ w.cell? ⟨b, o + 2, none⟩ = some (.int .i64 f.op) ∧ w.cell? ⟨b, o + 3, none⟩ = some uv ∧ w.cell? ⟨b, o + 4, none⟩ = some ut ∧ w.cell? ⟨b, o + 5, none⟩ = some (.int .i64 f.lo) ∧ w.cell? ⟨b, o + 6, none⟩ = some (.int .i64 f.hi) ∧ w.cell? ⟨b, o + 7, none⟩ = some (.bool f.opn) ∧ w.cell? ⟨b, o + 8, none⟩ = some us ∧ w.cell? ⟨b, o + 9, none⟩ = some ur
def RxC (w : World) (b o : Nat) (r : Rx) (ut us : Value) : Prop := w.cell? ⟨b, o, none⟩ = some (.int .i64 r.k) ∧ w.cell? ⟨b, o + 1, none⟩ = some ut ∧ w.cell? ⟨b, o + 2, none⟩ = some us
section
mutual
inductive FmsAt (w : World) : Value → List Fm → Prop
  | nil {p : Option Addr} {c : Nat} : FmsAt w (.slice p 0 c) []
  | row {b off c : Nat} {fs : List Fm} (uv ut us ur : Nat → Value) (hl : fs.length ≤ 9223372036854775807) (hc : fs.length ≤ c) (hb : b < w.heap.size) (cells : ∀ i (h : i < fs.length), FmC w b (off + i * 10) fs[i] (uv i) (ut i) (us i) (ur i)) (vars : ∀ i (h : i < fs.length), NmsAt w (uv i) fs[i].vars) (terms : ∀ i (h : i < fs.length), TmsAt w (ut i) fs[i].terms) (sub : ∀ i (h : i < fs.length), FmsAt w (us i) fs[i].subs) (rgx : ∀ i (h : i < fs.length), RxsAt w (ur i) fs[i].rgx) : FmsAt w (.slice (some ⟨b, off, none⟩) fs.length c) fs
inductive RxsAt (w : World) : Value → List Rx → Prop
  | nil {p : Option Addr} {c : Nat} : RxsAt w (.slice p 0 c) []
  | row {b off c : Nat} {rs : List Rx} (ut us : Nat → Value) (hl : rs.length ≤ 9223372036854775807) (hc : rs.length ≤ c) (hb : b < w.heap.size) (cells : ∀ i (h : i < rs.length), RxC w b (off + i * 3) rs[i] (ut i) (us i)) (test : ∀ i (h : i < rs.length), FmsAt w (ut i) rs[i].test) (sub : ∀ i (h : i < rs.length), RxsAt w (us i) rs[i].subs) : RxsAt w (.slice (some ⟨b, off, none⟩) rs.length c) rs
end
end
/-- One formula, as a value. -/
def FmAt (w : World) (v : Value) (f : Fm) : Prop := ∃ uv ut us ur, v = .agg #[.int .i64 f.k, .string f.nm, .int .i64 f.op, uv, ut, .int .i64 f.lo, .int .i64 f.hi, .bool f.opn, us, ur] ∧ NmsAt w uv f.vars ∧ TmsAt w ut f.terms ∧ FmsAt w us f.subs ∧ RxsAt w ur f.rgx
theorem NmsAt.below {w w' : World} {v : Value} {vs : List ByteArray} (h : NmsAt w v vs) (hb : Below w.heap.size w w') : NmsAt w' v vs := by
  obtain ⟨hl, p, c, e, hc, h | ⟨b, off, h1, h2, h3⟩⟩ := h
  · exact ⟨hl, p, c, e, hc, Or.inl h⟩
  · exact ⟨hl, p, c, e, hc, Or.inr ⟨b, off, h1, Nat.lt_of_lt_of_le h2 hb.size, fun i hi => (hb.cell (p := ⟨b, _, none⟩) h2).trans (h3 i hi)⟩⟩
theorem TmC.below {w w' : World} {b o : Nat} {t : Tm} {u : Value} (h : TmC w b o t u) (hb : Below w.heap.size w w') (hB : b < w.heap.size) : TmC w' b o t u := by
  obtain ⟨h0, h1, h2, h3, h4, h5, h6⟩ := h
  exact ⟨(hb.cell (p := ⟨b, _, none⟩) hB).trans h0, (hb.cell (p := ⟨b, _, none⟩) hB).trans h1, (hb.cell (p := ⟨b, _, none⟩) hB).trans h2, (hb.cell (p := ⟨b, _, none⟩) hB).trans h3, (hb.cell (p := ⟨b, _, none⟩) hB).trans h4, (hb.cell (p := ⟨b, _, none⟩) hB).trans h5, (hb.cell (p := ⟨b, _, none⟩) hB).trans h6⟩
theorem TmsAt.bel {w w' : World} {v : Value} {ts : List Tm} (h : TmsAt w v ts) (hb : Below w.heap.size w w') : TmsAt w' v ts := by
  induction h with
  | nil => exact .nil
  | row us hl fit hc hB cells sub ih => exact .row us hl fit hc (Nat.lt_of_lt_of_le hB hb.size) (fun i h => (cells i h).below hb hB) ih
theorem FmC.below {w w' : World} {b o : Nat} {f : Fm} {uv ut us ur : Value} (h : FmC w b o f uv ut us ur) (hb : Below w.heap.size w w') (hB : b < w.heap.size) : FmC w' b o f uv ut us ur := by
  obtain ⟨h0, h1, h2, h3, h4, h5, h6, h7, h8, h9⟩ := h
  exact ⟨(hb.cell (p := ⟨b, _, none⟩) hB).trans h0, (hb.cell (p := ⟨b, _, none⟩) hB).trans h1, (hb.cell (p := ⟨b, _, none⟩) hB).trans h2, (hb.cell (p := ⟨b, _, none⟩) hB).trans h3, (hb.cell (p := ⟨b, _, none⟩) hB).trans h4, (hb.cell (p := ⟨b, _, none⟩) hB).trans h5, (hb.cell (p := ⟨b, _, none⟩) hB).trans h6, (hb.cell (p := ⟨b, _, none⟩) hB).trans h7, (hb.cell (p := ⟨b, _, none⟩) hB).trans h8, (hb.cell (p := ⟨b, _, none⟩) hB).trans h9⟩
theorem RxC.below {w w' : World} {b o : Nat} {r : Rx} {ut us : Value} (h : RxC w b o r ut us) (hb : Below w.heap.size w w') (hB : b < w.heap.size) : RxC w' b o r ut us := by
  obtain ⟨h0, h1, h2⟩ := h
  exact ⟨(hb.cell (p := ⟨b, _, none⟩) hB).trans h0, (hb.cell (p := ⟨b, _, none⟩) hB).trans h1, (hb.cell (p := ⟨b, _, none⟩) hB).trans h2⟩
theorem both_below {w w' : World} (hb : Below w.heap.size w w') : ∀ n, (∀ (v : Value) (fs : List Fm), SizeOf.sizeOf fs ≤ n → FmsAt w v fs → FmsAt w' v fs) ∧ (∀ (v : Value) (rs : List Rx), SizeOf.sizeOf rs ≤ n → RxsAt w v rs → RxsAt w' v rs) := by
  intro n
  induction n with
  | zero =>
    refine ⟨fun v fs hn h => ?_, fun v rs hn h => ?_⟩
    · cases fs <;> simp at hn
    · cases rs <;> simp at hn
  | succ n ih =>
    refine ⟨fun v fs hn h => ?_, fun v rs hn h => ?_⟩
    · cases h with
      | nil => exact .nil
      | row uv ut us ur hl hc hB cells vars terms sub rgx =>
        exact .row uv ut us ur hl hc (Nat.lt_of_lt_of_le hB hb.size) (fun i h => (cells i h).below hb hB) (fun i h => (vars i h).below hb) (fun i h => (terms i h).bel hb)
          (fun i h => ih.1 _ _ (by have := mem_lt i h; have := Fm.subs_lt fs[i]; omega) (sub i h)) (fun i h => ih.2 _ _ (by have := mem_lt i h; have := Fm.rgx_lt fs[i]; omega) (rgx i h))
    · cases h with
      | nil => exact .nil
      | row ut us hl hc hB cells test sub =>
        exact .row ut us hl hc (Nat.lt_of_lt_of_le hB hb.size) (fun i h => (cells i h).below hb hB)
          (fun i h => ih.1 _ _ (by have := mem_lt i h; have := Rx.test_lt rs[i]; omega) (test i h)) (fun i h => ih.2 _ _ (by have := mem_lt i h; have := Rx.subs_lt rs[i]; omega) (sub i h))
theorem FmsAt.bel {w w' : World} {v : Value} {fs : List Fm} (h : FmsAt w v fs) (hb : Below w.heap.size w w') : FmsAt w' v fs := (both_below hb _).1 v fs (Nat.le_refl _) h
theorem RxsAt.bel {w w' : World} {v : Value} {rs : List Rx} (h : RxsAt w v rs) (hb : Below w.heap.size w w') : RxsAt w' v rs := (both_below hb _).2 v rs (Nat.le_refl _) h
theorem TmsAt.form {w : World} {v : Value} {ts : List Tm} (h : TmsAt w v ts) : ∃ p c, v = .slice p ts.length c ∧ ts.length ≤ 9223372036854775807 ∧ ts.length ≤ c ∧ ∀ i (hi : i < ts.length), ∃ b off u, p = some ⟨b, off, none⟩ ∧ b < w.heap.size ∧ TmC w b (off + i * 7) ts[i] u ∧ TmsAt w u ts[i].subs ∧ ts[i].v.Fits := by
  cases h with
  | nil => exact ⟨_, _, rfl, by simp, by simp, fun i hi => by simp at hi⟩
  | row us hl fit hc hB cells sub => exact ⟨_, _, rfl, hl, hc, fun i hi => ⟨_, _, us i, rfl, hB, cells i hi, sub i hi, fit i hi⟩⟩
theorem FmsAt.form {w : World} {v : Value} {fs : List Fm} (h : FmsAt w v fs) : ∃ p c, v = .slice p fs.length c ∧ fs.length ≤ 9223372036854775807 ∧ fs.length ≤ c ∧ ∀ i (hi : i < fs.length), ∃ b off uv ut us ur, p = some ⟨b, off, none⟩ ∧ b < w.heap.size ∧ FmC w b (off + i * 10) fs[i] uv ut us ur ∧ NmsAt w uv fs[i].vars ∧ TmsAt w ut fs[i].terms ∧ FmsAt w us fs[i].subs ∧ RxsAt w ur fs[i].rgx := by
  cases h with
  | nil => exact ⟨_, _, rfl, by simp, by simp, fun i hi => by simp at hi⟩
  | row uv ut us ur hl hc hB cells vars terms sub rgx => exact ⟨_, _, rfl, hl, hc, fun i hi => ⟨_, _, uv i, ut i, us i, ur i, rfl, hB, cells i hi, vars i hi, terms i hi, sub i hi, rgx i hi⟩⟩
theorem RxsAt.form {w : World} {v : Value} {rs : List Rx} (h : RxsAt w v rs) : ∃ p c, v = .slice p rs.length c ∧ rs.length ≤ 9223372036854775807 ∧ rs.length ≤ c ∧ ∀ i (hi : i < rs.length), ∃ b off ut us, p = some ⟨b, off, none⟩ ∧ b < w.heap.size ∧ RxC w b (off + i * 3) rs[i] ut us ∧ FmsAt w ut rs[i].test ∧ RxsAt w us rs[i].subs := by
  cases h with
  | nil => exact ⟨_, _, rfl, by simp, by simp, fun i hi => by simp at hi⟩
  | row ut us hl hc hB cells test sub => exact ⟨_, _, rfl, hl, hc, fun i hi => ⟨_, _, ut i, us i, rfl, hB, cells i hi, test i hi, sub i hi⟩⟩

end Go.Proofs.Ytfajjphfjilpnab

namespace Go.Proofs.Ytfajjphfjilpnab
open Go.RowKit LX Go.Shelf
set_option linter.unusedVariables false

/-- All blocks but one stay as they were. -/
structure KeepT (T : Nat) (w w' : World) : Prop where
  os : w'.os = w.os
  tape : w'.tape = w.tape
  output : w'.output = w.output
  size : w.heap.size ≤ w'.heap.size
  block : ∀ k, k < w.heap.size → k ≠ T → w'.heap[k]? = w.heap[k]?
theorem KeepT.refl (T : Nat) (w : World) : KeepT T w w := ⟨rfl, rfl, rfl, Nat.le_refl _, fun _ _ _ => rfl⟩
theorem KeepT.trans {T : Nat} {a b c : World} (h : KeepT T a b) (k : KeepT T b c) : KeepT T a c := ⟨k.os.trans h.os, k.tape.trans h.tape, k.output.trans h.output, Nat.le_trans h.size k.size, fun i hi hT => (k.block i (Nat.lt_of_lt_of_le hi h.size) hT).trans (h.block i hi hT)⟩
theorem KeepT.of {T : Nat} {w w' : World} (h : Below w.heap.size w w') : KeepT T w w' := ⟨h.os, h.tape, h.output, h.size, fun k hk _ => h.block k hk⟩
theorem KeepT.below {T B : Nat} {w w' : World} (h : KeepT T w w') (hB : B ≤ T) (hT : T ≤ w.heap.size) : Below B w w' := ⟨h.os, h.tape, h.output, h.size, fun k hk => h.block k (by omega) (by omega)⟩
theorem KeepT.cell {T : Nat} {w w' : World} (h : KeepT T w w') {p : Addr} (hp : p.block < w.heap.size) (hT : p.block ≠ T) : w'.cell? p = w.cell? p := World.cell?_of_block (w := w) (h.block p.block hp hT)
/-- A tally in its block. -/
def Tal (T : Nat) (s : Int × Int) (w : World) : Prop := w.heap[T]? = some (.cells #[.int .i64 s.1, .int .i64 s.2, .slice none 0 0] 69 (0, 0))
theorem Tal.lt {T : Nat} {s : Int × Int} {w : World} (h : Tal T s w) : T < w.heap.size := (Array.getElem?_eq_some_iff.1 h).1
theorem Tal.alloc {T : Nat} {s : Int × Int} {w : World} (h : Tal T s w) (o : Obj) : Tal T s (w.alloc o) := (Below.heap_alloc w o T h.lt).trans h
theorem Tal.below {T : Nat} {s : Int × Int} {w w' : World} (h : Tal T s w) (hb : Below w.heap.size w w') : Tal T s w' := (hb.block T h.lt).trans h
theorem set_heapA {W : World} {b o e : Nat} {u : Value} {cur : Array Value} {fz : Nat × Nat} (hb : W.heap[b]? = some (.cells cur e fz)) : (W.setCell ⟨b, o, none⟩ u).heap[b]? = some (.cells (cur.setIfInBounds o u) e fz) := by
  show (W.heap.modify b _)[b]? = _
  rw [Array.getElem?_modify, if_pos rfl, hb]
  rfl
theorem tal_set {T : Nat} {s : Int × Int} (x y : Int) {w : World} (h : Tal T s w) : KeepT T w ((w.setCell ⟨T, 0, none⟩ (.int .i64 x)).setCell ⟨T, 1, none⟩ (.int .i64 y)) ∧ Tal T (x, y) ((w.setCell ⟨T, 0, none⟩ (.int .i64 x)).setCell ⟨T, 1, none⟩ (.int .i64 y)) := by
  refine ⟨⟨rfl, rfl, rfl, by simp [World.setCell], fun k hk hT => ?_⟩, ?_⟩
  · exact (Below.heap_setCell _ _ _ _ hT).trans (Below.heap_setCell _ _ _ _ hT)
  · exact set_heapA (set_heapA h)
/-- May another node be; what is counted with it. -/
def meetE (dep : Int) (s : Int × Int) : Int := if 24 < dep then 71 else if s.1 = 256 then 3 else 0
def meetS (dep : Int) (s : Int × Int) : Int × Int := if meetE dep s = 0 then (s.1 + 1, max s.2 dep) else s
/-- What a tally may hold. -/
def OkS (s : Int × Int) : Prop := 0 ≤ s.1 ∧ s.1 ≤ 256 ∧ 0 ≤ s.2 ∧ s.2 ≤ 24
theorem meetS_ok {dep : Int} {s : Int × Int} (h : OkS s) (hd : 0 ≤ dep) : OkS (meetS dep s) := by
  unfold meetS
  split
  · rename_i he
    unfold meetE at he
    by_cases h1 : 24 < dep
    · rw [if_pos h1] at he; cases he
    rw [if_neg h1] at he
    by_cases h2 : s.1 = 256
    · rw [if_pos h2] at he; cases he
    obtain ⟨a, b, c, d⟩ := h
    refine ⟨?_, ?_, ?_, ?_⟩
    · show 0 ≤ s.1 + 1; omega
    · show s.1 + 1 ≤ 256; omega
    · show 0 ≤ max s.2 dep; omega
    · show max s.2 dep ≤ 24; omega
  · exact h
theorem meetE_le {dep : Int} {s : Int × Int} (h : meetE dep s = 0) : dep ≤ 24 := by
  unfold meetE at h
  by_cases h1 : 24 < dep
  · rw [if_pos h1] at h; cases h
  · omega

set_option maxRecDepth 100000 in
set_option maxHeartbeats 2000000 in
theorem meet_any (T : Nat) (dep : Int) (s : Int × Int) (w : World) (hT : Tal T s w) (hs : OkS s) (hd : 0 ≤ dep ∧ dep ≤ 25) :
    Calls Try.prog 54 #[.pointer (some ⟨T, 0, none⟩), .int .i64 dep] w fun r w' => r = .returned (.int .i64 (meetE dep s)) ∧ KeepT T w w' ∧ Tal T (meetS dep s) w' := by
  have HT : Hid (Tal T s w) := hT
  have c0 : w.cell? ⟨T, 0, none⟩ = some (.int .i64 s.1) := by rw [Lib.cell_of_heap hT]; rfl
  have c1 : w.cell? ⟨T, 1, none⟩ = some (.int .i64 s.2) := by rw [Lib.cell_of_heap hT]; rfl
  have f0 : w.frozen? ⟨T, 0, none⟩ = false := Lib.frozen_of_heap hT 0
  have f1 : w.frozen? ⟨T, 1, none⟩ = false := Lib.frozen_of_heap hT 1
  clear hT
  obtain ⟨n, d⟩ := s
  dsimp only at c0 c1
  obtain ⟨s1, s2, s3, s4⟩ := hs
  dsimp only at s1 s2 s3 s4
  by_cases h1 : 24 < dep
  · have hE : Hid (meetE dep (n, d) = 71) := if_pos h1
    have hS : Hid (meetS dep (n, d) = (n, d)) := if_neg (by rw [hE.out]; decide)
    rw [hE.out, hS.out]
    go_enter Try.func54, Try.ntmps54
    go_wp2
    go_ret
    exact ⟨rfl, KeepT.refl _ _, HT.out⟩
  by_cases h2 : n = 256
  · subst h2
    have hE : Hid (meetE dep (256, d) = 3) := by unfold Hid meetE; rw [if_neg h1, if_pos rfl]
    have hS : Hid (meetS dep (256, d) = (256, d)) := if_neg (by rw [hE.out]; decide)
    rw [hE.out, hS.out]
    go_enter Try.func54, Try.ntmps54
    go_wp2
    go_ret
    exact ⟨rfl, KeepT.refl _ _, HT.out⟩
  have hE : Hid (meetE dep (n, d) = 0) := by unfold Hid meetE; rw [if_neg h1, if_neg h2]
  have hS : Hid (meetS dep (n, d) = (n + 1, max d dep)) := if_pos hE.out
  rw [hE.out, hS.out]
  have h2' : (n == 256) = false := by simp [h2]
  go_enter Try.func54, Try.ntmps54
  go_wp2
  go_ret
  exact ⟨rfl, tal_set _ _ HT.out⟩

set_option maxRecDepth 100000 in
theorem named_any (x : ByteArray) (b : Bool) (w : World) :
    Calls Try.prog 83 #[.string x, .bool b] w fun r w' => r = .returned (.bool (if b = true then nameB x else x.toList == [])) ∧ w' = w := by
  have cN : Hid (∀ W : World, Calls Try.prog 26 #[.string x] W fun e w' => e = .returned (.bool (nameB x)) ∧ w' = W) := fun W => name_any x W
  generalize nameB x = N at cN ⊢
  cases b with
  | false =>
    go_enter Try.func83, Try.ntmps83
    go_wp2
    go_ret
    exact ⟨by first | rfl | simp, rfl⟩
  | true =>
    go_enter Try.func83, Try.ntmps83
    go_wp2_with fail
    refine (cN.out _).mono ?_
    rintro e w1 ⟨rfl, rfl⟩
    go_wp2
    go_ret
    exact ⟨by first | rfl | simp, rfl⟩

/-- Why a term may not be, whatever stands within. -/
def tmE (t : Tm) : Int := if t.k < 1 ∨ 5 < t.k then 20 else if (if t.k = 1 then nameB t.nm else t.nm.toList == []) = false ∨ t.subs.length ≠ (if 3 ≤ t.k then 2 else 0) then 1 else if t.k = 2 then t.v.may else if sameB t.v.k t.v.n t.v.d t.v.s 0 0 0 ⟨#[]⟩ = true then 0 else 1
theorem retI {a b : Int} (h : a = b) : Ending.returned (.int .i64 a) = .returned (.int .i64 b) := by rw [h]

set_option maxRecDepth 100000 in
set_option maxHeartbeats 4000000 in
theorem cterm_any (t : Tm) (p : Option Addr) (c : Nat) (w : World) (f : t.v.Fits) :
    Calls Try.prog 66 #[.agg #[.int .i64 t.k, .string t.nm, .int .i64 t.v.k, .int .i64 t.v.n, .int .i64 t.v.d, .string t.v.s, .slice p t.subs.length c]] w fun r w' => r = .returned (.int .i64 (tmE t)) ∧ Below w.heap.size w w' := by
  have cM : Hid (∀ (b : Bool) (W : World), Calls Try.prog 83 #[.string t.nm, .bool b] W fun r w' => r = .returned (.bool (if b = true then nameB t.nm else t.nm.toList == [])) ∧ w' = W) := fun b W => named_any t.nm b W
  have cC : Hid (∀ W : World, Calls Try.prog 87 #[.agg #[.int .i64 t.v.k, .int .i64 t.v.n, .int .i64 t.v.d, .string t.v.s]] W fun e w' => e = .returned (.int .i64 t.v.may) ∧ Below W.heap.size W w') := fun W => check_any t.v.k t.v.n t.v.d t.v.s W f.n1 f.n2 f.d1 f.d2
  have cS : Hid (∀ W : World, Calls Try.prog 45 #[.agg #[.int .i64 t.v.k, .int .i64 t.v.n, .int .i64 t.v.d, .string t.v.s], .agg #[.int .i64 0, .int .i64 0, .int .i64 0, .string ⟨#[]⟩]] W fun e w' => e = .returned (.bool (sameB t.v.k t.v.n t.v.d t.v.s 0 0 0 ⟨#[]⟩)) ∧ Below W.heap.size W w') := fun W => vsame_any t.v.k t.v.n t.v.d t.v.s 0 0 0 ⟨#[]⟩ W
  have hE : Hid (tmE t = if t.k < 1 ∨ 5 < t.k then 20 else if (if t.k = 1 then nameB t.nm else t.nm.toList == []) = false ∨ t.subs.length ≠ (if 3 ≤ t.k then 2 else 0) then 1 else if t.k = 2 then t.v.may else if sameB t.v.k t.v.n t.v.d t.v.s 0 0 0 ⟨#[]⟩ = true then 0 else 1) := rfl
  generalize tmE t = E at hE ⊢
  generalize t.k = k at *
  generalize t.nm = X at *
  generalize t.v.may = M at *
  generalize sameB t.v.k t.v.n t.v.d t.v.s 0 0 0 ⟨#[]⟩ = Z at *
  generalize t.v = v at *
  obtain ⟨vk, vn, vd, vs⟩ := v
  dsimp only at cC cS ⊢
  generalize t.subs.length = n at *
  clear f
  by_cases hk : k < 1 ∨ 5 < k
  · have hE2 : Hid (E = 20) := by have h := hE.out; rwa [if_pos hk] at h
    have k1 : (k == 1) = false := by simp; omega
    have k2 : (k == 2) = false := by simp; omega
    have k3 : (k == 3) = false := by simp; omega
    have k4 : (k == 4) = false := by simp; omega
    have k5 : (k == 5) = false := by simp; omega
    go_enter Try.func66, Try.ntmps66
    go_wp2
    go_ret
    exact ⟨retI hE2.out.symm, by go_grown⟩
  have hE1 : Hid (E = if (if k = 1 then nameB X else X.toList == []) = false ∨ n ≠ (if 3 ≤ k then 2 else 0) then 1 else if k = 2 then M else if Z = true then 0 else 1) := by have h := hE.out; rwa [if_neg hk] at h
  clear hE
  have hkk : k = 1 ∨ k = 2 ∨ k = 3 ∨ k = 4 ∨ k = 5 := by omega
  clear hk
  rcases hkk with rfl | rfl | rfl | rfl | rfl
  · have cM1 : Hid (∀ W : World, Calls Try.prog 83 #[.string X, .bool true] W fun r w' => r = .returned (.bool (nameB X)) ∧ w' = W) := fun W => cM.out true W
    have hE2 : Hid (E = if (nameB X) = false ∨ n ≠ 0 then 1 else if Z = true then 0 else 1) := by have h := hE1.out; unfold Hid; simpa using h
    generalize (nameB X) = NB at cM1 hE2
    clear hE1 cM
    cases NB with
    | false =>
      have hE3 : Hid (E = 1) := by have h := hE2.out; rwa [if_pos (Or.inl rfl)] at h
      go_enter Try.func66, Try.ntmps66
      go_wp2_with fail
      refine (cM1.out _).mono ?_
      rintro r w1 ⟨rfl, rfl⟩
      go_wp2
      go_ret
      exact ⟨retI hE3.out.symm, by go_grown⟩
    | true =>
    by_cases hn : n = 0
    case neg =>
      have hE3 : Hid (E = 1) := by have h := hE2.out; rwa [if_pos (Or.inr hn)] at h
      have hn' : ((n : Int) != 0) = true := by simp; omega
      have hn'' : ¬ (n : Int) = 0 := by omega
      go_enter Try.func66, Try.ntmps66
      go_wp2_with fail
      refine (cM1.out _).mono ?_
      rintro r w1 ⟨rfl, rfl⟩
      go_wp2
      go_ret
      exact ⟨retI hE3.out.symm, by go_grown⟩
    subst hn
    have hE3 : Hid (E = if Z = true then 0 else 1) := by have h := hE2.out; rwa [if_neg (by simp)] at h
    clear hE2
    go_enter Try.func66, Try.ntmps66
    go_wp2_with fail
    refine (cM1.out _).mono ?_
    rintro r w1 ⟨rfl, rfl⟩
    go_wp2_with fail
    refine (cS.out _).mono ?_
    rintro r w2 ⟨rfl, hb2⟩
    obtain ⟨hB2, -⟩ := bgX (n := w.heap.size) (W0 := w) (by go_grown) (by go_size) hb2
    cases Z with
    | true =>
      go_wp2
      go_ret
      exact ⟨retI hE3.out.symm, hB2⟩
    | false =>
      go_wp2
      go_ret
      exact ⟨retI hE3.out.symm, hB2⟩
  · have cM1 : Hid (∀ W : World, Calls Try.prog 83 #[.string X, .bool false] W fun r w' => r = .returned (.bool (X.toList == [])) ∧ w' = W) := fun W => cM.out false W
    have hE2 : Hid (E = if (X.toList == []) = false ∨ n ≠ 0 then 1 else M) := by have h := hE1.out; unfold Hid; simpa using h
    generalize (X.toList == []) = NB at cM1 hE2
    clear hE1 cM
    cases NB with
    | false =>
      have hE3 : Hid (E = 1) := by have h := hE2.out; rwa [if_pos (Or.inl rfl)] at h
      go_enter Try.func66, Try.ntmps66
      go_wp2_with fail
      refine (cM1.out _).mono ?_
      rintro r w1 ⟨rfl, rfl⟩
      go_wp2
      go_ret
      exact ⟨retI hE3.out.symm, by go_grown⟩
    | true =>
    by_cases hn : n = 0
    case neg =>
      have hE3 : Hid (E = 1) := by have h := hE2.out; rwa [if_pos (Or.inr hn)] at h
      have hn' : ((n : Int) != 0) = true := by simp; omega
      have hn'' : ¬ (n : Int) = 0 := by omega
      go_enter Try.func66, Try.ntmps66
      go_wp2_with fail
      refine (cM1.out _).mono ?_
      rintro r w1 ⟨rfl, rfl⟩
      go_wp2
      go_ret
      exact ⟨retI hE3.out.symm, by go_grown⟩
    subst hn
    have hE3 : Hid (E = M) := by have h := hE2.out; rwa [if_neg (by simp)] at h
    clear hE2
    go_enter Try.func66, Try.ntmps66
    go_wp2_with fail
    refine (cM1.out _).mono ?_
    rintro r w1 ⟨rfl, rfl⟩
    go_wp2_with fail
    refine (cC.out _).mono ?_
    rintro r w2 ⟨rfl, hb2⟩
    obtain ⟨hB2, -⟩ := bgX (n := w.heap.size) (W0 := w) (by go_grown) (by go_size) hb2
    go_wp2
    go_ret
    exact ⟨retI hE3.out.symm, hB2⟩
  · have cM1 : Hid (∀ W : World, Calls Try.prog 83 #[.string X, .bool false] W fun r w' => r = .returned (.bool (X.toList == [])) ∧ w' = W) := fun W => cM.out false W
    have hE2 : Hid (E = if (X.toList == []) = false ∨ n ≠ 2 then 1 else if Z = true then 0 else 1) := by have h := hE1.out; unfold Hid; simpa using h
    generalize (X.toList == []) = NB at cM1 hE2
    clear hE1 cM
    cases NB with
    | false =>
      have hE3 : Hid (E = 1) := by have h := hE2.out; rwa [if_pos (Or.inl rfl)] at h
      go_enter Try.func66, Try.ntmps66
      go_wp2_with fail
      refine (cM1.out _).mono ?_
      rintro r w1 ⟨rfl, rfl⟩
      go_wp2
      go_ret
      exact ⟨retI hE3.out.symm, by go_grown⟩
    | true =>
    by_cases hn : n = 2
    case neg =>
      have hE3 : Hid (E = 1) := by have h := hE2.out; rwa [if_pos (Or.inr hn)] at h
      have hn' : ((n : Int) != 2) = true := by simp; omega
      have hn'' : ¬ (n : Int) = 2 := by omega
      go_enter Try.func66, Try.ntmps66
      go_wp2_with fail
      refine (cM1.out _).mono ?_
      rintro r w1 ⟨rfl, rfl⟩
      go_wp2
      go_ret
      exact ⟨retI hE3.out.symm, by go_grown⟩
    subst hn
    have hE3 : Hid (E = if Z = true then 0 else 1) := by have h := hE2.out; rwa [if_neg (by simp)] at h
    clear hE2
    go_enter Try.func66, Try.ntmps66
    go_wp2_with fail
    refine (cM1.out _).mono ?_
    rintro r w1 ⟨rfl, rfl⟩
    go_wp2_with fail
    refine (cS.out _).mono ?_
    rintro r w2 ⟨rfl, hb2⟩
    obtain ⟨hB2, -⟩ := bgX (n := w.heap.size) (W0 := w) (by go_grown) (by go_size) hb2
    cases Z with
    | true =>
      go_wp2
      go_ret
      exact ⟨retI hE3.out.symm, hB2⟩
    | false =>
      go_wp2
      go_ret
      exact ⟨retI hE3.out.symm, hB2⟩
  · have cM1 : Hid (∀ W : World, Calls Try.prog 83 #[.string X, .bool false] W fun r w' => r = .returned (.bool (X.toList == [])) ∧ w' = W) := fun W => cM.out false W
    have hE2 : Hid (E = if (X.toList == []) = false ∨ n ≠ 2 then 1 else if Z = true then 0 else 1) := by have h := hE1.out; unfold Hid; simpa using h
    generalize (X.toList == []) = NB at cM1 hE2
    clear hE1 cM
    cases NB with
    | false =>
      have hE3 : Hid (E = 1) := by have h := hE2.out; rwa [if_pos (Or.inl rfl)] at h
      go_enter Try.func66, Try.ntmps66
      go_wp2_with fail
      refine (cM1.out _).mono ?_
      rintro r w1 ⟨rfl, rfl⟩
      go_wp2
      go_ret
      exact ⟨retI hE3.out.symm, by go_grown⟩
    | true =>
    by_cases hn : n = 2
    case neg =>
      have hE3 : Hid (E = 1) := by have h := hE2.out; rwa [if_pos (Or.inr hn)] at h
      have hn' : ((n : Int) != 2) = true := by simp; omega
      have hn'' : ¬ (n : Int) = 2 := by omega
      go_enter Try.func66, Try.ntmps66
      go_wp2_with fail
      refine (cM1.out _).mono ?_
      rintro r w1 ⟨rfl, rfl⟩
      go_wp2
      go_ret
      exact ⟨retI hE3.out.symm, by go_grown⟩
    subst hn
    have hE3 : Hid (E = if Z = true then 0 else 1) := by have h := hE2.out; rwa [if_neg (by simp)] at h
    clear hE2
    go_enter Try.func66, Try.ntmps66
    go_wp2_with fail
    refine (cM1.out _).mono ?_
    rintro r w1 ⟨rfl, rfl⟩
    go_wp2_with fail
    refine (cS.out _).mono ?_
    rintro r w2 ⟨rfl, hb2⟩
    obtain ⟨hB2, -⟩ := bgX (n := w.heap.size) (W0 := w) (by go_grown) (by go_size) hb2
    cases Z with
    | true =>
      go_wp2
      go_ret
      exact ⟨retI hE3.out.symm, hB2⟩
    | false =>
      go_wp2
      go_ret
      exact ⟨retI hE3.out.symm, hB2⟩
  · have cM1 : Hid (∀ W : World, Calls Try.prog 83 #[.string X, .bool false] W fun r w' => r = .returned (.bool (X.toList == [])) ∧ w' = W) := fun W => cM.out false W
    have hE2 : Hid (E = if (X.toList == []) = false ∨ n ≠ 2 then 1 else if Z = true then 0 else 1) := by have h := hE1.out; unfold Hid; simpa using h
    generalize (X.toList == []) = NB at cM1 hE2
    clear hE1 cM
    cases NB with
    | false =>
      have hE3 : Hid (E = 1) := by have h := hE2.out; rwa [if_pos (Or.inl rfl)] at h
      go_enter Try.func66, Try.ntmps66
      go_wp2_with fail
      refine (cM1.out _).mono ?_
      rintro r w1 ⟨rfl, rfl⟩
      go_wp2
      go_ret
      exact ⟨retI hE3.out.symm, by go_grown⟩
    | true =>
    by_cases hn : n = 2
    case neg =>
      have hE3 : Hid (E = 1) := by have h := hE2.out; rwa [if_pos (Or.inr hn)] at h
      have hn' : ((n : Int) != 2) = true := by simp; omega
      have hn'' : ¬ (n : Int) = 2 := by omega
      go_enter Try.func66, Try.ntmps66
      go_wp2_with fail
      refine (cM1.out _).mono ?_
      rintro r w1 ⟨rfl, rfl⟩
      go_wp2
      go_ret
      exact ⟨retI hE3.out.symm, by go_grown⟩
    subst hn
    have hE3 : Hid (E = if Z = true then 0 else 1) := by have h := hE2.out; rwa [if_neg (by simp)] at h
    clear hE2
    go_enter Try.func66, Try.ntmps66
    go_wp2_with fail
    refine (cM1.out _).mono ?_
    rintro r w1 ⟨rfl, rfl⟩
    go_wp2_with fail
    refine (cS.out _).mono ?_
    rintro r w2 ⟨rfl, hb2⟩
    obtain ⟨hB2, -⟩ := bgX (n := w.heap.size) (W0 := w) (by go_grown) (by go_size) hb2
    cases Z with
    | true =>
      go_wp2
      go_ret
      exact ⟨retI hE3.out.symm, hB2⟩
    | false =>
      go_wp2
      go_ret
      exact ⟨retI hE3.out.symm, hB2⟩

end Go.Proofs.Ytfajjphfjilpnab

namespace Go.Proofs.Ytfajjphfjilpnab
open Go.RowKit LX Go.Shelf
set_option linter.unusedVariables false

section
mutual
/-- A term is gone through: an error's number, and what is counted. -/
def trun (dep : Int) (s : Int × Int) : Tm → Int × (Int × Int)
  | .mk k nm v subs => if meetE dep s = 0 then (if tmE (.mk k nm v subs) = 0 then truns (dep + 1) (meetS dep s) subs else (tmE (.mk k nm v subs), meetS dep s)) else (meetE dep s, s)
def truns (dep : Int) (s : Int × Int) : List Tm → Int × (Int × Int)
  | [] => (0, s)
  | t :: l => if (trun dep s t).1 = 0 then truns dep (trun dep s t).2 l else trun dep s t
end
end
theorem trun_eq (dep : Int) (s : Int × Int) (t : Tm) : trun dep s t = if meetE dep s = 0 then (if tmE t = 0 then truns (dep + 1) (meetS dep s) t.subs else (tmE t, meetS dep s)) else (meetE dep s, s) := by
  cases t
  rw [trun]
  rfl
theorem truns_cons (dep : Int) (s : Int × Int) (t : Tm) (l : List Tm) : truns dep s (t :: l) = if (trun dep s t).1 = 0 then truns dep (trun dep s t).2 l else trun dep s t := by rw [truns]
theorem truns_nil (dep : Int) (s : Int × Int) : truns dep s [] = (0, s) := by rw [truns]
theorem truns_ok : ∀ (m : Nat) (ts : List Tm) (dep : Int) (s : Int × Int), SizeOf.sizeOf ts ≤ m → OkS s → 0 ≤ dep → OkS (truns dep s ts).2 := by
  intro m
  induction m with
  | zero => intro ts dep s hm; cases ts <;> simp at hm
  | succ m ih =>
    intro ts dep s hm hs hd
    cases ts with
    | nil => rw [truns_nil]; exact hs
    | cons t l =>
      simp only [List.cons.sizeOf_spec] at hm
      have ht : OkS (trun dep s t).2 := by
        rw [trun_eq]
        by_cases h1 : meetE dep s = 0
        · rw [if_pos h1]
          by_cases h2 : tmE t = 0
          · rw [if_pos h2]; exact ih _ _ _ (by have := t.subs_lt; omega) (meetS_ok hs hd) (by omega)
          · rw [if_neg h2]; exact meetS_ok hs hd
        · rw [if_neg h1]; exact hs
      rw [truns_cons]
      split
      · exact ih _ _ _ (by omega) ht hd
      · exact ht

set_option maxRecDepth 100000 in
set_option maxHeartbeats 8000000 in
theorem terms_any (w0 : World) (T : Nat) (hT0 : w0.heap.size ≤ T) : ∀ (m : Nat) (ts : List Tm) (V : Value) (dep : Int) (s : Int × Int) (w : World), SizeOf.sizeOf ts ≤ m → TmsAt w0 V ts → Below w0.heap.size w0 w → Tal T s w → OkS s → 0 ≤ dep → dep ≤ 25 →
    Calls Try.prog 56 #[.pointer (some ⟨T, 0, none⟩), .int .i64 dep, V] w fun r w' => r = .returned (.int .i64 (truns dep s ts).1) ∧ KeepT T w w' ∧ Tal T (truns dep s ts).2 w' := by
  intro m
  induction m with
  | zero => intro ts V dep s w hm; cases ts <;> simp at hm
  | succ m ih =>
    intro ts V dep s w hm hV hw hT hs hd0 hd1
    obtain ⟨p, c, rfl, hl, hc, HX0⟩ := hV.form
    have HX : Hid (∀ i (hi : i < ts.length), ∃ b off u, p = some ⟨b, off, none⟩ ∧ b < w0.heap.size ∧ TmC w0 b (off + i * 7) ts[i] u ∧ TmsAt w0 u ts[i].subs ∧ ts[i].v.Fits) := HX0
    have IH : Hid (∀ (ts : List Tm) (V : Value) (dep : Int) (s : Int × Int) (w : World), SizeOf.sizeOf ts ≤ m → TmsAt w0 V ts → Below w0.heap.size w0 w → Tal T s w → OkS s → 0 ≤ dep → dep ≤ 25 → Calls Try.prog 56 #[.pointer (some ⟨T, 0, none⟩), .int .i64 dep, V] w fun r w' => r = .returned (.int .i64 (truns dep s ts).1) ∧ KeepT T w w' ∧ Tal T (truns dep s ts).2 w') := ih
    have HT : Hid (Tal T s w) := hT
    have HS : Hid (OkS s) := hs
    have hTw : T < w.heap.size := hT.lt
    have HM : Hid (SizeOf.sizeOf ts ≤ m + 1) := hm
    clear hV HX0 ih hT hs hm
    obtain ⟨R, eR⟩ : ∃ R : Int × (Int × Int), Hid (truns dep s ts = R) := ⟨_, rfl⟩
    rw [eR.out]
    obtain ⟨n, en⟩ : ∃ n : Nat, Hid (ts.length = n) := ⟨_, rfl⟩
    rw [en.out] at hl hc ⊢
    go_enter Try.func56, Try.ntmps56
    go_wp2
    go_loopw [12] (fun v wr => ∃ (k : Nat) (q : Int × Int), k ≤ n ∧ v = .int .i64 k ∧ Hid (R = truns dep q (ts.drop k)) ∧ KeepT T w wr ∧ Hid (Tal T q wr) ∧ Hid (OkS q)) (fun v _ => n - (intOf v).toNat)
    case atStart => exact ⟨0, s, Nat.zero_le _, rfl, by rw [List.drop_zero]; exact eR.out.symm, KeepT.refl _ _, HT, HS⟩
    case round =>
      obtain ⟨k, q, hk, rfl, hr, hK, hT, hs⟩ := hrel
      by_cases hlt : k < n
      case neg =>
        have c2 : ¬ (k : Int) < n := by omega
        have hr2 : Hid (R = (0, q)) := by
          have h := hr.out
          rw [List.drop_eq_nil_of_le (by have := en.out; omega), truns_nil] at h
          exact h
        go_wp2
        go_ret
        rw [hr2.out]
        exact ⟨rfl, hK, hT.out⟩
      have hlt' : (k : Int) < n := by omega
      have kx : k < ts.length := by have := en.out; omega
      obtain ⟨b, off, u, rfl, hb, TC, TS, TF⟩ := HX.out k kx
      have hTr : T < wr.heap.size := Nat.lt_of_lt_of_le hTw hK.size
      have hBr : Below w0.heap.size w0 wr := hw.trans ((hK.below (B := w0.heap.size) hT0 (Nat.le_of_lt hTw)))
      obtain ⟨a0, a1, a2, a3, a4, a5, a6⟩ := TC.below hBr hb
      have hr2 : Hid (R = if (trun dep q ts[k]).1 = 0 then truns dep (trun dep q ts[k]).2 (ts.drop (k + 1)) else trun dep q ts[k]) := by
        have h := hr.out
        rw [List.drop_eq_getElem_cons kx, truns_cons] at h
        exact h
      have hsz : Hid (SizeOf.sizeOf ts[k].subs ≤ m) := by
        have h1 := mem_lt k kx
        have h2 := ts[k].subs_lt
        have h3 := HM.out
        unfold Hid
        omega
      have hte := trun_eq dep q ts[k]
      clear TC hr
      generalize ts[k] = t at *
      obtain ⟨pu, cu, rfl, -⟩ := TS.form
      have cM : Hid (∀ W : World, Tal T q W → Calls Try.prog 54 #[.pointer (some ⟨T, 0, none⟩), .int .i64 dep] W fun r w' => r = .returned (.int .i64 (meetE dep q)) ∧ KeepT T W w' ∧ Tal T (meetS dep q) w') := fun W hW => meet_any T dep q W hW hs.out ⟨hd0, hd1⟩
      have cC : Hid (∀ W : World, Calls Try.prog 66 #[.agg #[.int .i64 t.k, .string t.nm, .int .i64 t.v.k, .int .i64 t.v.n, .int .i64 t.v.d, .string t.v.s, .slice pu t.subs.length cu]] W fun r w' => r = .returned (.int .i64 (tmE t)) ∧ Below W.heap.size W w') := fun W => cterm_any t pu cu W TF
      have cR : Hid (∀ W : World, Below w0.heap.size w0 W → Tal T (meetS dep q) W → meetE dep q = 0 → Calls Try.prog 56 #[.pointer (some ⟨T, 0, none⟩), .int .i64 (dep + 1), .slice pu t.subs.length cu] W fun r w' => r = .returned (.int .i64 (truns (dep + 1) (meetS dep q) t.subs).1) ∧ KeepT T W w' ∧ Tal T (truns (dep + 1) (meetS dep q) t.subs).2 w') := fun W h1 h2 h3 => IH.out t.subs _ (dep + 1) (meetS dep q) W hsz.out TS h1 h2 (meetS_ok hs.out hd0) (by omega) (by have := meetE_le h3; omega)
      have HO2 : Hid (OkS (truns (dep + 1) (meetS dep q) t.subs).2) := truns_ok m t.subs (dep + 1) (meetS dep q) hsz.out (meetS_ok hs.out hd0) (by omega)
      clear TS TF hsz
      have HTE : Hid (trun dep q t = if meetE dep q = 0 then (if tmE t = 0 then truns (dep + 1) (meetS dep q) t.subs else (tmE t, meetS dep q)) else (meetE dep q, q)) := hte
      have HMS : Hid (¬ meetE dep q = 0 → meetS dep q = q) := fun h => if_neg h
      clear hte
      generalize trun dep q t = TR at *
      generalize truns (dep + 1) (meetS dep q) t.subs = TS at *
      generalize meetS dep q = Q1 at *
      generalize meetE dep q = E1 at *
      generalize tmE t = E2 at *
      generalize t.subs.length = nu at *
      generalize t.v.k = vk at *
      generalize t.v.n = vn at *
      generalize t.v.d = vd at *
      generalize t.v.s = vs at *
      generalize t.k = tk at *
      generalize t.nm = nm at *
      have hTne : wr.heap.size ≠ T := by omega
      go_wp2_with fail
      refine (cM.out _ (Tal.alloc hT.out _)).mono ?_
      rintro r w2 ⟨rfl, hk2, ht2⟩
      have e0 : w2.cell? ⟨wr.heap.size, 0, none⟩ = some (.int .i64 tk) := (hk2.cell (p := ⟨wr.heap.size, 0, none⟩) (by simp) hTne).trans (by simp [go_sem])
      have e1 : w2.cell? ⟨wr.heap.size, 1, none⟩ = some (.string nm) := (hk2.cell (p := ⟨wr.heap.size, 1, none⟩) (by simp) hTne).trans (by simp [go_sem])
      have e2 : w2.cell? ⟨wr.heap.size, 2, none⟩ = some (.int .i64 vk) := (hk2.cell (p := ⟨wr.heap.size, 2, none⟩) (by simp) hTne).trans (by simp [go_sem])
      have e3 : w2.cell? ⟨wr.heap.size, 3, none⟩ = some (.int .i64 vn) := (hk2.cell (p := ⟨wr.heap.size, 3, none⟩) (by simp) hTne).trans (by simp [go_sem])
      have e4 : w2.cell? ⟨wr.heap.size, 4, none⟩ = some (.int .i64 vd) := (hk2.cell (p := ⟨wr.heap.size, 4, none⟩) (by simp) hTne).trans (by simp [go_sem])
      have e5 : w2.cell? ⟨wr.heap.size, 5, none⟩ = some (.string vs) := (hk2.cell (p := ⟨wr.heap.size, 5, none⟩) (by simp) hTne).trans (by simp [go_sem])
      have e6 : w2.cell? ⟨wr.heap.size, 6, none⟩ = some (.slice pu nu cu) := (hk2.cell (p := ⟨wr.heap.size, 6, none⟩) (by simp) hTne).trans (by simp [go_sem])
      have hK2 : KeepT T w w2 := hK.trans ((KeepT.of ((Below.refl _ _).alloc (Nat.le_refl _) _)).trans hk2)
      have hz2 : wr.heap.size < w2.heap.size := by have := hk2.size; simp at this; omega
      have HT2 : Hid (Tal T Q1 w2) := ht2
      clear hk2 ht2 a0 a1 a2 a3 a4 a5 a6 cM
      by_cases hE1 : E1 = 0
      case neg =>
        have hE1' : (E1 == 0) = false := by simp [hE1]
        have hE1'' : (E1 != 0) = true := by simp [hE1]
        have hE1''' : ¬ E1 = 0 := hE1
        have hR : Hid (R = (E1, q)) := by
          have h := hr2.out
          have h2 := HTE.out
          rw [if_neg hE1] at h2
          rw [h2, if_neg hE1] at h
          exact h
        have hQ := HMS.out hE1
        subst hQ
        go_wp2
        go_ret
        rw [hR.out]
        exact ⟨rfl, hK2, HT2.out⟩
      have HTE2 : Hid (TR = if E2 = 0 then TS else (E2, Q1)) := by have h := HTE.out; rwa [if_pos hE1] at h
      have cR2 : Hid (∀ W : World, Below w0.heap.size w0 W → Tal T Q1 W → Calls Try.prog 56 #[.pointer (some ⟨T, 0, none⟩), .int .i64 (dep + 1), .slice pu nu cu] W fun r w' => r = .returned (.int .i64 TS.1) ∧ KeepT T W w' ∧ Tal T TS.2 w') := fun W a b => cR.out W a b hE1
      clear HTE cR HMS
      subst hE1
      have hB2 : Below w0.heap.size w0 w2 := hw.trans (hK2.below hT0 (Nat.le_of_lt hTw))
      go_wp2_with fail
      refine (cC.out _).mono ?_
      rintro r w3 ⟨rfl, hb3⟩
      have g6 := (hb3.cell (p := ⟨wr.heap.size, 6, none⟩) hz2).trans e6
      have hK3 : KeepT T w w3 := hK2.trans (KeepT.of hb3)
      have HT3 : Hid (Tal T Q1 w3) := HT2.out.below hb3
      have hB3 : Below w0.heap.size w0 w3 := hw.trans (hK3.below hT0 (Nat.le_of_lt hTw))
      clear cC e0 e1 e2 e3 e4 e5 e6 hb3 HT2 hB2
      by_cases hE2 : E2 = 0
      case neg =>
        have hE2' : (E2 == 0) = false := by simp [hE2]
        have hE2'' : (E2 != 0) = true := by simp [hE2]
        have hE2''' : ¬ E2 = 0 := hE2
        have hR : Hid (R = (E2, Q1)) := by
          have h := hr2.out
          have h2 := HTE2.out
          rw [if_neg hE2] at h2
          rw [h2, if_neg hE2] at h
          exact h
        go_wp2
        go_ret
        rw [hR.out]
        exact ⟨rfl, hK3, HT3.out⟩
      have hTR : Hid (TR = TS) := by have h2 := HTE2.out; rwa [if_pos hE2] at h2
      subst hE2
      have ctR := cR2.out w3 hB3 HT3.out
      clear cR2 HTE2
      obtain ⟨E3, Q3⟩ := TS
      dsimp only at ctR HO2
      have CTR : Hid (Calls Try.prog 56 #[.pointer (some ⟨T, 0, none⟩), .int .i64 (dep + 1), .slice pu nu cu] w3 fun r w' => r = .returned (.int .i64 E3) ∧ KeepT T w3 w' ∧ Tal T Q3 w') := ctR
      clear ctR
      go_wp2_with fail
      refine CTR.out.mono ?_
      rintro r w4 ⟨rfl, hk4, ht4⟩
      have hK4 : KeepT T w w4 := hK3.trans hk4
      have HT4 : Hid (Tal T Q3 w4) := ht4
      clear CTR hk4 ht4 g6
      by_cases hE3 : E3 = 0
      case neg =>
        have hE3'' : (E3 != 0) = true := by simp [hE3]
        have hE3''' : ¬ E3 = 0 := hE3
        have hR : Hid (R = (E3, Q3)) := by
          have h := hr2.out
          rw [hTR.out, if_neg hE3] at h
          exact h
        go_wp2
        go_ret
        rw [hR.out]
        exact ⟨rfl, hK4, HT4.out⟩
      have hR : Hid (R = truns dep Q3 (ts.drop (k + 1))) := by
        have h := hr2.out
        rw [hTR.out, if_pos hE3] at h
        exact h
      clear hTR hr2
      subst hE3
      go_wp2
      exact ⟨⟨k + 1, Q3, by omega, by go_num, hR, hK4, HT4, HO2⟩, by simp [intOf]; omega⟩

end Go.Proofs.Ytfajjphfjilpnab

namespace Go.Proofs.Ytfajjphfjilpnab
open Go.RowKit LX Go.Shelf
set_option linter.unusedVariables false

def opB (op : Int) (used : Bool) : Bool := if used = true then decide (1 ≤ op ∧ op ≤ 6) else op == 0
set_option maxRecDepth 100000 in
theorem isop_any (op : Int) (b : Bool) (w : World) :
    Calls Try.prog 84 #[.int .i64 op, .bool b] w fun r w' => r = .returned (.bool (opB op b)) ∧ w' = w := by
  cases b with
  | false =>
    have e : opB op false = (op == 0) := rfl
    rw [e]
    go_enter Try.func84, Try.ntmps84
    go_wp2
    go_ret
    exact ⟨by first | rfl | simp, rfl⟩
  | true =>
    have e : opB op true = decide (1 ≤ op ∧ op ≤ 6) := rfl
    rw [e]
    by_cases h1 : 1 ≤ op
    · by_cases h2 : op ≤ 6
      · rw [decide_eq_true (show 1 ≤ op ∧ op ≤ 6 from ⟨h1, h2⟩)]
        go_enter Try.func84, Try.ntmps84
        go_wp2
        go_ret
        exact ⟨by first | rfl | simp, rfl⟩
      · rw [decide_eq_false (show ¬ (1 ≤ op ∧ op ≤ 6) from fun h => h2 h.2)]
        go_enter Try.func84, Try.ntmps84
        go_wp2
        go_ret
        exact ⟨by first | rfl | simp, rfl⟩
    · rw [decide_eq_false (show ¬ (1 ≤ op ∧ op ≤ 6) from fun h => h1 h.1)]
      go_enter Try.func84, Try.ntmps84
      go_wp2
      go_ret
      exact ⟨by first | rfl | simp, rfl⟩
/-- Is an interval one? -/
def itvU (lo hi : Int) (o : Bool) : Bool := if lo < 0 ∨ 1099511627776 < lo then false else if o = true then hi == 0 else decide (lo ≤ hi ∧ hi ≤ 1099511627776)
def itvZ (lo hi : Int) (o : Bool) : Bool := lo == 0 && (hi == 0 && o == false)
def itvB (lo hi : Int) (o : Bool) (used : Bool) : Bool := if used = true then itvU lo hi o else itvZ lo hi o
set_option maxRecDepth 100000 in
set_option maxHeartbeats 1000000 in
theorem isiv_any (lo hi : Int) (o b : Bool) (w : World) :
    Calls Try.prog 85 #[.agg #[.int .i64 lo, .int .i64 hi, .bool o], .bool b] w fun r w' => r = .returned (.bool (itvB lo hi o b)) ∧ Below w.heap.size w w' := by
  cases b with
  | false =>
    have e : itvB lo hi o false = (lo == 0 && (hi == 0 && o == false)) := rfl
    rw [e]
    by_cases h1 : lo = 0
    · subst h1
      by_cases h2 : hi = 0
      · subst h2
        cases o <;>
        · go_enter Try.func85, Try.ntmps85
          go_wp2
          go_ret
          exact ⟨by first | rfl | simp, by go_grown⟩
      · have h2' : (hi == 0) = false := by simp [h2]
        rw [h2']
        cases o <;>
        · go_enter Try.func85, Try.ntmps85
          go_wp2
          go_ret
          exact ⟨by first | rfl | simp, by go_grown⟩
    · have h1' : (lo == 0) = false := by simp [h1]
      rw [h1']
      cases o <;>
      · go_enter Try.func85, Try.ntmps85
        go_wp2
        go_ret
        exact ⟨by first | rfl | simp, by go_grown⟩
  | true =>
    have e : itvB lo hi o true = if lo < 0 ∨ 1099511627776 < lo then false else if o = true then hi == 0 else decide (lo ≤ hi ∧ hi ≤ 1099511627776) := rfl
    rw [e]
    by_cases h1 : lo < 0
    · rw [if_pos (Or.inl h1)]
      go_enter Try.func85, Try.ntmps85
      go_wp2
      go_ret
      exact ⟨by first | rfl | simp, by go_grown⟩
    by_cases h2 : 1099511627776 < lo
    · rw [if_pos (Or.inr h2)]
      go_enter Try.func85, Try.ntmps85
      go_wp2
      go_ret
      exact ⟨by first | rfl | simp, by go_grown⟩
    rw [if_neg (by omega)]
    cases o with
    | true =>
      rw [if_pos rfl]
      go_enter Try.func85, Try.ntmps85
      go_wp2
      go_ret
      exact ⟨by first | rfl | simp, by go_grown⟩
    | false =>
      rw [if_neg (by decide)]
      by_cases h3 : lo ≤ hi
      · by_cases h4 : hi ≤ 1099511627776
        · rw [decide_eq_true (show lo ≤ hi ∧ hi ≤ 1099511627776 from ⟨h3, h4⟩)]
          go_enter Try.func85, Try.ntmps85
          go_wp2
          go_ret
          exact ⟨by first | rfl | simp, by go_grown⟩
        · rw [decide_eq_false (show ¬ (lo ≤ hi ∧ hi ≤ 1099511627776) from fun h => h4 h.2)]
          go_enter Try.func85, Try.ntmps85
          go_wp2
          go_ret
          exact ⟨by first | rfl | simp, by go_grown⟩
      · rw [decide_eq_false (show ¬ (lo ≤ hi ∧ hi ≤ 1099511627776) from fun h => h3 h.1)]
        go_enter Try.func85, Try.ntmps85
        go_wp2
        go_ret
        exact ⟨by first | rfl | simp, by go_grown⟩
/-- Has it too many? -/
def manyB (k : Int) (nv nt : Nat) : Bool := if k = 3 then decide (6 < nt) else if k = 20 ∨ k = 21 then decide (6 < nv) else if k = 10 ∨ k = 19 then decide (8 < nv) else false
theorem dec_lt (a n : Nat) : decide ((a : Int) < (n : Int)) = decide (a < n) := by
  by_cases h : a < n
  · rw [decide_eq_true h, decide_eq_true (by omega)]
  · rw [decide_eq_false h, decide_eq_false (by omega)]
set_option maxRecDepth 100000 in
set_option maxHeartbeats 2000000 in
theorem toomany_any (k op lo hi : Int) (nm : ByteArray) (o : Bool) (pv pt ps pr : Option Addr) (nv cv nt ct ns cs nr cr : Nat) (w : World) :
    Calls Try.prog 62 #[.agg #[.int .i64 k, .string nm, .int .i64 op, .slice pv nv cv, .slice pt nt ct, .int .i64 lo, .int .i64 hi, .bool o, .slice ps ns cs, .slice pr nr cr]] w fun r w' => r = .returned (.bool (manyB k nv nt)) ∧ Below w.heap.size w w' := by
  have hv6 := dec_lt 6 nv
  have hv8 := dec_lt 8 nv
  have ht6 := dec_lt 6 nt
  obtain ⟨R, eR⟩ : ∃ R : Bool, Hid (manyB k nv nt = R) := ⟨_, rfl⟩
  rw [eR.out]
  have hR : Hid (R = if k = 3 then decide (6 < nt) else if k = 20 ∨ k = 21 then decide (6 < nv) else if k = 10 ∨ k = 19 then decide (8 < nv) else false) := eR.out.symm
  clear eR
  by_cases h3 : k = 3
  · have hR2 : Hid (R = decide (6 < nt)) := by have h := hR.out; rwa [if_pos h3] at h
    subst h3
    rw [hR2.out]
    go_enter Try.func62, Try.ntmps62
    go_wp2
    go_ret
    exact ⟨by first | rfl | (simp; done) | (simp; omega), by go_grown⟩
  by_cases h20 : k = 20 ∨ k = 21
  · have hR2 : Hid (R = decide (6 < nv)) := by have h := hR.out; rwa [if_neg h3, if_pos h20] at h
    rw [hR2.out]
    rcases h20 with rfl | rfl <;>
    · go_enter Try.func62, Try.ntmps62
      go_wp2
      go_ret
      exact ⟨by first | rfl | (simp; done) | (simp; omega), by go_grown⟩
  by_cases h10 : k = 10 ∨ k = 19
  · have hR2 : Hid (R = decide (8 < nv)) := by have h := hR.out; rwa [if_neg h3, if_neg h20, if_pos h10] at h
    rw [hR2.out]
    rcases h10 with rfl | rfl <;>
    · go_enter Try.func62, Try.ntmps62
      go_wp2
      go_ret
      exact ⟨by first | rfl | (simp; done) | (simp; omega), by go_grown⟩
  have hR2 : Hid (R = false) := by have h := hR.out; rwa [if_neg h3, if_neg h20, if_neg h10] at h
  rw [hR2.out]
  have k3 : (k == 3) = false := by simp; omega
  have k20 : (k == 20) = false := by simp; omega
  have k21 : (k == 21) = false := by simp; omega
  have k10 : (k == 10) = false := by simp; omega
  have k19 : (k == 19) = false := by simp; omega
  go_enter Try.func62, Try.ntmps62
  go_wp2
  go_ret
  exact ⟨by first | rfl | (simp; done) | (simp; omega), by go_grown⟩
/-- Why a regex may not be, whatever stands within. -/
def rxE (r : Rx) : Int := if r.k < 1 ∨ 5 < r.k then 20 else if r.test.length ≠ (if r.k = 2 then 1 else 0) ∨ r.subs.length ≠ (if r.k = 3 ∨ r.k = 4 then 2 else if r.k = 5 then 1 else 0) then 1 else 0

end Go.Proofs.Ytfajjphfjilpnab

namespace Go.Proofs.Ytfajjphfjilpnab
open Go.RowKit LX Go.Shelf
set_option linter.unusedVariables false

theorem NmsAt.form {w : World} {v : Value} {vs : List ByteArray} (h : NmsAt w v vs) : ∃ p c, v = .slice p vs.length c ∧ vs.length ≤ 9223372036854775807 ∧ vs.length ≤ c ∧ ∀ i (hi : i < vs.length), ∃ b off, p = some ⟨b, off, none⟩ ∧ b < w.heap.size ∧ w.cell? ⟨b, off + i, none⟩ = some (.string vs[i]) := by
  obtain ⟨hl, p, c, e, hc, h | ⟨b, off, h1, h2, h3⟩⟩ := h
  · exact ⟨p, c, e, hl, hc, fun i hi => by subst h; simp at hi⟩
  · exact ⟨p, c, e, hl, hc, fun i hi => ⟨b, off, h1, h2, h3 i hi⟩⟩
def namesB : List ByteArray → Bool
  | [] => true
  | x :: l => nameB x && namesB l

set_option maxRecDepth 100000 in
set_option maxHeartbeats 2000000 in
theorem anames_any (V : Value) (vs : List ByteArray) (w : World) (hV : NmsAt w V vs) :
    Calls Try.prog 82 #[V] w fun r w' => r = .returned (.bool (namesB vs)) ∧ w' = w := by
  have cN : Hid (∀ (X : ByteArray) (W : World), Calls Try.prog 26 #[.string X] W fun e w' => e = .returned (.bool (nameB X)) ∧ w' = W) := fun X W => name_any X W
  obtain ⟨p, c, rfl, hl, -, HX0⟩ := hV.form
  have HX : Hid (∀ i (hi : i < vs.length), ∃ b off, p = some ⟨b, off, none⟩ ∧ b < w.heap.size ∧ w.cell? ⟨b, off + i, none⟩ = some (.string vs[i])) := HX0
  clear hV HX0
  obtain ⟨R, eR⟩ : ∃ R : Bool, Hid (namesB vs = R) := ⟨_, rfl⟩
  obtain ⟨n, en⟩ : ∃ n : Nat, Hid (vs.length = n) := ⟨_, rfl⟩
  rw [eR.out, en.out]
  rw [en.out] at hl
  go_enter Try.func82, Try.ntmps82
  go_wp2
  go_loop [7] (fun i => ∃ k : Nat, k ≤ n ∧ i = .int .i64 k ∧ Hid (R = namesB (vs.drop k))) (fun i => n - (intOf i).toNat)
  case atStart => exact ⟨0, Nat.zero_le _, rfl, by rw [List.drop_zero]; exact eR.out.symm⟩
  case round =>
    obtain ⟨k, hk, rfl, hr⟩ := hrel
    by_cases hlt : k < n
    · have kx : k < vs.length := by have := en.out; omega
      obtain ⟨b, off, rfl, hb, r0⟩ := HX.out k kx
      have hlt' : (k : Int) < n := by omega
      have hr2 : Hid (R = (nameB vs[k] && namesB (vs.drop (k + 1)))) := by
        have h := hr.out
        rw [List.drop_eq_getElem_cons kx] at h
        exact h
      clear hr
      generalize vs[k] = X at r0 hr2
      have cN1 : Hid (∀ W : World, Calls Try.prog 26 #[.string X] W fun e w' => e = .returned (.bool (nameB X)) ∧ w' = W) := fun W => cN.out X W
      generalize nameB X = NB at cN1 hr2
      cases NB with
      | false =>
        have hr3 : Hid (R = false) := by have h := hr2.out; unfold Hid; simpa using h
        go_wp2_with fail
        refine (cN1.out _).mono ?_
        rintro e w2 ⟨rfl, rfl⟩
        clear cN1
        go_wp2
        go_ret
        rw [hr3.out]
        exact ⟨rfl, rfl⟩
      | true =>
        have hr3 : Hid (R = namesB (vs.drop (k + 1))) := by have h := hr2.out; unfold Hid; simpa using h
        go_wp2_with fail
        refine (cN1.out _).mono ?_
        rintro e w2 ⟨rfl, rfl⟩
        clear cN1
        go_wp2
        exact ⟨⟨k + 1, by omega, by go_num, hr3⟩, by simp [intOf]; omega⟩
    · have c2 : ¬ (k : Int) < n := by omega
      have hr3 : Hid (R = true) := by
        have h := hr.out
        rw [List.drop_eq_nil_of_le (by have := en.out; omega)] at h
        exact h
      go_wp2
      go_ret
      rw [hr3.out]
      exact ⟨rfl, rfl⟩

set_option maxRecDepth 100000 in
theorem takes_any (a b n : Int) (w : World) :
    Calls Try.prog 81 #[.agg #[.int .i64 a, .int .i64 b], .int .i64 n] w fun r w' => r = .returned (.bool (decide (a ≤ n ∧ n ≤ b))) ∧ Below w.heap.size w w' := by
  by_cases h1 : a ≤ n
  · by_cases h2 : n ≤ b
    · rw [decide_eq_true (show a ≤ n ∧ n ≤ b from ⟨h1, h2⟩)]
      go_enter Try.func81, Try.ntmps81
      go_wp2
      go_ret
      exact ⟨by first | rfl | simp, by go_grown⟩
    · rw [decide_eq_false (show ¬ (a ≤ n ∧ n ≤ b) from fun h => h2 h.2)]
      go_enter Try.func81, Try.ntmps81
      go_wp2
      go_ret
      exact ⟨by first | rfl | simp, by go_grown⟩
  · rw [decide_eq_false (show ¬ (a ≤ n ∧ n ≤ b) from fun h => h1 h.1)]
    go_enter Try.func81, Try.ntmps81
    go_wp2
    go_ret
    exact ⟨by first | rfl | simp, by go_grown⟩

/-- Which fields a kind of formulas uses, and how many there may be of each. -/
structure Frm where
  nm : Bool
  op : Bool
  iv : Bool
  vl : Int
  vm : Int
  tl : Int
  tm : Int
  sl : Int
  sm : Int
  rl : Int
  rm : Int
def Frm.val (f : Frm) : Value := .agg #[.bool f.nm, .bool f.op, .bool f.iv, .int .i64 f.vl, .int .i64 f.vm, .int .i64 f.tl, .int .i64 f.tm, .int .i64 f.sl, .int .i64 f.sm, .int .i64 f.rl, .int .i64 f.rm]
def frm (k : Int) : Frm := if k = 1 then ⟨false, false, false, 0, 0, 0, 0, 0, 0, 0, 0⟩ else if k = 2 then ⟨false, false, false, 0, 0, 0, 0, 0, 0, 0, 0⟩ else if k = 3 then ⟨true, false, false, 0, 0, 0, 6, 0, 0, 0, 0⟩ else if k = 4 then ⟨false, false, false, 0, 0, 2, 2, 0, 0, 0, 0⟩ else if k = 5 then ⟨false, false, false, 0, 0, 2, 2, 0, 0, 0, 0⟩ else if k = 6 then ⟨false, false, false, 0, 0, 2, 2, 0, 0, 0, 0⟩ else if k = 7 then ⟨false, false, false, 0, 0, 0, 0, 1, 1, 0, 0⟩ else if k = 8 then ⟨false, false, false, 0, 0, 0, 0, 2, 2, 0, 0⟩ else if k = 9 then ⟨false, false, false, 0, 0, 0, 0, 2, 2, 0, 0⟩ else if k = 10 then ⟨false, false, false, 1, 8, 0, 0, 1, 1, 0, 0⟩ else if k = 11 then ⟨false, false, true, 0, 0, 0, 0, 1, 1, 0, 0⟩ else if k = 12 then ⟨false, false, true, 0, 0, 0, 0, 1, 1, 0, 0⟩ else if k = 13 then ⟨false, false, true, 0, 0, 0, 0, 1, 1, 0, 0⟩ else if k = 14 then ⟨false, false, true, 0, 0, 0, 0, 1, 1, 0, 0⟩ else if k = 15 then ⟨false, false, true, 0, 0, 0, 0, 2, 2, 0, 0⟩ else if k = 16 then ⟨false, false, true, 0, 0, 0, 0, 2, 2, 0, 0⟩ else if k = 17 then ⟨false, false, true, 0, 0, 0, 0, 0, 0, 1, 1⟩ else if k = 18 then ⟨false, false, true, 0, 0, 0, 0, 0, 0, 1, 1⟩ else if k = 19 then ⟨true, true, false, 1, 8, 0, 0, 1, 1, 0, 0⟩ else if k = 20 then ⟨true, false, false, 0, 6, 0, 0, 2, 2, 0, 0⟩ else if k = 21 then ⟨true, false, false, 0, 6, 0, 0, 2, 2, 0, 0⟩ else ⟨false, false, false, 0, 0, 0, 0, 1, 9223372036854775807, 0, 0⟩

set_option maxRecDepth 100000 in
set_option maxHeartbeats 1000000 in
theorem formof_1 (w : World) : Calls Try.prog 80 #[.int .i64 1] w fun r w' => r = .returned (.agg #[.bool false, .bool false, .bool false, .int .i64 0, .int .i64 0, .int .i64 0, .int .i64 0, .int .i64 0, .int .i64 0, .int .i64 0, .int .i64 0]) ∧ Below w.heap.size w w' := by
  go_enter Try.func80, Try.ntmps80
  go_wp2
  refine bodyPost_ret (by simp [results, Try.results80, go_sem]; try rfl) rfl ?_
  exact ⟨rfl, by go_grown⟩

set_option maxRecDepth 100000 in
set_option maxHeartbeats 1000000 in
theorem formof_2 (w : World) : Calls Try.prog 80 #[.int .i64 2] w fun r w' => r = .returned (.agg #[.bool false, .bool false, .bool false, .int .i64 0, .int .i64 0, .int .i64 0, .int .i64 0, .int .i64 0, .int .i64 0, .int .i64 0, .int .i64 0]) ∧ Below w.heap.size w w' := by
  go_enter Try.func80, Try.ntmps80
  go_wp2
  refine bodyPost_ret (by simp [results, Try.results80, go_sem]; try rfl) rfl ?_
  exact ⟨rfl, by go_grown⟩

set_option maxRecDepth 100000 in
set_option maxHeartbeats 1000000 in
theorem formof_3 (w : World) : Calls Try.prog 80 #[.int .i64 3] w fun r w' => r = .returned (.agg #[.bool true, .bool false, .bool false, .int .i64 0, .int .i64 0, .int .i64 0, .int .i64 6, .int .i64 0, .int .i64 0, .int .i64 0, .int .i64 0]) ∧ Below w.heap.size w w' := by
  go_enter Try.func80, Try.ntmps80
  go_wp2
  refine bodyPost_ret (by simp [results, Try.results80, go_sem]; try rfl) rfl ?_
  exact ⟨rfl, by go_grown⟩

set_option maxRecDepth 100000 in
set_option maxHeartbeats 1000000 in
theorem formof_4 (w : World) : Calls Try.prog 80 #[.int .i64 4] w fun r w' => r = .returned (.agg #[.bool false, .bool false, .bool false, .int .i64 0, .int .i64 0, .int .i64 2, .int .i64 2, .int .i64 0, .int .i64 0, .int .i64 0, .int .i64 0]) ∧ Below w.heap.size w w' := by
  go_enter Try.func80, Try.ntmps80
  go_wp2
  refine bodyPost_ret (by simp [results, Try.results80, go_sem]; try rfl) rfl ?_
  exact ⟨rfl, by go_grown⟩

set_option maxRecDepth 100000 in
set_option maxHeartbeats 1000000 in
theorem formof_5 (w : World) : Calls Try.prog 80 #[.int .i64 5] w fun r w' => r = .returned (.agg #[.bool false, .bool false, .bool false, .int .i64 0, .int .i64 0, .int .i64 2, .int .i64 2, .int .i64 0, .int .i64 0, .int .i64 0, .int .i64 0]) ∧ Below w.heap.size w w' := by
  go_enter Try.func80, Try.ntmps80
  go_wp2
  refine bodyPost_ret (by simp [results, Try.results80, go_sem]; try rfl) rfl ?_
  exact ⟨rfl, by go_grown⟩

set_option maxRecDepth 100000 in
set_option maxHeartbeats 1000000 in
theorem formof_6 (w : World) : Calls Try.prog 80 #[.int .i64 6] w fun r w' => r = .returned (.agg #[.bool false, .bool false, .bool false, .int .i64 0, .int .i64 0, .int .i64 2, .int .i64 2, .int .i64 0, .int .i64 0, .int .i64 0, .int .i64 0]) ∧ Below w.heap.size w w' := by
  go_enter Try.func80, Try.ntmps80
  go_wp2
  refine bodyPost_ret (by simp [results, Try.results80, go_sem]; try rfl) rfl ?_
  exact ⟨rfl, by go_grown⟩

set_option maxRecDepth 100000 in
set_option maxHeartbeats 1000000 in
theorem formof_7 (w : World) : Calls Try.prog 80 #[.int .i64 7] w fun r w' => r = .returned (.agg #[.bool false, .bool false, .bool false, .int .i64 0, .int .i64 0, .int .i64 0, .int .i64 0, .int .i64 1, .int .i64 1, .int .i64 0, .int .i64 0]) ∧ Below w.heap.size w w' := by
  go_enter Try.func80, Try.ntmps80
  go_wp2
  refine bodyPost_ret (by simp [results, Try.results80, go_sem]; try rfl) rfl ?_
  exact ⟨rfl, by go_grown⟩

set_option maxRecDepth 100000 in
set_option maxHeartbeats 1000000 in
theorem formof_8 (w : World) : Calls Try.prog 80 #[.int .i64 8] w fun r w' => r = .returned (.agg #[.bool false, .bool false, .bool false, .int .i64 0, .int .i64 0, .int .i64 0, .int .i64 0, .int .i64 2, .int .i64 2, .int .i64 0, .int .i64 0]) ∧ Below w.heap.size w w' := by
  go_enter Try.func80, Try.ntmps80
  go_wp2
  refine bodyPost_ret (by simp [results, Try.results80, go_sem]; try rfl) rfl ?_
  exact ⟨rfl, by go_grown⟩

set_option maxRecDepth 100000 in
set_option maxHeartbeats 1000000 in
theorem formof_9 (w : World) : Calls Try.prog 80 #[.int .i64 9] w fun r w' => r = .returned (.agg #[.bool false, .bool false, .bool false, .int .i64 0, .int .i64 0, .int .i64 0, .int .i64 0, .int .i64 2, .int .i64 2, .int .i64 0, .int .i64 0]) ∧ Below w.heap.size w w' := by
  go_enter Try.func80, Try.ntmps80
  go_wp2
  refine bodyPost_ret (by simp [results, Try.results80, go_sem]; try rfl) rfl ?_
  exact ⟨rfl, by go_grown⟩

set_option maxRecDepth 100000 in
set_option maxHeartbeats 1000000 in
theorem formof_10 (w : World) : Calls Try.prog 80 #[.int .i64 10] w fun r w' => r = .returned (.agg #[.bool false, .bool false, .bool false, .int .i64 1, .int .i64 8, .int .i64 0, .int .i64 0, .int .i64 1, .int .i64 1, .int .i64 0, .int .i64 0]) ∧ Below w.heap.size w w' := by
  go_enter Try.func80, Try.ntmps80
  go_wp2
  refine bodyPost_ret (by simp [results, Try.results80, go_sem]; try rfl) rfl ?_
  exact ⟨rfl, by go_grown⟩

set_option maxRecDepth 100000 in
set_option maxHeartbeats 1000000 in
theorem formof_11 (w : World) : Calls Try.prog 80 #[.int .i64 11] w fun r w' => r = .returned (.agg #[.bool false, .bool false, .bool true, .int .i64 0, .int .i64 0, .int .i64 0, .int .i64 0, .int .i64 1, .int .i64 1, .int .i64 0, .int .i64 0]) ∧ Below w.heap.size w w' := by
  go_enter Try.func80, Try.ntmps80
  go_wp2
  refine bodyPost_ret (by simp [results, Try.results80, go_sem]; try rfl) rfl ?_
  exact ⟨rfl, by go_grown⟩

set_option maxRecDepth 100000 in
set_option maxHeartbeats 1000000 in
theorem formof_12 (w : World) : Calls Try.prog 80 #[.int .i64 12] w fun r w' => r = .returned (.agg #[.bool false, .bool false, .bool true, .int .i64 0, .int .i64 0, .int .i64 0, .int .i64 0, .int .i64 1, .int .i64 1, .int .i64 0, .int .i64 0]) ∧ Below w.heap.size w w' := by
  go_enter Try.func80, Try.ntmps80
  go_wp2
  refine bodyPost_ret (by simp [results, Try.results80, go_sem]; try rfl) rfl ?_
  exact ⟨rfl, by go_grown⟩

set_option maxRecDepth 100000 in
set_option maxHeartbeats 1000000 in
theorem formof_13 (w : World) : Calls Try.prog 80 #[.int .i64 13] w fun r w' => r = .returned (.agg #[.bool false, .bool false, .bool true, .int .i64 0, .int .i64 0, .int .i64 0, .int .i64 0, .int .i64 1, .int .i64 1, .int .i64 0, .int .i64 0]) ∧ Below w.heap.size w w' := by
  go_enter Try.func80, Try.ntmps80
  go_wp2
  refine bodyPost_ret (by simp [results, Try.results80, go_sem]; try rfl) rfl ?_
  exact ⟨rfl, by go_grown⟩

set_option maxRecDepth 100000 in
set_option maxHeartbeats 1000000 in
theorem formof_14 (w : World) : Calls Try.prog 80 #[.int .i64 14] w fun r w' => r = .returned (.agg #[.bool false, .bool false, .bool true, .int .i64 0, .int .i64 0, .int .i64 0, .int .i64 0, .int .i64 1, .int .i64 1, .int .i64 0, .int .i64 0]) ∧ Below w.heap.size w w' := by
  go_enter Try.func80, Try.ntmps80
  go_wp2
  refine bodyPost_ret (by simp [results, Try.results80, go_sem]; try rfl) rfl ?_
  exact ⟨rfl, by go_grown⟩

set_option maxRecDepth 100000 in
set_option maxHeartbeats 1000000 in
theorem formof_15 (w : World) : Calls Try.prog 80 #[.int .i64 15] w fun r w' => r = .returned (.agg #[.bool false, .bool false, .bool true, .int .i64 0, .int .i64 0, .int .i64 0, .int .i64 0, .int .i64 2, .int .i64 2, .int .i64 0, .int .i64 0]) ∧ Below w.heap.size w w' := by
  go_enter Try.func80, Try.ntmps80
  go_wp2
  refine bodyPost_ret (by simp [results, Try.results80, go_sem]; try rfl) rfl ?_
  exact ⟨rfl, by go_grown⟩

set_option maxRecDepth 100000 in
set_option maxHeartbeats 1000000 in
theorem formof_16 (w : World) : Calls Try.prog 80 #[.int .i64 16] w fun r w' => r = .returned (.agg #[.bool false, .bool false, .bool true, .int .i64 0, .int .i64 0, .int .i64 0, .int .i64 0, .int .i64 2, .int .i64 2, .int .i64 0, .int .i64 0]) ∧ Below w.heap.size w w' := by
  go_enter Try.func80, Try.ntmps80
  go_wp2
  refine bodyPost_ret (by simp [results, Try.results80, go_sem]; try rfl) rfl ?_
  exact ⟨rfl, by go_grown⟩

set_option maxRecDepth 100000 in
set_option maxHeartbeats 1000000 in
theorem formof_17 (w : World) : Calls Try.prog 80 #[.int .i64 17] w fun r w' => r = .returned (.agg #[.bool false, .bool false, .bool true, .int .i64 0, .int .i64 0, .int .i64 0, .int .i64 0, .int .i64 0, .int .i64 0, .int .i64 1, .int .i64 1]) ∧ Below w.heap.size w w' := by
  go_enter Try.func80, Try.ntmps80
  go_wp2
  refine bodyPost_ret (by simp [results, Try.results80, go_sem]; try rfl) rfl ?_
  exact ⟨rfl, by go_grown⟩

set_option maxRecDepth 100000 in
set_option maxHeartbeats 1000000 in
theorem formof_18 (w : World) : Calls Try.prog 80 #[.int .i64 18] w fun r w' => r = .returned (.agg #[.bool false, .bool false, .bool true, .int .i64 0, .int .i64 0, .int .i64 0, .int .i64 0, .int .i64 0, .int .i64 0, .int .i64 1, .int .i64 1]) ∧ Below w.heap.size w w' := by
  go_enter Try.func80, Try.ntmps80
  go_wp2
  refine bodyPost_ret (by simp [results, Try.results80, go_sem]; try rfl) rfl ?_
  exact ⟨rfl, by go_grown⟩

set_option maxRecDepth 100000 in
set_option maxHeartbeats 1000000 in
theorem formof_19 (w : World) : Calls Try.prog 80 #[.int .i64 19] w fun r w' => r = .returned (.agg #[.bool true, .bool true, .bool false, .int .i64 1, .int .i64 8, .int .i64 0, .int .i64 0, .int .i64 1, .int .i64 1, .int .i64 0, .int .i64 0]) ∧ Below w.heap.size w w' := by
  go_enter Try.func80, Try.ntmps80
  go_wp2
  refine bodyPost_ret (by simp [results, Try.results80, go_sem]; try rfl) rfl ?_
  exact ⟨rfl, by go_grown⟩

set_option maxRecDepth 100000 in
set_option maxHeartbeats 1000000 in
theorem formof_20 (w : World) : Calls Try.prog 80 #[.int .i64 20] w fun r w' => r = .returned (.agg #[.bool true, .bool false, .bool false, .int .i64 0, .int .i64 6, .int .i64 0, .int .i64 0, .int .i64 2, .int .i64 2, .int .i64 0, .int .i64 0]) ∧ Below w.heap.size w w' := by
  go_enter Try.func80, Try.ntmps80
  go_wp2
  refine bodyPost_ret (by simp [results, Try.results80, go_sem]; try rfl) rfl ?_
  exact ⟨rfl, by go_grown⟩

set_option maxRecDepth 100000 in
set_option maxHeartbeats 1000000 in
theorem formof_21 (w : World) : Calls Try.prog 80 #[.int .i64 21] w fun r w' => r = .returned (.agg #[.bool true, .bool false, .bool false, .int .i64 0, .int .i64 6, .int .i64 0, .int .i64 0, .int .i64 2, .int .i64 2, .int .i64 0, .int .i64 0]) ∧ Below w.heap.size w w' := by
  go_enter Try.func80, Try.ntmps80
  go_wp2
  refine bodyPost_ret (by simp [results, Try.results80, go_sem]; try rfl) rfl ?_
  exact ⟨rfl, by go_grown⟩

set_option maxRecDepth 100000 in
set_option maxHeartbeats 1000000 in
theorem formof_22 (w : World) : Calls Try.prog 80 #[.int .i64 22] w fun r w' => r = .returned (.agg #[.bool false, .bool false, .bool false, .int .i64 0, .int .i64 0, .int .i64 0, .int .i64 0, .int .i64 1, .int .i64 9223372036854775807, .int .i64 0, .int .i64 0]) ∧ Below w.heap.size w w' := by
  go_enter Try.func80, Try.ntmps80
  go_wp2
  refine bodyPost_ret (by simp [results, Try.results80, go_sem]; try rfl) rfl ?_
  exact ⟨rfl, by go_grown⟩
theorem formof_any (k : Int) (w : World) (h : 1 ≤ k ∧ k ≤ 22) : Calls Try.prog 80 #[.int .i64 k] w fun r w' => r = .returned (frm k).val ∧ Below w.heap.size w w' := by
  have : k = 1 ∨ k = 2 ∨ k = 3 ∨ k = 4 ∨ k = 5 ∨ k = 6 ∨ k = 7 ∨ k = 8 ∨ k = 9 ∨ k = 10 ∨ k = 11 ∨ k = 12 ∨ k = 13 ∨ k = 14 ∨ k = 15 ∨ k = 16 ∨ k = 17 ∨ k = 18 ∨ k = 19 ∨ k = 20 ∨ k = 21 ∨ k = 22 := by omega
  rcases this with rfl | rfl | rfl | rfl | rfl | rfl | rfl | rfl | rfl | rfl | rfl | rfl | rfl | rfl | rfl | rfl | rfl | rfl | rfl | rfl | rfl | rfl
  · exact formof_1 w
  · exact formof_2 w
  · exact formof_3 w
  · exact formof_4 w
  · exact formof_5 w
  · exact formof_6 w
  · exact formof_7 w
  · exact formof_8 w
  · exact formof_9 w
  · exact formof_10 w
  · exact formof_11 w
  · exact formof_12 w
  · exact formof_13 w
  · exact formof_14 w
  · exact formof_15 w
  · exact formof_16 w
  · exact formof_17 w
  · exact formof_18 w
  · exact formof_19 w
  · exact formof_20 w
  · exact formof_21 w
  · exact formof_22 w

end Go.Proofs.Ytfajjphfjilpnab
