/- unescape and unquote at every text. -/
import Derived.Test.YtedoahibceeklabGreatDoorVPu3
namespace Go.Proofs.YtedoahibceeklabGreatDoor
open Go.RowKit Go.Shelf
set_option linter.unusedVariables false

/-- What stands behind a backslash: the byte, and how many bytes say so. -/
def une : List UInt8 → Option (UInt8 × Nat)
  | [] => none
  | c :: r => if c.toNat = 120 then (match r with
      | a :: b :: _ => (hex2 a b).map fun x => (x, 3)
      | _ => none) else some (c, 1)
/-- What a text between quotes says. -/
def unq (l : List UInt8) : Option (List UInt8) :=
  match l with
  | [] => some []
  | c :: r => if c.toNat = 92 then (match une r with
      | none => none
      | some (x, k) => (unq (r.drop k)).map fun y => x :: y) else (unq r).map fun y => c :: y
termination_by l.length
decreasing_by all_goals simp; try omega

theorem hexv_all : ∀ i : Fin 16, hexv (hexd i.1) = i.1 := by decide
theorem hexv_hexd (n : Nat) (h : n < 16) : hexv (hexd n) = n := hexv_all ⟨n, h⟩
theorem unq_nil : unq [] = some [] := by rw [unq]
theorem unq_plain {c : UInt8} (r : List UInt8) (h : c.toNat ≠ 92) : unq (c :: r) = (unq r).map fun y => c :: y := by rw [unq]; simp [h]
theorem unq_esc {c : UInt8} (r : List UInt8) (h : c.toNat = 92) : unq (c :: r) = (match une r with
      | none => none
      | some (x, k) => (unq (r.drop k)).map fun y => x :: y) := by rw [unq]; simp [h]
theorem une_len {l : List UInt8} {x : UInt8} {k : Nat} (h : une l = some (x, k)) : k ≤ l.length ∧ k ≤ 3 := by
  unfold une at h
  split at h
  · cases h
  · split at h
    · split at h
      · simp only [Option.map_eq_some_iff, Prod.mk.injEq] at h
        obtain ⟨y, _, _, rfl⟩ := h
        simp
      · cases h
    · simp only [Option.some.injEq, Prod.mk.injEq] at h
      simp [← h.2]
theorem unq_inside : ∀ l : List UInt8, unq (inside l) = some l
  | [] => by simp [inside, unq_nil]
  | c :: l => by
    have ih := unq_inside l
    have e : inside (c :: l) = esc c ++ inside l := by simp [inside]
    rw [e]
    unfold esc
    have hc : c.toNat < 256 := c.toNat_lt
    by_cases h1 : c.toNat = 34 ∨ c.toNat = 92
    · rw [if_pos h1]
      show unq (92 :: c :: inside l) = _
      rw [unq_esc _ rfl]
      have h2 : c.toNat ≠ 120 := by omega
      simp [une, h2, ih]
    · rw [if_neg h1]
      by_cases h2 : 32 ≤ c.toNat ∧ c.toNat ≤ 126
      · rw [if_pos h2]
        show unq (c :: inside l) = _
        rw [unq_plain _ (by omega), ih]
        rfl
      · rw [if_neg h2]
        show unq (92 :: 120 :: hexd (c.toNat / 16) :: hexd (c.toNat % 16) :: inside l) = _
        rw [unq_esc _ rfl]
        have p1 := hexv_hexd (c.toNat / 16) (by omega)
        have p2 := hexv_hexd (c.toNat % 16) (by omega)
        have e2 : UInt8.ofNat (16 * (c.toNat / 16) + c.toNat % 16) = c := by
          have : 16 * (c.toNat / 16) + c.toNat % 16 = c.toNat := by omega
          rw [this]
          exact UInt8.ofNat_toNat
        have p3 : hex2 (hexd (c.toNat / 16)) (hexd (c.toNat % 16)) = some c := by
          unfold hex2
          rw [p1, p2, if_pos ⟨by omega, by omega⟩, e2]
        simp [une, p3, ih]

set_option maxRecDepth 100000 in
set_option maxHeartbeats 2000000 in
theorem unesc_nil (w : World) :
    Calls Tryz.prog 63 #[.string ⟨#[]⟩] w fun e w' => e = .returned (.tuple #[.int .u8 0, .int .i64 0, .bool false]) ∧ Below w.heap.size w w' := by
  go_enter Tryz.func63, Tryz.ntmps63
  go_wp2
  refine bodyPost_ret (by simp [results, Tryz.results63, go_sem]; try rfl) rfl ?_
  exact ⟨rfl, Below.refl _ _⟩

set_option maxRecDepth 100000 in
set_option maxHeartbeats 2000000 in
theorem unesc_one (u : ByteArray) (c : UInt8) (w : World) (h0 : 0 < u.size) (hc : u[0] = c) (h1 : ((c.toNat : Int) != 120) = true) (hne : (u.toList == []) = false) :
    Calls Tryz.prog 63 #[.string u] w fun e w' => e = .returned (.tuple #[.int .u8 c.toNat, .int .i64 1, .bool true]) ∧ Below w.heap.size w w' := by
  have h0' : (0 : Int) < u.size := by omega
  have hb : ByteArray.toList u ≠ [] := by simpa using hne
  go_enter Tryz.func63, Tryz.ntmps63
  go_wp2
  refine bodyPost_ret (by simp [results, Tryz.results63, go_sem]; try rfl) rfl ?_
  exact ⟨rfl, Below.refl _ _⟩

set_option maxRecDepth 100000 in
set_option maxHeartbeats 2000000 in
theorem unesc_short (u : ByteArray) (c : UInt8) (w : World) (h0 : 0 < u.size) (hc : u[0] = c) (h1 : ((c.toNat : Int) != 120) = false) (hne : (u.toList == []) = false) (h3 : u.size < 3) :
    Calls Tryz.prog 63 #[.string u] w fun e w' => e = .returned (.tuple #[.int .u8 0, .int .i64 0, .bool false]) ∧ Below w.heap.size w w' := by
  have h0' : (0 : Int) < u.size := by omega
  have h3' : (u.size : Int) < 3 := by omega
  have hb : ByteArray.toList u ≠ [] := by simpa using hne
  go_enter Tryz.func63, Tryz.ntmps63
  go_wp2
  refine bodyPost_ret (by simp [results, Tryz.results63, go_sem]; try rfl) rfl ?_
  exact ⟨rfl, Below.refl _ _⟩

set_option maxRecDepth 100000 in
set_option maxHeartbeats 2000000 in
theorem unesc_yes (u : ByteArray) (c a b : UInt8) (w : World) (h0 : 0 < u.size) (hc : u[0] = c) (h1 : ((c.toNat : Int) != 120) = false) (hne : (u.toList == []) = false) (h3 : 3 ≤ u.size) (hx : u.extract 1 3 = ⟨#[a, b]⟩) (hh : hexv a < 16 ∧ hexv b < 16) :
    Calls Tryz.prog 63 #[.string u] w fun e w' => e = .returned (.tuple #[.int .u8 ((16 * hexv a + hexv b : Nat) : Int), .int .i64 3, .bool true]) ∧ Below w.heap.size w w' := by
  obtain ⟨v, ev⟩ : ∃ v : Nat, Hid (16 * hexv a + hexv b = v) := ⟨_, rfl⟩
  have hv : v < 256 := by have := ev.out; omega
  have H : Hid (∀ W : World, Calls Tryz.prog 83 #[.string ⟨#[a, b]⟩, .int .i64 16, .int .i64 8] W fun e w' => e = .returned (.tuple #[.int .u64 (v : Int), .nilIface]) ∧ Below W.heap.size W w') := fun W => by
    have q := pu_yes a b W hh
    rw [ev.out] at q
    exact q
  have hw : IntKind.u8.wrap (v : Int) = (v : Int) := by simp [IntKind.wrap, IntKind.bits, IntKind.signed]; omega
  rw [ev.out]
  clear ev hh
  have h0' : (0 : Int) < u.size := by omega
  have h3' : (3 : Int) ≤ u.size := by omega
  have hb : ByteArray.toList u ≠ [] := by simpa using hne
  go_enter Tryz.func63, Tryz.ntmps63
  go_wp2_with fail
  refine (H.out _).mono ?_
  rintro e w1 ⟨rfl, hb1⟩
  go_wp2
  go_region
  go_wp2
  refine bodyPost_ret (by simp [results, Tryz.results63, go_sem]; try rfl) rfl ?_
  exact ⟨rfl, hb1.drew⟩

set_option maxRecDepth 100000 in
set_option maxHeartbeats 2000000 in
theorem unesc_no (u : ByteArray) (c a b : UInt8) (w : World) (h0 : 0 < u.size) (hc : u[0] = c) (h1 : ((c.toNat : Int) != 120) = false) (hne : (u.toList == []) = false) (h3 : 3 ≤ u.size) (hx : u.extract 1 3 = ⟨#[a, b]⟩) (hh : ¬ (hexv a < 16 ∧ hexv b < 16)) (he : Errs w) (h8 : 8 ≤ w.heap.size) :
    Calls Tryz.prog 63 #[.string u] w fun e w' => e = .returned (.tuple #[.int .u8 0, .int .i64 3, .bool false]) ∧ Below w.heap.size w w' := by
  have H : Hid (∀ W : World, Errs W → 8 ≤ W.heap.size → Calls Tryz.prog 83 #[.string ⟨#[a, b]⟩, .int .i64 16, .int .i64 8] W fun e w' => ∃ p, e = .returned (.tuple #[.int .u64 0, .iface 116 p]) ∧ Below W.heap.size W w') := fun W h g => pu_no a b W hh h g
  clear hh
  have h0' : (0 : Int) < u.size := by omega
  have h3' : (3 : Int) ≤ u.size := by omega
  have hb : ByteArray.toList u ≠ [] := by simpa using hne
  go_enter Tryz.func63, Tryz.ntmps63
  go_wp2_with fail
  refine (H.out _ he h8).mono ?_
  rintro e w1 ⟨p, rfl, hb1⟩
  go_wp2
  go_region
  go_wp2
  refine bodyPost_ret (by simp [results, Tryz.results63, go_sem]; try rfl) rfl ?_
  exact ⟨rfl, hb1.drew⟩

/-- unescape at every text. -/
theorem unesc_any (u : ByteArray) (w : World) (he : Errs w) (h8 : 8 ≤ w.heap.size) :
    Calls Tryz.prog 63 #[.string u] w fun e w' => (match une u.data.toList with
      | some (x, k) => e = .returned (.tuple #[.int .u8 x.toNat, .int .i64 k, .bool true])
      | none => ∃ p q, e = .returned (.tuple #[.int .u8 p, .int .i64 q, .bool false])) ∧ Below w.heap.size w w' := by
  obtain ⟨⟨l⟩⟩ := u
  match l with
  | [] =>
    refine (unesc_nil w).mono ?_
    rintro e w' ⟨rfl, hb⟩
    exact ⟨⟨_, _, rfl⟩, hb⟩
  | c :: r =>
    have h0 : 0 < (⟨⟨c :: r⟩⟩ : ByteArray).size := by show 0 < (c :: r).length; simp
    have hc : (⟨⟨c :: r⟩⟩ : ByteArray)[0] = c := rfl
    have hne : ((⟨⟨c :: r⟩⟩ : ByteArray).toList == []) = false := by simp [ByteArray.toList_eq]
    have el : (⟨⟨c :: r⟩⟩ : ByteArray).data.toList = c :: r := rfl
    rw [el]
    by_cases h1 : c.toNat = 120
    · have h1' : ((c.toNat : Int) != 120) = false := by simp [h1]
      match r with
      | [] =>
        refine (unesc_short _ c w h0 hc h1' hne (by show 1 < 3; omega)).mono ?_
        rintro e w' ⟨rfl, hb⟩
        refine ⟨?_, hb⟩
        simp only [une, h1, if_true]
        exact ⟨_, _, rfl⟩
      | [a] =>
        refine (unesc_short _ c w h0 hc h1' hne (by show 2 < 3; omega)).mono ?_
        rintro e w' ⟨rfl, hb⟩
        refine ⟨?_, hb⟩
        simp only [une, h1, if_true]
        exact ⟨_, _, rfl⟩
      | a :: b :: r' =>
        have h3 : 3 ≤ (⟨⟨c :: a :: b :: r'⟩⟩ : ByteArray).size := by show 3 ≤ (c :: a :: b :: r').length; simp
        have hx : (⟨⟨c :: a :: b :: r'⟩⟩ : ByteArray).extract 1 3 = ⟨#[a, b]⟩ := by apply ByteArray.ext; simp [ByteArray.data_extract]
        by_cases hh : hexv a < 16 ∧ hexv b < 16
        · refine (unesc_yes _ c a b w h0 hc h1' hne h3 hx hh).mono ?_
          rintro e w' ⟨rfl, hb⟩
          refine ⟨?_, hb⟩
          have e1 : (UInt8.ofNat (16 * hexv a + hexv b)).toNat = 16 * hexv a + hexv b := by simp [UInt8.toNat_ofNat]; omega
          simp only [une, h1, if_true, hex2, if_pos hh, Option.map_some, e1]
          rfl
        · refine (unesc_no _ c a b w h0 hc h1' hne h3 hx hh he h8).mono ?_
          rintro e w' ⟨rfl, hb⟩
          refine ⟨?_, hb⟩
          simp only [une, h1, if_true, hex2, if_neg hh, Option.map_none]
          exact ⟨_, _, rfl⟩
    · have h1' : ((c.toNat : Int) != 120) = true := by simp; omega
      refine (unesc_one _ c w h0 hc h1' hne).mono ?_
      rintro e w' ⟨rfl, hb⟩
      refine ⟨?_, hb⟩
      simp only [une, if_neg h1]
      rfl

theorem unq_len : ∀ (n : Nat) (l x : List UInt8), l.length ≤ n → unq l = some x → x.length ≤ l.length
  | n, [], x, _, h => by rw [unq_nil] at h; cases h; simp
  | 0, c :: r, x, hn, h => by simp at hn
  | n + 1, c :: r, x, hn, h => by
    by_cases hc : c.toNat = 92
    · rw [unq_esc _ hc] at h
      split at h
      · cases h
      · rename_i y k hu
        simp only [Option.map_eq_some_iff] at h
        obtain ⟨z, hz, rfl⟩ := h
        have := unq_len n (r.drop k) z (by simp at hn ⊢; omega) hz
        simp at this ⊢
        omega
    · rw [unq_plain _ hc] at h
      simp only [Option.map_eq_some_iff] at h
      obtain ⟨z, hz, rfl⟩ := h
      have := unq_len n r z (by simp at hn; omega) hz
      simp
      omega

/-- What is told of what a text may say. -/
def outS (o : Option (List UInt8)) : ByteArray := ⟨(o.getD []).toArray⟩
def outB (o : Option (List UInt8)) : Bool := o.isSome
/-- What stands behind a first quote. -/
def unqS (l : List UInt8) : Option (List UInt8) := if Lib.hasSuffix l [34] then unq (Lib.trimSuffix l [34]) else none

theorem ext_from (s : ByteArray) (k : Nat) : (s.extract k s.size).data.toList = s.data.toList.drop k := by
  have e : s.data.size = s.size := rfl
  simp [ByteArray.data_extract, List.take_of_length_le, e]

set_option maxRecDepth 100000 in
set_option maxHeartbeats 4000000 in
theorem unquote_no (t : ByteArray) (w : World) (hs : t.size ≤ 9223372036854775807) (h : Lib.hasSuffix t.data.toList [34] = false) :
    Calls Tryz.prog 45 #[.string t] w fun e w' => e = .returned (.tuple #[.string ⟨#[]⟩, .bool false]) ∧ Below w.heap.size w w' := by
  have CS : Hid (∀ W : World, Calls Tryz.prog 62 #[.string t, .string ⟨#[34]⟩] W fun e w' => ∃ I, e = .returned (.tuple #[.string I, .bool false]) ∧ w' = W) := fun W => by
    have q := Tryz.strings_CutSuffix t ⟨#[34]⟩ W hs
    rw [show (⟨#[34]⟩ : ByteArray).data.toList = [34] from rfl, h] at q
    refine q.mono ?_
    rintro e w' ⟨rfl, rfl⟩
    exact ⟨_, rfl, rfl⟩
  clear h
  go_enter Tryz.func45, Tryz.ntmps45
  go_wp2_with fail
  refine (CS.out _).mono ?_
  rintro e w1 ⟨I, rfl, rfl⟩
  go_wp2
  go_ret2
  exact ⟨rfl, Below.refl _ _⟩

set_option maxRecDepth 100000 in
set_option maxHeartbeats 8000000 in
theorem unquote_yes (t I : ByteArray) (w : World) (hs : t.size ≤ 9223372036854775807) (h : Lib.hasSuffix t.data.toList [34] = true) (hI : (⟨(Lib.trimSuffix t.data.toList [34]).toArray⟩ : ByteArray) = I) (hz : I.size ≤ 140737488355000) (he : Errs w) (h8 : 8 ≤ w.heap.size) :
    Calls Tryz.prog 45 #[.string t] w fun e w' => e = .returned (.tuple #[.string (outS (unq I.data.toList)), .bool (outB (unq I.data.toList))]) ∧ Below w.heap.size w w' := by
  have CS : Hid (∀ W : World, Calls Tryz.prog 62 #[.string t, .string ⟨#[34]⟩] W fun e w' => e = .returned (.tuple #[.string I, .bool true]) ∧ w' = W) := fun W => by
    have q := Tryz.strings_CutSuffix t ⟨#[34]⟩ W hs
    rw [show (⟨#[34]⟩ : ByteArray).data.toList = [34] from rfl, h, hI] at q
    exact q
  clear h hI
  have HE : Hid (Errs w) := he
  clear he
  go_enter Tryz.func45, Tryz.ntmps45
  go_wp2_with fail
  refine (CS.out _).mono ?_
  rintro e w' ⟨rfl, rfl⟩
  go_wp2
  have h0 : Hid (Lib.IsBuilder 84 5 w'.heap.size w'.heap.size (Lib.byteCells []) (w'.alloc (.cells #[.pointer none, .slice none 0 0] 84))) := Lib.fresh_isBuilder _ _ w'
  have k0 : Below w'.heap.size w' (w'.alloc (.cells #[.pointer none, .slice none 0 0] 84)) := (Below.refl _ _).alloc (Nat.le_refl _) _
  generalize w'.alloc (.cells #[.pointer none, .slice none 0 0] 84) = W0 at *
  go_loopw [7] (fun i wr => ∃ (k : Nat) (acc : List UInt8), k ≤ I.size ∧ acc.length ≤ k ∧ i = .int .i64 k ∧ Hid (unq I.data.toList = (unq (I.data.toList.drop k)).map fun y => acc ++ y) ∧ Hid (Lib.IsBuilder 84 5 w'.heap.size w'.heap.size (Lib.byteCells acc) wr) ∧ Below w'.heap.size w' wr) (fun i _ => I.size - (intOf i).toNat)
  case atStart => exact ⟨0, [], by omega, by simp, rfl, (show unq I.data.toList = (unq (I.data.toList.drop 0)).map fun y => [] ++ y by simp), h0, k0⟩
  case round =>
    obtain ⟨k, acc, hk, ha, rfl, hU, hI, hB⟩ := hrel
    have hsz := hB.size
    by_cases hke : k = I.size
    · subst hke
      have e0 : Hid (unq I.data.toList = some acc) := by
        have q := hU.out
        rw [List.drop_of_length_le (by simp), unq_nil] at q
        exact q.trans (by simp)
      clear hU
      go_wp2_with fail
      refine (Tryz.Builder_String_any w'.heap.size w'.heap.size _ _ hI.out hsz).mono ?_
      rintro e w3 ⟨rfl, hb3⟩
      go_wp2
      go_ret2
      refine ⟨?_, hB.trans hb3⟩
      rw [e0.out]
      rfl
    · have hk' : (k : Int) < I.size := by omega
      have hkk : k < I.size := by omega
      have hd : I.data.toList.drop k = I[k] :: I.data.toList.drop (k + 1) := by
        rw [List.drop_eq_getElem_cons (by simpa using hkk)]
        rfl
      rw [hd] at hU
      have hu : I[k].toNat < 256 := I[k].toNat_lt
      clear hd
      obtain ⟨c, hc⟩ : ∃ c : UInt8, I[k] = c := ⟨_, rfl⟩
      rw [hc] at hu
      rw [hc] at hU
      by_cases a1 : c.toNat = 92
      · have a1' : ((c.toNat : Int) == 92) = true := by simp; omega
        have EB : Errs wr := HE.out.below hB h8
        have h8' : 8 ≤ wr.heap.size := by omega
        have UE : Hid (∀ W : World, Errs W → 8 ≤ W.heap.size → Calls Tryz.prog 63 #[.string (I.extract (k + 1) I.size)] W fun e w' => (match une (I.data.toList.drop (k + 1)) with
            | some (x, k) => e = .returned (.tuple #[.int .u8 x.toNat, .int .i64 k, .bool true])
            | none => ∃ p q, e = .returned (.tuple #[.int .u8 p, .int .i64 q, .bool false])) ∧ Below W.heap.size W w') := fun W g1 g2 => by
          have q := unesc_any (I.extract (k + 1) I.size) W g1 g2
          rw [ext_from] at q
          exact q
        have hU2 := hU.out
        rw [unq_esc _ a1] at hU2
        have hk1 : (k : Int) + 1 ≤ I.size := by omega
        cases hun : une (I.data.toList.drop (k + 1)) with
        | none =>
          rw [hun] at hU2 UE
          have e0 : Hid (unq I.data.toList = none) := hU2.trans (by simp)
          clear hU hU2 hun a1
          go_wp2_with fail
          refine (UE.out _ EB h8').mono ?_
          rintro e w2 ⟨⟨p, q, rfl⟩, hb2⟩
          go_wp2
          go_ret2
          refine ⟨?_, hB.trans (hb2.mono hB.size)⟩
          rw [e0.out]
          rfl
        | some y =>
          obtain ⟨x, j⟩ := y
          rw [hun] at hU2 UE
          obtain ⟨j1, j2⟩ := une_len hun
          have j3 : k + 1 + j ≤ I.size := by simp at j1; omega
          have e0 : Hid (unq I.data.toList = (unq (I.data.toList.drop (k + j + 1))).map fun y => (acc ++ [x]) ++ y) := by
            simp only [Option.map_map, List.drop_drop] at hU2
            rw [show k + j + 1 = k + 1 + j by omega]
            refine Eq.trans hU2 ?_
            congr 1
            funext y
            simp
          clear hU hU2 hun a1 j1
          go_wp2_with fail
          refine (UE.out _ EB h8').mono ?_
          rintro e w2 ⟨rfl, hb2⟩
          have h2' : Hid (Lib.IsBuilder 84 5 w'.heap.size w'.heap.size (Lib.byteCells acc) w2) := isB_below hI.out hb2
          have k2 : Below w'.heap.size w' w2 := hB.trans (hb2.mono hB.size)
          have hx : x.toNat < 256 := x.toNat_lt
          have hj : (j : Int) ≤ 3 := by omega
          clear hI hb2 UE
          go_wp2_with fail
          refine (wbyte w'.heap.size w'.heap.size _ _ _ h2'.out (by rw [Lib.byteCells_length]; omega) k2.size).mono ?_
          rintro e w3 ⟨rfl, h3, hb3⟩
          have h3' : Hid (Lib.IsBuilder 84 5 w'.heap.size w'.heap.size (Lib.byteCells (acc ++ [x])) w3) := by
            have := cells_snoc acc x
            rw [← this]
            exact Or.inr h3
          clear h3
          go_wp2
          exact ⟨⟨k + j + 1, acc ++ [x], by omega, by simp; omega, by simp, e0, h3', k2.trans hb3⟩, by simp [intOf]; omega⟩
      · have a1' : ((c.toNat : Int) == 92) = false := by simp; omega
        have e0 : Hid (unq I.data.toList = (unq (I.data.toList.drop (k + 1))).map fun y => (acc ++ [c]) ++ y) := by
          have q := hU.out
          rw [unq_plain _ a1, Option.map_map] at q
          refine Eq.trans q ?_
          congr 1
          funext y
          simp
        clear hU a1
        go_wp2_with fail
        refine (wbyte w'.heap.size w'.heap.size _ _ _ hI.out (by rw [Lib.byteCells_length]; omega) hsz).mono ?_
        rintro e w3 ⟨rfl, h3, hb3⟩
        have h3' : Hid (Lib.IsBuilder 84 5 w'.heap.size w'.heap.size (Lib.byteCells (acc ++ [c])) w3) := by
          have := cells_snoc acc c
          rw [← this]
          exact Or.inr h3
        clear h3
        go_wp2
        exact ⟨⟨k + 1, acc ++ [c], by omega, by simp; omega, by simp, e0, h3', hB.trans hb3⟩, by simp [intOf]; omega⟩

end Go.Proofs.YtedoahibceeklabGreatDoor
