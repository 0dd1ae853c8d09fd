/- The text of a string. -/
import Derived.Test.YtedoahibceeklabGreatDoorVBuild
namespace Go.Proofs.YtedoahibceeklabGreatDoor
open Go.RowKit Go.Shelf

def hexd (n : Nat) : UInt8 := if n < 10 then (48 + n).toUInt8 else (87 + n).toUInt8
/-- A byte in a string's text. -/
def esc (c : UInt8) : List UInt8 := if c.toNat = 34 ∨ c.toNat = 92 then [92, c] else if 32 ≤ c.toNat ∧ c.toNat ≤ 126 then [c] else [92, 120, hexd (c.toNat / 16), hexd (c.toNat % 16)]
def inside (l : List UInt8) : List UInt8 := l.flatMap esc
def quoted (l : List UInt8) : List UInt8 := 34 :: inside l ++ [34]

theorem esc_len (c : UInt8) : (esc c).length ≤ 4 := by
  unfold esc; split
  · simp
  · split <;> simp
theorem inside_len (l : List UInt8) : (inside l).length ≤ 4 * l.length := by
  induction l with
  | nil => simp [inside]
  | cons c l ih =>
    have := esc_len c
    simp only [inside, List.flatMap_cons, List.length_append, List.length_cons] at ih ⊢
    omega
theorem inside_snoc (l : List UInt8) (c : UInt8) : inside (l ++ [c]) = inside l ++ esc c := by simp [inside]
theorem inside_take (s : ByteArray) (k : Nat) (h : k < s.size) : inside (s.data.toList.take (k + 1)) = inside (s.data.toList.take k) ++ esc s[k] := by
  rw [← inside_snoc]
  congr 1
  have h' : k < s.data.toList.length := by simpa using h
  rw [List.take_succ_eq_append_getElem h']
  rfl
theorem cells_snoc (l : List UInt8) (c : UInt8) : Lib.byteCells l ++ [.int .u8 c.toNat] = Lib.byteCells (l ++ [c]) := by simp [Lib.byteCells]

theorem hex_all : ∀ i : Fin 16, (⟨#[48, 49, 50, 51, 52, 53, 54, 55, 56, 57, 97, 98, 99, 100, 101, 102]⟩ : ByteArray)[i.1]'i.2 = hexd i.1 := by decide
theorem hex_tab (n : Nat) (h : n < 16) : (⟨#[48, 49, 50, 51, 52, 53, 54, 55, 56, 57, 97, 98, 99, 100, 101, 102]⟩ : ByteArray)[n]'h = hexd n := hex_all ⟨n, h⟩

set_option maxHeartbeats 4000000 in
set_option maxRecDepth 100000 in
theorem quote_any (s : ByteArray) (w : World) (hs : s.size ≤ 35184372088830) :
    Calls Tryz.prog 41 #[.string s] w fun e w' => e = .returned (.string ⟨(quoted s.data.toList).toArray⟩) ∧ Below w.heap.size w w' := by
  go_enter Tryz.func41, Tryz.ntmps41
  go_wp2_with fail
  refine (wbyte w.heap.size w.heap.size [] 34 _ (Lib.fresh_isBuilder _ _ w) (by simp) (by simp)).mono ?_
  rintro e w1 ⟨rfl, h1, hb1⟩
  go_wp2
  go_loopw [9] (fun i wr => ∃ k : Nat, k ≤ s.size ∧ i = .int .i64 k ∧ Hid (Lib.IsBuilder 84 5 w.heap.size w.heap.size (Lib.byteCells (34 :: inside (s.data.toList.take k))) wr) ∧ Below w.heap.size w wr) (fun i _ => s.size - (intOf i).toNat)
  case atStart => exact ⟨0, by omega, rfl, Or.inr h1, (Below.refl _ w |>.alloc (Nat.le_refl _) _).trans hb1⟩
  case round =>
    obtain ⟨k, hk, rfl, hI, hB⟩ := hrel
    have hsz := hB.size
    by_cases hke : k = s.size
    · subst hke
      have e0 : s.data.toList.take s.size = s.data.toList := List.take_of_length_le (by simp)
      rw [e0] at hI
      have hl := inside_len s.data.toList
      have hl2 : s.data.toList.length = s.size := by simp
      go_wp2_with fail
      refine (wbyte w.heap.size w.heap.size _ 34 _ hI.out (by rw [Lib.byteCells_length]; simp; omega) hsz).mono ?_
      rintro e w2 ⟨rfl, h2, hb2⟩
      have h2' : Hid (Lib.IsBuilder 84 5 w.heap.size w.heap.size (Lib.byteCells (quoted s.data.toList)) w2) := by
        have := cells_snoc (34 :: inside s.data.toList) 34
        unfold quoted
        refine Or.inr ?_
        rw [← this]; exact h2
      have hB2 := hB.trans hb2
      clear h2 hI
      go_wp2_with fail
      refine (Tryz.Builder_String_any w.heap.size w.heap.size _ _ h2'.out hB2.size).mono ?_
      rintro e w3 ⟨rfl, hb3⟩
      go_wp2
      go_ret
      exact ⟨rfl, hB2.trans hb3⟩
    · have hk' : (k : Int) < s.size := by omega
      have hkk : k < s.size := by omega
      have hstep := inside_take s k hkk
      have hl := inside_len (s.data.toList.take k)
      have hl2 : (s.data.toList.take k).length ≤ k := by simp; omega
      have hbd : (Lib.byteCells (34 :: inside (s.data.toList.take k))).length + 4 ≤ 140737488355328 := by rw [Lib.byteCells_length]; simp; omega
      have HS : Hid (inside (s.data.toList.take (k + 1)) = inside (s.data.toList.take k) ++ esc s[k]) := hstep
      clear hstep hl hl2
      have hu : s[k].toNat < 256 := s[k].toNat_lt
      obtain ⟨c, hc⟩ : ∃ c : UInt8, s[k] = c := ⟨_, rfl⟩
      rw [hc] at hu
      rw [hc] at HS
      by_cases a1 : (c.toNat : Int) = 34 ∨ (c.toNat : Int) = 92
      · rcases a1 with a1 | a1
        · obtain rfl : c = 34 := UInt8.toNat_inj.1 (show c.toNat = 34 from (by omega))
          have he : Hid (esc 34 = [92, 34]) := (show esc 34 = [92, 34] from (by decide))
          clear a1 hu
          go_wp2_with fail
          refine (wbyte w.heap.size w.heap.size _ _ _ hI.out (by omega) hsz).mono ?_
          rintro e w2 ⟨rfl, h2, hb2⟩
          have s2 := hb2.size
          have h2' : Hid (Lib.IsBuilder 84 5 w.heap.size w.heap.size (Lib.byteCells (34 :: inside (s.data.toList.take k)) ++ [Value.int IntKind.u8 92]) w2) := Or.inr h2
          clear h2
          go_wp2_with fail
          refine (wbyte w.heap.size w.heap.size _ _ _ h2'.out (by simp; omega) (by omega)).mono ?_
          rintro e w3 ⟨rfl, h3, hb3⟩
          go_wp2
          refine ⟨⟨k + 1, by omega, by simp, ?_, (hB.trans hb2).trans hb3⟩, by simp [intOf]; omega⟩
          have h4 : Lib.IsBuilder 84 5 w.heap.size w.heap.size (Lib.byteCells (34 :: inside (s.data.toList.take (k + 1)))) w3 := by
            have e1 := cells_snoc (34 :: inside (s.data.toList.take k)) 92
            have e2 := cells_snoc (34 :: inside (s.data.toList.take k) ++ [92]) 34
            rw [HS.out, he.out, ← List.cons_append, show ([92, 34] : List UInt8) = [92] ++ [34] from rfl, ← List.append_assoc, ← e2, ← e1]
            exact Or.inr h3
          exact h4
        · obtain rfl : c = 92 := UInt8.toNat_inj.1 (show c.toNat = 92 from (by omega))
          have he : Hid (esc 92 = [92, 92]) := (show esc 92 = [92, 92] from (by decide))
          clear a1 hu
          go_wp2_with fail
          refine (wbyte w.heap.size w.heap.size _ _ _ hI.out (by omega) hsz).mono ?_
          rintro e w2 ⟨rfl, h2, hb2⟩
          have s2 := hb2.size
          have h2' : Hid (Lib.IsBuilder 84 5 w.heap.size w.heap.size (Lib.byteCells (34 :: inside (s.data.toList.take k)) ++ [Value.int IntKind.u8 92]) w2) := Or.inr h2
          clear h2
          go_wp2_with fail
          refine (wbyte w.heap.size w.heap.size _ _ _ h2'.out (by simp; omega) (by omega)).mono ?_
          rintro e w3 ⟨rfl, h3, hb3⟩
          go_wp2
          refine ⟨⟨k + 1, by omega, by simp, ?_, (hB.trans hb2).trans hb3⟩, by simp [intOf]; omega⟩
          have h4 : Lib.IsBuilder 84 5 w.heap.size w.heap.size (Lib.byteCells (34 :: inside (s.data.toList.take (k + 1)))) w3 := by
            have e1 := cells_snoc (34 :: inside (s.data.toList.take k)) 92
            have e2 := cells_snoc (34 :: inside (s.data.toList.take k) ++ [92]) 92
            rw [HS.out, he.out, ← List.cons_append, show ([92, 92] : List UInt8) = [92] ++ [92] from rfl, ← List.append_assoc, ← e2, ← e1]
            exact Or.inr h3
          exact h4
      · have a2 : ((c.toNat : Int) == 34) = false := by simp; omega
        have a3 : ((c.toNat : Int) == 92) = false := by simp; omega
        by_cases a4 : 32 ≤ (c.toNat : Int) ∧ (c.toNat : Int) ≤ 126
        · have he : Hid (esc c = [c]) := by unfold Hid esc; rw [if_neg (by omega), if_pos (by omega)]
          obtain ⟨a5, a6⟩ := a4
          go_wp2_with fail
          refine (wbyte w.heap.size w.heap.size _ _ _ hI.out (by omega) hsz).mono ?_
          rintro e w2 ⟨rfl, h2, hb2⟩
          go_wp2
          refine ⟨⟨k + 1, by omega, by simp, ?_, hB.trans hb2⟩, by simp [intOf]; omega⟩
          have h3 : Lib.IsBuilder 84 5 w.heap.size w.heap.size (Lib.byteCells (34 :: inside (s.data.toList.take (k + 1)))) w2 := by
            rw [HS.out, he.out, ← List.cons_append, ← cells_snoc]
            exact Or.inr h2
          exact h3
        · have he : Hid (esc c = [92, 120, hexd (c.toNat / 16), hexd (c.toNat % 16)]) := by unfold Hid esc; rw [if_neg (by omega), if_neg (by omega)]
          by_cases a5 : 32 ≤ (c.toNat : Int)
          · have a6 : ((c.toNat : Int) ≤ 126) = False := by simp; omega
            go_wp2_with fail
            refine (wstr w.heap.size w.heap.size _ _ _ hI.out (show _ + 2 ≤ 140737488355328 from (by omega)) hsz).mono ?_
            rintro e w2 ⟨rfl, h2, hb2⟩
            have s2 := hb2.size
            have h2' : Hid (Lib.IsBuilder 84 5 w.heap.size w.heap.size (Lib.byteCells (34 :: inside (s.data.toList.take k)) ++ Lib.strCells ⟨#[92, 120]⟩) w2) := Or.inr h2
            have l2 : (Lib.byteCells (34 :: inside (s.data.toList.take k)) ++ Lib.strCells ⟨#[92, 120]⟩).length + 2 ≤ 140737488355328 := by
              have : (Lib.strCells ⟨#[92, 120]⟩).length = 2 := rfl
              rw [List.length_append]; omega
            clear h2
            go_wp2_with fail
            refine (wbyte w.heap.size w.heap.size _ _ _ h2'.out (by omega) (by omega)).mono ?_
            rintro e w3 ⟨rfl, h3, hb3⟩
            have s3 := hb3.size
            have h3' : Hid (Lib.IsBuilder 84 5 w.heap.size w.heap.size _ w3) := Or.inr h3
            clear h3
            go_wp2_with fail
            refine (wbyte w.heap.size w.heap.size _ _ _ h3'.out (by rw [List.length_append]; simp only [List.length_cons, List.length_nil]; omega) (by omega)).mono ?_
            rintro e w4 ⟨rfl, h4, hb4⟩
            go_wp2
            refine ⟨⟨k + 1, by omega, by simp, ?_, ((hB.trans hb2).trans hb3).trans hb4⟩, by simp [intOf]; omega⟩
            have h5 : Lib.IsBuilder 84 5 w.heap.size w.heap.size (Lib.byteCells (34 :: inside (s.data.toList.take (k + 1)))) w4 := by
              rw [HS.out, he.out, ← hex_tab (c.toNat / 16) (by omega), ← hex_tab (c.toNat % 16) (by omega)]
              refine Or.inr ?_
              simp only [Lib.byteCells, Lib.strCells, List.map_cons, List.map_append, List.map_nil, List.cons_append, List.append_assoc, List.nil_append] at h4 ⊢
              exact h4
            exact h5
          · have a6 : (32 ≤ (c.toNat : Int)) = False := by simp; omega
            go_wp2_with fail
            refine (wstr w.heap.size w.heap.size _ _ _ hI.out (show _ + 2 ≤ 140737488355328 from (by omega)) hsz).mono ?_
            rintro e w2 ⟨rfl, h2, hb2⟩
            have s2 := hb2.size
            have h2' : Hid (Lib.IsBuilder 84 5 w.heap.size w.heap.size (Lib.byteCells (34 :: inside (s.data.toList.take k)) ++ Lib.strCells ⟨#[92, 120]⟩) w2) := Or.inr h2
            have l2 : (Lib.byteCells (34 :: inside (s.data.toList.take k)) ++ Lib.strCells ⟨#[92, 120]⟩).length + 2 ≤ 140737488355328 := by
              have : (Lib.strCells ⟨#[92, 120]⟩).length = 2 := rfl
              rw [List.length_append]; omega
            clear h2
            go_wp2_with fail
            refine (wbyte w.heap.size w.heap.size _ _ _ h2'.out (by omega) (by omega)).mono ?_
            rintro e w3 ⟨rfl, h3, hb3⟩
            have s3 := hb3.size
            have h3' : Hid (Lib.IsBuilder 84 5 w.heap.size w.heap.size _ w3) := Or.inr h3
            clear h3
            go_wp2_with fail
            refine (wbyte w.heap.size w.heap.size _ _ _ h3'.out (by rw [List.length_append]; simp only [List.length_cons, List.length_nil]; omega) (by omega)).mono ?_
            rintro e w4 ⟨rfl, h4, hb4⟩
            go_wp2
            refine ⟨⟨k + 1, by omega, by simp, ?_, ((hB.trans hb2).trans hb3).trans hb4⟩, by simp [intOf]; omega⟩
            have h5 : Lib.IsBuilder 84 5 w.heap.size w.heap.size (Lib.byteCells (34 :: inside (s.data.toList.take (k + 1)))) w4 := by
              rw [HS.out, he.out, ← hex_tab (c.toNat / 16) (by omega), ← hex_tab (c.toNat % 16) (by omega)]
              refine Or.inr ?_
              simp only [Lib.byteCells, Lib.strCells, List.map_cons, List.map_append, List.map_nil, List.cons_append, List.append_assoc, List.nil_append] at h4 ⊢
              exact h4
            exact h5

end Go.Proofs.YtedoahibceeklabGreatDoor
