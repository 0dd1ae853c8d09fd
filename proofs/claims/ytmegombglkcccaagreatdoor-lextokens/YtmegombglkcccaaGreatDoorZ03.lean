/- strconv.ParseUint of two bytes, to the base 16, of 8 bits. -/
import Derived.Test.YtmegombglkcccaaGreatDoorZ02
import Derived.Test.YtmegombglkcccaaGreatDoorZ01
import Derived.Lib.AppendStr
import Derived.Lib.UnsafeStr
import Derived.Lib.MakeNoZero
import Derived.Laws.Externs
import Derived.OwnWalk
import Derived.LoopN
import Derived.Lib.AppendIntMem
import Derived.Lib.ItoaLen
import Derived.Lib.ConvBytes
import Derived.Lib.AtoiErrMem
import Derived.BigQuiet
import Derived.Deep.DeepCutAuto
import Derived.Laws.EntriesVeiled

namespace Go.Proofs.YtmegombglkcccaaGreatDoor
open Go.RowKit Go.Shelf

theorem szB : (Tryz.prog.info? 86).map (·.size) = some 2 := by kernel_rfl
theorem inB : (Tryz.prog.info? 5).map (fun i => (i.zero, i.size, i.bytes)) = some (some (.int .u8 0), 1, 1) := by kernel_rfl

set_option maxHeartbeats 1000000 in
set_option maxRecDepth 100000 in
theorem ck_used (b : Nat) (w : World) (h0 : w.cell? ⟨b, 0, none⟩ = some (.pointer (some ⟨b, 0, none⟩))) :
    Calls Tryz.prog 75 #[.pointer (some ⟨b, 0, none⟩)] w fun e w' => e = .returned (.tuple #[]) ∧ w' = w := by
  obtain ⟨j, hj, _⟩ := Option.map_eq_some_iff.1 szB
  have hr := Lib.run_neq_ptr_same (P := Tryz.prog) w ⟨b, 0, none⟩ Tryz.underlying84 hj
  go_enter Tryz.func75, Tryz.ntmps75
  go_wp2
  go_end0
  exact ⟨rfl, rfl⟩

set_option maxHeartbeats 1000000 in
set_option maxRecDepth 100000 in
theorem ck_fresh (b : Nat) (w : World) (h0 : w.cell? ⟨b, 0, none⟩ = some (.pointer none)) (hsh : w.shape? b = some (86, 2)) (hfz : w.frozen? ⟨b, 0, none⟩ = false) :
    Calls Tryz.prog 75 #[.pointer (some ⟨b, 0, none⟩)] w fun e w' => e = .returned (.tuple #[]) ∧ w' = w.setCell ⟨b, 0, none⟩ (.pointer (some ⟨b, 0, none⟩)) := by
  obtain ⟨j, hj, hjs⟩ := Option.map_eq_some_iff.1 szB
  have r1 := Lib.run_to_unsafe (P := Tryz.prog) w ⟨b, 0, none⟩ Tryz.underlying84 Tryz.underlying118 hj (by rw [hjs]; decide) hsh (Nat.zero_lt_succ 1)
  have r3 := Lib.run_from_unsafe (P := Tryz.prog) w ⟨b, 0, none⟩ Tryz.underlying118 Tryz.underlying84 hj hsh (by kernel_rfl)
  go_enter Tryz.func75, Tryz.ntmps75
  have r2 : (callFunc 86 #[.pointer (some ⟨b, 0, none⟩)]).run Tryz.prog w = .ok (.value (.pointer (some ⟨b, 0, none⟩))) w := by
    rw [run_callFunc_extern Tryz.func86 (by kernel_rfl) (by kernel_rfl) (by kernel_rfl) (e := Extern.AbiNoEscape.same) (by kernel_rfl), Lib.run_noEscape]
    rfl
  go_wp2
  go_end0
  exact ⟨rfl, rfl⟩

theorem ck (B b : Nat) (bs : List Value) (w : World) (h : Lib.IsBuilder 86 5 B b bs w) :
    Calls Tryz.prog 75 #[.pointer (some ⟨b, 0, none⟩)] w fun e w' => e = .returned (.tuple #[]) ∧ Lib.BuilderAt 86 5 B b (.pointer (some ⟨b, 0, none⟩)) bs w' ∧ Below B w w' := by
  rcases h with h | h
  · refine (ck_fresh b w h.cell0 h.shape h.frozen0).mono ?_
    rintro e w' ⟨rfl, rfl⟩
    exact ⟨rfl, h.used _, (Below.refl B w).setCell (p := ⟨b, 0, none⟩) h.1 _⟩
  · refine (ck_used b w h.cell0).mono ?_
    rintro e w' ⟨rfl, rfl⟩
    exact ⟨rfl, h, Below.refl B _⟩

set_option maxHeartbeats 2000000 in
set_option maxRecDepth 100000 in
/-- WriteByte: one byte more. -/
theorem wbyte (B b : Nat) (bs : List Value) (c : Int) (w : World) (h : Lib.IsBuilder 86 5 B b bs w) (hlen : bs.length + 1 ≤ 140737488355328) (hBw : B ≤ w.heap.size) :
    Calls Tryz.prog 58 #[.pointer (some ⟨b, 0, none⟩), .int .u8 c] w fun e w' => e = .returned .nilIface ∧ Lib.BuilderAt 86 5 B b (.pointer (some ⟨b, 0, none⟩)) (bs ++ [.int .u8 c]) w' ∧ Below B w w' := by
  obtain ⟨i0, hi, hz0, hz1, hz2⟩ := info_parts inB
  go_enter Tryz.func58, Tryz.ntmps58
  go_wp2_with (go_at_call 75; refine (ck B b bs _ h).mono ?_)
  rintro e w1 ⟨rfl, ⟨hB, v, hbk, hown, hne⟩, hb1⟩
  have s1 := hb1.size
  have c1 : w1.cell? ⟨b, 1, none⟩ = some v := by rw [Lib.cell_of_heap hbk]; rfl
  go_wp2_with (at_builtin; refine wpList_append_own _ rfl _ _ 59 rfl B 5 i0 (.int .u8 0) 1 1 Tryz.underlying59 hi hz0 hz1 hz2 rfl (by decide) _ _ _ rfl (hown.alloc _) ⟨w1.heap.size, 0, none⟩ 1 1 [.int .u8 c] rfl rfl ?c1 ?c2 ?c3 ?c4 ?c5 ?_)
  case c1 =>
    intro j u hj
    match j, hj with
    | 0, hj => simp at hj; subst hj; simp [Addr.add]
  case c2 => intro u hu; simp at hu; subst hu; rfl
  case c3 => unfold maxLen; omega
  case c4 => omega
  case c5 => simp; omega
  intro v' w2 hown' hgrow _
  have hlt : b < w1.heap.size := Lib.BuilderAt.lt ⟨hB, v, hbk, hown, hne⟩
  have hb2 : w2.heap[b]? = some (.cells #[.pointer (some ⟨b, 0, none⟩), v] 86 (0, 0)) := by
    rw [hgrow.block b (by simp; omega) (fun e => hne e.symm), Lib.alloc_old w1 _ b hlt]
    exact hbk
  have d1 : w2.cell? ⟨b, 1, none⟩ = some v := by rw [Lib.cell_of_heap hb2]; rfl
  have f1 : w2.frozen? ⟨b, 1, none⟩ = false := Lib.frozen_of_heap hb2 1
  obtain ⟨g, cap, rfl⟩ : ∃ g cap, v' = .slice (some ⟨g, 0, none⟩) (bs.length + 1) cap := by
    rcases hown'.2 with ⟨_, h0⟩ | ⟨g, cap, cur, hv, _⟩
    · omega
    · exact ⟨g, cap, hv⟩
  go_wp2
  go_ret
  refine ⟨rfl, ?_, ?_⟩
  · exact Lib.BuilderAt.put (T := 86) (e := 5) hB hb2 (bs' := bs ++ [.int .u8 c]) (by simpa using hown') (by decide)
  · exact ((hb1.alloc (by omega) _).grown hgrow (by simp; omega) (fun k hk => (hown.lt k hk).1)).setCell (p := ⟨b, 1, none⟩) hB _

set_option maxHeartbeats 2000000 in
set_option maxRecDepth 100000 in
/-- WriteString: some bytes more. -/
theorem wstr (B b : Nat) (bs : List Value) (s : ByteArray) (w : World) (h : Lib.IsBuilder 86 5 B b bs w) (hlen : bs.length + s.size ≤ 140737488355328) (hBw : B ≤ w.heap.size) :
    Calls Tryz.prog 66 #[.pointer (some ⟨b, 0, none⟩), .string s] w fun e w' => e = .returned (.tuple #[.int .i64 s.size, .nilIface]) ∧ Lib.BuilderAt 86 5 B b (.pointer (some ⟨b, 0, none⟩)) (bs ++ Lib.strCells s) w' ∧ Below B w w' := by
  obtain ⟨i0, hi, hz0, hz1, hz2⟩ := info_parts inB
  go_enter Tryz.func66, Tryz.ntmps66
  go_wp2_with (go_at_call 75; refine (ck B b bs _ h).mono ?_)
  rintro e w1 ⟨rfl, ⟨hB, v, hbk, hown, hne⟩, hb1⟩
  have s1 := hb1.size
  have c1 : w1.cell? ⟨b, 1, none⟩ = some v := by rw [Lib.cell_of_heap hbk]; rfl
  go_wp2_with (at_builtin; refine Lib.wpList_append_own_string _ rfl _ _ 59 9 rfl B 5 i0 Tryz.underlying59 Tryz.underlying9 hi hz0 hz1 hz2 _ _ _ rfl hown s rfl ?c3 ?c4 ?c5 ?_)
  case c3 => unfold maxLen; omega
  case c4 => omega
  case c5 => omega
  intro v' w2 hown' hgrow _
  have hlt : b < w1.heap.size := Lib.BuilderAt.lt ⟨hB, v, hbk, hown, hne⟩
  have hb2 : w2.heap[b]? = some (.cells #[.pointer (some ⟨b, 0, none⟩), v] 86 (0, 0)) := by
    rw [hgrow.block b hlt (fun e => hne e.symm)]
    exact hbk
  have d1 : w2.cell? ⟨b, 1, none⟩ = some v := by rw [Lib.cell_of_heap hb2]; rfl
  have f1 : w2.frozen? ⟨b, 1, none⟩ = false := Lib.frozen_of_heap hb2 1
  obtain ⟨ao, n', cap, rfl⟩ : ∃ ao n' cap, v' = .slice ao n' cap := by
    rcases hown'.2 with ⟨hv, _⟩ | ⟨g, cap, cur, hv, _⟩
    · exact ⟨_, _, _, hv⟩
    · exact ⟨_, _, _, hv⟩
  go_wp2
  go_ret2
  refine ⟨rfl, ?_, ?_⟩
  · exact Lib.BuilderAt.put (T := 86) (e := 5) hB hb2 (bs' := bs ++ Lib.strCells s) (by simpa [Lib.strCells_length] using hown') (by decide)
  · exact (hb1.grown hgrow (by omega) (fun k hk => (hown.lt k hk).1)).setCell (p := ⟨b, 1, none⟩) hB _

end Go.Proofs.YtmegombglkcccaaGreatDoor

namespace Go.Proofs.YtmegombglkcccaaGreatDoor
open Go.RowKit Go.Shelf

def hexd (n : Nat) : UInt8 := if n < 10 then (48 + n).toUInt8 else (87 + n).toUInt8
/-- A byte in a string's text. -/
def esc (c : UInt8) : List UInt8 := if c.toNat = 34 ∨ c.toNat = 92 then [92, c] else if 32 ≤ c.toNat ∧ c.toNat ≤ 126 then [c] else [92, 120, hexd (c.toNat / 16), hexd (c.toNat % 16)]
def inside (l : List UInt8) : List UInt8 := l.flatMap esc
def quoted (l : List UInt8) : List UInt8 := 34 :: inside l ++ [34]

theorem esc_len (c : UInt8) : (esc c).length ≤ 4 := by
  unfold esc; split
  · simp
  · split <;> simp
theorem inside_len (l : List UInt8) : (inside l).length ≤ 4 * l.length := by
  induction l with
  | nil => simp [inside]
  | cons c l ih =>
    have := esc_len c
    simp only [inside, List.flatMap_cons, List.length_append, List.length_cons] at ih ⊢
    omega
theorem inside_snoc (l : List UInt8) (c : UInt8) : inside (l ++ [c]) = inside l ++ esc c := by simp [inside]
theorem inside_take (s : ByteArray) (k : Nat) (h : k < s.size) : inside (s.data.toList.take (k + 1)) = inside (s.data.toList.take k) ++ esc s[k] := by
  rw [← inside_snoc]
  congr 1
  have h' : k < s.data.toList.length := by simpa using h
  rw [List.take_succ_eq_append_getElem h']
  rfl
theorem cells_snoc (l : List UInt8) (c : UInt8) : Lib.byteCells l ++ [.int .u8 c.toNat] = Lib.byteCells (l ++ [c]) := by simp [Lib.byteCells]

theorem hex_all : ∀ i : Fin 16, (⟨#[48, 49, 50, 51, 52, 53, 54, 55, 56, 57, 97, 98, 99, 100, 101, 102]⟩ : ByteArray)[i.1]'i.2 = hexd i.1 := by decide
theorem hex_tab (n : Nat) (h : n < 16) : (⟨#[48, 49, 50, 51, 52, 53, 54, 55, 56, 57, 97, 98, 99, 100, 101, 102]⟩ : ByteArray)[n]'h = hexd n := hex_all ⟨n, h⟩

set_option maxHeartbeats 4000000 in
set_option maxRecDepth 100000 in
theorem quote_any (s : ByteArray) (w : World) (hs : s.size ≤ 35184372088830) :
    Calls Tryz.prog 50 #[.string s] w fun e w' => e = .returned (.string ⟨(quoted s.data.toList).toArray⟩) ∧ Below w.heap.size w w' := by
  go_enter Tryz.func50, Tryz.ntmps50
  go_wp2_with fail
  refine (wbyte w.heap.size w.heap.size [] 34 _ (Lib.fresh_isBuilder _ _ w) (by simp) (by simp)).mono ?_
  rintro e w1 ⟨rfl, h1, hb1⟩
  go_wp2
  go_loopw [9] (fun i wr => ∃ k : Nat, k ≤ s.size ∧ i = .int .i64 k ∧ Hid (Lib.IsBuilder 86 5 w.heap.size w.heap.size (Lib.byteCells (34 :: inside (s.data.toList.take k))) wr) ∧ Below w.heap.size w wr) (fun i _ => s.size - (intOf i).toNat)
  case atStart => exact ⟨0, by omega, rfl, Or.inr h1, (Below.refl _ w |>.alloc (Nat.le_refl _) _).trans hb1⟩
  case round =>
    obtain ⟨k, hk, rfl, hI, hB⟩ := hrel
    have hsz := hB.size
    by_cases hke : k = s.size
    · subst hke
      have e0 : s.data.toList.take s.size = s.data.toList := List.take_of_length_le (by simp)
      rw [e0] at hI
      have hl := inside_len s.data.toList
      have hl2 : s.data.toList.length = s.size := by simp
      go_wp2_with fail
      refine (wbyte w.heap.size w.heap.size _ 34 _ hI.out (by rw [Lib.byteCells_length]; simp; omega) hsz).mono ?_
      rintro e w2 ⟨rfl, h2, hb2⟩
      have h2' : Hid (Lib.IsBuilder 86 5 w.heap.size w.heap.size (Lib.byteCells (quoted s.data.toList)) w2) := by
        have := cells_snoc (34 :: inside s.data.toList) 34
        unfold quoted
        refine Or.inr ?_
        rw [← this]; exact h2
      have hB2 := hB.trans hb2
      clear h2 hI
      go_wp2_with fail
      refine (Tryz.Builder_String_any w.heap.size w.heap.size _ _ h2'.out hB2.size).mono ?_
      rintro e w3 ⟨rfl, hb3⟩
      go_wp2
      go_ret
      exact ⟨rfl, hB2.trans hb3⟩
    · have hk' : (k : Int) < s.size := by omega
      have hkk : k < s.size := by omega
      have hstep := inside_take s k hkk
      have hl := inside_len (s.data.toList.take k)
      have hl2 : (s.data.toList.take k).length ≤ k := by simp; omega
      have hbd : (Lib.byteCells (34 :: inside (s.data.toList.take k))).length + 4 ≤ 140737488355328 := by rw [Lib.byteCells_length]; simp; omega
      have HS : Hid (inside (s.data.toList.take (k + 1)) = inside (s.data.toList.take k) ++ esc s[k]) := hstep
      clear hstep hl hl2
      have hu : s[k].toNat < 256 := s[k].toNat_lt
      obtain ⟨c, hc⟩ : ∃ c : UInt8, s[k] = c := ⟨_, rfl⟩
      rw [hc] at hu
      rw [hc] at HS
      by_cases a1 : (c.toNat : Int) = 34 ∨ (c.toNat : Int) = 92
      · rcases a1 with a1 | a1
        · obtain rfl : c = 34 := UInt8.toNat_inj.1 (show c.toNat = 34 from (by omega))
          have he : Hid (esc 34 = [92, 34]) := (show esc 34 = [92, 34] from (by decide))
          clear a1 hu
          go_wp2_with fail
          refine (wbyte w.heap.size w.heap.size _ _ _ hI.out (by omega) hsz).mono ?_
          rintro e w2 ⟨rfl, h2, hb2⟩
          have s2 := hb2.size
          have h2' : Hid (Lib.IsBuilder 86 5 w.heap.size w.heap.size (Lib.byteCells (34 :: inside (s.data.toList.take k)) ++ [Value.int IntKind.u8 92]) w2) := Or.inr h2
          clear h2
          go_wp2_with fail
          refine (wbyte w.heap.size w.heap.size _ _ _ h2'.out (by simp; omega) (by omega)).mono ?_
          rintro e w3 ⟨rfl, h3, hb3⟩
          go_wp2
          refine ⟨⟨k + 1, by omega, by simp, ?_, (hB.trans hb2).trans hb3⟩, by simp [intOf]; omega⟩
          have h4 : Lib.IsBuilder 86 5 w.heap.size w.heap.size (Lib.byteCells (34 :: inside (s.data.toList.take (k + 1)))) w3 := by
            have e1 := cells_snoc (34 :: inside (s.data.toList.take k)) 92
            have e2 := cells_snoc (34 :: inside (s.data.toList.take k) ++ [92]) 34
            rw [HS.out, he.out, ← List.cons_append, show ([92, 34] : List UInt8) = [92] ++ [34] from rfl, ← List.append_assoc, ← e2, ← e1]
            exact Or.inr h3
          exact h4
        · obtain rfl : c = 92 := UInt8.toNat_inj.1 (show c.toNat = 92 from (by omega))
          have he : Hid (esc 92 = [92, 92]) := (show esc 92 = [92, 92] from (by decide))
          clear a1 hu
          go_wp2_with fail
          refine (wbyte w.heap.size w.heap.size _ _ _ hI.out (by omega) hsz).mono ?_
          rintro e w2 ⟨rfl, h2, hb2⟩
          have s2 := hb2.size
          have h2' : Hid (Lib.IsBuilder 86 5 w.heap.size w.heap.size (Lib.byteCells (34 :: inside (s.data.toList.take k)) ++ [Value.int IntKind.u8 92]) w2) := Or.inr h2
          clear h2
          go_wp2_with fail
          refine (wbyte w.heap.size w.heap.size _ _ _ h2'.out (by simp; omega) (by omega)).mono ?_
          rintro e w3 ⟨rfl, h3, hb3⟩
          go_wp2
          refine ⟨⟨k + 1, by omega, by simp, ?_, (hB.trans hb2).trans hb3⟩, by simp [intOf]; omega⟩
          have h4 : Lib.IsBuilder 86 5 w.heap.size w.heap.size (Lib.byteCells (34 :: inside (s.data.toList.take (k + 1)))) w3 := by
            have e1 := cells_snoc (34 :: inside (s.data.toList.take k)) 92
            have e2 := cells_snoc (34 :: inside (s.data.toList.take k) ++ [92]) 92
            rw [HS.out, he.out, ← List.cons_append, show ([92, 92] : List UInt8) = [92] ++ [92] from rfl, ← List.append_assoc, ← e2, ← e1]
            exact Or.inr h3
          exact h4
      · have a2 : ((c.toNat : Int) == 34) = false := by simp; omega
        have a3 : ((c.toNat : Int) == 92) = false := by simp; omega
        by_cases a4 : 32 ≤ (c.toNat : Int) ∧ (c.toNat : Int) ≤ 126
        · have he : Hid (esc c = [c]) := by unfold Hid esc; rw [if_neg (by omega), if_pos (by omega)]
          obtain ⟨a5, a6⟩ := a4
          go_wp2_with fail
          refine (wbyte w.heap.size w.heap.size _ _ _ hI.out (by omega) hsz).mono ?_
          rintro e w2 ⟨rfl, h2, hb2⟩
          go_wp2
          refine ⟨⟨k + 1, by omega, by simp, ?_, hB.trans hb2⟩, by simp [intOf]; omega⟩
          have h3 : Lib.IsBuilder 86 5 w.heap.size w.heap.size (Lib.byteCells (34 :: inside (s.data.toList.take (k + 1)))) w2 := by
            rw [HS.out, he.out, ← List.cons_append, ← cells_snoc]
            exact Or.inr h2
          exact h3
        · have he : Hid (esc c = [92, 120, hexd (c.toNat / 16), hexd (c.toNat % 16)]) := by unfold Hid esc; rw [if_neg (by omega), if_neg (by omega)]
          by_cases a5 : 32 ≤ (c.toNat : Int)
          · have a6 : ((c.toNat : Int) ≤ 126) = False := by simp; omega
            go_wp2_with fail
            refine (wstr w.heap.size w.heap.size _ _ _ hI.out (show _ + 2 ≤ 140737488355328 from (by omega)) hsz).mono ?_
            rintro e w2 ⟨rfl, h2, hb2⟩
            have s2 := hb2.size
            have h2' : Hid (Lib.IsBuilder 86 5 w.heap.size w.heap.size (Lib.byteCells (34 :: inside (s.data.toList.take k)) ++ Lib.strCells ⟨#[92, 120]⟩) w2) := Or.inr h2
            have l2 : (Lib.byteCells (34 :: inside (s.data.toList.take k)) ++ Lib.strCells ⟨#[92, 120]⟩).length + 2 ≤ 140737488355328 := by
              have : (Lib.strCells ⟨#[92, 120]⟩).length = 2 := rfl
              rw [List.length_append]; omega
            clear h2
            go_wp2_with fail
            refine (wbyte w.heap.size w.heap.size _ _ _ h2'.out (by omega) (by omega)).mono ?_
            rintro e w3 ⟨rfl, h3, hb3⟩
            have s3 := hb3.size
            have h3' : Hid (Lib.IsBuilder 86 5 w.heap.size w.heap.size _ w3) := Or.inr h3
            clear h3
            go_wp2_with fail
            refine (wbyte w.heap.size w.heap.size _ _ _ h3'.out (by rw [List.length_append]; simp only [List.length_cons, List.length_nil]; omega) (by omega)).mono ?_
            rintro e w4 ⟨rfl, h4, hb4⟩
            go_wp2
            refine ⟨⟨k + 1, by omega, by simp, ?_, ((hB.trans hb2).trans hb3).trans hb4⟩, by simp [intOf]; omega⟩
            have h5 : Lib.IsBuilder 86 5 w.heap.size w.heap.size (Lib.byteCells (34 :: inside (s.data.toList.take (k + 1)))) w4 := by
              rw [HS.out, he.out, ← hex_tab (c.toNat / 16) (by omega), ← hex_tab (c.toNat % 16) (by omega)]
              refine Or.inr ?_
              simp only [Lib.byteCells, Lib.strCells, List.map_cons, List.map_append, List.map_nil, List.cons_append, List.append_assoc, List.nil_append] at h4 ⊢
              exact h4
            exact h5
          · have a6 : (32 ≤ (c.toNat : Int)) = False := by simp; omega
            go_wp2_with fail
            refine (wstr w.heap.size w.heap.size _ _ _ hI.out (show _ + 2 ≤ 140737488355328 from (by omega)) hsz).mono ?_
            rintro e w2 ⟨rfl, h2, hb2⟩
            have s2 := hb2.size
            have h2' : Hid (Lib.IsBuilder 86 5 w.heap.size w.heap.size (Lib.byteCells (34 :: inside (s.data.toList.take k)) ++ Lib.strCells ⟨#[92, 120]⟩) w2) := Or.inr h2
            have l2 : (Lib.byteCells (34 :: inside (s.data.toList.take k)) ++ Lib.strCells ⟨#[92, 120]⟩).length + 2 ≤ 140737488355328 := by
              have : (Lib.strCells ⟨#[92, 120]⟩).length = 2 := rfl
              rw [List.length_append]; omega
            clear h2
            go_wp2_with fail
            refine (wbyte w.heap.size w.heap.size _ _ _ h2'.out (by omega) (by omega)).mono ?_
            rintro e w3 ⟨rfl, h3, hb3⟩
            have s3 := hb3.size
            have h3' : Hid (Lib.IsBuilder 86 5 w.heap.size w.heap.size _ w3) := Or.inr h3
            clear h3
            go_wp2_with fail
            refine (wbyte w.heap.size w.heap.size _ _ _ h3'.out (by rw [List.length_append]; simp only [List.length_cons, List.length_nil]; omega) (by omega)).mono ?_
            rintro e w4 ⟨rfl, h4, hb4⟩
            go_wp2
            refine ⟨⟨k + 1, by omega, by simp, ?_, ((hB.trans hb2).trans hb3).trans hb4⟩, by simp [intOf]; omega⟩
            have h5 : Lib.IsBuilder 86 5 w.heap.size w.heap.size (Lib.byteCells (34 :: inside (s.data.toList.take (k + 1)))) w4 := by
              rw [HS.out, he.out, ← hex_tab (c.toNat / 16) (by omega), ← hex_tab (c.toNat % 16) (by omega)]
              refine Or.inr ?_
              simp only [Lib.byteCells, Lib.strCells, List.map_cons, List.map_append, List.map_nil, List.cons_append, List.append_assoc, List.nil_append] at h4 ⊢
              exact h4
            exact h5

end Go.Proofs.YtmegombglkcccaaGreatDoor

namespace Go.Proofs.YtmegombglkcccaaGreatDoor
open Go.RowKit Go.Shelf

/-- May a value be, its length aside? -/
def pureB (k n d : Int) (s : ByteArray) : Bool := if k = 1 then d == 0 && s.toList.isEmpty else if k = 2 then mayB n d && s.toList.isEmpty else if k = 3 then n == 0 && d == 0 else false
/-- Why a value may not be. -/
def chk (k n d : Int) (s : ByteArray) : Int := if pureB k n d s = false then 20 else if 64 < s.size then 2 else 0

theorem ret_bool {a b : Bool} (h : a = b) : Ending.returned (.bool a) = .returned (.bool b) := by rw [h]

set_option maxRecDepth 100000 in
set_option maxHeartbeats 1000000 in
theorem pure_any (k n d : Int) (s : ByteArray) (w : World) (h1 : -9223372036854775808 ≤ n) (h2 : n ≤ 9223372036854775807) (g1 : -9223372036854775808 ≤ d) (g2 : d ≤ 9223372036854775807) :
    Calls Tryz.prog 37 #[.agg #[.int .i64 k, .int .i64 n, .int .i64 d, .string s]] w fun e w' => e = .returned (.bool (pureB k n d s)) ∧ Below w.heap.size w w' := by
  by_cases k1 : k = 1
  · subst k1
    cases hd : d == 0
    · go_enter Tryz.func37, Tryz.ntmps37
      go_wp2
      go_ret
      exact ⟨ret_bool (by simp [pureB, hd]), by go_grown⟩
    · have hd' : d = 0 := by simpa using hd
      subst hd'
      go_enter Tryz.func37, Tryz.ntmps37
      go_wp2
      go_ret
      exact ⟨ret_bool (by simp [pureB]), by go_grown⟩
  · have k1' : (k == 1) = false := by simpa using k1
    by_cases k2 : k = 2
    · subst k2
      have e0 : pureB 2 n d s = (mayB n d && s.toList.isEmpty) := by simp [pureB]
      rw [e0]
      by_cases a1 : oE n d = 0
      · cases m : (oN n d == n && oD n d == d)
        · go_enter Tryz.func37, Tryz.ntmps37
          go_wp2_with (first
            | (go_at_call 48; refine (of_all _ _ _ h1 h2 g1 g2).mono ?_; rintro e w1 ⟨rfl, hb⟩; obtain ⟨hc, hf, hz, hB⟩ := bf (w := w) (by go_grown) hb; simp only [World.size_alloc] at hz; have z0 : w.heap.size < w1.heap.size := (by omega)))
          all_goals
            go_ret
            exact ⟨ret_bool (by simp_all [mayB]), by go_grown⟩
        · go_enter Tryz.func37, Tryz.ntmps37
          go_wp2_with (first
            | (go_at_call 48; refine (of_all _ _ _ h1 h2 g1 g2).mono ?_; rintro e w1 ⟨rfl, hb⟩; obtain ⟨hc, hf, hz, hB⟩ := bf (w := w) (by go_grown) hb; simp only [World.size_alloc] at hz; have z0 : w.heap.size < w1.heap.size := (by omega)))
          all_goals
            go_ret
            exact ⟨ret_bool (by simp_all [mayB]), by go_grown⟩
      · have a2 : (oE n d == 0) = false := by simpa using a1
        go_enter Tryz.func37, Tryz.ntmps37
        go_wp2_with (first
          | (go_at_call 48; refine (of_all _ _ _ h1 h2 g1 g2).mono ?_; rintro e w1 ⟨rfl, hb⟩; obtain ⟨hc, hf, hz, hB⟩ := bf (w := w) (by go_grown) hb; simp only [World.size_alloc] at hz; have z0 : w.heap.size < w1.heap.size := (by omega)))
        all_goals
          go_ret
          exact ⟨ret_bool (by simp [mayB, a2]), by go_grown⟩
    · have k2' : (k == 2) = false := by simpa using k2
      by_cases k3 : k = 3
      · subst k3
        have e0 : pureB 3 n d s = (n == 0 && d == 0) := by simp [pureB]
        rw [e0]
        cases hn : n == 0
        · go_enter Tryz.func37, Tryz.ntmps37
          go_wp2
          go_ret
          exact ⟨ret_bool (by simp), by go_grown⟩
        · go_enter Tryz.func37, Tryz.ntmps37
          go_wp2
          go_ret
          exact ⟨ret_bool (by simp), by go_grown⟩
      · have k3' : (k == 3) = false := by simpa using k3
        have e0 : pureB k n d s = false := by simp [pureB, k1, k2, k3]
        rw [e0]
        go_enter Tryz.func37, Tryz.ntmps37
        go_wp2
        go_ret
        exact ⟨rfl, by go_grown⟩

end Go.Proofs.YtmegombglkcccaaGreatDoor

namespace Go.Proofs.YtmegombglkcccaaGreatDoor
open Go.RowKit Go.Shelf

set_option maxRecDepth 100000 in
set_option maxHeartbeats 1000000 in
theorem check_any (k n d : Int) (s : ByteArray) (w : World) (h1 : -9223372036854775808 ≤ n) (h2 : n ≤ 9223372036854775807) (g1 : -9223372036854775808 ≤ d) (g2 : d ≤ 9223372036854775807) :
    Calls Tryz.prog 39 #[.agg #[.int .i64 k, .int .i64 n, .int .i64 d, .string s]] w fun e w' => e = .returned (.int .i64 (chk k n d s)) ∧ Below w.heap.size w w' := by
  cases hp : pureB k n d s
  · have e0 : chk k n d s = 20 := by simp [chk, hp]
    rw [e0]
    go_enter Tryz.func39, Tryz.ntmps39
    go_wp2_with fail
    refine (pure_any k n d s _ h1 h2 g1 g2).mono ?_
    rintro e w1 ⟨rfl, hb⟩
    obtain ⟨hc, hf, hz, hB⟩ := bf (w := w) (by go_grown) hb
    rw [hp]
    go_wp2
    go_ret
    exact ⟨rfl, hB⟩
  · by_cases hl : 64 < s.size
    · have e0 : chk k n d s = 2 := by simp [chk, hp, hl]
      rw [e0]
      have hl' : (64 : Int) < s.size := by omega
      go_enter Tryz.func39, Tryz.ntmps39
      go_wp2_with fail
      refine (pure_any k n d s _ h1 h2 g1 g2).mono ?_
      rintro e w1 ⟨rfl, hb⟩
      obtain ⟨hc, hf, hz, hB⟩ := bf (w := w) (by go_grown) hb
      rw [hp]
      go_wp2
      go_ret
      exact ⟨rfl, hB⟩
    · have e0 : chk k n d s = 0 := by simp [chk, hp, hl]
      rw [e0]
      have hl' : ((64 : Int) < s.size) = False := by simp; omega
      go_enter Tryz.func39, Tryz.ntmps39
      go_wp2_with fail
      refine (pure_any k n d s _ h1 h2 g1 g2).mono ?_
      rintro e w1 ⟨rfl, hb⟩
      obtain ⟨hc, hf, hz, hB⟩ := bf (w := w) (by go_grown) hb
      rw [hp]
      go_wp2
      go_ret
      exact ⟨rfl, hB⟩

end Go.Proofs.YtmegombglkcccaaGreatDoor

namespace Go.Proofs.YtmegombglkcccaaGreatDoor

/-- One bit more: what is left, and how often. -/
theorem bit_step {a b x bit : Int} (hb : 0 < b) (hx : a = 2 * x + bit) (h0 : 0 ≤ bit) (h1 : bit ≤ 1) :
    (b ≤ 2 * (x % b) + bit → a % b = 2 * (x % b) + bit - b ∧ a / b = 2 * (x / b) + 1) ∧ (2 * (x % b) + bit < b → a % b = 2 * (x % b) + bit ∧ a / b = 2 * (x / b)) := by
  have e := Int.mul_ediv_add_emod x b
  have m0 := Int.emod_nonneg x (show b ≠ 0 by omega)
  have m1 := Int.emod_lt_of_pos x hb
  generalize x / b = q at *
  generalize x % b = r at *
  constructor
  · intro h
    have ha : a = (2 * r + bit - b) + b * (2 * q + 1) := by rw [hx, ← e]; grind
    refine ⟨?_, ?_⟩
    · rw [ha, Int.add_mul_emod_self_left]; exact Int.emod_eq_of_lt (by omega) (by omega)
    · rw [ha, Int.add_mul_ediv_left _ _ (by omega), Int.ediv_eq_zero_of_lt (by omega) (by omega)]; omega
  · intro h
    have ha : a = (2 * r + bit) + b * (2 * q) := by rw [hx, ← e]; grind
    refine ⟨?_, ?_⟩
    · rw [ha, Int.add_mul_emod_self_left]; exact Int.emod_eq_of_lt (by omega) (by omega)
    · rw [ha, Int.add_mul_ediv_left _ _ (by omega), Int.ediv_eq_zero_of_lt (by omega) (by omega)]; omega

theorem pow_succ_i (k : Nat) : (2 : Int) ^ (k + 1) = 2 ^ k * 2 := Int.pow_succ 2 k
theorem pow_pos_i (k : Nat) : (0 : Int) < 2 ^ k := Int.pow_pos (by decide)

theorem half_step (a : Int) (k : Nat) : a / 2 ^ k = 2 * (a / 2 ^ (k + 1)) + a / 2 ^ k % 2 := by
  rw [pow_succ_i, ← Int.ediv_ediv_of_nonneg (Int.le_of_lt (pow_pos_i k))]
  omega

/-- The bit of a number is that of its digit: c is 2^(32 j), g the digit. -/
theorem bit_of (y : Int) (s : Nat) (hs : s < 32) : y / 2 ^ s % 2 = y % 4294967296 / 2 ^ s % 2 := by
  have hB : (4294967296 : Int) = 2 ^ s * (2 * 2 ^ (31 - s)) := by
    have : (2 : Int) ^ s * (2 * 2 ^ (31 - s)) = 2 ^ (s + (1 + (31 - s))) := by rw [Int.pow_add, Int.pow_add]; rfl
    rw [this, show s + (1 + (31 - s)) = 32 by omega]; rfl
  have hp := pow_pos_i s
  have e := Int.mul_ediv_add_emod y 4294967296
  generalize y / 4294967296 = q at *
  generalize y % 4294967296 = r at *
  have : y / 2 ^ s = r / 2 ^ s + 2 * (2 ^ (31 - s) * q) := by
    rw [← e, hB]
    rw [show 2 ^ s * (2 * 2 ^ (31 - s)) * q + r = r + 2 ^ s * (2 * (2 ^ (31 - s) * q)) by grind]
    exact Int.add_mul_ediv_left _ _ (by omega)
  rw [this]; omega

/-- A digit that is a multiple of 2^(s+1) has room for 2^s, which leaves a multiple of 2^s. -/
theorem dig_room (t : Int) (s : Nat) (hs : s < 32) (h0 : 0 ≤ t) (h1 : t < 4294967296) (hd : t % 2 ^ (s + 1) = 0) : t + 2 ^ s < 4294967296 ∧ (t + 2 ^ s) % 2 ^ s = 0 ∧ t % 2 ^ s = 0 := by
  have hp := pow_pos_i s
  have hB : (4294967296 : Int) = 2 ^ (s + 1) * 2 ^ (31 - s) := by
    rw [← Int.pow_add, show s + 1 + (31 - s) = 32 by omega]; rfl
  obtain ⟨c, hc⟩ := Int.dvd_of_emod_eq_zero hd
  have hp1 := pow_pos_i (s + 1)
  have hlt : c < 2 ^ (31 - s) := by
    apply Int.lt_of_not_ge; intro hge
    have := Int.mul_le_mul_of_nonneg_left hge (Int.le_of_lt hp1)
    omega
  have hle : 2 ^ (s + 1) * (c + 1) ≤ 2 ^ (s + 1) * 2 ^ (31 - s) := Int.mul_le_mul_of_nonneg_left (by omega) (Int.le_of_lt hp1)
  have e1 : (2 : Int) ^ (s + 1) * (c + 1) = t + 2 ^ (s + 1) := by rw [hc]; grind
  have e2 := pow_succ_i s
  have e3 : t = 2 ^ s * (2 * c) := by rw [hc, e2]; grind
  refine ⟨by omega, ?_, ?_⟩
  · rw [e3, show (2 : Int) ^ s * (2 * c) + 2 ^ s = 2 ^ s * (2 * c + 1) by grind]; exact Int.mul_emod_right _ _
  · rw [e3]; exact Int.mul_emod_right _ _

end Go.Proofs.YtmegombglkcccaaGreatDoor

namespace Go.Proofs.YtmegombglkcccaaGreatDoor
open Go.RowKit

/-- The digits of a number. -/
def g0 (x : Int) : Int := x % 4294967296
def g1 (x : Int) : Int := x / 4294967296 % 4294967296
def g2 (x : Int) : Int := x / 18446744073709551616 % 4294967296
def g3 (x : Int) : Int := x / 79228162514264337593543950336 % 4294967296
theorem g0_bd (x : Int) : 0 ≤ g0 x ∧ g0 x ≤ 4294967295 := by unfold g0; omega
theorem g1_bd (x : Int) : 0 ≤ g1 x ∧ g1 x ≤ 4294967295 := by unfold g1; omega
theorem g2_bd (x : Int) : 0 ≤ g2 x ∧ g2 x ≤ 4294967295 := by unfold g2; omega
theorem g3_bd (x : Int) : 0 ≤ g3 x ∧ g3 x ≤ 4294967295 := by unfold g3; omega
theorem g_sum (x : Int) (h0 : 0 ≤ x) (h1 : x < 340282366920938463463374607431768211456) : x = g0 x + g1 x * 4294967296 + g2 x * 18446744073709551616 + g3 x * 79228162514264337593543950336 := by
  unfold g0 g1 g2 g3; omega
theorem g_of (a b c d : Int) (h0 : 0 ≤ a ∧ a ≤ 4294967295) (h1 : 0 ≤ b ∧ b ≤ 4294967295) (h2 : 0 ≤ c ∧ c ≤ 4294967295) (h3 : 0 ≤ d ∧ d ≤ 4294967295) :
    g0 (a + b * 4294967296 + c * 18446744073709551616 + d * 79228162514264337593543950336) = a ∧ g1 (a + b * 4294967296 + c * 18446744073709551616 + d * 79228162514264337593543950336) = b ∧ g2 (a + b * 4294967296 + c * 18446744073709551616 + d * 79228162514264337593543950336) = c ∧ g3 (a + b * 4294967296 + c * 18446744073709551616 + d * 79228162514264337593543950336) = d := by
  unfold g0 g1 g2 g3; omega

theorem ret_big {a b c d a' b' c' d' : Int} (h0 : a = a') (h1 : b = b') (h2 : c = c') (h3 : d = d') : Ending.returned (.agg #[.int .u64 a, .int .u64 b, .int .u64 c, .int .u64 d]) = Ending.returned (.agg #[.int .u64 a', .int .u64 b', .int .u64 c', .int .u64 d']) := by rw [h0, h1, h2, h3]

set_option maxHeartbeats 400000 in
theorem rsize_any (n : Int) (w : World) (h1 : -9223372036854775808 ≤ n) (h2 : n ≤ 9223372036854775807) :
    Calls Tryz.prog 96 #[.int .i64 n] w fun e w' => e = .returned (.int .u64 (sz n)) ∧ w' = w := by
  by_cases h : n < 0
  · go_enter Tryz.func96, Tryz.ntmps96
    go_wp2
    go_ret
    exact ⟨ret_int (by rw [sz_of_neg h]; go_arith), rfl⟩
  · have h' : 0 ≤ n := by omega
    go_enter Tryz.func96, Tryz.ntmps96
    go_wp2
    go_ret
    exact ⟨ret_int (by rw [sz_of_nonneg h']), rfl⟩

set_option maxHeartbeats 400000 in
theorem rof_any (n : Int) (w : World) (h1 : 0 ≤ n) (h2 : n ≤ 18446744073709551615) :
    Calls Tryz.prog 95 #[.int .u64 n] w fun e w' => e = .returned (.agg #[.int .u64 (g0 n), .int .u64 (g1 n), .int .u64 (g2 n), .int .u64 (g3 n)]) ∧ Below w.heap.size w w' := by
  go_enter Tryz.func95, Tryz.ntmps95
  go_wp2
  go_returns
  exact ⟨ret_big (by unfold g0; rfl) (by unfold g1; omega) (by unfold g2; omega) (by unfold g3; omega), by go_grown⟩

set_option maxRecDepth 100000 in
set_option maxHeartbeats 2000000 in
theorem rplus_raw (a0 a1 a2 a3 b0 b1 b2 b3 : Int) (w : World) (p0 : 0 ≤ a0) (p1 : 0 ≤ a1) (p2 : 0 ≤ a2) (p3 : 0 ≤ a3) (q0 : 0 ≤ b0) (q1 : 0 ≤ b1) (q2 : 0 ≤ b2) (q3 : 0 ≤ b3)
    (r0 : a0 ≤ 4294967295) (r1 : a1 ≤ 4294967295) (r2 : a2 ≤ 4294967295) (r3 : a3 ≤ 4294967295) (s0 : b0 ≤ 4294967295) (s1 : b1 ≤ 4294967295) (s2 : b2 ≤ 4294967295) (s3 : b3 ≤ 4294967295) :
    Calls Tryz.prog 109 #[.agg #[.int .u64 a0, .int .u64 a1, .int .u64 a2, .int .u64 a3], .agg #[.int .u64 b0, .int .u64 b1, .int .u64 b2, .int .u64 b3]] w fun e w' => e = .returned (.agg #[.int .u64 ((a0 + b0) % 4294967296), .int .u64 ((a1 + b1 + (a0 + b0) / 4294967296) % 4294967296), .int .u64 ((a2 + b2 + (a1 + b1 + (a0 + b0) / 4294967296) / 4294967296) % 4294967296), .int .u64 ((a3 + b3 + (a2 + b2 + (a1 + b1 + (a0 + b0) / 4294967296) / 4294967296) / 4294967296) % 4294967296)]) ∧ Below w.heap.size w w' := by
  go_enter Tryz.func109, Tryz.ntmps109
  go_wp2
  refine wp_loop_rounds 5 ?_
  rw [rounds_succ]
  go_wp2
  go_quiet (fail)
  go_wp2
  rw [rounds_succ]
  go_wp2
  go_quiet (fail)
  go_wp2
  rw [rounds_succ]
  go_wp2
  go_quiet (fail)
  go_wp2
  rw [rounds_succ]
  go_wp2
  go_quiet (fail)
  go_wp2
  rw [rounds_succ]
  go_wp2
  go_returns
  exact ⟨rfl, by repeat' (first | (with_reducible exact Below.refl _ _) | (with_reducible assumption) | (with_reducible refine bdrewN _ ?_) | (with_reducible refine Below.alloc ?_ ?_ _) | (with_reducible refine Below.setCell ?_ ?_ _) | (with_reducible refine Below.drew ?_) | go_size)⟩

theorem rplus_any (x y : Int) (w : World) (hx : 0 ≤ x) (hy : 0 ≤ y) (h : x + y < 340282366920938463463374607431768211456) :
    Calls Tryz.prog 109 #[.agg #[.int .u64 (g0 x), .int .u64 (g1 x), .int .u64 (g2 x), .int .u64 (g3 x)], .agg #[.int .u64 (g0 y), .int .u64 (g1 y), .int .u64 (g2 y), .int .u64 (g3 y)]] w fun e w' => e = .returned (.agg #[.int .u64 (g0 (x + y)), .int .u64 (g1 (x + y)), .int .u64 (g2 (x + y)), .int .u64 (g3 (x + y))]) ∧ Below w.heap.size w w' := by
  have a0 := g0_bd x; have a1 := g1_bd x; have a2 := g2_bd x; have a3 := g3_bd x
  have b0 := g0_bd y; have b1 := g1_bd y; have b2 := g2_bd y; have b3 := g3_bd y
  have ex := g_sum x hx (by omega); have ey := g_sum y hy (by omega)
  refine (rplus_raw _ _ _ _ _ _ _ _ w a0.1 a1.1 a2.1 a3.1 b0.1 b1.1 b2.1 b3.1 a0.2 a1.2 a2.2 a3.2 b0.2 b1.2 b2.2 b3.2).mono ?_
  rintro e w' ⟨rfl, hb⟩
  have e : x + y = ((g0 x + g0 y) % 4294967296) + ((g1 x + g1 y + (g0 x + g0 y) / 4294967296) % 4294967296) * 4294967296 + ((g2 x + g2 y + (g1 x + g1 y + (g0 x + g0 y) / 4294967296) / 4294967296) % 4294967296) * 18446744073709551616 + ((g3 x + g3 y + (g2 x + g2 y + (g1 x + g1 y + (g0 x + g0 y) / 4294967296) / 4294967296) / 4294967296) % 4294967296) * 79228162514264337593543950336 := by
    generalize g0 x = X0 at *; generalize g1 x = X1 at *; generalize g2 x = X2 at *; generalize g3 x = X3 at *
    generalize g0 y = Y0 at *; generalize g1 y = Y1 at *; generalize g2 y = Y2 at *; generalize g3 y = Y3 at *
    clear hb
    omega
  obtain ⟨k0, k1, k2, k3⟩ := g_of ((g0 x + g0 y) % 4294967296) ((g1 x + g1 y + (g0 x + g0 y) / 4294967296) % 4294967296) ((g2 x + g2 y + (g1 x + g1 y + (g0 x + g0 y) / 4294967296) / 4294967296) % 4294967296) ((g3 x + g3 y + (g2 x + g2 y + (g1 x + g1 y + (g0 x + g0 y) / 4294967296) / 4294967296) / 4294967296) % 4294967296) (by omega) (by omega) (by omega) (by omega)
  rw [← e] at k0 k1 k2 k3
  exact ⟨ret_big k0.symm k1.symm k2.symm k3.symm, hb⟩

set_option maxRecDepth 100000 in
set_option maxHeartbeats 2000000 in
theorem rless_raw (a0 a1 a2 a3 b0 b1 b2 b3 : Int) (w : World) (p0 : 0 ≤ a0) (p1 : 0 ≤ a1) (p2 : 0 ≤ a2) (p3 : 0 ≤ a3) (q0 : 0 ≤ b0) (q1 : 0 ≤ b1) (q2 : 0 ≤ b2) (q3 : 0 ≤ b3)
    (r0 : a0 ≤ 4294967295) (r1 : a1 ≤ 4294967295) (r2 : a2 ≤ 4294967295) (r3 : a3 ≤ 4294967295) (s0 : b0 ≤ 4294967295) (s1 : b1 ≤ 4294967295) (s2 : b2 ≤ 4294967295) (s3 : b3 ≤ 4294967295) :
    Calls Tryz.prog 110 #[.agg #[.int .u64 a0, .int .u64 a1, .int .u64 a2, .int .u64 a3], .agg #[.int .u64 b0, .int .u64 b1, .int .u64 b2, .int .u64 b3]] w fun e w' => e = .returned (.agg #[.int .u64 ((a0 + 4294967296 - b0) % 4294967296), .int .u64 ((a1 + 4294967296 - b1 - (1 - (a0 + 4294967296 - b0) / 4294967296)) % 4294967296), .int .u64 ((a2 + 4294967296 - b2 - (1 - (a1 + 4294967296 - b1 - (1 - (a0 + 4294967296 - b0) / 4294967296)) / 4294967296)) % 4294967296), .int .u64 ((a3 + 4294967296 - b3 - (1 - (a2 + 4294967296 - b2 - (1 - (a1 + 4294967296 - b1 - (1 - (a0 + 4294967296 - b0) / 4294967296)) / 4294967296)) / 4294967296)) % 4294967296)]) ∧ Below w.heap.size w w' := by
  go_enter Tryz.func110, Tryz.ntmps110
  go_wp2
  refine wp_loop_rounds 5 ?_
  rw [rounds_succ]
  go_wp2
  go_quiet (fail)
  go_wp2
  rw [rounds_succ]
  go_wp2
  go_quiet (fail)
  go_wp2
  rw [rounds_succ]
  go_wp2
  go_quiet (fail)
  go_wp2
  rw [rounds_succ]
  go_wp2
  go_quiet (fail)
  go_wp2
  rw [rounds_succ]
  go_wp2
  go_returns
  exact ⟨rfl, by repeat' (first | (with_reducible exact Below.refl _ _) | (with_reducible assumption) | (with_reducible refine bdrewN _ ?_) | (with_reducible refine Below.alloc ?_ ?_ _) | (with_reducible refine Below.setCell ?_ ?_ _) | (with_reducible refine Below.drew ?_) | go_size)⟩

theorem rless_any (x y : Int) (w : World) (hy : 0 ≤ y) (h : y ≤ x) (hx : x < 340282366920938463463374607431768211456) :
    Calls Tryz.prog 110 #[.agg #[.int .u64 (g0 x), .int .u64 (g1 x), .int .u64 (g2 x), .int .u64 (g3 x)], .agg #[.int .u64 (g0 y), .int .u64 (g1 y), .int .u64 (g2 y), .int .u64 (g3 y)]] w fun e w' => e = .returned (.agg #[.int .u64 (g0 (x - y)), .int .u64 (g1 (x - y)), .int .u64 (g2 (x - y)), .int .u64 (g3 (x - y))]) ∧ Below w.heap.size w w' := by
  have a0 := g0_bd x; have a1 := g1_bd x; have a2 := g2_bd x; have a3 := g3_bd x
  have b0 := g0_bd y; have b1 := g1_bd y; have b2 := g2_bd y; have b3 := g3_bd y
  have ex := g_sum x (by omega) hx; have ey := g_sum y hy (by omega)
  refine (rless_raw _ _ _ _ _ _ _ _ w a0.1 a1.1 a2.1 a3.1 b0.1 b1.1 b2.1 b3.1 a0.2 a1.2 a2.2 a3.2 b0.2 b1.2 b2.2 b3.2).mono ?_
  rintro e w' ⟨rfl, hb⟩
  have e : x - y = ((g0 x + 4294967296 - g0 y) % 4294967296) + ((g1 x + 4294967296 - g1 y - (1 - (g0 x + 4294967296 - g0 y) / 4294967296)) % 4294967296) * 4294967296 + ((g2 x + 4294967296 - g2 y - (1 - (g1 x + 4294967296 - g1 y - (1 - (g0 x + 4294967296 - g0 y) / 4294967296)) / 4294967296)) % 4294967296) * 18446744073709551616 + ((g3 x + 4294967296 - g3 y - (1 - (g2 x + 4294967296 - g2 y - (1 - (g1 x + 4294967296 - g1 y - (1 - (g0 x + 4294967296 - g0 y) / 4294967296)) / 4294967296)) / 4294967296)) % 4294967296) * 79228162514264337593543950336 := by
    generalize g0 x = X0 at *; generalize g1 x = X1 at *; generalize g2 x = X2 at *; generalize g3 x = X3 at *
    generalize g0 y = Y0 at *; generalize g1 y = Y1 at *; generalize g2 y = Y2 at *; generalize g3 y = Y3 at *
    clear hb
    omega
  obtain ⟨k0, k1, k2, k3⟩ := g_of ((g0 x + 4294967296 - g0 y) % 4294967296) ((g1 x + 4294967296 - g1 y - (1 - (g0 x + 4294967296 - g0 y) / 4294967296)) % 4294967296) ((g2 x + 4294967296 - g2 y - (1 - (g1 x + 4294967296 - g1 y - (1 - (g0 x + 4294967296 - g0 y) / 4294967296)) / 4294967296)) % 4294967296) ((g3 x + 4294967296 - g3 y - (1 - (g2 x + 4294967296 - g2 y - (1 - (g1 x + 4294967296 - g1 y - (1 - (g0 x + 4294967296 - g0 y) / 4294967296)) / 4294967296)) / 4294967296)) % 4294967296) (by omega) (by omega) (by omega) (by omega)
  rw [← e] at k0 k1 k2 k3
  exact ⟨ret_big k0.symm k1.symm k2.symm k3.symm, hb⟩

/-- -1, 0, 1. -/
def cmpI (x y : Int) : Int := if x < y then -1 else if y < x then 1 else 0

set_option maxRecDepth 100000 in
set_option maxHeartbeats 2000000 in
theorem rcompare_raw (a0 a1 a2 a3 b0 b1 b2 b3 : Int) (w : World) (p0 : 0 ≤ a0) (p1 : 0 ≤ a1) (p2 : 0 ≤ a2) (_p3 : 0 ≤ a3) (q0 : 0 ≤ b0) (q1 : 0 ≤ b1) (q2 : 0 ≤ b2) (_q3 : 0 ≤ b3)
    (r0 : a0 ≤ 4294967295) (r1 : a1 ≤ 4294967295) (r2 : a2 ≤ 4294967295) (_r3 : a3 ≤ 4294967295) (s0 : b0 ≤ 4294967295) (s1 : b1 ≤ 4294967295) (s2 : b2 ≤ 4294967295) (_s3 : b3 ≤ 4294967295) :
    Calls Tryz.prog 106 #[.agg #[.int .u64 a0, .int .u64 a1, .int .u64 a2, .int .u64 a3], .agg #[.int .u64 b0, .int .u64 b1, .int .u64 b2, .int .u64 b3]] w fun e w' => e = .returned (.int .i64 (cmpI (a0 + a1 * 4294967296 + a2 * 18446744073709551616 + a3 * 79228162514264337593543950336) (b0 + b1 * 4294967296 + b2 * 18446744073709551616 + b3 * 79228162514264337593543950336))) ∧ Below w.heap.size w w' := by
  go_enter Tryz.func106, Tryz.ntmps106
  go_wp2
  refine wp_loop_rounds 5 ?_
  rw [rounds_succ]
  go_wp2
  go_quiet (fail)
  by_cases u3 : a3 < b3
  · go_wp2
    go_ret
    exact ⟨ret_int (by unfold cmpI; rw [if_pos (by omega)]), by repeat' (first | (with_reducible exact Below.refl _ _) | (with_reducible assumption) | (with_reducible refine bdrewN _ ?_) | (with_reducible refine Below.alloc ?_ ?_ _) | (with_reducible refine Below.setCell ?_ ?_ _) | (with_reducible refine Below.drew ?_) | go_size)⟩
  go_wp2
  go_quiet (fail)
  by_cases v3 : b3 < a3
  · go_wp2
    go_ret
    exact ⟨ret_int (by unfold cmpI; rw [if_neg (by omega), if_pos (by omega)]), by repeat' (first | (with_reducible exact Below.refl _ _) | (with_reducible assumption) | (with_reducible refine bdrewN _ ?_) | (with_reducible refine Below.alloc ?_ ?_ _) | (with_reducible refine Below.setCell ?_ ?_ _) | (with_reducible refine Below.drew ?_) | go_size)⟩
  go_wp2
  rw [rounds_succ]
  go_wp2
  go_quiet (fail)
  by_cases u2 : a2 < b2
  · go_wp2
    go_ret
    exact ⟨ret_int (by unfold cmpI; rw [if_pos (by omega)]), by repeat' (first | (with_reducible exact Below.refl _ _) | (with_reducible assumption) | (with_reducible refine bdrewN _ ?_) | (with_reducible refine Below.alloc ?_ ?_ _) | (with_reducible refine Below.setCell ?_ ?_ _) | (with_reducible refine Below.drew ?_) | go_size)⟩
  go_wp2
  go_quiet (fail)
  by_cases v2 : b2 < a2
  · go_wp2
    go_ret
    exact ⟨ret_int (by unfold cmpI; rw [if_neg (by omega), if_pos (by omega)]), by repeat' (first | (with_reducible exact Below.refl _ _) | (with_reducible assumption) | (with_reducible refine bdrewN _ ?_) | (with_reducible refine Below.alloc ?_ ?_ _) | (with_reducible refine Below.setCell ?_ ?_ _) | (with_reducible refine Below.drew ?_) | go_size)⟩
  go_wp2
  rw [rounds_succ]
  go_wp2
  go_quiet (fail)
  by_cases u1 : a1 < b1
  · go_wp2
    go_ret
    exact ⟨ret_int (by unfold cmpI; rw [if_pos (by omega)]), by repeat' (first | (with_reducible exact Below.refl _ _) | (with_reducible assumption) | (with_reducible refine bdrewN _ ?_) | (with_reducible refine Below.alloc ?_ ?_ _) | (with_reducible refine Below.setCell ?_ ?_ _) | (with_reducible refine Below.drew ?_) | go_size)⟩
  go_wp2
  go_quiet (fail)
  by_cases v1 : b1 < a1
  · go_wp2
    go_ret
    exact ⟨ret_int (by unfold cmpI; rw [if_neg (by omega), if_pos (by omega)]), by repeat' (first | (with_reducible exact Below.refl _ _) | (with_reducible assumption) | (with_reducible refine bdrewN _ ?_) | (with_reducible refine Below.alloc ?_ ?_ _) | (with_reducible refine Below.setCell ?_ ?_ _) | (with_reducible refine Below.drew ?_) | go_size)⟩
  go_wp2
  rw [rounds_succ]
  go_wp2
  go_quiet (fail)
  by_cases u0 : a0 < b0
  · go_wp2
    go_ret
    exact ⟨ret_int (by unfold cmpI; rw [if_pos (by omega)]), by repeat' (first | (with_reducible exact Below.refl _ _) | (with_reducible assumption) | (with_reducible refine bdrewN _ ?_) | (with_reducible refine Below.alloc ?_ ?_ _) | (with_reducible refine Below.setCell ?_ ?_ _) | (with_reducible refine Below.drew ?_) | go_size)⟩
  go_wp2
  go_quiet (fail)
  by_cases v0 : b0 < a0
  · go_wp2
    go_ret
    exact ⟨ret_int (by unfold cmpI; rw [if_neg (by omega), if_pos (by omega)]), by repeat' (first | (with_reducible exact Below.refl _ _) | (with_reducible assumption) | (with_reducible refine bdrewN _ ?_) | (with_reducible refine Below.alloc ?_ ?_ _) | (with_reducible refine Below.setCell ?_ ?_ _) | (with_reducible refine Below.drew ?_) | go_size)⟩
  go_wp2
  rw [rounds_succ]
  go_wp2
  go_ret
  exact ⟨ret_int (by unfold cmpI; rw [if_neg (by omega), if_neg (by omega)]), by repeat' (first | (with_reducible exact Below.refl _ _) | (with_reducible assumption) | (with_reducible refine bdrewN _ ?_) | (with_reducible refine Below.alloc ?_ ?_ _) | (with_reducible refine Below.setCell ?_ ?_ _) | (with_reducible refine Below.drew ?_) | go_size)⟩

theorem rcompare_any (x y : Int) (w : World) (hx : 0 ≤ x) (hx' : x < 340282366920938463463374607431768211456) (hy : 0 ≤ y) (hy' : y < 340282366920938463463374607431768211456) :
    Calls Tryz.prog 106 #[.agg #[.int .u64 (g0 x), .int .u64 (g1 x), .int .u64 (g2 x), .int .u64 (g3 x)], .agg #[.int .u64 (g0 y), .int .u64 (g1 y), .int .u64 (g2 y), .int .u64 (g3 y)]] w fun e w' => e = .returned (.int .i64 (cmpI x y)) ∧ Below w.heap.size w w' := by
  have a0 := g0_bd x; have a1 := g1_bd x; have a2 := g2_bd x; have a3 := g3_bd x
  have b0 := g0_bd y; have b1 := g1_bd y; have b2 := g2_bd y; have b3 := g3_bd y
  have h := rcompare_raw _ _ _ _ _ _ _ _ w a0.1 a1.1 a2.1 a3.1 b0.1 b1.1 b2.1 b3.1 a0.2 a1.2 a2.2 a3.2 b0.2 b1.2 b2.2 b3.2
  rwa [← g_sum x hx hx', ← g_sum y hy hy'] at h

end Go.Proofs.YtmegombglkcccaaGreatDoor

namespace Go.Proofs.YtmegombglkcccaaGreatDoor
open Go.RowKit

theorem wp_world {P : Program} {c : Code} {Q : Exit → Act → World → Prop} {a : Act} {w : World} (h : ∀ W, W = w → c.wp P Q a W) : c.wp P Q a w := h w rfl

/-- With k bits of a still to come: what is left, how often b goes in, and which bits of that are still 0. -/
structure Inv (a b : Int) (k : Nat) (t0 t1 t2 t3 R : Int) : Prop where
  rest : R = a / 2 ^ k % b
  times : t0 + t1 * 4294967296 + t2 * 18446744073709551616 + t3 * 79228162514264337593543950336 = a / 2 ^ k / b * 2 ^ k
  d0 : t0 % 2 ^ min k 32 = 0
  d1 : t1 % 2 ^ min (k - 32) 32 = 0
  d2 : t2 % 2 ^ min (k - 64) 32 = 0
  d3 : t3 % 2 ^ min (k - 96) 32 = 0

theorem inv_step0 (a b t0 t1 t2 t3 R : Int) (s : Nat) (hs : s < 32) (hb : 0 < b) (h0 : 0 ≤ t0) (h1 : t0 < 4294967296) (h : Inv a b (0 + s + 1) t0 t1 t2 t3 R) :
    (b ≤ 2 * R + g0 a / 2 ^ s % 2 → t0 + 2 ^ s < 4294967296 ∧ Inv a b (0 + s) (t0 + 2 ^ s) t1 t2 t3 (2 * R + g0 a / 2 ^ s % 2 - b)) ∧ (2 * R + g0 a / 2 ^ s % 2 < b → Inv a b (0 + s) t0 t1 t2 t3 (2 * R + g0 a / 2 ^ s % 2)) := by
  obtain ⟨hr, ht, q0, q1, q2, q3⟩ := h
  have hbit : a / 2 ^ (0 + s) % 2 = g0 a / 2 ^ s % 2 := by
    unfold g0
    rw [show 0 + s = s by omega]; exact bit_of a s hs
  have hx := half_step a (0 + s)
  rw [hbit] at hx
  have hb0 : 0 ≤ g0 a / 2 ^ s % 2 := by omega
  have hb1 : g0 a / 2 ^ s % 2 ≤ 1 := by omega
  have hp : (2 : Int) ^ (0 + s + 1) = 2 ^ (0 + s) * 2 := pow_succ_i _
  have hp2 : (2 : Int) ^ (0 + s) = 1 * 2 ^ s := by rw [Int.pow_add]; rfl
  have qe : min (0 + s + 1) 32 = s + 1 := by omega
  have qj := q0
  rw [qe] at qj
  obtain ⟨r1, r2, r3⟩ := dig_room t0 s hs h0 h1 qj
  obtain ⟨s1, s2⟩ := bit_step hb hx hb0 hb1
  rw [← hr] at s1 s2
  generalize g0 a / 2 ^ s % 2 = bit at *
  constructor
  · intro hc
    obtain ⟨u1, u2⟩ := s1 hc
    refine ⟨r1, ⟨u1.symm, ?_, (by rw [show min ((0 + s)) 32 = s by omega]; exact r2), (by rw [show min ((0 + s) - 32) 32 = 0 by omega]; simp), (by rw [show min ((0 + s) - 64) 32 = 0 by omega]; simp), (by rw [show min ((0 + s) - 96) 32 = 0 by omega]; simp)⟩⟩
    rw [u2]
    have : (2 * (a / 2 ^ (0 + s + 1) / b) + 1) * 2 ^ (0 + s) = a / 2 ^ (0 + s + 1) / b * 2 ^ (0 + s + 1) + 2 ^ (0 + s) := by rw [hp]; grind
    rw [this, ← ht, hp2]
    generalize (2 : Int) ^ s = p at *
    grind
  · intro hc
    obtain ⟨u1, u2⟩ := s2 hc
    refine ⟨u1.symm, ?_, (by rw [show min ((0 + s)) 32 = s by omega]; exact r3), (by rw [show min ((0 + s) - 32) 32 = 0 by omega]; simp), (by rw [show min ((0 + s) - 64) 32 = 0 by omega]; simp), (by rw [show min ((0 + s) - 96) 32 = 0 by omega]; simp)⟩
    rw [u2]
    have : 2 * (a / 2 ^ (0 + s + 1) / b) * 2 ^ (0 + s) = a / 2 ^ (0 + s + 1) / b * 2 ^ (0 + s + 1) := by rw [hp]; grind
    rw [this, ht]

theorem inv_step1 (a b t0 t1 t2 t3 R : Int) (s : Nat) (hs : s < 32) (hb : 0 < b) (h0 : 0 ≤ t1) (h1 : t1 < 4294967296) (h : Inv a b (32 + s + 1) t0 t1 t2 t3 R) :
    (b ≤ 2 * R + g1 a / 2 ^ s % 2 → t1 + 2 ^ s < 4294967296 ∧ Inv a b (32 + s) t0 (t1 + 2 ^ s) t2 t3 (2 * R + g1 a / 2 ^ s % 2 - b)) ∧ (2 * R + g1 a / 2 ^ s % 2 < b → Inv a b (32 + s) t0 t1 t2 t3 (2 * R + g1 a / 2 ^ s % 2)) := by
  obtain ⟨hr, ht, q0, q1, q2, q3⟩ := h
  have hbit : a / 2 ^ (32 + s) % 2 = g1 a / 2 ^ s % 2 := by
    unfold g1
    have e : a / 2 ^ (32 + s) = a / 4294967296 / 2 ^ s := by
      rw [Int.pow_add, ← Int.ediv_ediv_of_nonneg (by decide)]; rfl
    rw [e]; exact bit_of _ s hs
  have hx := half_step a (32 + s)
  rw [hbit] at hx
  have hb0 : 0 ≤ g1 a / 2 ^ s % 2 := by omega
  have hb1 : g1 a / 2 ^ s % 2 ≤ 1 := by omega
  have hp : (2 : Int) ^ (32 + s + 1) = 2 ^ (32 + s) * 2 := pow_succ_i _
  have hp2 : (2 : Int) ^ (32 + s) = 4294967296 * 2 ^ s := by rw [Int.pow_add]; rfl
  have qe : min ((32 + s + 1) - 32) 32 = s + 1 := by omega
  have qj := q1
  rw [qe] at qj
  obtain ⟨r1, r2, r3⟩ := dig_room t1 s hs h0 h1 qj
  obtain ⟨s1, s2⟩ := bit_step hb hx hb0 hb1
  rw [← hr] at s1 s2
  generalize g1 a / 2 ^ s % 2 = bit at *
  constructor
  · intro hc
    obtain ⟨u1, u2⟩ := s1 hc
    refine ⟨r1, ⟨u1.symm, ?_, (by rw [show min ((32 + s)) 32 = min ((32 + s + 1)) 32 by omega]; exact q0), (by rw [show min ((32 + s) - 32) 32 = s by omega]; exact r2), (by rw [show min ((32 + s) - 64) 32 = 0 by omega]; simp), (by rw [show min ((32 + s) - 96) 32 = 0 by omega]; simp)⟩⟩
    rw [u2]
    have : (2 * (a / 2 ^ (32 + s + 1) / b) + 1) * 2 ^ (32 + s) = a / 2 ^ (32 + s + 1) / b * 2 ^ (32 + s + 1) + 2 ^ (32 + s) := by rw [hp]; grind
    rw [this, ← ht, hp2]
    generalize (2 : Int) ^ s = p at *
    grind
  · intro hc
    obtain ⟨u1, u2⟩ := s2 hc
    refine ⟨u1.symm, ?_, (by rw [show min ((32 + s)) 32 = min ((32 + s + 1)) 32 by omega]; exact q0), (by rw [show min ((32 + s) - 32) 32 = s by omega]; exact r3), (by rw [show min ((32 + s) - 64) 32 = 0 by omega]; simp), (by rw [show min ((32 + s) - 96) 32 = 0 by omega]; simp)⟩
    rw [u2]
    have : 2 * (a / 2 ^ (32 + s + 1) / b) * 2 ^ (32 + s) = a / 2 ^ (32 + s + 1) / b * 2 ^ (32 + s + 1) := by rw [hp]; grind
    rw [this, ht]

theorem inv_step2 (a b t0 t1 t2 t3 R : Int) (s : Nat) (hs : s < 32) (hb : 0 < b) (h0 : 0 ≤ t2) (h1 : t2 < 4294967296) (h : Inv a b (64 + s + 1) t0 t1 t2 t3 R) :
    (b ≤ 2 * R + g2 a / 2 ^ s % 2 → t2 + 2 ^ s < 4294967296 ∧ Inv a b (64 + s) t0 t1 (t2 + 2 ^ s) t3 (2 * R + g2 a / 2 ^ s % 2 - b)) ∧ (2 * R + g2 a / 2 ^ s % 2 < b → Inv a b (64 + s) t0 t1 t2 t3 (2 * R + g2 a / 2 ^ s % 2)) := by
  obtain ⟨hr, ht, q0, q1, q2, q3⟩ := h
  have hbit : a / 2 ^ (64 + s) % 2 = g2 a / 2 ^ s % 2 := by
    unfold g2
    have e : a / 2 ^ (64 + s) = a / 18446744073709551616 / 2 ^ s := by
      rw [Int.pow_add, ← Int.ediv_ediv_of_nonneg (by decide)]; rfl
    rw [e]; exact bit_of _ s hs
  have hx := half_step a (64 + s)
  rw [hbit] at hx
  have hb0 : 0 ≤ g2 a / 2 ^ s % 2 := by omega
  have hb1 : g2 a / 2 ^ s % 2 ≤ 1 := by omega
  have hp : (2 : Int) ^ (64 + s + 1) = 2 ^ (64 + s) * 2 := pow_succ_i _
  have hp2 : (2 : Int) ^ (64 + s) = 18446744073709551616 * 2 ^ s := by rw [Int.pow_add]; rfl
  have qe : min ((64 + s + 1) - 64) 32 = s + 1 := by omega
  have qj := q2
  rw [qe] at qj
  obtain ⟨r1, r2, r3⟩ := dig_room t2 s hs h0 h1 qj
  obtain ⟨s1, s2⟩ := bit_step hb hx hb0 hb1
  rw [← hr] at s1 s2
  generalize g2 a / 2 ^ s % 2 = bit at *
  constructor
  · intro hc
    obtain ⟨u1, u2⟩ := s1 hc
    refine ⟨r1, ⟨u1.symm, ?_, (by rw [show min ((64 + s)) 32 = min ((64 + s + 1)) 32 by omega]; exact q0), (by rw [show min ((64 + s) - 32) 32 = min ((64 + s + 1) - 32) 32 by omega]; exact q1), (by rw [show min ((64 + s) - 64) 32 = s by omega]; exact r2), (by rw [show min ((64 + s) - 96) 32 = 0 by omega]; simp)⟩⟩
    rw [u2]
    have : (2 * (a / 2 ^ (64 + s + 1) / b) + 1) * 2 ^ (64 + s) = a / 2 ^ (64 + s + 1) / b * 2 ^ (64 + s + 1) + 2 ^ (64 + s) := by rw [hp]; grind
    rw [this, ← ht, hp2]
    generalize (2 : Int) ^ s = p at *
    grind
  · intro hc
    obtain ⟨u1, u2⟩ := s2 hc
    refine ⟨u1.symm, ?_, (by rw [show min ((64 + s)) 32 = min ((64 + s + 1)) 32 by omega]; exact q0), (by rw [show min ((64 + s) - 32) 32 = min ((64 + s + 1) - 32) 32 by omega]; exact q1), (by rw [show min ((64 + s) - 64) 32 = s by omega]; exact r3), (by rw [show min ((64 + s) - 96) 32 = 0 by omega]; simp)⟩
    rw [u2]
    have : 2 * (a / 2 ^ (64 + s + 1) / b) * 2 ^ (64 + s) = a / 2 ^ (64 + s + 1) / b * 2 ^ (64 + s + 1) := by rw [hp]; grind
    rw [this, ht]

theorem inv_step3 (a b t0 t1 t2 t3 R : Int) (s : Nat) (hs : s < 32) (hb : 0 < b) (h0 : 0 ≤ t3) (h1 : t3 < 4294967296) (h : Inv a b (96 + s + 1) t0 t1 t2 t3 R) :
    (b ≤ 2 * R + g3 a / 2 ^ s % 2 → t3 + 2 ^ s < 4294967296 ∧ Inv a b (96 + s) t0 t1 t2 (t3 + 2 ^ s) (2 * R + g3 a / 2 ^ s % 2 - b)) ∧ (2 * R + g3 a / 2 ^ s % 2 < b → Inv a b (96 + s) t0 t1 t2 t3 (2 * R + g3 a / 2 ^ s % 2)) := by
  obtain ⟨hr, ht, q0, q1, q2, q3⟩ := h
  have hbit : a / 2 ^ (96 + s) % 2 = g3 a / 2 ^ s % 2 := by
    unfold g3
    have e : a / 2 ^ (96 + s) = a / 79228162514264337593543950336 / 2 ^ s := by
      rw [Int.pow_add, ← Int.ediv_ediv_of_nonneg (by decide)]; rfl
    rw [e]; exact bit_of _ s hs
  have hx := half_step a (96 + s)
  rw [hbit] at hx
  have hb0 : 0 ≤ g3 a / 2 ^ s % 2 := by omega
  have hb1 : g3 a / 2 ^ s % 2 ≤ 1 := by omega
  have hp : (2 : Int) ^ (96 + s + 1) = 2 ^ (96 + s) * 2 := pow_succ_i _
  have hp2 : (2 : Int) ^ (96 + s) = 79228162514264337593543950336 * 2 ^ s := by rw [Int.pow_add]; rfl
  have qe : min ((96 + s + 1) - 96) 32 = s + 1 := by omega
  have qj := q3
  rw [qe] at qj
  obtain ⟨r1, r2, r3⟩ := dig_room t3 s hs h0 h1 qj
  obtain ⟨s1, s2⟩ := bit_step hb hx hb0 hb1
  rw [← hr] at s1 s2
  generalize g3 a / 2 ^ s % 2 = bit at *
  constructor
  · intro hc
    obtain ⟨u1, u2⟩ := s1 hc
    refine ⟨r1, ⟨u1.symm, ?_, (by rw [show min ((96 + s)) 32 = min ((96 + s + 1)) 32 by omega]; exact q0), (by rw [show min ((96 + s) - 32) 32 = min ((96 + s + 1) - 32) 32 by omega]; exact q1), (by rw [show min ((96 + s) - 64) 32 = min ((96 + s + 1) - 64) 32 by omega]; exact q2), (by rw [show min ((96 + s) - 96) 32 = s by omega]; exact r2)⟩⟩
    rw [u2]
    have : (2 * (a / 2 ^ (96 + s + 1) / b) + 1) * 2 ^ (96 + s) = a / 2 ^ (96 + s + 1) / b * 2 ^ (96 + s + 1) + 2 ^ (96 + s) := by rw [hp]; grind
    rw [this, ← ht, hp2]
    generalize (2 : Int) ^ s = p at *
    grind
  · intro hc
    obtain ⟨u1, u2⟩ := s2 hc
    refine ⟨u1.symm, ?_, (by rw [show min ((96 + s)) 32 = min ((96 + s + 1)) 32 by omega]; exact q0), (by rw [show min ((96 + s) - 32) 32 = min ((96 + s + 1) - 32) 32 by omega]; exact q1), (by rw [show min ((96 + s) - 64) 32 = min ((96 + s + 1) - 64) 32 by omega]; exact q2), (by rw [show min ((96 + s) - 96) 32 = s by omega]; exact r3)⟩
    rw [u2]
    have : 2 * (a / 2 ^ (96 + s + 1) / b) * 2 ^ (96 + s) = a / 2 ^ (96 + s + 1) / b * 2 ^ (96 + s + 1) := by rw [hp]; grind
    rw [this, ht]

end Go.Proofs.YtmegombglkcccaaGreatDoor

namespace Go.Proofs.YtmegombglkcccaaGreatDoor
open Go.RowKit Go.Shelf

/-- The table of the powers of ten lies as it was laid. -/
def Pow (w : World) : Prop := Lib.TabIs Tryz.prog w "internal/strconv.uint64pow10" .u64 Lib.pow10Tab
theorem Pow.below {w W : World} (h : Pow w) (hb : Below w.heap.size w W) : Pow W := Lib.tabBelow_of_tabIs h W hb

theorem below_grow (w : World) (k : Nat) (os : Array Obj) : Below w.heap.size w (Sort.grow (w.drewN k) os) :=
  ⟨rfl, rfl, rfl, by simp [Sort.grow], fun i hi => by simp [Sort.grow, Array.getElem?_append, hi]⟩

set_option maxRecDepth 100000 in
set_option maxHeartbeats 400000 in
theorem dec_any (n : Int) (w : World) (h1 : -9223372036854775808 ≤ n) (h2 : n ≤ 9223372036854775807) (ht : Pow w) :
    Calls Tryz.prog 49 #[.int .i64 n] w fun e w' => e = .returned (.string ⟨(Lib.itoa n).toArray⟩) ∧ Below w.heap.size w w' := by
  go_enter Tryz.func49, Tryz.ntmps49
  go_wp2_with fail
  refine (Tryz.strconv_FormatInt_10 n h1 h2 _ ht).mono ?_
  rintro e w1 ⟨rfl, k, os, rfl⟩
  go_wp2
  go_ret
  exact ⟨rfl, below_grow w k os⟩

set_option maxRecDepth 100000 in
set_option maxHeartbeats 1000000 in
theorem text_rat (n d : Int) (s : ByteArray) (w : World) (h1 : -9223372036854775808 ≤ n) (h2 : n ≤ 9223372036854775807) (g1 : -9223372036854775808 ≤ d) (g2 : d ≤ 9223372036854775807) (ht : Pow w) :
    Calls Tryz.prog 38 #[.agg #[.int .i64 2, .int .i64 n, .int .i64 d, .string s]] w fun e w' => e = .returned (.string ⟨(Lib.itoa n ++ 47 :: Lib.itoa d).toArray⟩) ∧ Below w.heap.size w w' := by
  go_enter Tryz.func38, Tryz.ntmps38
  go_upto_region 5 with fail
  refine wp_world ?_
  intro W0 hW0
  have c1 : W0.cell? ⟨w.heap.size, 1, none⟩ = some (.int .i64 n) := by rw [hW0]; simp [go_sem]
  have c2 : W0.cell? ⟨w.heap.size, 2, none⟩ = some (.int .i64 d) := by rw [hW0]; simp [go_sem]
  have k0 : Below w.heap.size w W0 := by rw [hW0]; go_grown
  have k1 : w.heap.size < W0.heap.size := by rw [hW0]; simp
  clear hW0
  have lA := Lib.itoa_length_le n h1 h2
  have lB := Lib.itoa_length_le d g1 g2
  obtain ⟨A, eA⟩ : ∃ A : ByteArray, A = ⟨(Lib.itoa n).toArray⟩ := ⟨_, rfl⟩
  obtain ⟨B, eB⟩ : ∃ B : ByteArray, B = ⟨(Lib.itoa d).toArray⟩ := ⟨_, rfl⟩
  have sA : A.size ≤ 21 := by rw [eA]; show (Lib.itoa n).toArray.size ≤ 21; simpa using lA
  have sB : B.size ≤ 21 := by rw [eB]; show (Lib.itoa d).toArray.size ≤ 21; simpa using lB
  have DA := fun (W : World) (h : Pow W) => dec_any n W h1 h2 h
  have DB := fun (W : World) (h : Pow W) => dec_any d W g1 g2 h
  rw [← eA] at DA
  rw [← eB] at DB
  obtain ⟨C, eC⟩ : ∃ C : ByteArray, C = A ++ ⟨#[47]⟩ := ⟨_, rfl⟩
  have sC : C.size ≤ 22 := by rw [eC, ByteArray.size_append]; have : (⟨#[47]⟩ : ByteArray).size = 1 := rfl
                              omega
  have x1 : ∀ W : World, (Op.stringOp .add A ⟨#[47]⟩).run Tryz.prog W = .ok (.string C) W := fun W => by
    rw [run_string_add_sum W _ _ (by have : (⟨#[47]⟩ : ByteArray).size = 1 := rfl
                                     omega), eC]
  have x2 : ∀ W : World, (Op.stringOp .add C B).run Tryz.prog W = .ok (.string (C ++ B)) W := fun W => run_string_add_sum W _ _ (by omega)
  have eF : Hid (C ++ B = ⟨(Lib.itoa n ++ 47 :: Lib.itoa d).toArray⟩) := by
    rw [eC, eA, eB]
    apply ByteArray.ext
    simp
  have DA' : Hid (∀ W : World, Pow W → Calls Tryz.prog 49 #[.int .i64 n] W fun e w' => e = .returned (.string A) ∧ Below W.heap.size W w') := DA
  have DB' : Hid (∀ W : World, Pow W → Calls Tryz.prog 49 #[.int .i64 d] W fun e w' => e = .returned (.string B) ∧ Below W.heap.size W w') := DB
  clear DA DB eA eB eC sA sB sC lA lB
  go_region_held3 (fun w' => w'.cell? ⟨w.heap.size, 1, none⟩ = some (.int .i64 n) ∧ w'.cell? ⟨w.heap.size, 2, none⟩ = some (.int .i64 d)) (exact ⟨bcl (n := W0.heap.size) (by go_grown) c1 k1, bcl (n := W0.heap.size) (by go_grown) c2 k1⟩)
    (first
      | (go_at_call_of 49 (Value.int IntKind.i64 n); refine (DA'.out _ (ht.below (k0.trans (Below.mono (B := W0.heap.size) (by go_grown) k0.size)))).mono ?_; rintro e w1 ⟨rfl, hb1⟩; obtain ⟨hB1, hn1⟩ := bg0 (n := W0.heap.size) (W0 := W0) (by go_grown) (by go_size) hb1)
      | (go_at_call_of 49 (Value.int IntKind.i64 d); refine (DB'.out _ (ht.below (k0.trans (Below.mono (B := W0.heap.size) (by go_grown) k0.size)))).mono ?_; rintro e w2 ⟨rfl, hb2⟩; obtain ⟨hB2, hn2⟩ := bg0 (n := W0.heap.size) (W0 := W0) (by go_grown) (by go_size) hb2))
  all_goals
    go_wp2
    go_ret
    exact ⟨by rw [eF.out]; rfl, k0.trans (Below.mono (B := W0.heap.size) (by go_grown) k0.size)⟩

set_option maxRecDepth 100000 in
set_option maxHeartbeats 1000000 in
theorem text_int (n d : Int) (s : ByteArray) (w : World) (h1 : -9223372036854775808 ≤ n) (h2 : n ≤ 9223372036854775807) (ht : Pow w) :
    Calls Tryz.prog 38 #[.agg #[.int .i64 1, .int .i64 n, .int .i64 d, .string s]] w fun e w' => e = .returned (.string ⟨(Lib.itoa n).toArray⟩) ∧ Below w.heap.size w w' := by
  go_enter Tryz.func38, Tryz.ntmps38
  go_wp2_with fail
  refine (dec_any n _ h1 h2 (ht.below (by go_grown))).mono ?_
  rintro e w1 ⟨rfl, hb⟩
  obtain ⟨hc, hf, hz, hB⟩ := bf (w := w) (by go_grown) hb
  go_wp2
  go_ret
  exact ⟨rfl, hB⟩

set_option maxRecDepth 100000 in
set_option maxHeartbeats 1000000 in
theorem text_str (k n d : Int) (s : ByteArray) (w : World) (hs : s.size ≤ 35184372088830) (k1 : (k == 1) = false) (k2 : (k == 2) = false) :
    Calls Tryz.prog 38 #[.agg #[.int .i64 k, .int .i64 n, .int .i64 d, .string s]] w fun e w' => e = .returned (.string ⟨(quoted s.data.toList).toArray⟩) ∧ Below w.heap.size w w' := by
  go_enter Tryz.func38, Tryz.ntmps38
  go_wp2_with fail
  refine (quote_any s _ hs).mono ?_
  rintro e w1 ⟨rfl, hb⟩
  obtain ⟨hc, hf, hz, hB⟩ := bf (w := w) (by go_grown) hb
  go_wp2
  go_ret
  exact ⟨rfl, hB⟩

/-- A value's text. -/
def vtext (k n d : Int) (s : ByteArray) : List UInt8 := if k = 1 then Lib.itoa n else if k = 2 then Lib.itoa n ++ 47 :: Lib.itoa d else quoted s.data.toList

theorem text_any (k n d : Int) (s : ByteArray) (w : World) (h1 : -9223372036854775808 ≤ n) (h2 : n ≤ 9223372036854775807) (g1 : -9223372036854775808 ≤ d) (g2 : d ≤ 9223372036854775807) (hs : s.size ≤ 35184372088830) (ht : Pow w) :
    Calls Tryz.prog 38 #[.agg #[.int .i64 k, .int .i64 n, .int .i64 d, .string s]] w fun e w' => e = .returned (.string ⟨(vtext k n d s).toArray⟩) ∧ Below w.heap.size w w' := by
  unfold vtext
  by_cases k1 : k = 1
  · subst k1; exact text_int n d s w h1 h2 ht
  · rw [if_neg k1]
    by_cases k2 : k = 2
    · subst k2; exact text_rat n d s w h1 h2 g1 g2 ht
    · rw [if_neg k2]; exact text_str k n d s w hs (by simpa using k1) (by simpa using k2)

theorem chk_size {k n d : Int} {s : ByteArray} (h : chk k n d s = 0) : s.size ≤ 64 := by
  unfold chk at h
  split at h
  · cases h
  · split at h
    · cases h
    · omega

end Go.Proofs.YtmegombglkcccaaGreatDoor

namespace Go.Proofs.YtmegombglkcccaaGreatDoor
open Go.RowKit Go.Shelf

set_option maxRecDepth 100000 in
set_option maxHeartbeats 2000000 in
theorem pu_00 (w : World) :
    Calls Tryz.prog 76 #[.string ⟨#[48, 48]⟩, .int .i64 16, .int .i64 8] w fun e w' => e = .returned (.tuple #[.int .u64 0, .nilIface]) ∧ Below w.heap.size w w' := by
  have hcv := Lib.run_convert_string_bytes (P := Tryz.prog) w 9 59 5 ⟨#[48, 48]⟩ Tryz.underlying9 Tryz.underlying59 Tryz.underlying5
  have hB0 : (Lib.bytesWorld w 5 ⟨#[48, 48]⟩).cell? ⟨w.heap.size, 0, none⟩ = some (.int .u8 48) := Lib.bytesWorld_cell w 5 ⟨#[48, 48]⟩ 0 (by decide)
  have hB1 : (Lib.bytesWorld w 5 ⟨#[48, 48]⟩).cell? ⟨w.heap.size, 1, none⟩ = some (.int .u8 48) := Lib.bytesWorld_cell w 5 ⟨#[48, 48]⟩ 1 (by decide)
  have hbb := Lib.bytesWorld_below w 5 ⟨#[48, 48]⟩
  generalize Lib.bytesWorld w 5 ⟨#[48, 48]⟩ = W1 at *
  go_enter Tryz.func76, Tryz.ntmps76
  go_wp2
  refine wp_loop_rounds 4 ?_
  rw [rounds_succ]
  go_wp2
  rw [rounds_succ]
  go_wp2
  rw [rounds_succ]
  go_wp2
  go_ret2
  exact ⟨rfl, hbb⟩

set_option maxRecDepth 100000 in
set_option maxHeartbeats 1000000 in
theorem pub_00 (w : World) :
    Calls Tryz.prog 74 #[.string ⟨#[48, 48]⟩, .int .i64 16, .int .i64 8] w fun e w' => e = .returned (.tuple #[.int .u64 0, .nilIface]) ∧ Below w.heap.size w w' := by
  go_enter Tryz.func74, Tryz.ntmps74
  go_wp2_with fail
  refine (pu_00 _).mono ?_
  rintro e w1 ⟨rfl, hb⟩
  go_wp2
  go_ret2
  exact ⟨rfl, hb⟩

set_option maxRecDepth 100000 in
set_option maxHeartbeats 1000000 in
theorem unesc_x00 (w : World) :
    Calls Tryz.prog 57 #[.string ⟨#[120, 48, 48]⟩] w fun e w' => e = .returned (.tuple #[.int .u8 0, .int .i64 3, .bool true]) ∧ Below w.heap.size w w' := by
  go_enter Tryz.func57, Tryz.ntmps57
  have e1 : (⟨#[120, 48, 48]⟩ : ByteArray).extract 1 3 = ⟨#[48, 48]⟩ := by decide
  have j0 : ((⟨#[120, 48, 48]⟩ : ByteArray)[0]'(by decide)).toNat = 120 := rfl
  go_wp2_with fail
  refine (pub_00 _).mono ?_
  rintro e w1 ⟨rfl, hb⟩
  go_wp2
  go_region
  go_wp2
  refine bodyPost_ret (by simp [results, Tryz.results57, go_sem]; try rfl) rfl ?_
  exact ⟨rfl, hb.drew⟩

theorem isB_below {T e : TypeId} {B b : Nat} {bs : List Value} {w W : World} (h : Lib.IsBuilder T e B b bs w) (hb : Below w.heap.size w W) : Lib.IsBuilder T e B b bs W := by
  have go : ∀ p, Lib.BuilderAt T e B b p bs w → Lib.BuilderAt T e B b p bs W := by
    intro p h
    have hlt := h.lt
    obtain ⟨hB, v, hbk, hown, hne⟩ := h
    exact ⟨hB, v, (hb.block b hlt).trans hbk, hown.kept (row := none) ⟨hb.os, hb.tape, hb.output, hb.size, fun k hk _ => hb.block k hk⟩ (Classical.em _), hne⟩
  rcases h with h | h
  · exact Or.inl (go _ h)
  · exact Or.inr (go _ h)

set_option maxRecDepth 100000 in
set_option maxHeartbeats 2000000 in
theorem unq_Ax00 (w : World) :
    Calls Tryz.prog 46 #[.string ⟨#[65, 92, 120, 48, 48, 34]⟩] w fun e w' => e = .returned (.tuple #[.string ⟨#[65, 0]⟩, .bool true]) ∧ Below w.heap.size w w' := by
  have t1 : (Lib.trimSuffix [65, 92, 120, 48, 48, 34] [34]).toArray = #[65, 92, 120, 48, 48] := by decide
  have t2 : Lib.hasSuffix [65, 92, 120, 48, 48, 34] [34] = true := by decide
  have j0 : ((⟨#[65, 92, 120, 48, 48]⟩ : ByteArray)[0]'(by decide)).toNat = 65 := rfl
  have j1 : ((⟨#[65, 92, 120, 48, 48]⟩ : ByteArray)[1]'(by decide)).toNat = 92 := rfl
  have e1 : (⟨#[65, 92, 120, 48, 48]⟩ : ByteArray).extract 2 5 = ⟨#[120, 48, 48]⟩ := by decide
  have CS : ∀ W : World, Calls Tryz.prog 56 #[.string ⟨#[65, 92, 120, 48, 48, 34]⟩, .string ⟨#[34]⟩] W fun e w' => e = .returned (.tuple #[.string ⟨#[65, 92, 120, 48, 48]⟩, .bool true]) ∧ w' = W := fun W => by
    have h := Tryz.strings_CutSuffix ⟨#[65, 92, 120, 48, 48, 34]⟩ ⟨#[34]⟩ W (by decide)
    rw [show (⟨#[65, 92, 120, 48, 48, 34]⟩ : ByteArray).data.toList = [65, 92, 120, 48, 48, 34] from rfl, show (⟨#[34]⟩ : ByteArray).data.toList = [34] from rfl, t1, t2] at h
    exact h
  have CS' : Hid (∀ W : World, Calls Tryz.prog 56 #[.string ⟨#[65, 92, 120, 48, 48, 34]⟩, .string ⟨#[34]⟩] W fun e w' => e = .returned (.tuple #[.string ⟨#[65, 92, 120, 48, 48]⟩, .bool true]) ∧ w' = W) := CS
  clear CS t1 t2
  go_enter Tryz.func46, Tryz.ntmps46
  go_wp2_with fail
  refine (CS'.out _).mono ?_
  rintro e w' ⟨rfl, rfl⟩
  go_wp2
  have h0 : Hid (Lib.IsBuilder 86 5 w'.heap.size w'.heap.size (Lib.byteCells []) (w'.alloc (.cells #[.pointer none, .slice none 0 0] 86))) := Lib.fresh_isBuilder _ _ w'
  have k0 : Below w'.heap.size w' (w'.alloc (.cells #[.pointer none, .slice none 0 0] 86)) := (Below.refl _ _).alloc (Nat.le_refl _) _
  generalize w'.alloc (.cells #[.pointer none, .slice none 0 0] 86) = W0 at *
  refine wp_loop_rounds 5 ?_
  rw [rounds_succ]
  go_wp2_with fail
  refine (wbyte w'.heap.size w'.heap.size _ _ _ h0.out (by simp [Lib.byteCells]) k0.size).mono ?_
  rintro e w1 ⟨rfl, h1, hb1⟩
  have h1' : Hid (Lib.IsBuilder 86 5 w'.heap.size w'.heap.size (Lib.byteCells [65]) w1) := Or.inr h1
  have k1 := k0.trans hb1
  clear h1 h0
  go_wp2
  rw [rounds_succ]
  go_wp2_with fail
  refine (unesc_x00 _).mono ?_
  rintro e w2 ⟨rfl, hb2⟩
  have h2' : Hid (Lib.IsBuilder 86 5 w'.heap.size w'.heap.size (Lib.byteCells [65]) w2) := isB_below h1'.out hb2
  have k2 := k1.trans (hb2.mono k1.size)
  clear h1' hb1 k0
  go_wp2_with fail
  refine (wbyte w'.heap.size w'.heap.size _ _ _ h2'.out (by simp [Lib.byteCells]) k2.size).mono ?_
  rintro e w3 ⟨rfl, h3, hb3⟩
  have h3' : Hid (Lib.IsBuilder 86 5 w'.heap.size w'.heap.size (Lib.byteCells [65, 0]) w3) := Or.inr h3
  have k3 := k2.trans hb3
  clear h2' h3 hb2
  go_wp2
  rw [rounds_succ]
  go_wp2_with fail
  refine (Tryz.Builder_String_any w'.heap.size w'.heap.size _ _ h3'.out k3.size).mono ?_
  rintro e w4 ⟨rfl, hb4⟩
  go_wp2
  go_ret2
  exact ⟨rfl, k3.trans hb4⟩

/-- A block that holds a value, which may be written. -/
structure BlkV (W : World) (B : Nat) (k n d : Int) (s : ByteArray) : Prop where
  c0 : W.cell? ⟨B, 0, none⟩ = some (.int .i64 k)
  c1 : W.cell? ⟨B, 1, none⟩ = some (.int .i64 n)
  c2 : W.cell? ⟨B, 2, none⟩ = some (.int .i64 d)
  c3 : W.cell? ⟨B, 3, none⟩ = some (.string s)
  f0 : W.frozen? ⟨B, 0, none⟩ = false
  f1 : W.frozen? ⟨B, 1, none⟩ = false
  f2 : W.frozen? ⟨B, 2, none⟩ = false
  f3 : W.frozen? ⟨B, 3, none⟩ = false
theorem BlkV.below {W W' : World} {B m : Nat} {k n d : Int} {s : ByteArray} (h : BlkV W B k n d s) (hb : Below m W W') (hB : B < m) : BlkV W' B k n d s :=
  ⟨(hb.cell (p := ⟨B, 0, none⟩) hB).trans h.c0, (hb.cell (p := ⟨B, 1, none⟩) hB).trans h.c1, (hb.cell (p := ⟨B, 2, none⟩) hB).trans h.c2, (hb.cell (p := ⟨B, 3, none⟩) hB).trans h.c3,
   (hb.frozen (p := ⟨B, 0, none⟩) hB).trans h.f0, (hb.frozen (p := ⟨B, 1, none⟩) hB).trans h.f1, (hb.frozen (p := ⟨B, 2, none⟩) hB).trans h.f2, (hb.frozen (p := ⟨B, 3, none⟩) hB).trans h.f3⟩
theorem BlkV.four {W : World} {B : Nat} {k n d k' n' d' : Int} {s s' : ByteArray} (h : BlkV W B k n d s) : BlkV ((((W.setCell ⟨B, 0, none⟩ (.int .i64 k')).setCell ⟨B, 1, none⟩ (.int .i64 n')).setCell ⟨B, 2, none⟩ (.int .i64 d')).setCell ⟨B, 3, none⟩ (.string s')) B k' n' d' s' := by
  obtain ⟨c0, c1, c2, c3, f0, f1, f2, f3⟩ := h
  constructor <;> simp (maxDischargeDepth := 12) [go_sem, c0, c1, c2, c3, f0, f1, f2, f3]

set_option maxRecDepth 100000 in
set_option maxHeartbeats 2000000 in
theorem guess_Ax00 (w : World) :
    Calls Tryz.prog 36 #[.string ⟨#[34, 65, 92, 120, 48, 48, 34]⟩] w fun e w' => e = .returned (.tuple #[.agg #[.int .i64 3, .int .i64 0, .int .i64 0, .string ⟨#[65, 0]⟩], .bool true]) ∧ Below w.heap.size w w' := by
  have e1 : (⟨#[34, 65, 92, 120, 48, 48, 34]⟩ : ByteArray).extract 1 7 = ⟨#[65, 92, 120, 48, 48, 34]⟩ := by decide
  have e2 : (⟨#[34, 65, 92, 120, 48, 48, 34]⟩ : ByteArray).extract 0 1 = ⟨#[34]⟩ := by decide
  go_enter Tryz.func36, Tryz.ntmps36
  go_wp2_with (first | (go_at_call 45; go_in) | (go_at_call 55; go_in))
  refine (unq_Ax00 _).mono ?_
  rintro e w1 ⟨rfl, hb⟩
  have bR : BlkV w1 w.heap.size 0 0 0 ⟨#[]⟩ := BlkV.below (by constructor <;> simp (maxDischargeDepth := 12) [go_sem]) hb (by simp)
  obtain ⟨hc, hf, hz, hB⟩ := bf (w := w) (by go_grown) hb
  have bRR : Hid (BlkV w1 w.heap.size 0 0 0 ⟨#[]⟩) := bR
  clear hc hf
  obtain ⟨r0, r1, r2, r3, r4, r5, r6, r7⟩ := bR
  go_wp2
  generalize hW9 : World.setCell _ _ _ = W9
  have b9 : BlkV W9 w.heap.size 3 0 0 ⟨#[65, 0]⟩ := by rw [← hW9]; exact bRR.out.four
  have hB9 : Below w.heap.size w W9 := by rw [← hW9]; exact (((hB.setCell (by simp) _).setCell (by simp) _).setCell (by simp) _).setCell (by simp) _
  clear hW9
  obtain ⟨x0, x1, x2, x3, -, -, -, -⟩ := b9
  refine bodyPost_ret (by simp [results, Tryz.results36, go_sem, x0, x1, x2, x3]; try rfl) rfl ?_
  exact ⟨rfl, hB9⟩

end Go.Proofs.YtmegombglkcccaaGreatDoor

namespace Go.Proofs.YtmegombglkcccaaGreatDoor
open Go.RowKit Go.Shelf

/-- Are two values the same? -/
def sameB (k n d : Int) (s : ByteArray) (k' n' d' : Int) (s' : ByteArray) : Bool := k == k' && (n == n' && (d == d' && s.toList == s'.toList))

theorem at_drop (s : ByteArray) (k : Nat) (h : k < s.size) : s.data.toList.drop k = s[k] :: s.data.toList.drop (k + 1) := by
  have h' : k < s.data.toList.length := by simpa using h
  rw [List.drop_eq_getElem_cons h']
  rfl
theorem drop_all (s : ByteArray) (k : Nat) (h : s.size ≤ k) : s.data.toList.drop k = [] := List.drop_of_length_le (by simpa using h)

theorem cb_end (a b : ByteArray) (k : Nat) (ha : k ≤ a.size) (hb : k ≤ b.size) (h : k = a.size ∨ k = b.size) : Lib.compareBytes (a.data.toList.drop k) (b.data.toList.drop k) = Lib.compareInt a.size b.size := by
  by_cases h1 : k < a.size
  · rw [at_drop a k h1, drop_all b k (by omega)]
    simp only [Lib.compareBytes, Lib.compareInt]
    rw [if_neg (by omega), if_pos (by omega)]
  · rw [drop_all a k (by omega)]
    by_cases h2 : k < b.size
    · rw [at_drop b k h2]
      simp only [Lib.compareBytes, Lib.compareInt]
      rw [if_pos (by omega)]
    · rw [drop_all b k (by omega)]
      simp only [Lib.compareBytes, Lib.compareInt]
      rw [if_neg (by omega), if_neg (by omega)]
theorem cb_step (a b : ByteArray) (k : Nat) (ha : k < a.size) (hb : k < b.size) : Lib.compareBytes (a.data.toList.drop k) (b.data.toList.drop k) = if (a[k].toNat : Int) < b[k].toNat then -1 else if (b[k].toNat : Int) < a[k].toNat then 1 else Lib.compareBytes (a.data.toList.drop (k + 1)) (b.data.toList.drop (k + 1)) := by
  rw [at_drop a k ha, at_drop b k hb]
  simp only [Lib.compareBytes, UInt8.lt_iff_toNat_lt, Int.ofNat_lt]

end Go.Proofs.YtmegombglkcccaaGreatDoor

namespace Go.Proofs.YtmegombglkcccaaGreatDoor
open Go.RowKit Go.Shelf

theorem pure_A0 : pureB 3 0 0 ⟨#[65, 0]⟩ = true := by decide +kernel
theorem chk_A0 : chk 3 0 0 ⟨#[65, 0]⟩ = 0 := by decide +kernel
theorem quo_A0 : (vtext 3 0 0 ⟨#[65, 0]⟩).toArray = #[34, 65, 92, 120, 48, 48, 34] := by decide +kernel

set_option maxRecDepth 100000 in
set_option maxHeartbeats 2000000 in
theorem parse_Ax00 (w : World) (ht : Pow w) :
    Calls Tryz.prog 32 #[.string ⟨#[34, 65, 92, 120, 48, 48, 34]⟩] w fun e w' => e = .returned (.tuple #[.agg #[.int .i64 3, .int .i64 0, .int .i64 0, .string ⟨#[65, 0]⟩], .int .i64 0]) ∧ Below w.heap.size w w' := by
  go_enter Tryz.func32, Tryz.ntmps32
  go_wp2_with fail
  refine (guess_Ax00 _).mono ?_
  rintro e w1 ⟨rfl, hb1⟩
  have R1 : Hid (BlkV w1 w.heap.size 0 0 0 ⟨#[]⟩) := BlkV.below (by constructor <;> simp (maxDischargeDepth := 12) [go_sem]) hb1 (by simp)
  have B1 : Below w.heap.size w w1 := ((Below.refl _ w).alloc (Nat.le_refl _) _).trans (hb1.mono (by simp))
  have z1 : w.heap.size < w1.heap.size := by have := hb1.size; simp at this; omega
  clear hb1
  go_wp2_with fail
  refine (pure_any 3 0 0 ⟨#[65, 0]⟩ _ (by decide) (by decide) (by decide) (by decide)).mono ?_
  rintro e w2 ⟨rfl, hb2⟩
  rw [pure_A0]
  have R2 : Hid (BlkV w2 w.heap.size 0 0 0 ⟨#[]⟩) := (R1.out.below ((Below.refl w1.heap.size w1).alloc (Nat.le_refl _) _) z1).below hb2 (by simp; omega)
  have V2 : Hid (BlkV w2 w1.heap.size 3 0 0 ⟨#[65, 0]⟩) := BlkV.below (by constructor <;> simp (maxDischargeDepth := 12) [go_sem]) hb2 (by simp)
  have B2 : Below w.heap.size w w2 := (B1.alloc (by omega) _).trans (hb2.mono (by simp; omega))
  have z2 : w1.heap.size < w2.heap.size := by have := hb2.size; simp at this; omega
  clear R1 B1 hb2
  obtain ⟨v0, v1, v2, v3, -, -, -, -⟩ := V2.out
  go_wp2_with fail
  refine (text_any 3 0 0 ⟨#[65, 0]⟩ _ (by decide) (by decide) (by decide) (by decide) (by decide) (ht.below B2)).mono ?_
  rintro e w3 ⟨rfl, hb3⟩
  rw [quo_A0]
  clear v0 v1 v2 v3
  have R3 : Hid (BlkV w3 w.heap.size 0 0 0 ⟨#[]⟩) := R2.out.below hb3 (by omega)
  have V3 : Hid (BlkV w3 w1.heap.size 3 0 0 ⟨#[65, 0]⟩) := V2.out.below hb3 z2
  have B3 : Below w.heap.size w w3 := B2.trans (hb3.mono B2.size)
  have z3 : w1.heap.size < w3.heap.size := by have := hb3.size; omega
  clear R2 V2 B2 hb3
  obtain ⟨v0, v1, v2, v3, -, -, -, -⟩ := V3.out
  go_wp2_with fail
  refine (check_any 3 0 0 ⟨#[65, 0]⟩ _ (by decide) (by decide) (by decide) (by decide)).mono ?_
  rintro e w4 ⟨rfl, hb4⟩
  rw [chk_A0]
  clear v0 v1 v2 v3
  have R4 : Hid (BlkV w4 w.heap.size 0 0 0 ⟨#[]⟩) := R3.out.below hb4 (by omega)
  have V4 : Hid (BlkV w4 w1.heap.size 3 0 0 ⟨#[65, 0]⟩) := V3.out.below hb4 z3
  have B4 : Below w.heap.size w w4 := B3.trans (hb4.mono B3.size)
  clear R3 V3 B3 hb4
  obtain ⟨v0, v1, v2, v3, -, -, -, -⟩ := V4.out
  obtain ⟨r0, r1, r2, r3, r4, r5, r6, r7⟩ := R4.out
  go_wp2
  generalize hW9 : World.setCell _ _ _ = W9
  have b9 : BlkV W9 w.heap.size 3 0 0 ⟨#[65, 0]⟩ := by rw [← hW9]; exact R4.out.four
  have hB9 : Below w.heap.size w W9 := by rw [← hW9]; exact (((B4.setCell (by simp) _).setCell (by simp) _).setCell (by simp) _).setCell (by simp) _
  clear hW9
  obtain ⟨x0, x1, x2, x3, -, -, -, -⟩ := b9
  refine bodyPost_ret (by simp [results, Tryz.results32, go_sem, x0, x1, x2, x3]; try rfl) rfl ?_
  exact ⟨rfl, hB9⟩

end Go.Proofs.YtmegombglkcccaaGreatDoor

namespace Go.Proofs.YtmegombglkcccaaGreatDoor
open Go.RowKit Go.Shelf

end Go.Proofs.YtmegombglkcccaaGreatDoor

namespace Go.Proofs.YtmegombglkcccaaGreatDoor
open Go.RowKit Go.Shelf

end Go.Proofs.YtmegombglkcccaaGreatDoor

namespace Go.Proofs.YtmegombglkcccaaGreatDoor
open Go.RowKit Go.Shelf

theorem sg_not (b : Bool) (n : Int) : sg (!b) n = - sg b n := by unfold sg; cases b <;> simp

end Go.Proofs.YtmegombglkcccaaGreatDoor

namespace Go.Proofs.YtmegombglkcccaaGreatDoor
open Go.RowKit Go.Shelf

end Go.Proofs.YtmegombglkcccaaGreatDoor

namespace Go.Proofs.YtmegombglkcccaaGreatDoor
open Go.RowKit Go.Shelf

/-- What a call tells: N, D, the error: if both fractions may be that of p / q, else nothing and ErrArg. -/
def both (a b c d : Int) : Bool := mayB a b && mayB c d
def tN (a b c d p q : Int) : Int := if both a b c d then rN p q else 0
def tD (a b c d p q : Int) : Int := if both a b c d then rD p q else 0
def tE (a b c d p q : Int) : Int := if both a b c d then rE p q else 1

theorem both_true {a b c d : Int} : both a b c d = true ↔ mayB a b = true ∧ mayB c d = true := by simp [both]

theorem t_yes {a b c d : Int} (h1 : mayB a b = true) (h2 : mayB c d = true) (p q : Int) : tN a b c d p q = rN p q ∧ tD a b c d p q = rD p q ∧ tE a b c d p q = rE p q := by
  simp [tN, tD, tE, both, h1, h2]
theorem t_no1 {a b c d : Int} (h1 : mayB a b = false) (p q : Int) : tN a b c d p q = 0 ∧ tD a b c d p q = 0 ∧ tE a b c d p q = 1 := by
  simp [tN, tD, tE, both, h1]
theorem t_no2 {a b c d : Int} (h2 : mayB c d = false) (p q : Int) : tN a b c d p q = 0 ∧ tD a b c d p q = 0 ∧ tE a b c d p q = 1 := by
  simp [tN, tD, tE, both, h2]

theorem may_zero {d : Int} (h : mayB 0 d = true) : d = 1 := by
  obtain ⟨h1, h2⟩ := may_of h
  have : d.toNat = 1 := by simpa [Nat.Coprime] using h2
  omega
theorem may_01 : mayB 0 1 = true := by decide +kernel

theorem less_val (a b c d : Int) (hb : 0 < b) (hd : 0 < d) : lessB (decide (a < 0)) (sz a) b (decide (c < 0)) (sz c) d = decide (a * d < c * b) := by
  unfold lessB
  by_cases h1 : a < 0 <;> by_cases h2 : c < 0
  · rw [sz_of_neg h1, sz_of_neg h2]
    simp [h1, h2, Int.neg_mul]
  · have e1 : a * d < 0 := Int.mul_neg_of_neg_of_pos h1 hd
    have e2 : 0 ≤ c * b := Int.mul_nonneg (by omega) (by omega)
    simp [h1, h2]; omega
  · have e1 : 0 ≤ a * d := Int.mul_nonneg (by omega) (by omega)
    have e2 : c * b < 0 := Int.mul_neg_of_neg_of_pos h2 hb
    simp [h1, h2]; omega
  · rw [sz_of_nonneg (by omega), sz_of_nonneg (by omega)]
    simp [h1, h2]

/-- Two fractions that may be are of one worth only if they are the same. -/
theorem may_unique {a b c d : Int} (h1 : mayB a b = true) (h2 : mayB c d = true) (h : a * d = c * b) : a = c ∧ b = d := by
  obtain ⟨p1, c1⟩ := may_of h1
  obtain ⟨p2, c2⟩ := may_of h2
  have hn : a.natAbs * d.toNat = c.natAbs * b.toNat := by
    have := congrArg Int.natAbs h
    rw [Int.natAbs_mul, Int.natAbs_mul] at this
    rwa [show d.natAbs = d.toNat by omega, show b.natAbs = b.toNat by omega] at this
  have d1 : b.toNat ∣ d.toNat := Nat.Coprime.dvd_of_dvd_mul_left c1.symm ⟨c.natAbs, by rw [hn, Nat.mul_comm]⟩
  have d2 : d.toNat ∣ b.toNat := Nat.Coprime.dvd_of_dvd_mul_left c2.symm ⟨a.natAbs, by rw [← hn, Nat.mul_comm]⟩
  have e := Nat.dvd_antisymm d1 d2
  have e' : b = d := by omega
  subst e'
  exact ⟨Int.eq_of_mul_eq_mul_right (by omega) h, rfl⟩

/-- How two fractions stand to one another. -/
def cmpV (a b c d : Int) : Int := if both a b c d then (if a * d < c * b then -1 else if c * b < a * d then 1 else 0) else 0

end Go.Proofs.YtmegombglkcccaaGreatDoor

namespace Go.Proofs.YtmegombglkcccaaGreatDoor
open Go.RowKit Go.Shelf

/-- A block that holds a fraction, which may be written. -/
structure BlkR (W : World) (B : Nat) (n d : Int) : Prop where
  c0 : W.cell? ⟨B, 0, none⟩ = some (.int .i64 n)
  c1 : W.cell? ⟨B, 1, none⟩ = some (.int .i64 d)
theorem BlkR.below {W W' : World} {B m : Nat} {n d : Int} (h : BlkR W B n d) (hb : Below m W W') (hB : B < m) : BlkR W' B n d :=
  ⟨(hb.cell (p := ⟨B, 0, none⟩) hB).trans h.c0, (hb.cell (p := ⟨B, 1, none⟩) hB).trans h.c1⟩

end Go.Proofs.YtmegombglkcccaaGreatDoor

namespace Go.Proofs.YtmegombglkcccaaGreatDoor
open Go.RowKit Go.Shelf

end Go.Proofs.YtmegombglkcccaaGreatDoor

namespace Go.Proofs.YtmegombglkcccaaGreatDoor
open Go.RowKit Go.Shelf

end Go.Proofs.YtmegombglkcccaaGreatDoor

namespace Go.Proofs.YtmegombglkcccaaGreatDoor
open Go.RowKit Go.Shelf

theorem keep8 {W W' : World} {P Q : Nat} {k n d k' n' d' : Int} {s s' : ByteArray} (hb : Below W.heap.size W W') (a0 : W.cell? ⟨P, 0, none⟩ = some (.int .i64 k)) (a1 : W.cell? ⟨P, 1, none⟩ = some (.int .i64 n)) (a2 : W.cell? ⟨P, 2, none⟩ = some (.int .i64 d)) (a3 : W.cell? ⟨P, 3, none⟩ = some (.string s)) (b0 : W.cell? ⟨Q, 0, none⟩ = some (.int .i64 k')) (b1 : W.cell? ⟨Q, 1, none⟩ = some (.int .i64 n')) (b2 : W.cell? ⟨Q, 2, none⟩ = some (.int .i64 d')) (b3 : W.cell? ⟨Q, 3, none⟩ = some (.string s')) (hP : P < W.heap.size) (hQ : Q < W.heap.size) :
    W'.cell? ⟨P, 0, none⟩ = some (.int .i64 k) ∧ W'.cell? ⟨P, 1, none⟩ = some (.int .i64 n) ∧ W'.cell? ⟨P, 2, none⟩ = some (.int .i64 d) ∧ W'.cell? ⟨P, 3, none⟩ = some (.string s) ∧ W'.cell? ⟨Q, 0, none⟩ = some (.int .i64 k') ∧ W'.cell? ⟨Q, 1, none⟩ = some (.int .i64 n') ∧ W'.cell? ⟨Q, 2, none⟩ = some (.int .i64 d') ∧ W'.cell? ⟨Q, 3, none⟩ = some (.string s') :=
  ⟨bcl hb a0 hP, bcl hb a1 hP, bcl hb a2 hP, bcl hb a3 hP, bcl hb b0 hQ, bcl hb b1 hQ, bcl hb b2 hQ, bcl hb b3 hQ⟩

end Go.Proofs.YtmegombglkcccaaGreatDoor

namespace Go.Proofs.YtmegombglkcccaaGreatDoor
open Go.RowKit Go.Shelf

end Go.Proofs.YtmegombglkcccaaGreatDoor

namespace Go.Proofs.YtmegombglkcccaaGreatDoor
open Go.RowKit Go.Shelf
set_option linter.unusedVariables false

/-- How two values stand to one another. -/
def vcmp (k n d : Int) (s : ByteArray) (k' n' d' : Int) (s' : ByteArray) : Int :=
  if chk k n d s = 0 then (if chk k' n' d' s' = 0 then (if k = k' then (if k = 1 then Lib.compareInt n n' else if k = 2 then cmpV n d n' d' else Lib.compareBytes s.data.toList s'.data.toList) else Lib.compareInt k k') else 0) else 0
theorem chk_kind {k n d : Int} {s : ByteArray} (h : chk k n d s = 0) : k = 1 ∨ k = 2 ∨ k = 3 := by
  by_cases k1 : k = 1
  · exact Or.inl k1
  · by_cases k2 : k = 2
    · exact Or.inr (Or.inl k2)
    · by_cases k3 : k = 3
      · exact Or.inr (Or.inr k3)
      · exfalso
        have e0 : chk k n d s = 20 := by simp [chk, pureB, k1, k2, k3]
        omega

end Go.Proofs.YtmegombglkcccaaGreatDoor

namespace Go.Proofs.YtmegombglkcccaaGreatDoor
open Go.RowKit Go.Shelf
set_option linter.unusedVariables false

theorem ocmp_yes {a b c d : Int} (h1 : mayB a b = true) (h2 : mayB c d = true) : cmpV a b c d = if a * d < c * b then -1 else if c * b < a * d then 1 else 0 := by simp [cmpV, both, h1, h2]
theorem ocmp_cases {a b c d : Int} (h1 : mayB a b = true) (h2 : mayB c d = true) : (cmpV a b c d = -1 ∧ a * d < c * b) ∨ (cmpV a b c d = 0 ∧ a * d = c * b) ∨ (cmpV a b c d = 1 ∧ c * b < a * d) := by
  rw [ocmp_yes h1 h2]
  by_cases h3 : a * d < c * b
  · exact Or.inl ⟨if_pos h3, h3⟩
  · rw [if_neg h3]
    by_cases h4 : c * b < a * d
    · exact Or.inr (Or.inr ⟨if_pos h4, h4⟩)
    · exact Or.inr (Or.inl ⟨if_neg h4, by omega⟩)

theorem oon_law {a b c d u v : Int} (h1 : mayB a b = true) (h2 : mayB c d = true) (h3 : mayB u v = true) (hab : cmpV a b c d ≤ 0) (hbc : cmpV c d u v ≤ 0) :
    cmpV a b u v ≤ 0 ∧ ((cmpV a b c d = 0 ∧ cmpV c d u v = 0) ↔ cmpV a b u v = 0) := by
  obtain ⟨pb, _⟩ := may_of h1
  obtain ⟨pd, _⟩ := may_of h2
  obtain ⟨pv, _⟩ := may_of h3
  have k1 : a * d ≤ c * b := by rcases ocmp_cases h1 h2 with ⟨e, h⟩ | ⟨e, h⟩ | ⟨e, h⟩ <;> omega
  have k2 : c * v ≤ u * d := by rcases ocmp_cases h2 h3 with ⟨e, h⟩ | ⟨e, h⟩ | ⟨e, h⟩ <;> omega
  have l1 := Int.mul_le_mul_of_nonneg_right k1 (Int.le_of_lt pv)
  have l2 := Int.mul_le_mul_of_nonneg_right k2 (Int.le_of_lt pb)
  have e1 : c * b * v = c * v * b := by grind
  have e2 : a * d * v = a * v * d := by grind
  have e3 : u * d * b = u * b * d := by grind
  have k3 : a * v * d ≤ u * b * d := by omega
  have k4 : a * v ≤ u * b := Int.le_of_mul_le_mul_right k3 pd
  refine ⟨?_, ?_, ?_⟩
  · rcases ocmp_cases h1 h3 with ⟨e, h⟩ | ⟨e, h⟩ | ⟨e, h⟩ <;> omega
  · rintro ⟨z1, z2⟩
    have m1 : a * d = c * b := by rcases ocmp_cases h1 h2 with ⟨e, h⟩ | ⟨e, h⟩ | ⟨e, h⟩ <;> omega
    have m2 : c * v = u * d := by rcases ocmp_cases h2 h3 with ⟨e, h⟩ | ⟨e, h⟩ | ⟨e, h⟩ <;> omega
    have m3 : a * v * d = u * b * d := by grind
    have m4 : a * v = u * b := Int.eq_of_mul_eq_mul_right (by omega) m3
    rcases ocmp_cases h1 h3 with ⟨e, h⟩ | ⟨e, h⟩ | ⟨e, h⟩ <;> omega
  · intro z
    have m : a * v = u * b := by rcases ocmp_cases h1 h3 with ⟨e, h⟩ | ⟨e, h⟩ | ⟨e, h⟩ <;> omega
    have m3 : a * v * d = u * b * d := by rw [m]
    have n1 : a * d * v = c * b * v := by omega
    have n2 : c * v * b = u * d * b := by omega
    have n3 : a * d = c * b := Int.eq_of_mul_eq_mul_right (by omega) n1
    have n4 : c * v = u * d := Int.eq_of_mul_eq_mul_right (by omega) n2
    constructor
    · rcases ocmp_cases h1 h2 with ⟨e, h⟩ | ⟨e, h⟩ | ⟨e, h⟩ <;> omega
    · rcases ocmp_cases h2 h3 with ⟨e, h⟩ | ⟨e, h⟩ | ⟨e, h⟩ <;> omega

theorem oturn_law {a b c d : Int} (h1 : mayB a b = true) (h2 : mayB c d = true) : cmpV c d a b = -cmpV a b c d := by
  rcases ocmp_cases h1 h2 with ⟨e, h⟩ | ⟨e, h⟩ | ⟨e, h⟩ <;> rcases ocmp_cases h2 h1 with ⟨e', h'⟩ | ⟨e', h'⟩ | ⟨e', h'⟩ <;> omega

/-- Two fractions in their least form that are worth the same are the same. -/
theorem ozero_law {a b c d : Int} (h1 : mayB a b = true) (h2 : mayB c d = true) : cmpV a b c d = 0 ↔ a = c ∧ b = d := by
  obtain ⟨pb, cb⟩ := may_of h1
  obtain ⟨pd, cd⟩ := may_of h2
  constructor
  · intro h
    have m : a * d = c * b := by rcases ocmp_cases h1 h2 with ⟨e, h⟩ | ⟨e, h⟩ | ⟨e, h⟩ <;> omega
    have mb : a.natAbs * d.toNat = c.natAbs * b.toNat := by
      have := congrArg Int.natAbs m
      rw [Int.natAbs_mul, Int.natAbs_mul] at this
      rwa [show d.natAbs = d.toNat by omega, show b.natAbs = b.toNat by omega] at this
    have d1 : b.toNat ∣ d.toNat := cb.symm.dvd_of_dvd_mul_left ⟨c.natAbs, by rw [mb, Nat.mul_comm]⟩
    have d2 : d.toNat ∣ b.toNat := cd.symm.dvd_of_dvd_mul_left ⟨a.natAbs, by rw [← mb, Nat.mul_comm]⟩
    have e : b.toNat = d.toNat := Nat.dvd_antisymm d1 d2
    have e' : b = d := by omega
    subst e'
    exact ⟨Int.eq_of_mul_eq_mul_right (by omega) m, rfl⟩
  · rintro ⟨rfl, rfl⟩
    rcases ocmp_cases h1 h2 with ⟨e, h⟩ | ⟨e, h⟩ | ⟨e, h⟩ <;> omega

theorem cb_range : ∀ (a b : List UInt8), -1 ≤ Lib.compareBytes a b ∧ Lib.compareBytes a b ≤ 1
  | [], [] => by simp [Lib.compareBytes]
  | [], _ :: _ => by simp [Lib.compareBytes]
  | _ :: _, [] => by simp [Lib.compareBytes]
  | x :: a, y :: b => by
    have ih := cb_range a b
    unfold Lib.compareBytes
    split
    · omega
    · split <;> omega
theorem cb_turn : ∀ (a b : List UInt8), Lib.compareBytes b a = -Lib.compareBytes a b
  | [], [] => by simp [Lib.compareBytes]
  | [], _ :: _ => by simp [Lib.compareBytes]
  | _ :: _, [] => by simp [Lib.compareBytes]
  | x :: a, y :: b => by
    have ih := cb_turn a b
    unfold Lib.compareBytes
    by_cases h : x < y
    · have h' : ¬ y < x := UInt8.lt_asymm h
      simp [h, h']
    · by_cases h2 : y < x
      · simp [h, h2]
      · simp [h, h2, ih]
theorem cb_zero : ∀ (a b : List UInt8), Lib.compareBytes a b = 0 ↔ a = b
  | [], [] => by simp [Lib.compareBytes]
  | [], _ :: _ => by simp [Lib.compareBytes]
  | _ :: _, [] => by simp [Lib.compareBytes]
  | x :: a, y :: b => by
    have ih := cb_zero a b
    unfold Lib.compareBytes
    by_cases h : x < y
    · have h' : x ≠ y := UInt8.ne_of_lt h
      simp [h, h']
    · by_cases h2 : y < x
      · have h' : x ≠ y := (UInt8.ne_of_lt h2).symm
        simp [h, h2, h']
      · have e : x = y := UInt8.le_antisymm (UInt8.not_lt.1 h2) (UInt8.not_lt.1 h)
        simp [e, ih]
theorem cb_on : ∀ (a b c : List UInt8), Lib.compareBytes a b ≤ 0 → Lib.compareBytes b c ≤ 0 → Lib.compareBytes a c ≤ 0 ∧ ((Lib.compareBytes a b = 0 ∧ Lib.compareBytes b c = 0) ↔ Lib.compareBytes a c = 0)
  | [], [], [] => by simp [Lib.compareBytes]
  | [], [], _ :: _ => by simp [Lib.compareBytes]
  | [], _ :: _, [] => by simp [Lib.compareBytes]
  | _ :: _, [], _ => by simp [Lib.compareBytes]
  | _ :: _, _ :: _, [] => by simp [Lib.compareBytes]
  | [], y :: b, z :: c => by simp [Lib.compareBytes]
  | x :: a, y :: b, z :: c => by
    have ih := cb_on a b c
    unfold Lib.compareBytes
    rcases Nat.lt_trichotomy x.toNat y.toNat with h | h | h
    · have h1 : x < y := UInt8.lt_iff_toNat_lt.2 h
      rcases Nat.lt_trichotomy y.toNat z.toNat with g | g | g
      · have g1 : y < z := UInt8.lt_iff_toNat_lt.2 g
        have k1 : x < z := UInt8.lt_iff_toNat_lt.2 (by omega)
        simp [h1, g1, k1]
      · have g1 : y = z := UInt8.toNat_inj.1 g
        subst g1
        simp [h1]
      · have g1 : z < y := UInt8.lt_iff_toNat_lt.2 g
        have g2 : ¬ y < z := UInt8.lt_asymm g1
        simp [g1, g2]
    · have h1 : x = y := UInt8.toNat_inj.1 h
      subst h1
      have hi : ¬ x < x := UInt8.lt_irrefl x
      rcases Nat.lt_trichotomy x.toNat z.toNat with g | g | g
      · have g1 : x < z := UInt8.lt_iff_toNat_lt.2 g
        simp [hi, g1]
      · have g1 : x = z := UInt8.toNat_inj.1 g
        subst g1
        simp only [hi, if_false]
        exact ih
      · have g1 : z < x := UInt8.lt_iff_toNat_lt.2 g
        have g2 : ¬ x < z := UInt8.lt_asymm g1
        simp [g1, g2]
    · have h1 : y < x := UInt8.lt_iff_toNat_lt.2 h
      have h2 : ¬ x < y := UInt8.lt_asymm h1
      simp [h1, h2]

theorem toList_data (s : ByteArray) : s.toList = s.data.toList := by simp [ByteArray.toList_eq]

theorem chk1_of {n d : Int} {s : ByteArray} (h : chk 1 n d s = 0) : d = 0 ∧ s.toList = [] := by
  simp only [chk, pureB, if_true] at h
  split at h
  · omega
  · rename_i g
    simp at g
    exact g
theorem chk2_of {n d : Int} {s : ByteArray} (h : chk 2 n d s = 0) : mayB n d = true ∧ s.toList = [] := by
  simp only [chk, pureB, Int.reduceEq, if_false, if_true] at h
  split at h
  · omega
  · rename_i g
    simp at g
    exact g
theorem chk3_of {n d : Int} {s : ByteArray} (h : chk 3 n d s = 0) : n = 0 ∧ d = 0 := by
  simp only [chk, pureB, Int.reduceEq, if_false, if_true] at h
  split at h
  · omega
  · rename_i g
    simp at g
    exact g

/-- A value, as four plain things. -/
structure Val where
  k : Int
  n : Int
  d : Int
  s : ByteArray
/-- May a value be at all: its numbers fit 64 bits. -/
structure Val.Fits (x : Val) : Prop where
  n1 : -9223372036854775808 ≤ x.n
  n2 : x.n ≤ 9223372036854775807
  d1 : -9223372036854775808 ≤ x.d
  d2 : x.d ≤ 9223372036854775807
def Val.may (x : Val) : Int := chk x.k x.n x.d x.s
def Val.cmp (x y : Val) : Int := vcmp x.k x.n x.d x.s y.k y.n y.d y.s
def Val.same (x y : Val) : Bool := sameB x.k x.n x.d x.s y.k y.n y.d y.s

theorem Val.cmp_ok {x y : Val} (h : x.may = 0) (g : y.may = 0) : x.cmp y = if x.k = y.k then (if x.k = 1 then Lib.compareInt x.n y.n else if x.k = 2 then cmpV x.n x.d y.n y.d else Lib.compareBytes x.s.toList y.s.toList) else Lib.compareInt x.k y.k := by
  unfold Val.may at h g
  unfold Val.cmp vcmp
  rw [if_pos h, if_pos g, toList_data, toList_data]

theorem ci_cases (a b : Int) : (Lib.compareInt a b = -1 ∧ a < b) ∨ (Lib.compareInt a b = 0 ∧ a = b) ∨ (Lib.compareInt a b = 1 ∧ b < a) := by
  unfold Lib.compareInt
  rcases Int.lt_trichotomy a b with h | h | h
  · exact Or.inl ⟨if_pos h, h⟩
  · subst h; simp
  · exact Or.inr (Or.inr ⟨by rw [if_neg (by omega), if_pos h], h⟩)

theorem Val.cases {x : Val} (h : x.may = 0) : (x.k = 1 ∧ x.d = 0 ∧ x.s.toList = []) ∨ (x.k = 2 ∧ mayB x.n x.d = true ∧ x.s.toList = []) ∨ (x.k = 3 ∧ x.n = 0 ∧ x.d = 0) := by
  unfold Val.may at h
  rcases chk_kind h with e | e | e
  · rw [e] at h; exact Or.inl ⟨e, chk1_of h⟩
  · rw [e] at h; exact Or.inr (Or.inl ⟨e, chk2_of h⟩)
  · rw [e] at h; exact Or.inr (Or.inr ⟨e, chk3_of h⟩)

theorem Val.range (x y : Val) : -1 ≤ x.cmp y ∧ x.cmp y ≤ 1 := by
  unfold Val.cmp vcmp
  split
  · split
    · split
      · split
        · rcases ci_cases x.n y.n with h | h | h <;> omega
        · split
          · unfold cmpV
            split
            · split
              · omega
              · split <;> omega
            · omega
          · exact cb_range _ _
      · rcases ci_cases x.k y.k with h | h | h <;> omega
    · omega
  · omega

theorem Val.turn {x y : Val} (h : x.may = 0) (g : y.may = 0) : y.cmp x = -x.cmp y := by
  rw [Val.cmp_ok h g, Val.cmp_ok g h]
  by_cases e : x.k = y.k
  · rw [if_pos e, if_pos e.symm]
    rcases Val.cases h with ⟨a, _⟩ | ⟨a, m, _⟩ | ⟨a, _⟩
    · rw [← e, if_pos a, if_pos a]
      rcases ci_cases x.n y.n with h | h | h <;> rcases ci_cases y.n x.n with h' | h' | h' <;> omega
    · rcases Val.cases g with ⟨b, _⟩ | ⟨b, m', _⟩ | ⟨b, _⟩
      · omega
      · rw [← e, a]
        exact oturn_law m m'
      · omega
    · rw [← e, a]
      exact cb_turn _ _
  · rw [if_neg e, if_neg (Ne.symm e)]
    rcases ci_cases x.k y.k with h | h | h <;> rcases ci_cases y.k x.k with h' | h' | h' <;> omega

theorem Val.zero {x y : Val} (h : x.may = 0) (g : y.may = 0) : x.cmp y = 0 ↔ x.same y = true := by
  rw [Val.cmp_ok h g]
  unfold Val.same sameB
  by_cases e : x.k = y.k
  · rw [if_pos e]
    rcases Val.cases h with ⟨a, p, q⟩ | ⟨a, p, q⟩ | ⟨a, p, q⟩ <;> rcases Val.cases g with ⟨b, p', q'⟩ | ⟨b, p', q'⟩ | ⟨b, p', q'⟩ <;> try omega
    · rw [if_pos a, a, b, p, p', q, q']
      rcases ci_cases x.n y.n with h | h | h <;> simp <;> omega
    · rw [a, b, q, q']
      simp only [Int.reduceEq, if_false, if_true]
      rw [ozero_law p p']
      simp
    · rw [a, b, p, p', q, q']
      simp only [Int.reduceEq, if_false]
      rw [cb_zero]
      simp
  · rw [if_neg e]
    rcases ci_cases x.k y.k with h | h | h
    · simp [e, h.1]
    · exact absurd h.2 e
    · simp [e, h.1]

theorem Val.on {x y z : Val} (h : x.may = 0) (g : y.may = 0) (f : z.may = 0) (a : x.cmp y ≤ 0) (b : y.cmp z ≤ 0) : x.cmp z ≤ 0 ∧ ((x.cmp y = 0 ∧ y.cmp z = 0) ↔ x.cmp z = 0) := by
  rw [Val.cmp_ok h g] at a ⊢
  rw [Val.cmp_ok g f] at b ⊢
  rw [Val.cmp_ok h f]
  by_cases e1 : x.k = y.k
  · rw [if_pos e1] at a ⊢
    by_cases e2 : y.k = z.k
    · rw [if_pos e2] at b ⊢
      rw [if_pos (e1.trans e2)]
      rcases Val.cases h with ⟨k1, p, q⟩ | ⟨k1, p, q⟩ | ⟨k1, p, q⟩ <;> rcases Val.cases g with ⟨k2, p', q'⟩ | ⟨k2, p', q'⟩ | ⟨k2, p', q'⟩ <;> try omega
      · rw [if_pos k1] at a ⊢
        rw [if_pos k2] at b ⊢
        rw [if_pos k1]
        rcases ci_cases x.n y.n with h | h | h <;> rcases ci_cases y.n z.n with h' | h' | h' <;> rcases ci_cases x.n z.n with h'' | h'' | h'' <;> omega
      · rcases Val.cases f with ⟨k3, p'', q''⟩ | ⟨k3, p'', q''⟩ | ⟨k3, p'', q''⟩
        · omega
        · rw [k1] at a ⊢
          rw [k2] at b ⊢
          exact oon_law p p' p'' a b
        · omega
      · rw [k1] at a ⊢
        rw [k2] at b ⊢
        exact cb_on _ _ _ a b
    · rw [if_neg e2] at b ⊢
      rw [if_neg (by omega)]
      rw [e1]
      rcases ci_cases y.k z.k with h | h | h <;> omega
  · rw [if_neg e1] at a ⊢
    by_cases e2 : y.k = z.k
    · rw [if_neg (by omega), ← e2]
      rcases ci_cases x.k y.k with h | h | h <;> omega
    · rw [if_neg e2] at b ⊢
      rcases ci_cases x.k y.k with h | h | h <;> rcases ci_cases y.k z.k with h' | h' | h' <;> try omega
      rw [if_neg (by omega)]
      rcases ci_cases x.k z.k with h'' | h'' | h'' <;> omega

theorem Val.self {x : Val} (h : x.may = 0) : x.cmp x = 0 := (Val.zero h h).2 (by simp [Val.same, sameB])

end Go.Proofs.YtmegombglkcccaaGreatDoor



namespace Go.Proofs.YtmegombglkcccaaGreatDoor
open Go.RowKit Go.Shelf
set_option linter.unusedVariables false

/-- A digit to the base 16, capital or not; 16: it is none. -/
def hexv (c : UInt8) : Nat := if 48 ≤ c.toNat ∧ c.toNat ≤ 57 then c.toNat - 48 else if 97 ≤ c.toNat ∧ c.toNat ≤ 102 then c.toNat - 87 else if 65 ≤ c.toNat ∧ c.toNat ≤ 70 then c.toNat - 55 else 16
/-- A byte made small. -/
def low8 (c : UInt8) : Int := bits .or .u8 c.toNat 32
theorem low_all : ∀ n : Fin 256, 0 ≤ bits .or .u8 (n.1 : Int) 32 ∧ bits .or .u8 (n.1 : Int) 32 ≤ 255 ∧ (if 48 ≤ n.1 ∧ n.1 ≤ 57 then True else if 97 ≤ bits .or .u8 (n.1 : Int) 32 ∧ bits .or .u8 (n.1 : Int) 32 ≤ 122 then (if bits .or .u8 (n.1 : Int) 32 ≤ 102 then ((hexv (UInt8.ofNat n.1) : Nat) : Int) = bits .or .u8 (n.1 : Int) 32 - 87 else hexv (UInt8.ofNat n.1) = 16) else hexv (UInt8.ofNat n.1) = 16) := by decide +kernel

/-- What class a byte is of. -/
inductive Cls (c : UInt8) : Prop where
  | dig (h1 : 48 ≤ (c.toNat : Int)) (h2 : (c.toNat : Int) ≤ 57) (h3 : ((hexv c : Nat) : Int) = c.toNat - 48) (h9 : ((c.toNat : Int) == 95) = false)
  | hex (h1 : ¬ (48 ≤ (c.toNat : Int) ∧ (c.toNat : Int) ≤ 57)) (h2 : 97 ≤ low8 c) (h3 : low8 c ≤ 102) (h4 : ((hexv c : Nat) : Int) = low8 c - 87) (h9 : ((c.toNat : Int) == 95) = false)
  | let (h1 : ¬ (48 ≤ (c.toNat : Int) ∧ (c.toNat : Int) ≤ 57)) (h2 : 102 < low8 c) (h3 : low8 c ≤ 122) (h4 : hexv c = 16) (h9 : ((c.toNat : Int) == 95) = false)
  | lss (h1 : ¬ (48 ≤ (c.toNat : Int) ∧ (c.toNat : Int) ≤ 57)) (h2 : low8 c < 97) (h3 : 0 ≤ low8 c) (h4 : hexv c = 16) (h9 : ((c.toNat : Int) == 95) = false)
  | gtr (h1 : ¬ (48 ≤ (c.toNat : Int) ∧ (c.toNat : Int) ≤ 57)) (h2 : 122 < low8 c) (h3 : low8 c ≤ 255) (h4 : hexv c = 16)
theorem cls (c : UInt8) : Cls c := by
  have hc : c.toNat < 256 := c.toNat_lt
  obtain ⟨a1, a2, a3⟩ := low_all ⟨c.toNat, hc⟩
  rw [show (⟨c.toNat, hc⟩ : Fin 256).1 = c.toNat from rfl, UInt8.ofNat_toNat] at a3
  have a4 : c.toNat = 95 → bits .or .u8 (c.toNat : Int) 32 = 127 := by intro h; rw [h]; decide
  by_cases h : 48 ≤ c.toNat ∧ c.toNat ≤ 57
  · exact .dig (by omega) (by omega) (by unfold hexv; rw [if_pos h]; omega) (by simp; omega)
  · rw [if_neg h] at a3
    by_cases g : 97 ≤ bits .or .u8 (c.toNat : Int) 32 ∧ bits .or .u8 (c.toNat : Int) 32 ≤ 122
    · rw [if_pos g] at a3
      by_cases f : bits .or .u8 (c.toNat : Int) 32 ≤ 102
      · rw [if_pos f] at a3
        exact .hex (by omega) g.1 f a3 (by simp; omega)
      · rw [if_neg f] at a3
        exact .let (by omega) (by unfold low8; omega) g.2 a3 (by simp; omega)
    · rw [if_neg g] at a3
      by_cases f : bits .or .u8 (c.toNat : Int) 32 < 97
      · exact .lss (by omega) f a1 a3 (by simp; omega)
      · exact .gtr (by omega) (by unfold low8; omega) a2 a3

set_option maxRecDepth 100000 in
set_option maxHeartbeats 4000000 in
theorem pu_let (a b : UInt8) (w : World) (h0 : ¬ (48 ≤ (a.toNat : Int) ∧ (a.toNat : Int) ≤ 57)) (h2 : 102 < low8 a) (h3 : low8 a ≤ 122) (h9 : ((a.toNat : Int) == 95) = false) :
    Calls Tryz.prog 76 #[.string ⟨#[a, b]⟩, .int .i64 16, .int .i64 8] w fun e w' => e = .returned (.tuple #[.int .u64 0, .iface 109 (.int .i64 2)]) ∧ Below w.heap.size w w' := by
  have hcv := Lib.run_convert_string_bytes (P := Tryz.prog) w 9 59 5 ⟨#[a, b]⟩ Tryz.underlying9 Tryz.underlying59 Tryz.underlying5
  have hB0 : (Lib.bytesWorld w 5 ⟨#[a, b]⟩).cell? ⟨w.heap.size, 0, none⟩ = some (.int .u8 a.toNat) := Lib.bytesWorld_cell w 5 ⟨#[a, b]⟩ 0 (by show 0 < 2; decide)
  have hB1 : (Lib.bytesWorld w 5 ⟨#[a, b]⟩).cell? ⟨w.heap.size, 1, none⟩ = some (.int .u8 b.toNat) := Lib.bytesWorld_cell w 5 ⟨#[a, b]⟩ 1 (by show 1 < 2; decide)
  have hbb := Lib.bytesWorld_below w 5 ⟨#[a, b]⟩
  have ua : a.toNat < 256 := a.toNat_lt
  have ub : b.toNat < 256 := b.toNat_lt
  have LA : Hid (∀ W : World, Calls Tryz.prog 87 #[.int .u8 a.toNat] W fun e w' => e = .returned (.int .u8 (low8 a)) ∧ w' = W) := fun W => Tryz.internal_strconv_lower a.toNat W
  have LB : Hid (∀ W : World, Calls Tryz.prog 87 #[.int .u8 b.toNat] W fun e w' => e = .returned (.int .u8 (low8 b)) ∧ w' = W) := fun W => Tryz.internal_strconv_lower b.toNat W
  generalize Lib.bytesWorld w 5 ⟨#[a, b]⟩ = W1 at *
  have hn : (48 ≤ (a.toNat : Int)) = False ∨ ((48 ≤ (a.toNat : Int)) = True ∧ ((a.toNat : Int) ≤ 57) = False) := by
    by_cases q : 48 ≤ (a.toNat : Int)
    · right; refine ⟨by simpa using q, by simp; omega⟩
    · left; simpa using q

  rcases hn with hx | ⟨hx, hy⟩
  all_goals clear h0
  all_goals
    go_enter Tryz.func76, Tryz.ntmps76
    go_wp2
    refine wp_loop_rounds 4 ?_
    rw [rounds_succ]
    go_wp2_with (first | (go_at_call_of 87 (Value.int IntKind.u8 a.toNat); refine (LA.out _).mono ?_; rintro e w' ⟨rfl, rfl⟩) | (go_at_call_of 87 (Value.int IntKind.u8 b.toNat); refine (LB.out _).mono ?_; rintro e w' ⟨rfl, rfl⟩))
    go_ret2
    exact ⟨rfl, hbb⟩

set_option maxRecDepth 100000 in
set_option maxHeartbeats 4000000 in
theorem pu_lss (a b : UInt8) (w : World) (h0 : ¬ (48 ≤ (a.toNat : Int) ∧ (a.toNat : Int) ≤ 57)) (h2 : low8 a < 97) (h3 : 0 ≤ low8 a) (h9 : ((a.toNat : Int) == 95) = false) :
    Calls Tryz.prog 76 #[.string ⟨#[a, b]⟩, .int .i64 16, .int .i64 8] w fun e w' => e = .returned (.tuple #[.int .u64 0, .iface 109 (.int .i64 2)]) ∧ Below w.heap.size w w' := by
  have hcv := Lib.run_convert_string_bytes (P := Tryz.prog) w 9 59 5 ⟨#[a, b]⟩ Tryz.underlying9 Tryz.underlying59 Tryz.underlying5
  have hB0 : (Lib.bytesWorld w 5 ⟨#[a, b]⟩).cell? ⟨w.heap.size, 0, none⟩ = some (.int .u8 a.toNat) := Lib.bytesWorld_cell w 5 ⟨#[a, b]⟩ 0 (by show 0 < 2; decide)
  have hB1 : (Lib.bytesWorld w 5 ⟨#[a, b]⟩).cell? ⟨w.heap.size, 1, none⟩ = some (.int .u8 b.toNat) := Lib.bytesWorld_cell w 5 ⟨#[a, b]⟩ 1 (by show 1 < 2; decide)
  have hbb := Lib.bytesWorld_below w 5 ⟨#[a, b]⟩
  have ua : a.toNat < 256 := a.toNat_lt
  have ub : b.toNat < 256 := b.toNat_lt
  have LA : Hid (∀ W : World, Calls Tryz.prog 87 #[.int .u8 a.toNat] W fun e w' => e = .returned (.int .u8 (low8 a)) ∧ w' = W) := fun W => Tryz.internal_strconv_lower a.toNat W
  have LB : Hid (∀ W : World, Calls Tryz.prog 87 #[.int .u8 b.toNat] W fun e w' => e = .returned (.int .u8 (low8 b)) ∧ w' = W) := fun W => Tryz.internal_strconv_lower b.toNat W
  generalize Lib.bytesWorld w 5 ⟨#[a, b]⟩ = W1 at *
  have hn : (48 ≤ (a.toNat : Int)) = False ∨ ((48 ≤ (a.toNat : Int)) = True ∧ ((a.toNat : Int) ≤ 57) = False) := by
    by_cases q : 48 ≤ (a.toNat : Int)
    · right; refine ⟨by simpa using q, by simp; omega⟩
    · left; simpa using q

  rcases hn with hx | ⟨hx, hy⟩
  all_goals clear h0
  all_goals
    go_enter Tryz.func76, Tryz.ntmps76
    go_wp2
    refine wp_loop_rounds 4 ?_
    rw [rounds_succ]
    go_wp2_with (first | (go_at_call_of 87 (Value.int IntKind.u8 a.toNat); refine (LA.out _).mono ?_; rintro e w' ⟨rfl, rfl⟩) | (go_at_call_of 87 (Value.int IntKind.u8 b.toNat); refine (LB.out _).mono ?_; rintro e w' ⟨rfl, rfl⟩))
    go_ret2
    exact ⟨rfl, hbb⟩

set_option maxRecDepth 100000 in
set_option maxHeartbeats 4000000 in
theorem pu_gtr (a b : UInt8) (w : World) (h0 : ¬ (48 ≤ (a.toNat : Int) ∧ (a.toNat : Int) ≤ 57)) (h2 : 122 < low8 a) (h3 : low8 a ≤ 255) :
    Calls Tryz.prog 76 #[.string ⟨#[a, b]⟩, .int .i64 16, .int .i64 8] w fun e w' => e = .returned (.tuple #[.int .u64 0, .iface 109 (.int .i64 2)]) ∧ Below w.heap.size w w' := by
  have hcv := Lib.run_convert_string_bytes (P := Tryz.prog) w 9 59 5 ⟨#[a, b]⟩ Tryz.underlying9 Tryz.underlying59 Tryz.underlying5
  have hB0 : (Lib.bytesWorld w 5 ⟨#[a, b]⟩).cell? ⟨w.heap.size, 0, none⟩ = some (.int .u8 a.toNat) := Lib.bytesWorld_cell w 5 ⟨#[a, b]⟩ 0 (by show 0 < 2; decide)
  have hB1 : (Lib.bytesWorld w 5 ⟨#[a, b]⟩).cell? ⟨w.heap.size, 1, none⟩ = some (.int .u8 b.toNat) := Lib.bytesWorld_cell w 5 ⟨#[a, b]⟩ 1 (by show 1 < 2; decide)
  have hbb := Lib.bytesWorld_below w 5 ⟨#[a, b]⟩
  have ua : a.toNat < 256 := a.toNat_lt
  have ub : b.toNat < 256 := b.toNat_lt
  have LA : Hid (∀ W : World, Calls Tryz.prog 87 #[.int .u8 a.toNat] W fun e w' => e = .returned (.int .u8 (low8 a)) ∧ w' = W) := fun W => Tryz.internal_strconv_lower a.toNat W
  have LB : Hid (∀ W : World, Calls Tryz.prog 87 #[.int .u8 b.toNat] W fun e w' => e = .returned (.int .u8 (low8 b)) ∧ w' = W) := fun W => Tryz.internal_strconv_lower b.toNat W
  generalize Lib.bytesWorld w 5 ⟨#[a, b]⟩ = W1 at *
  have hm : ((a.toNat : Int) == 95) = false ∨ ((a.toNat : Int) == 95) = true := by cases ((a.toNat : Int) == 95) <;> simp
  have hn : (48 ≤ (a.toNat : Int)) = False ∨ ((48 ≤ (a.toNat : Int)) = True ∧ ((a.toNat : Int) ≤ 57) = False) := by
    by_cases q : 48 ≤ (a.toNat : Int)
    · right; refine ⟨by simpa using q, by simp; omega⟩
    · left; simpa using q

  rcases hm with h9 | h9 <;> rcases hn with hx | ⟨hx, hy⟩
  all_goals clear h0
  all_goals
    go_enter Tryz.func76, Tryz.ntmps76
    go_wp2
    refine wp_loop_rounds 4 ?_
    rw [rounds_succ]
    go_wp2_with (first | (go_at_call_of 87 (Value.int IntKind.u8 a.toNat); refine (LA.out _).mono ?_; rintro e w' ⟨rfl, rfl⟩) | (go_at_call_of 87 (Value.int IntKind.u8 b.toNat); refine (LB.out _).mono ?_; rintro e w' ⟨rfl, rfl⟩))
    go_ret2
    exact ⟨rfl, hbb⟩

set_option maxRecDepth 100000 in
set_option maxHeartbeats 4000000 in
theorem pu_dig_dig (a b : UInt8) (w : World) (h1 : 48 ≤ (a.toNat : Int)) (h2 : (a.toNat : Int) ≤ 57) (h9 : ((a.toNat : Int) == 95) = false) (g1 : 48 ≤ (b.toNat : Int)) (g2 : (b.toNat : Int) ≤ 57) (g9 : ((b.toNat : Int) == 95) = false) :
    Calls Tryz.prog 76 #[.string ⟨#[a, b]⟩, .int .i64 16, .int .i64 8] w fun e w' => e = .returned (.tuple #[.int .u64 ((a.toNat - 48 : Int) * 16 + (b.toNat - 48 : Int)), .nilIface]) ∧ Below w.heap.size w w' := by
  have hcv := Lib.run_convert_string_bytes (P := Tryz.prog) w 9 59 5 ⟨#[a, b]⟩ Tryz.underlying9 Tryz.underlying59 Tryz.underlying5
  have hB0 : (Lib.bytesWorld w 5 ⟨#[a, b]⟩).cell? ⟨w.heap.size, 0, none⟩ = some (.int .u8 a.toNat) := Lib.bytesWorld_cell w 5 ⟨#[a, b]⟩ 0 (by show 0 < 2; decide)
  have hB1 : (Lib.bytesWorld w 5 ⟨#[a, b]⟩).cell? ⟨w.heap.size, 1, none⟩ = some (.int .u8 b.toNat) := Lib.bytesWorld_cell w 5 ⟨#[a, b]⟩ 1 (by show 1 < 2; decide)
  have hbb := Lib.bytesWorld_below w 5 ⟨#[a, b]⟩
  have ua : a.toNat < 256 := a.toNat_lt
  have ub : b.toNat < 256 := b.toNat_lt
  have LA : Hid (∀ W : World, Calls Tryz.prog 87 #[.int .u8 a.toNat] W fun e w' => e = .returned (.int .u8 (low8 a)) ∧ w' = W) := fun W => Tryz.internal_strconv_lower a.toNat W
  have LB : Hid (∀ W : World, Calls Tryz.prog 87 #[.int .u8 b.toNat] W fun e w' => e = .returned (.int .u8 (low8 b)) ∧ w' = W) := fun W => Tryz.internal_strconv_lower b.toNat W
  generalize Lib.bytesWorld w 5 ⟨#[a, b]⟩ = W1 at *

  go_enter Tryz.func76, Tryz.ntmps76
  go_wp2
  refine wp_loop_rounds 4 ?_
  rw [rounds_succ]
  go_wp2_with (first | (go_at_call_of 87 (Value.int IntKind.u8 a.toNat); refine (LA.out _).mono ?_; rintro e w' ⟨rfl, rfl⟩) | (go_at_call_of 87 (Value.int IntKind.u8 b.toNat); refine (LB.out _).mono ?_; rintro e w' ⟨rfl, rfl⟩))
  rw [rounds_succ]
  go_wp2_with (first | (go_at_call_of 87 (Value.int IntKind.u8 a.toNat); refine (LA.out _).mono ?_; rintro e w' ⟨rfl, rfl⟩) | (go_at_call_of 87 (Value.int IntKind.u8 b.toNat); refine (LB.out _).mono ?_; rintro e w' ⟨rfl, rfl⟩))
  rw [rounds_succ]
  go_wp2
  go_ret2
  exact ⟨rfl, hbb⟩

set_option maxRecDepth 100000 in
set_option maxHeartbeats 4000000 in
theorem pu_dig_hex (a b : UInt8) (w : World) (h1 : 48 ≤ (a.toNat : Int)) (h2 : (a.toNat : Int) ≤ 57) (h9 : ((a.toNat : Int) == 95) = false) (g0 : ¬ (48 ≤ (b.toNat : Int) ∧ (b.toNat : Int) ≤ 57)) (g2 : 97 ≤ low8 b) (g3 : low8 b ≤ 102) (g9 : ((b.toNat : Int) == 95) = false) :
    Calls Tryz.prog 76 #[.string ⟨#[a, b]⟩, .int .i64 16, .int .i64 8] w fun e w' => e = .returned (.tuple #[.int .u64 ((a.toNat - 48 : Int) * 16 + (low8 b - 97 + 10)), .nilIface]) ∧ Below w.heap.size w w' := by
  have hcv := Lib.run_convert_string_bytes (P := Tryz.prog) w 9 59 5 ⟨#[a, b]⟩ Tryz.underlying9 Tryz.underlying59 Tryz.underlying5
  have hB0 : (Lib.bytesWorld w 5 ⟨#[a, b]⟩).cell? ⟨w.heap.size, 0, none⟩ = some (.int .u8 a.toNat) := Lib.bytesWorld_cell w 5 ⟨#[a, b]⟩ 0 (by show 0 < 2; decide)
  have hB1 : (Lib.bytesWorld w 5 ⟨#[a, b]⟩).cell? ⟨w.heap.size, 1, none⟩ = some (.int .u8 b.toNat) := Lib.bytesWorld_cell w 5 ⟨#[a, b]⟩ 1 (by show 1 < 2; decide)
  have hbb := Lib.bytesWorld_below w 5 ⟨#[a, b]⟩
  have ua : a.toNat < 256 := a.toNat_lt
  have ub : b.toNat < 256 := b.toNat_lt
  have LA : Hid (∀ W : World, Calls Tryz.prog 87 #[.int .u8 a.toNat] W fun e w' => e = .returned (.int .u8 (low8 a)) ∧ w' = W) := fun W => Tryz.internal_strconv_lower a.toNat W
  have LB : Hid (∀ W : World, Calls Tryz.prog 87 #[.int .u8 b.toNat] W fun e w' => e = .returned (.int .u8 (low8 b)) ∧ w' = W) := fun W => Tryz.internal_strconv_lower b.toNat W
  generalize Lib.bytesWorld w 5 ⟨#[a, b]⟩ = W1 at *
  have gn : (48 ≤ (b.toNat : Int)) = False ∨ ((48 ≤ (b.toNat : Int)) = True ∧ ((b.toNat : Int) ≤ 57) = False) := by
    by_cases q : 48 ≤ (b.toNat : Int)
    · right; refine ⟨by simpa using q, by simp; omega⟩
    · left; simpa using q

  rcases gn with gx | ⟨gx, gy⟩
  all_goals clear g0
  all_goals
    go_enter Tryz.func76, Tryz.ntmps76
    go_wp2
    refine wp_loop_rounds 4 ?_
    rw [rounds_succ]
    go_wp2_with (first | (go_at_call_of 87 (Value.int IntKind.u8 a.toNat); refine (LA.out _).mono ?_; rintro e w' ⟨rfl, rfl⟩) | (go_at_call_of 87 (Value.int IntKind.u8 b.toNat); refine (LB.out _).mono ?_; rintro e w' ⟨rfl, rfl⟩))
    rw [rounds_succ]
    go_wp2_with (first | (go_at_call_of 87 (Value.int IntKind.u8 a.toNat); refine (LA.out _).mono ?_; rintro e w' ⟨rfl, rfl⟩) | (go_at_call_of 87 (Value.int IntKind.u8 b.toNat); refine (LB.out _).mono ?_; rintro e w' ⟨rfl, rfl⟩))
    rw [rounds_succ]
    go_wp2
    go_ret2
    exact ⟨rfl, hbb⟩

set_option maxRecDepth 100000 in
set_option maxHeartbeats 4000000 in
theorem pu_dig_let (a b : UInt8) (w : World) (h1 : 48 ≤ (a.toNat : Int)) (h2 : (a.toNat : Int) ≤ 57) (h9 : ((a.toNat : Int) == 95) = false) (g0 : ¬ (48 ≤ (b.toNat : Int) ∧ (b.toNat : Int) ≤ 57)) (g2 : 102 < low8 b) (g3 : low8 b ≤ 122) (g9 : ((b.toNat : Int) == 95) = false) :
    Calls Tryz.prog 76 #[.string ⟨#[a, b]⟩, .int .i64 16, .int .i64 8] w fun e w' => e = .returned (.tuple #[.int .u64 0, .iface 109 (.int .i64 2)]) ∧ Below w.heap.size w w' := by
  have hcv := Lib.run_convert_string_bytes (P := Tryz.prog) w 9 59 5 ⟨#[a, b]⟩ Tryz.underlying9 Tryz.underlying59 Tryz.underlying5
  have hB0 : (Lib.bytesWorld w 5 ⟨#[a, b]⟩).cell? ⟨w.heap.size, 0, none⟩ = some (.int .u8 a.toNat) := Lib.bytesWorld_cell w 5 ⟨#[a, b]⟩ 0 (by show 0 < 2; decide)
  have hB1 : (Lib.bytesWorld w 5 ⟨#[a, b]⟩).cell? ⟨w.heap.size, 1, none⟩ = some (.int .u8 b.toNat) := Lib.bytesWorld_cell w 5 ⟨#[a, b]⟩ 1 (by show 1 < 2; decide)
  have hbb := Lib.bytesWorld_below w 5 ⟨#[a, b]⟩
  have ua : a.toNat < 256 := a.toNat_lt
  have ub : b.toNat < 256 := b.toNat_lt
  have LA : Hid (∀ W : World, Calls Tryz.prog 87 #[.int .u8 a.toNat] W fun e w' => e = .returned (.int .u8 (low8 a)) ∧ w' = W) := fun W => Tryz.internal_strconv_lower a.toNat W
  have LB : Hid (∀ W : World, Calls Tryz.prog 87 #[.int .u8 b.toNat] W fun e w' => e = .returned (.int .u8 (low8 b)) ∧ w' = W) := fun W => Tryz.internal_strconv_lower b.toNat W
  generalize Lib.bytesWorld w 5 ⟨#[a, b]⟩ = W1 at *
  have gn : (48 ≤ (b.toNat : Int)) = False ∨ ((48 ≤ (b.toNat : Int)) = True ∧ ((b.toNat : Int) ≤ 57) = False) := by
    by_cases q : 48 ≤ (b.toNat : Int)
    · right; refine ⟨by simpa using q, by simp; omega⟩
    · left; simpa using q

  rcases gn with gx | ⟨gx, gy⟩
  all_goals clear g0
  all_goals
    go_enter Tryz.func76, Tryz.ntmps76
    go_wp2
    refine wp_loop_rounds 4 ?_
    rw [rounds_succ]
    go_wp2_with (first | (go_at_call_of 87 (Value.int IntKind.u8 a.toNat); refine (LA.out _).mono ?_; rintro e w' ⟨rfl, rfl⟩) | (go_at_call_of 87 (Value.int IntKind.u8 b.toNat); refine (LB.out _).mono ?_; rintro e w' ⟨rfl, rfl⟩))
    rw [rounds_succ]
    go_wp2_with (first | (go_at_call_of 87 (Value.int IntKind.u8 a.toNat); refine (LA.out _).mono ?_; rintro e w' ⟨rfl, rfl⟩) | (go_at_call_of 87 (Value.int IntKind.u8 b.toNat); refine (LB.out _).mono ?_; rintro e w' ⟨rfl, rfl⟩))
    go_ret2
    exact ⟨rfl, hbb⟩

set_option maxRecDepth 100000 in
set_option maxHeartbeats 4000000 in
theorem pu_dig_lss (a b : UInt8) (w : World) (h1 : 48 ≤ (a.toNat : Int)) (h2 : (a.toNat : Int) ≤ 57) (h9 : ((a.toNat : Int) == 95) = false) (g0 : ¬ (48 ≤ (b.toNat : Int) ∧ (b.toNat : Int) ≤ 57)) (g2 : low8 b < 97) (g3 : 0 ≤ low8 b) (g9 : ((b.toNat : Int) == 95) = false) :
    Calls Tryz.prog 76 #[.string ⟨#[a, b]⟩, .int .i64 16, .int .i64 8] w fun e w' => e = .returned (.tuple #[.int .u64 0, .iface 109 (.int .i64 2)]) ∧ Below w.heap.size w w' := by
  have hcv := Lib.run_convert_string_bytes (P := Tryz.prog) w 9 59 5 ⟨#[a, b]⟩ Tryz.underlying9 Tryz.underlying59 Tryz.underlying5
  have hB0 : (Lib.bytesWorld w 5 ⟨#[a, b]⟩).cell? ⟨w.heap.size, 0, none⟩ = some (.int .u8 a.toNat) := Lib.bytesWorld_cell w 5 ⟨#[a, b]⟩ 0 (by show 0 < 2; decide)
  have hB1 : (Lib.bytesWorld w 5 ⟨#[a, b]⟩).cell? ⟨w.heap.size, 1, none⟩ = some (.int .u8 b.toNat) := Lib.bytesWorld_cell w 5 ⟨#[a, b]⟩ 1 (by show 1 < 2; decide)
  have hbb := Lib.bytesWorld_below w 5 ⟨#[a, b]⟩
  have ua : a.toNat < 256 := a.toNat_lt
  have ub : b.toNat < 256 := b.toNat_lt
  have LA : Hid (∀ W : World, Calls Tryz.prog 87 #[.int .u8 a.toNat] W fun e w' => e = .returned (.int .u8 (low8 a)) ∧ w' = W) := fun W => Tryz.internal_strconv_lower a.toNat W
  have LB : Hid (∀ W : World, Calls Tryz.prog 87 #[.int .u8 b.toNat] W fun e w' => e = .returned (.int .u8 (low8 b)) ∧ w' = W) := fun W => Tryz.internal_strconv_lower b.toNat W
  generalize Lib.bytesWorld w 5 ⟨#[a, b]⟩ = W1 at *
  have gn : (48 ≤ (b.toNat : Int)) = False ∨ ((48 ≤ (b.toNat : Int)) = True ∧ ((b.toNat : Int) ≤ 57) = False) := by
    by_cases q : 48 ≤ (b.toNat : Int)
    · right; refine ⟨by simpa using q, by simp; omega⟩
    · left; simpa using q

  rcases gn with gx | ⟨gx, gy⟩
  all_goals clear g0
  all_goals
    go_enter Tryz.func76, Tryz.ntmps76
    go_wp2
    refine wp_loop_rounds 4 ?_
    rw [rounds_succ]
    go_wp2_with (first | (go_at_call_of 87 (Value.int IntKind.u8 a.toNat); refine (LA.out _).mono ?_; rintro e w' ⟨rfl, rfl⟩) | (go_at_call_of 87 (Value.int IntKind.u8 b.toNat); refine (LB.out _).mono ?_; rintro e w' ⟨rfl, rfl⟩))
    rw [rounds_succ]
    go_wp2_with (first | (go_at_call_of 87 (Value.int IntKind.u8 a.toNat); refine (LA.out _).mono ?_; rintro e w' ⟨rfl, rfl⟩) | (go_at_call_of 87 (Value.int IntKind.u8 b.toNat); refine (LB.out _).mono ?_; rintro e w' ⟨rfl, rfl⟩))
    go_ret2
    exact ⟨rfl, hbb⟩

set_option maxRecDepth 100000 in
set_option maxHeartbeats 4000000 in
theorem pu_dig_gtr (a b : UInt8) (w : World) (h1 : 48 ≤ (a.toNat : Int)) (h2 : (a.toNat : Int) ≤ 57) (h9 : ((a.toNat : Int) == 95) = false) (g0 : ¬ (48 ≤ (b.toNat : Int) ∧ (b.toNat : Int) ≤ 57)) (g2 : 122 < low8 b) (g3 : low8 b ≤ 255) :
    Calls Tryz.prog 76 #[.string ⟨#[a, b]⟩, .int .i64 16, .int .i64 8] w fun e w' => e = .returned (.tuple #[.int .u64 0, .iface 109 (.int .i64 2)]) ∧ Below w.heap.size w w' := by
  have hcv := Lib.run_convert_string_bytes (P := Tryz.prog) w 9 59 5 ⟨#[a, b]⟩ Tryz.underlying9 Tryz.underlying59 Tryz.underlying5
  have hB0 : (Lib.bytesWorld w 5 ⟨#[a, b]⟩).cell? ⟨w.heap.size, 0, none⟩ = some (.int .u8 a.toNat) := Lib.bytesWorld_cell w 5 ⟨#[a, b]⟩ 0 (by show 0 < 2; decide)
  have hB1 : (Lib.bytesWorld w 5 ⟨#[a, b]⟩).cell? ⟨w.heap.size, 1, none⟩ = some (.int .u8 b.toNat) := Lib.bytesWorld_cell w 5 ⟨#[a, b]⟩ 1 (by show 1 < 2; decide)
  have hbb := Lib.bytesWorld_below w 5 ⟨#[a, b]⟩
  have ua : a.toNat < 256 := a.toNat_lt
  have ub : b.toNat < 256 := b.toNat_lt
  have LA : Hid (∀ W : World, Calls Tryz.prog 87 #[.int .u8 a.toNat] W fun e w' => e = .returned (.int .u8 (low8 a)) ∧ w' = W) := fun W => Tryz.internal_strconv_lower a.toNat W
  have LB : Hid (∀ W : World, Calls Tryz.prog 87 #[.int .u8 b.toNat] W fun e w' => e = .returned (.int .u8 (low8 b)) ∧ w' = W) := fun W => Tryz.internal_strconv_lower b.toNat W
  generalize Lib.bytesWorld w 5 ⟨#[a, b]⟩ = W1 at *
  have gm : ((b.toNat : Int) == 95) = false ∨ ((b.toNat : Int) == 95) = true := by cases ((b.toNat : Int) == 95) <;> simp
  have gn : (48 ≤ (b.toNat : Int)) = False ∨ ((48 ≤ (b.toNat : Int)) = True ∧ ((b.toNat : Int) ≤ 57) = False) := by
    by_cases q : 48 ≤ (b.toNat : Int)
    · right; refine ⟨by simpa using q, by simp; omega⟩
    · left; simpa using q

  rcases gm with g9 | g9 <;> rcases gn with gx | ⟨gx, gy⟩
  all_goals clear g0
  all_goals
    go_enter Tryz.func76, Tryz.ntmps76
    go_wp2
    refine wp_loop_rounds 4 ?_
    rw [rounds_succ]
    go_wp2_with (first | (go_at_call_of 87 (Value.int IntKind.u8 a.toNat); refine (LA.out _).mono ?_; rintro e w' ⟨rfl, rfl⟩) | (go_at_call_of 87 (Value.int IntKind.u8 b.toNat); refine (LB.out _).mono ?_; rintro e w' ⟨rfl, rfl⟩))
    rw [rounds_succ]
    go_wp2_with (first | (go_at_call_of 87 (Value.int IntKind.u8 a.toNat); refine (LA.out _).mono ?_; rintro e w' ⟨rfl, rfl⟩) | (go_at_call_of 87 (Value.int IntKind.u8 b.toNat); refine (LB.out _).mono ?_; rintro e w' ⟨rfl, rfl⟩))
    go_ret2
    exact ⟨rfl, hbb⟩

set_option maxRecDepth 100000 in
set_option maxHeartbeats 4000000 in
theorem pu_hex_dig (a b : UInt8) (w : World) (h0 : ¬ (48 ≤ (a.toNat : Int) ∧ (a.toNat : Int) ≤ 57)) (h2 : 97 ≤ low8 a) (h3 : low8 a ≤ 102) (h9 : ((a.toNat : Int) == 95) = false) (g1 : 48 ≤ (b.toNat : Int)) (g2 : (b.toNat : Int) ≤ 57) (g9 : ((b.toNat : Int) == 95) = false) :
    Calls Tryz.prog 76 #[.string ⟨#[a, b]⟩, .int .i64 16, .int .i64 8] w fun e w' => e = .returned (.tuple #[.int .u64 ((low8 a - 97 + 10) * 16 + (b.toNat - 48 : Int)), .nilIface]) ∧ Below w.heap.size w w' := by
  have hcv := Lib.run_convert_string_bytes (P := Tryz.prog) w 9 59 5 ⟨#[a, b]⟩ Tryz.underlying9 Tryz.underlying59 Tryz.underlying5
  have hB0 : (Lib.bytesWorld w 5 ⟨#[a, b]⟩).cell? ⟨w.heap.size, 0, none⟩ = some (.int .u8 a.toNat) := Lib.bytesWorld_cell w 5 ⟨#[a, b]⟩ 0 (by show 0 < 2; decide)
  have hB1 : (Lib.bytesWorld w 5 ⟨#[a, b]⟩).cell? ⟨w.heap.size, 1, none⟩ = some (.int .u8 b.toNat) := Lib.bytesWorld_cell w 5 ⟨#[a, b]⟩ 1 (by show 1 < 2; decide)
  have hbb := Lib.bytesWorld_below w 5 ⟨#[a, b]⟩
  have ua : a.toNat < 256 := a.toNat_lt
  have ub : b.toNat < 256 := b.toNat_lt
  have LA : Hid (∀ W : World, Calls Tryz.prog 87 #[.int .u8 a.toNat] W fun e w' => e = .returned (.int .u8 (low8 a)) ∧ w' = W) := fun W => Tryz.internal_strconv_lower a.toNat W
  have LB : Hid (∀ W : World, Calls Tryz.prog 87 #[.int .u8 b.toNat] W fun e w' => e = .returned (.int .u8 (low8 b)) ∧ w' = W) := fun W => Tryz.internal_strconv_lower b.toNat W
  generalize Lib.bytesWorld w 5 ⟨#[a, b]⟩ = W1 at *
  have hn : (48 ≤ (a.toNat : Int)) = False ∨ ((48 ≤ (a.toNat : Int)) = True ∧ ((a.toNat : Int) ≤ 57) = False) := by
    by_cases q : 48 ≤ (a.toNat : Int)
    · right; refine ⟨by simpa using q, by simp; omega⟩
    · left; simpa using q

  rcases hn with hx | ⟨hx, hy⟩
  all_goals clear h0
  all_goals
    go_enter Tryz.func76, Tryz.ntmps76
    go_wp2
    refine wp_loop_rounds 4 ?_
    rw [rounds_succ]
    go_wp2_with (first | (go_at_call_of 87 (Value.int IntKind.u8 a.toNat); refine (LA.out _).mono ?_; rintro e w' ⟨rfl, rfl⟩) | (go_at_call_of 87 (Value.int IntKind.u8 b.toNat); refine (LB.out _).mono ?_; rintro e w' ⟨rfl, rfl⟩))
    rw [rounds_succ]
    go_wp2_with (first | (go_at_call_of 87 (Value.int IntKind.u8 a.toNat); refine (LA.out _).mono ?_; rintro e w' ⟨rfl, rfl⟩) | (go_at_call_of 87 (Value.int IntKind.u8 b.toNat); refine (LB.out _).mono ?_; rintro e w' ⟨rfl, rfl⟩))
    rw [rounds_succ]
    go_wp2
    go_ret2
    exact ⟨rfl, hbb⟩

set_option maxRecDepth 100000 in
set_option maxHeartbeats 4000000 in
theorem pu_hex_hex (a b : UInt8) (w : World) (h0 : ¬ (48 ≤ (a.toNat : Int) ∧ (a.toNat : Int) ≤ 57)) (h2 : 97 ≤ low8 a) (h3 : low8 a ≤ 102) (h9 : ((a.toNat : Int) == 95) = false) (g0 : ¬ (48 ≤ (b.toNat : Int) ∧ (b.toNat : Int) ≤ 57)) (g2 : 97 ≤ low8 b) (g3 : low8 b ≤ 102) (g9 : ((b.toNat : Int) == 95) = false) :
    Calls Tryz.prog 76 #[.string ⟨#[a, b]⟩, .int .i64 16, .int .i64 8] w fun e w' => e = .returned (.tuple #[.int .u64 ((low8 a - 97 + 10) * 16 + (low8 b - 97 + 10)), .nilIface]) ∧ Below w.heap.size w w' := by
  have hcv := Lib.run_convert_string_bytes (P := Tryz.prog) w 9 59 5 ⟨#[a, b]⟩ Tryz.underlying9 Tryz.underlying59 Tryz.underlying5
  have hB0 : (Lib.bytesWorld w 5 ⟨#[a, b]⟩).cell? ⟨w.heap.size, 0, none⟩ = some (.int .u8 a.toNat) := Lib.bytesWorld_cell w 5 ⟨#[a, b]⟩ 0 (by show 0 < 2; decide)
  have hB1 : (Lib.bytesWorld w 5 ⟨#[a, b]⟩).cell? ⟨w.heap.size, 1, none⟩ = some (.int .u8 b.toNat) := Lib.bytesWorld_cell w 5 ⟨#[a, b]⟩ 1 (by show 1 < 2; decide)
  have hbb := Lib.bytesWorld_below w 5 ⟨#[a, b]⟩
  have ua : a.toNat < 256 := a.toNat_lt
  have ub : b.toNat < 256 := b.toNat_lt
  have LA : Hid (∀ W : World, Calls Tryz.prog 87 #[.int .u8 a.toNat] W fun e w' => e = .returned (.int .u8 (low8 a)) ∧ w' = W) := fun W => Tryz.internal_strconv_lower a.toNat W
  have LB : Hid (∀ W : World, Calls Tryz.prog 87 #[.int .u8 b.toNat] W fun e w' => e = .returned (.int .u8 (low8 b)) ∧ w' = W) := fun W => Tryz.internal_strconv_lower b.toNat W
  generalize Lib.bytesWorld w 5 ⟨#[a, b]⟩ = W1 at *
  have hn : (48 ≤ (a.toNat : Int)) = False ∨ ((48 ≤ (a.toNat : Int)) = True ∧ ((a.toNat : Int) ≤ 57) = False) := by
    by_cases q : 48 ≤ (a.toNat : Int)
    · right; refine ⟨by simpa using q, by simp; omega⟩
    · left; simpa using q
  have gn : (48 ≤ (b.toNat : Int)) = False ∨ ((48 ≤ (b.toNat : Int)) = True ∧ ((b.toNat : Int) ≤ 57) = False) := by
    by_cases q : 48 ≤ (b.toNat : Int)
    · right; refine ⟨by simpa using q, by simp; omega⟩
    · left; simpa using q

  rcases hn with hx | ⟨hx, hy⟩ <;> rcases gn with gx | ⟨gx, gy⟩
  all_goals clear h0
  all_goals clear g0
  all_goals
    go_enter Tryz.func76, Tryz.ntmps76
    go_wp2
    refine wp_loop_rounds 4 ?_
    rw [rounds_succ]
    go_wp2_with (first | (go_at_call_of 87 (Value.int IntKind.u8 a.toNat); refine (LA.out _).mono ?_; rintro e w' ⟨rfl, rfl⟩) | (go_at_call_of 87 (Value.int IntKind.u8 b.toNat); refine (LB.out _).mono ?_; rintro e w' ⟨rfl, rfl⟩))
    rw [rounds_succ]
    go_wp2_with (first | (go_at_call_of 87 (Value.int IntKind.u8 a.toNat); refine (LA.out _).mono ?_; rintro e w' ⟨rfl, rfl⟩) | (go_at_call_of 87 (Value.int IntKind.u8 b.toNat); refine (LB.out _).mono ?_; rintro e w' ⟨rfl, rfl⟩))
    rw [rounds_succ]
    go_wp2
    go_ret2
    exact ⟨rfl, hbb⟩

set_option maxRecDepth 100000 in
set_option maxHeartbeats 4000000 in
theorem pu_hex_let (a b : UInt8) (w : World) (h0 : ¬ (48 ≤ (a.toNat : Int) ∧ (a.toNat : Int) ≤ 57)) (h2 : 97 ≤ low8 a) (h3 : low8 a ≤ 102) (h9 : ((a.toNat : Int) == 95) = false) (g0 : ¬ (48 ≤ (b.toNat : Int) ∧ (b.toNat : Int) ≤ 57)) (g2 : 102 < low8 b) (g3 : low8 b ≤ 122) (g9 : ((b.toNat : Int) == 95) = false) :
    Calls Tryz.prog 76 #[.string ⟨#[a, b]⟩, .int .i64 16, .int .i64 8] w fun e w' => e = .returned (.tuple #[.int .u64 0, .iface 109 (.int .i64 2)]) ∧ Below w.heap.size w w' := by
  have hcv := Lib.run_convert_string_bytes (P := Tryz.prog) w 9 59 5 ⟨#[a, b]⟩ Tryz.underlying9 Tryz.underlying59 Tryz.underlying5
  have hB0 : (Lib.bytesWorld w 5 ⟨#[a, b]⟩).cell? ⟨w.heap.size, 0, none⟩ = some (.int .u8 a.toNat) := Lib.bytesWorld_cell w 5 ⟨#[a, b]⟩ 0 (by show 0 < 2; decide)
  have hB1 : (Lib.bytesWorld w 5 ⟨#[a, b]⟩).cell? ⟨w.heap.size, 1, none⟩ = some (.int .u8 b.toNat) := Lib.bytesWorld_cell w 5 ⟨#[a, b]⟩ 1 (by show 1 < 2; decide)
  have hbb := Lib.bytesWorld_below w 5 ⟨#[a, b]⟩
  have ua : a.toNat < 256 := a.toNat_lt
  have ub : b.toNat < 256 := b.toNat_lt
  have LA : Hid (∀ W : World, Calls Tryz.prog 87 #[.int .u8 a.toNat] W fun e w' => e = .returned (.int .u8 (low8 a)) ∧ w' = W) := fun W => Tryz.internal_strconv_lower a.toNat W
  have LB : Hid (∀ W : World, Calls Tryz.prog 87 #[.int .u8 b.toNat] W fun e w' => e = .returned (.int .u8 (low8 b)) ∧ w' = W) := fun W => Tryz.internal_strconv_lower b.toNat W
  generalize Lib.bytesWorld w 5 ⟨#[a, b]⟩ = W1 at *
  have hn : (48 ≤ (a.toNat : Int)) = False ∨ ((48 ≤ (a.toNat : Int)) = True ∧ ((a.toNat : Int) ≤ 57) = False) := by
    by_cases q : 48 ≤ (a.toNat : Int)
    · right; refine ⟨by simpa using q, by simp; omega⟩
    · left; simpa using q
  have gn : (48 ≤ (b.toNat : Int)) = False ∨ ((48 ≤ (b.toNat : Int)) = True ∧ ((b.toNat : Int) ≤ 57) = False) := by
    by_cases q : 48 ≤ (b.toNat : Int)
    · right; refine ⟨by simpa using q, by simp; omega⟩
    · left; simpa using q

  rcases hn with hx | ⟨hx, hy⟩ <;> rcases gn with gx | ⟨gx, gy⟩
  all_goals clear h0
  all_goals clear g0
  all_goals
    go_enter Tryz.func76, Tryz.ntmps76
    go_wp2
    refine wp_loop_rounds 4 ?_
    rw [rounds_succ]
    go_wp2_with (first | (go_at_call_of 87 (Value.int IntKind.u8 a.toNat); refine (LA.out _).mono ?_; rintro e w' ⟨rfl, rfl⟩) | (go_at_call_of 87 (Value.int IntKind.u8 b.toNat); refine (LB.out _).mono ?_; rintro e w' ⟨rfl, rfl⟩))
    rw [rounds_succ]
    go_wp2_with (first | (go_at_call_of 87 (Value.int IntKind.u8 a.toNat); refine (LA.out _).mono ?_; rintro e w' ⟨rfl, rfl⟩) | (go_at_call_of 87 (Value.int IntKind.u8 b.toNat); refine (LB.out _).mono ?_; rintro e w' ⟨rfl, rfl⟩))
    go_ret2
    exact ⟨rfl, hbb⟩

set_option maxRecDepth 100000 in
set_option maxHeartbeats 4000000 in
theorem pu_hex_lss (a b : UInt8) (w : World) (h0 : ¬ (48 ≤ (a.toNat : Int) ∧ (a.toNat : Int) ≤ 57)) (h2 : 97 ≤ low8 a) (h3 : low8 a ≤ 102) (h9 : ((a.toNat : Int) == 95) = false) (g0 : ¬ (48 ≤ (b.toNat : Int) ∧ (b.toNat : Int) ≤ 57)) (g2 : low8 b < 97) (g3 : 0 ≤ low8 b) (g9 : ((b.toNat : Int) == 95) = false) :
    Calls Tryz.prog 76 #[.string ⟨#[a, b]⟩, .int .i64 16, .int .i64 8] w fun e w' => e = .returned (.tuple #[.int .u64 0, .iface 109 (.int .i64 2)]) ∧ Below w.heap.size w w' := by
  have hcv := Lib.run_convert_string_bytes (P := Tryz.prog) w 9 59 5 ⟨#[a, b]⟩ Tryz.underlying9 Tryz.underlying59 Tryz.underlying5
  have hB0 : (Lib.bytesWorld w 5 ⟨#[a, b]⟩).cell? ⟨w.heap.size, 0, none⟩ = some (.int .u8 a.toNat) := Lib.bytesWorld_cell w 5 ⟨#[a, b]⟩ 0 (by show 0 < 2; decide)
  have hB1 : (Lib.bytesWorld w 5 ⟨#[a, b]⟩).cell? ⟨w.heap.size, 1, none⟩ = some (.int .u8 b.toNat) := Lib.bytesWorld_cell w 5 ⟨#[a, b]⟩ 1 (by show 1 < 2; decide)
  have hbb := Lib.bytesWorld_below w 5 ⟨#[a, b]⟩
  have ua : a.toNat < 256 := a.toNat_lt
  have ub : b.toNat < 256 := b.toNat_lt
  have LA : Hid (∀ W : World, Calls Tryz.prog 87 #[.int .u8 a.toNat] W fun e w' => e = .returned (.int .u8 (low8 a)) ∧ w' = W) := fun W => Tryz.internal_strconv_lower a.toNat W
  have LB : Hid (∀ W : World, Calls Tryz.prog 87 #[.int .u8 b.toNat] W fun e w' => e = .returned (.int .u8 (low8 b)) ∧ w' = W) := fun W => Tryz.internal_strconv_lower b.toNat W
  generalize Lib.bytesWorld w 5 ⟨#[a, b]⟩ = W1 at *
  have hn : (48 ≤ (a.toNat : Int)) = False ∨ ((48 ≤ (a.toNat : Int)) = True ∧ ((a.toNat : Int) ≤ 57) = False) := by
    by_cases q : 48 ≤ (a.toNat : Int)
    · right; refine ⟨by simpa using q, by simp; omega⟩
    · left; simpa using q
  have gn : (48 ≤ (b.toNat : Int)) = False ∨ ((48 ≤ (b.toNat : Int)) = True ∧ ((b.toNat : Int) ≤ 57) = False) := by
    by_cases q : 48 ≤ (b.toNat : Int)
    · right; refine ⟨by simpa using q, by simp; omega⟩
    · left; simpa using q

  rcases hn with hx | ⟨hx, hy⟩ <;> rcases gn with gx | ⟨gx, gy⟩
  all_goals clear h0
  all_goals clear g0
  all_goals
    go_enter Tryz.func76, Tryz.ntmps76
    go_wp2
    refine wp_loop_rounds 4 ?_
    rw [rounds_succ]
    go_wp2_with (first | (go_at_call_of 87 (Value.int IntKind.u8 a.toNat); refine (LA.out _).mono ?_; rintro e w' ⟨rfl, rfl⟩) | (go_at_call_of 87 (Value.int IntKind.u8 b.toNat); refine (LB.out _).mono ?_; rintro e w' ⟨rfl, rfl⟩))
    rw [rounds_succ]
    go_wp2_with (first | (go_at_call_of 87 (Value.int IntKind.u8 a.toNat); refine (LA.out _).mono ?_; rintro e w' ⟨rfl, rfl⟩) | (go_at_call_of 87 (Value.int IntKind.u8 b.toNat); refine (LB.out _).mono ?_; rintro e w' ⟨rfl, rfl⟩))
    go_ret2
    exact ⟨rfl, hbb⟩

set_option maxRecDepth 100000 in
set_option maxHeartbeats 4000000 in
theorem pu_hex_gtr (a b : UInt8) (w : World) (h0 : ¬ (48 ≤ (a.toNat : Int) ∧ (a.toNat : Int) ≤ 57)) (h2 : 97 ≤ low8 a) (h3 : low8 a ≤ 102) (h9 : ((a.toNat : Int) == 95) = false) (g0 : ¬ (48 ≤ (b.toNat : Int) ∧ (b.toNat : Int) ≤ 57)) (g2 : 122 < low8 b) (g3 : low8 b ≤ 255) :
    Calls Tryz.prog 76 #[.string ⟨#[a, b]⟩, .int .i64 16, .int .i64 8] w fun e w' => e = .returned (.tuple #[.int .u64 0, .iface 109 (.int .i64 2)]) ∧ Below w.heap.size w w' := by
  have hcv := Lib.run_convert_string_bytes (P := Tryz.prog) w 9 59 5 ⟨#[a, b]⟩ Tryz.underlying9 Tryz.underlying59 Tryz.underlying5
  have hB0 : (Lib.bytesWorld w 5 ⟨#[a, b]⟩).cell? ⟨w.heap.size, 0, none⟩ = some (.int .u8 a.toNat) := Lib.bytesWorld_cell w 5 ⟨#[a, b]⟩ 0 (by show 0 < 2; decide)
  have hB1 : (Lib.bytesWorld w 5 ⟨#[a, b]⟩).cell? ⟨w.heap.size, 1, none⟩ = some (.int .u8 b.toNat) := Lib.bytesWorld_cell w 5 ⟨#[a, b]⟩ 1 (by show 1 < 2; decide)
  have hbb := Lib.bytesWorld_below w 5 ⟨#[a, b]⟩
  have ua : a.toNat < 256 := a.toNat_lt
  have ub : b.toNat < 256 := b.toNat_lt
  have LA : Hid (∀ W : World, Calls Tryz.prog 87 #[.int .u8 a.toNat] W fun e w' => e = .returned (.int .u8 (low8 a)) ∧ w' = W) := fun W => Tryz.internal_strconv_lower a.toNat W
  have LB : Hid (∀ W : World, Calls Tryz.prog 87 #[.int .u8 b.toNat] W fun e w' => e = .returned (.int .u8 (low8 b)) ∧ w' = W) := fun W => Tryz.internal_strconv_lower b.toNat W
  generalize Lib.bytesWorld w 5 ⟨#[a, b]⟩ = W1 at *
  have hn : (48 ≤ (a.toNat : Int)) = False ∨ ((48 ≤ (a.toNat : Int)) = True ∧ ((a.toNat : Int) ≤ 57) = False) := by
    by_cases q : 48 ≤ (a.toNat : Int)
    · right; refine ⟨by simpa using q, by simp; omega⟩
    · left; simpa using q
  have gm : ((b.toNat : Int) == 95) = false ∨ ((b.toNat : Int) == 95) = true := by cases ((b.toNat : Int) == 95) <;> simp
  have gn : (48 ≤ (b.toNat : Int)) = False ∨ ((48 ≤ (b.toNat : Int)) = True ∧ ((b.toNat : Int) ≤ 57) = False) := by
    by_cases q : 48 ≤ (b.toNat : Int)
    · right; refine ⟨by simpa using q, by simp; omega⟩
    · left; simpa using q

  rcases gm with g9 | g9 <;> rcases hn with hx | ⟨hx, hy⟩ <;> rcases gn with gx | ⟨gx, gy⟩
  all_goals clear h0
  all_goals clear g0
  all_goals
    go_enter Tryz.func76, Tryz.ntmps76
    go_wp2
    refine wp_loop_rounds 4 ?_
    rw [rounds_succ]
    go_wp2_with (first | (go_at_call_of 87 (Value.int IntKind.u8 a.toNat); refine (LA.out _).mono ?_; rintro e w' ⟨rfl, rfl⟩) | (go_at_call_of 87 (Value.int IntKind.u8 b.toNat); refine (LB.out _).mono ?_; rintro e w' ⟨rfl, rfl⟩))
    rw [rounds_succ]
    go_wp2_with (first | (go_at_call_of 87 (Value.int IntKind.u8 a.toNat); refine (LA.out _).mono ?_; rintro e w' ⟨rfl, rfl⟩) | (go_at_call_of 87 (Value.int IntKind.u8 b.toNat); refine (LB.out _).mono ?_; rintro e w' ⟨rfl, rfl⟩))
    go_ret2
    exact ⟨rfl, hbb⟩

end Go.Proofs.YtmegombglkcccaaGreatDoor
