/- The plain mathematics of texts of values: ParseInt of a number's digits, the cut at a slash; the walk of strings.Cut at a slash. -/
import Derived.Test.YtgmmhgbodddadaaGreatDoorZ01
import Derived.Lib.AppendStr
import Derived.Lib.UnsafeStr
import Derived.Lib.MakeNoZero
import Derived.Laws.Externs
import Derived.OwnWalk
import Derived.LoopN
import Derived.Lib.AppendIntMem
import Derived.Lib.ItoaLen
import Derived.Lib.ConvBytes
import Derived.Lib.AtoiErrMem
import Derived.Deep.DeepCutAuto
import Derived.Laws.EntriesVeiled
import Derived.Handy
import Derived.ChangeKeysEq
import Derived.Deep.Cut
import Derived.BigQuiet
import Derived.ArgAppend
import Derived.Laws.OwnMore

namespace Go.Proofs.YtgmmhgbodddadaaGreatDoor
open Go.RowKit Go.Shelf

theorem bg0 {n : Nat} {W0 W w1 : World} (h0 : Below n W0 W) (hn : n ≤ W.heap.size) (hb : Below W.heap.size W w1) : Below n W0 w1 ∧ n ≤ w1.heap.size := ⟨h0.trans (hb.mono hn), Nat.le_trans hn hb.size⟩

theorem may_of {n d : Int} (h : mayB n d = true) : 0 < d ∧ Nat.Coprime n.natAbs d.toNat := by
  unfold mayB oE oN oD at h
  by_cases hd : d = 0
  · simp [hd] at h
  · simp only [hd, if_false, Bool.and_eq_true, beq_iff_eq] at h
    obtain ⟨h1, h2, h3⟩ := h
    have hs : 0 < sz d := by unfold sz; omega
    have hg := gc_pos (sz (ofP n d)) (sz d) hs
    have hdv := gc_dvd_right (sz (ofP n d)) (sz d) (by omega)
    unfold rE outE at h1
    unfold rD outD at h3
    unfold rN outN at h2
    split at h1
    · rename_i hok
      rw [if_pos hok] at h2 h3
      have hp : 0 < d := by
        have : 0 ≤ sz d / gc (sz (ofP n d)) (sz d) := Int.ediv_nonneg (by omega) (by omega)
        omega
      have e1 : sz d = d := sz_of_nonneg (by omega)
      have e2 : ofP n d = n := by unfold ofP sg; simp [show ¬ d < 0 by omega]
      rw [e1, e2] at h3 hdv hg
      have e3 := Int.ediv_mul_cancel hdv
      rw [h3] at e3
      have e4 : gc (sz n) d = 1 := by
        have : d * gc (sz n) d = d * 1 := by rw [e3, Int.mul_one]
        exact Int.eq_of_mul_eq_mul_left (by omega) this
      refine ⟨hp, ?_⟩
      unfold gc sz at e4
      have : Nat.gcd ((n.natAbs : Int)).toNat d.toNat = 1 := by omega
      simpa using this
    · simp at h1

end Go.Proofs.YtgmmhgbodddadaaGreatDoor

namespace Go.Proofs.YtgmmhgbodddadaaGreatDoor
open Go.RowKit Go.Shelf

theorem szB : (Tryz.prog.info? 62).map (·.size) = some 2 := by kernel_rfl
theorem inB : (Tryz.prog.info? 5).map (fun i => (i.zero, i.size, i.bytes)) = some (some (.int .u8 0), 1, 1) := by kernel_rfl

set_option maxHeartbeats 1000000 in
set_option maxRecDepth 100000 in
theorem ck_used (b : Nat) (w : World) (h0 : w.cell? ⟨b, 0, none⟩ = some (.pointer (some ⟨b, 0, none⟩))) :
    Calls Tryz.prog 53 #[.pointer (some ⟨b, 0, none⟩)] w fun e w' => e = .returned (.tuple #[]) ∧ w' = w := by
  obtain ⟨j, hj, _⟩ := Option.map_eq_some_iff.1 szB
  have hr := Lib.run_neq_ptr_same (P := Tryz.prog) w ⟨b, 0, none⟩ Tryz.underlying59 hj
  go_enter Tryz.func53, Tryz.ntmps53
  go_wp2
  go_end0
  exact ⟨rfl, rfl⟩

set_option maxHeartbeats 1000000 in
set_option maxRecDepth 100000 in
theorem ck_fresh (b : Nat) (w : World) (h0 : w.cell? ⟨b, 0, none⟩ = some (.pointer none)) (hsh : w.shape? b = some (62, 2)) (hfz : w.frozen? ⟨b, 0, none⟩ = false) :
    Calls Tryz.prog 53 #[.pointer (some ⟨b, 0, none⟩)] w fun e w' => e = .returned (.tuple #[]) ∧ w' = w.setCell ⟨b, 0, none⟩ (.pointer (some ⟨b, 0, none⟩)) := by
  obtain ⟨j, hj, hjs⟩ := Option.map_eq_some_iff.1 szB
  have r1 := Lib.run_to_unsafe (P := Tryz.prog) w ⟨b, 0, none⟩ Tryz.underlying59 Tryz.underlying118 hj (by rw [hjs]; decide) hsh (Nat.zero_lt_succ 1)
  have r3 := Lib.run_from_unsafe (P := Tryz.prog) w ⟨b, 0, none⟩ Tryz.underlying118 Tryz.underlying59 hj hsh (by kernel_rfl)
  go_enter Tryz.func53, Tryz.ntmps53
  have r2 : (callFunc 74 #[.pointer (some ⟨b, 0, none⟩)]).run Tryz.prog w = .ok (.value (.pointer (some ⟨b, 0, none⟩))) w := by
    rw [run_callFunc_extern Tryz.func74 (by kernel_rfl) (by kernel_rfl) (by kernel_rfl) (e := Extern.AbiNoEscape.same) (by kernel_rfl), Lib.run_noEscape]
    rfl
  go_wp2
  go_end0
  exact ⟨rfl, rfl⟩

theorem ck (B b : Nat) (bs : List Value) (w : World) (h : Lib.IsBuilder 62 5 B b bs w) :
    Calls Tryz.prog 53 #[.pointer (some ⟨b, 0, none⟩)] w fun e w' => e = .returned (.tuple #[]) ∧ Lib.BuilderAt 62 5 B b (.pointer (some ⟨b, 0, none⟩)) bs w' ∧ Below B w w' := by
  rcases h with h | h
  · refine (ck_fresh b w h.cell0 h.shape h.frozen0).mono ?_
    rintro e w' ⟨rfl, rfl⟩
    exact ⟨rfl, h.used _, (Below.refl B w).setCell (p := ⟨b, 0, none⟩) h.1 _⟩
  · refine (ck_used b w h.cell0).mono ?_
    rintro e w' ⟨rfl, rfl⟩
    exact ⟨rfl, h, Below.refl B _⟩

set_option maxHeartbeats 2000000 in
set_option maxRecDepth 100000 in
/-- WriteByte: one byte more. -/
theorem wbyte (B b : Nat) (bs : List Value) (c : Int) (w : World) (h : Lib.IsBuilder 62 5 B b bs w) (hlen : bs.length + 1 ≤ 140737488355328) (hBw : B ≤ w.heap.size) :
    Calls Tryz.prog 31 #[.pointer (some ⟨b, 0, none⟩), .int .u8 c] w fun e w' => e = .returned .nilIface ∧ Lib.BuilderAt 62 5 B b (.pointer (some ⟨b, 0, none⟩)) (bs ++ [.int .u8 c]) w' ∧ Below B w w' := by
  obtain ⟨i0, hi, hz0, hz1, hz2⟩ := info_parts inB
  go_enter Tryz.func31, Tryz.ntmps31
  go_wp2_with (go_at_call 53; refine (ck B b bs _ h).mono ?_)
  rintro e w1 ⟨rfl, ⟨hB, v, hbk, hown, hne⟩, hb1⟩
  have s1 := hb1.size
  have c1 : w1.cell? ⟨b, 1, none⟩ = some v := by rw [Lib.cell_of_heap hbk]; rfl
  go_wp2_with (at_builtin; refine wpList_append_own _ rfl _ _ 60 rfl B 5 i0 (.int .u8 0) 1 1 Tryz.underlying60 hi hz0 hz1 hz2 rfl (by decide) _ _ _ rfl (hown.alloc _) ⟨w1.heap.size, 0, none⟩ 1 1 [.int .u8 c] rfl rfl ?c1 ?c2 ?c3 ?c4 ?c5 ?_)
  case c1 =>
    intro j u hj
    match j, hj with
    | 0, hj => simp at hj; subst hj; simp [Addr.add]
  case c2 => intro u hu; simp at hu; subst hu; rfl
  case c3 => unfold maxLen; omega
  case c4 => omega
  case c5 => simp; omega
  intro v' w2 hown' hgrow _
  have hlt : b < w1.heap.size := Lib.BuilderAt.lt ⟨hB, v, hbk, hown, hne⟩
  have hb2 : w2.heap[b]? = some (.cells #[.pointer (some ⟨b, 0, none⟩), v] 62 (0, 0)) := by
    rw [hgrow.block b (by simp; omega) (fun e => hne e.symm), Lib.alloc_old w1 _ b hlt]
    exact hbk
  have d1 : w2.cell? ⟨b, 1, none⟩ = some v := by rw [Lib.cell_of_heap hb2]; rfl
  have f1 : w2.frozen? ⟨b, 1, none⟩ = false := Lib.frozen_of_heap hb2 1
  obtain ⟨g, cap, rfl⟩ : ∃ g cap, v' = .slice (some ⟨g, 0, none⟩) (bs.length + 1) cap := by
    rcases hown'.2 with ⟨_, h0⟩ | ⟨g, cap, cur, hv, _⟩
    · omega
    · exact ⟨g, cap, hv⟩
  go_wp2
  go_ret
  refine ⟨rfl, ?_, ?_⟩
  · exact Lib.BuilderAt.put (T := 62) (e := 5) hB hb2 (bs' := bs ++ [.int .u8 c]) (by simpa using hown') (by decide)
  · exact ((hb1.alloc (by omega) _).grown hgrow (by simp; omega) (fun k hk => (hown.lt k hk).1)).setCell (p := ⟨b, 1, none⟩) hB _

set_option maxHeartbeats 2000000 in
set_option maxRecDepth 100000 in
/-- WriteString: some bytes more. -/
theorem wstr (B b : Nat) (bs : List Value) (s : ByteArray) (w : World) (h : Lib.IsBuilder 62 5 B b bs w) (hlen : bs.length + s.size ≤ 140737488355328) (hBw : B ≤ w.heap.size) :
    Calls Tryz.prog 29 #[.pointer (some ⟨b, 0, none⟩), .string s] w fun e w' => e = .returned (.tuple #[.int .i64 s.size, .nilIface]) ∧ Lib.BuilderAt 62 5 B b (.pointer (some ⟨b, 0, none⟩)) (bs ++ Lib.strCells s) w' ∧ Below B w w' := by
  obtain ⟨i0, hi, hz0, hz1, hz2⟩ := info_parts inB
  go_enter Tryz.func29, Tryz.ntmps29
  go_wp2_with (go_at_call 53; refine (ck B b bs _ h).mono ?_)
  rintro e w1 ⟨rfl, ⟨hB, v, hbk, hown, hne⟩, hb1⟩
  have s1 := hb1.size
  have c1 : w1.cell? ⟨b, 1, none⟩ = some v := by rw [Lib.cell_of_heap hbk]; rfl
  go_wp2_with (at_builtin; refine Lib.wpList_append_own_string _ rfl _ _ 60 9 rfl B 5 i0 Tryz.underlying60 Tryz.underlying9 hi hz0 hz1 hz2 _ _ _ rfl hown s rfl ?c3 ?c4 ?c5 ?_)
  case c3 => unfold maxLen; omega
  case c4 => omega
  case c5 => omega
  intro v' w2 hown' hgrow _
  have hlt : b < w1.heap.size := Lib.BuilderAt.lt ⟨hB, v, hbk, hown, hne⟩
  have hb2 : w2.heap[b]? = some (.cells #[.pointer (some ⟨b, 0, none⟩), v] 62 (0, 0)) := by
    rw [hgrow.block b hlt (fun e => hne e.symm)]
    exact hbk
  have d1 : w2.cell? ⟨b, 1, none⟩ = some v := by rw [Lib.cell_of_heap hb2]; rfl
  have f1 : w2.frozen? ⟨b, 1, none⟩ = false := Lib.frozen_of_heap hb2 1
  obtain ⟨ao, n', cap, rfl⟩ : ∃ ao n' cap, v' = .slice ao n' cap := by
    rcases hown'.2 with ⟨hv, _⟩ | ⟨g, cap, cur, hv, _⟩
    · exact ⟨_, _, _, hv⟩
    · exact ⟨_, _, _, hv⟩
  go_wp2
  go_ret2
  refine ⟨rfl, ?_, ?_⟩
  · exact Lib.BuilderAt.put (T := 62) (e := 5) hB hb2 (bs' := bs ++ Lib.strCells s) (by simpa [Lib.strCells_length] using hown') (by decide)
  · exact (hb1.grown hgrow (by omega) (fun k hk => (hown.lt k hk).1)).setCell (p := ⟨b, 1, none⟩) hB _

end Go.Proofs.YtgmmhgbodddadaaGreatDoor

namespace Go.Proofs.YtgmmhgbodddadaaGreatDoor
open Go.RowKit Go.Shelf

def hexd (n : Nat) : UInt8 := if n < 10 then (48 + n).toUInt8 else (87 + n).toUInt8
/-- A byte in a string's text. -/
def esc (c : UInt8) : List UInt8 := if c.toNat = 34 ∨ c.toNat = 92 then [92, c] else if 32 ≤ c.toNat ∧ c.toNat ≤ 126 then [c] else [92, 120, hexd (c.toNat / 16), hexd (c.toNat % 16)]
def inside (l : List UInt8) : List UInt8 := l.flatMap esc
def quoted (l : List UInt8) : List UInt8 := 34 :: inside l ++ [34]

theorem esc_len (c : UInt8) : (esc c).length ≤ 4 := by
  unfold esc; split
  · simp
  · split <;> simp
theorem inside_len (l : List UInt8) : (inside l).length ≤ 4 * l.length := by
  induction l with
  | nil => simp [inside]
  | cons c l ih =>
    have := esc_len c
    simp only [inside, List.flatMap_cons, List.length_append, List.length_cons] at ih ⊢
    omega
theorem inside_snoc (l : List UInt8) (c : UInt8) : inside (l ++ [c]) = inside l ++ esc c := by simp [inside]
theorem inside_take (s : ByteArray) (k : Nat) (h : k < s.size) : inside (s.data.toList.take (k + 1)) = inside (s.data.toList.take k) ++ esc s[k] := by
  rw [← inside_snoc]
  congr 1
  have h' : k < s.data.toList.length := by simpa using h
  rw [List.take_succ_eq_append_getElem h']
  rfl
theorem cells_snoc (l : List UInt8) (c : UInt8) : Lib.byteCells l ++ [.int .u8 c.toNat] = Lib.byteCells (l ++ [c]) := by simp [Lib.byteCells]

theorem hex_all : ∀ i : Fin 16, (⟨#[48, 49, 50, 51, 52, 53, 54, 55, 56, 57, 97, 98, 99, 100, 101, 102]⟩ : ByteArray)[i.1]'i.2 = hexd i.1 := by decide
theorem hex_tab (n : Nat) (h : n < 16) : (⟨#[48, 49, 50, 51, 52, 53, 54, 55, 56, 57, 97, 98, 99, 100, 101, 102]⟩ : ByteArray)[n]'h = hexd n := hex_all ⟨n, h⟩

set_option maxHeartbeats 4000000 in
set_option maxRecDepth 100000 in
theorem quote_any (s : ByteArray) (w : World) (hs : s.size ≤ 35184372088830) :
    Calls Tryz.prog 132 #[.string s] w fun e w' => e = .returned (.string ⟨(quoted s.data.toList).toArray⟩) ∧ Below w.heap.size w w' := by
  go_enter Tryz.func132, Tryz.ntmps132
  go_wp2_with fail
  refine (wbyte w.heap.size w.heap.size [] 34 _ (Lib.fresh_isBuilder _ _ w) (by simp) (by simp)).mono ?_
  rintro e w1 ⟨rfl, h1, hb1⟩
  go_wp2
  go_loopw [9] (fun i wr => ∃ k : Nat, k ≤ s.size ∧ i = .int .i64 k ∧ Hid (Lib.IsBuilder 62 5 w.heap.size w.heap.size (Lib.byteCells (34 :: inside (s.data.toList.take k))) wr) ∧ Below w.heap.size w wr) (fun i _ => s.size - (intOf i).toNat)
  case atStart => exact ⟨0, by omega, rfl, Or.inr h1, (Below.refl _ w |>.alloc (Nat.le_refl _) _).trans hb1⟩
  case round =>
    obtain ⟨k, hk, rfl, hI, hB⟩ := hrel
    have hsz := hB.size
    by_cases hke : k = s.size
    · subst hke
      have e0 : s.data.toList.take s.size = s.data.toList := List.take_of_length_le (by simp)
      rw [e0] at hI
      have hl := inside_len s.data.toList
      have hl2 : s.data.toList.length = s.size := by simp
      go_wp2_with fail
      refine (wbyte w.heap.size w.heap.size _ 34 _ hI.out (by rw [Lib.byteCells_length]; simp; omega) hsz).mono ?_
      rintro e w2 ⟨rfl, h2, hb2⟩
      have h2' : Hid (Lib.IsBuilder 62 5 w.heap.size w.heap.size (Lib.byteCells (quoted s.data.toList)) w2) := by
        have := cells_snoc (34 :: inside s.data.toList) 34
        unfold quoted
        refine Or.inr ?_
        rw [← this]; exact h2
      have hB2 := hB.trans hb2
      clear h2 hI
      go_wp2_with fail
      refine (Tryz.Builder_String_any w.heap.size w.heap.size _ _ h2'.out hB2.size).mono ?_
      rintro e w3 ⟨rfl, hb3⟩
      go_wp2
      go_ret
      exact ⟨rfl, hB2.trans hb3⟩
    · have hk' : (k : Int) < s.size := by omega
      have hkk : k < s.size := by omega
      have hstep := inside_take s k hkk
      have hl := inside_len (s.data.toList.take k)
      have hl2 : (s.data.toList.take k).length ≤ k := by simp; omega
      have hbd : (Lib.byteCells (34 :: inside (s.data.toList.take k))).length + 4 ≤ 140737488355328 := by rw [Lib.byteCells_length]; simp; omega
      have HS : Hid (inside (s.data.toList.take (k + 1)) = inside (s.data.toList.take k) ++ esc s[k]) := hstep
      clear hstep hl hl2
      have hu : s[k].toNat < 256 := s[k].toNat_lt
      obtain ⟨c, hc⟩ : ∃ c : UInt8, s[k] = c := ⟨_, rfl⟩
      rw [hc] at hu
      rw [hc] at HS
      by_cases a1 : (c.toNat : Int) = 34 ∨ (c.toNat : Int) = 92
      · rcases a1 with a1 | a1
        · obtain rfl : c = 34 := UInt8.toNat_inj.1 (show c.toNat = 34 from (by omega))
          have he : Hid (esc 34 = [92, 34]) := (show esc 34 = [92, 34] from (by decide))
          clear a1 hu
          go_wp2_with fail
          refine (wbyte w.heap.size w.heap.size _ _ _ hI.out (by omega) hsz).mono ?_
          rintro e w2 ⟨rfl, h2, hb2⟩
          have s2 := hb2.size
          have h2' : Hid (Lib.IsBuilder 62 5 w.heap.size w.heap.size (Lib.byteCells (34 :: inside (s.data.toList.take k)) ++ [Value.int IntKind.u8 92]) w2) := Or.inr h2
          clear h2
          go_wp2_with fail
          refine (wbyte w.heap.size w.heap.size _ _ _ h2'.out (by simp; omega) (by omega)).mono ?_
          rintro e w3 ⟨rfl, h3, hb3⟩
          go_wp2
          refine ⟨⟨k + 1, by omega, by simp, ?_, (hB.trans hb2).trans hb3⟩, by simp [intOf]; omega⟩
          have h4 : Lib.IsBuilder 62 5 w.heap.size w.heap.size (Lib.byteCells (34 :: inside (s.data.toList.take (k + 1)))) w3 := by
            have e1 := cells_snoc (34 :: inside (s.data.toList.take k)) 92
            have e2 := cells_snoc (34 :: inside (s.data.toList.take k) ++ [92]) 34
            rw [HS.out, he.out, ← List.cons_append, show ([92, 34] : List UInt8) = [92] ++ [34] from rfl, ← List.append_assoc, ← e2, ← e1]
            exact Or.inr h3
          exact h4
        · obtain rfl : c = 92 := UInt8.toNat_inj.1 (show c.toNat = 92 from (by omega))
          have he : Hid (esc 92 = [92, 92]) := (show esc 92 = [92, 92] from (by decide))
          clear a1 hu
          go_wp2_with fail
          refine (wbyte w.heap.size w.heap.size _ _ _ hI.out (by omega) hsz).mono ?_
          rintro e w2 ⟨rfl, h2, hb2⟩
          have s2 := hb2.size
          have h2' : Hid (Lib.IsBuilder 62 5 w.heap.size w.heap.size (Lib.byteCells (34 :: inside (s.data.toList.take k)) ++ [Value.int IntKind.u8 92]) w2) := Or.inr h2
          clear h2
          go_wp2_with fail
          refine (wbyte w.heap.size w.heap.size _ _ _ h2'.out (by simp; omega) (by omega)).mono ?_
          rintro e w3 ⟨rfl, h3, hb3⟩
          go_wp2
          refine ⟨⟨k + 1, by omega, by simp, ?_, (hB.trans hb2).trans hb3⟩, by simp [intOf]; omega⟩
          have h4 : Lib.IsBuilder 62 5 w.heap.size w.heap.size (Lib.byteCells (34 :: inside (s.data.toList.take (k + 1)))) w3 := by
            have e1 := cells_snoc (34 :: inside (s.data.toList.take k)) 92
            have e2 := cells_snoc (34 :: inside (s.data.toList.take k) ++ [92]) 92
            rw [HS.out, he.out, ← List.cons_append, show ([92, 92] : List UInt8) = [92] ++ [92] from rfl, ← List.append_assoc, ← e2, ← e1]
            exact Or.inr h3
          exact h4
      · have a2 : ((c.toNat : Int) == 34) = false := by simp; omega
        have a3 : ((c.toNat : Int) == 92) = false := by simp; omega
        by_cases a4 : 32 ≤ (c.toNat : Int) ∧ (c.toNat : Int) ≤ 126
        · have he : Hid (esc c = [c]) := by unfold Hid esc; rw [if_neg (by omega), if_pos (by omega)]
          obtain ⟨a5, a6⟩ := a4
          go_wp2_with fail
          refine (wbyte w.heap.size w.heap.size _ _ _ hI.out (by omega) hsz).mono ?_
          rintro e w2 ⟨rfl, h2, hb2⟩
          go_wp2
          refine ⟨⟨k + 1, by omega, by simp, ?_, hB.trans hb2⟩, by simp [intOf]; omega⟩
          have h3 : Lib.IsBuilder 62 5 w.heap.size w.heap.size (Lib.byteCells (34 :: inside (s.data.toList.take (k + 1)))) w2 := by
            rw [HS.out, he.out, ← List.cons_append, ← cells_snoc]
            exact Or.inr h2
          exact h3
        · have he : Hid (esc c = [92, 120, hexd (c.toNat / 16), hexd (c.toNat % 16)]) := by unfold Hid esc; rw [if_neg (by omega), if_neg (by omega)]
          by_cases a5 : 32 ≤ (c.toNat : Int)
          · have a6 : ((c.toNat : Int) ≤ 126) = False := by simp; omega
            go_wp2_with fail
            refine (wstr w.heap.size w.heap.size _ _ _ hI.out (show _ + 2 ≤ 140737488355328 from (by omega)) hsz).mono ?_
            rintro e w2 ⟨rfl, h2, hb2⟩
            have s2 := hb2.size
            have h2' : Hid (Lib.IsBuilder 62 5 w.heap.size w.heap.size (Lib.byteCells (34 :: inside (s.data.toList.take k)) ++ Lib.strCells ⟨#[92, 120]⟩) w2) := Or.inr h2
            have l2 : (Lib.byteCells (34 :: inside (s.data.toList.take k)) ++ Lib.strCells ⟨#[92, 120]⟩).length + 2 ≤ 140737488355328 := by
              have : (Lib.strCells ⟨#[92, 120]⟩).length = 2 := rfl
              rw [List.length_append]; omega
            clear h2
            go_wp2_with fail
            refine (wbyte w.heap.size w.heap.size _ _ _ h2'.out (by omega) (by omega)).mono ?_
            rintro e w3 ⟨rfl, h3, hb3⟩
            have s3 := hb3.size
            have h3' : Hid (Lib.IsBuilder 62 5 w.heap.size w.heap.size _ w3) := Or.inr h3
            clear h3
            go_wp2_with fail
            refine (wbyte w.heap.size w.heap.size _ _ _ h3'.out (by rw [List.length_append]; simp only [List.length_cons, List.length_nil]; omega) (by omega)).mono ?_
            rintro e w4 ⟨rfl, h4, hb4⟩
            go_wp2
            refine ⟨⟨k + 1, by omega, by simp, ?_, ((hB.trans hb2).trans hb3).trans hb4⟩, by simp [intOf]; omega⟩
            have h5 : Lib.IsBuilder 62 5 w.heap.size w.heap.size (Lib.byteCells (34 :: inside (s.data.toList.take (k + 1)))) w4 := by
              rw [HS.out, he.out, ← hex_tab (c.toNat / 16) (by omega), ← hex_tab (c.toNat % 16) (by omega)]
              refine Or.inr ?_
              simp only [Lib.byteCells, Lib.strCells, List.map_cons, List.map_append, List.map_nil, List.cons_append, List.append_assoc, List.nil_append] at h4 ⊢
              exact h4
            exact h5
          · have a6 : (32 ≤ (c.toNat : Int)) = False := by simp; omega
            go_wp2_with fail
            refine (wstr w.heap.size w.heap.size _ _ _ hI.out (show _ + 2 ≤ 140737488355328 from (by omega)) hsz).mono ?_
            rintro e w2 ⟨rfl, h2, hb2⟩
            have s2 := hb2.size
            have h2' : Hid (Lib.IsBuilder 62 5 w.heap.size w.heap.size (Lib.byteCells (34 :: inside (s.data.toList.take k)) ++ Lib.strCells ⟨#[92, 120]⟩) w2) := Or.inr h2
            have l2 : (Lib.byteCells (34 :: inside (s.data.toList.take k)) ++ Lib.strCells ⟨#[92, 120]⟩).length + 2 ≤ 140737488355328 := by
              have : (Lib.strCells ⟨#[92, 120]⟩).length = 2 := rfl
              rw [List.length_append]; omega
            clear h2
            go_wp2_with fail
            refine (wbyte w.heap.size w.heap.size _ _ _ h2'.out (by omega) (by omega)).mono ?_
            rintro e w3 ⟨rfl, h3, hb3⟩
            have s3 := hb3.size
            have h3' : Hid (Lib.IsBuilder 62 5 w.heap.size w.heap.size _ w3) := Or.inr h3
            clear h3
            go_wp2_with fail
            refine (wbyte w.heap.size w.heap.size _ _ _ h3'.out (by rw [List.length_append]; simp only [List.length_cons, List.length_nil]; omega) (by omega)).mono ?_
            rintro e w4 ⟨rfl, h4, hb4⟩
            go_wp2
            refine ⟨⟨k + 1, by omega, by simp, ?_, ((hB.trans hb2).trans hb3).trans hb4⟩, by simp [intOf]; omega⟩
            have h5 : Lib.IsBuilder 62 5 w.heap.size w.heap.size (Lib.byteCells (34 :: inside (s.data.toList.take (k + 1)))) w4 := by
              rw [HS.out, he.out, ← hex_tab (c.toNat / 16) (by omega), ← hex_tab (c.toNat % 16) (by omega)]
              refine Or.inr ?_
              simp only [Lib.byteCells, Lib.strCells, List.map_cons, List.map_append, List.map_nil, List.cons_append, List.append_assoc, List.nil_append] at h4 ⊢
              exact h4
            exact h5

end Go.Proofs.YtgmmhgbodddadaaGreatDoor

namespace Go.Proofs.YtgmmhgbodddadaaGreatDoor
open Go.RowKit Go.Shelf

/-- May a value be, its length aside? -/
def pureB (k n d : Int) (s : ByteArray) : Bool := if k = 1 then d == 0 && s.toList.isEmpty else if k = 2 then mayB n d && s.toList.isEmpty else if k = 3 then n == 0 && d == 0 else false
/-- Why a value may not be. -/
def chk (k n d : Int) (s : ByteArray) : Int := if pureB k n d s = false then 20 else if 64 < s.size then 2 else 0

theorem ret_bool {a b : Bool} (h : a = b) : Ending.returned (.bool a) = .returned (.bool b) := by rw [h]

set_option maxRecDepth 100000 in
set_option maxHeartbeats 1000000 in
theorem pure_any (k n d : Int) (s : ByteArray) (w : World) (h1 : -9223372036854775808 ≤ n) (h2 : n ≤ 9223372036854775807) (g1 : -9223372036854775808 ≤ d) (g2 : d ≤ 9223372036854775807) :
    Calls Tryz.prog 96 #[.agg #[.int .i64 k, .int .i64 n, .int .i64 d, .string s]] w fun e w' => e = .returned (.bool (pureB k n d s)) ∧ Below w.heap.size w w' := by
  by_cases k1 : k = 1
  · subst k1
    cases hd : d == 0
    · go_enter Tryz.func96, Tryz.ntmps96
      go_wp2
      go_ret
      exact ⟨ret_bool (by simp [pureB, hd]), by go_grown⟩
    · have hd' : d = 0 := by simpa using hd
      subst hd'
      go_enter Tryz.func96, Tryz.ntmps96
      go_wp2
      go_ret
      exact ⟨ret_bool (by simp [pureB]), by go_grown⟩
  · have k1' : (k == 1) = false := by simpa using k1
    by_cases k2 : k = 2
    · subst k2
      have e0 : pureB 2 n d s = (mayB n d && s.toList.isEmpty) := by simp [pureB]
      rw [e0]
      by_cases a1 : oE n d = 0
      · cases m : (oN n d == n && oD n d == d)
        · go_enter Tryz.func96, Tryz.ntmps96
          go_wp2_with (first
            | (go_at_call 113; refine (of_all _ _ _ h1 h2 g1 g2).mono ?_; rintro e w1 ⟨rfl, hb⟩; obtain ⟨hc, hf, hz, hB⟩ := bf (w := w) (by go_grown) hb; simp only [World.size_alloc] at hz; have z0 : w.heap.size < w1.heap.size := (by omega)))
          all_goals
            go_ret
            exact ⟨ret_bool (by simp_all [mayB]), by go_grown⟩
        · go_enter Tryz.func96, Tryz.ntmps96
          go_wp2_with (first
            | (go_at_call 113; refine (of_all _ _ _ h1 h2 g1 g2).mono ?_; rintro e w1 ⟨rfl, hb⟩; obtain ⟨hc, hf, hz, hB⟩ := bf (w := w) (by go_grown) hb; simp only [World.size_alloc] at hz; have z0 : w.heap.size < w1.heap.size := (by omega)))
          all_goals
            go_ret
            exact ⟨ret_bool (by simp_all [mayB]), by go_grown⟩
      · have a2 : (oE n d == 0) = false := by simpa using a1
        go_enter Tryz.func96, Tryz.ntmps96
        go_wp2_with (first
          | (go_at_call 113; refine (of_all _ _ _ h1 h2 g1 g2).mono ?_; rintro e w1 ⟨rfl, hb⟩; obtain ⟨hc, hf, hz, hB⟩ := bf (w := w) (by go_grown) hb; simp only [World.size_alloc] at hz; have z0 : w.heap.size < w1.heap.size := (by omega)))
        all_goals
          go_ret
          exact ⟨ret_bool (by simp [mayB, a2]), by go_grown⟩
    · have k2' : (k == 2) = false := by simpa using k2
      by_cases k3 : k = 3
      · subst k3
        have e0 : pureB 3 n d s = (n == 0 && d == 0) := by simp [pureB]
        rw [e0]
        cases hn : n == 0
        · go_enter Tryz.func96, Tryz.ntmps96
          go_wp2
          go_ret
          exact ⟨ret_bool (by simp), by go_grown⟩
        · go_enter Tryz.func96, Tryz.ntmps96
          go_wp2
          go_ret
          exact ⟨ret_bool (by simp), by go_grown⟩
      · have k3' : (k == 3) = false := by simpa using k3
        have e0 : pureB k n d s = false := by simp [pureB, k1, k2, k3]
        rw [e0]
        go_enter Tryz.func96, Tryz.ntmps96
        go_wp2
        go_ret
        exact ⟨rfl, by go_grown⟩

end Go.Proofs.YtgmmhgbodddadaaGreatDoor

namespace Go.Proofs.YtgmmhgbodddadaaGreatDoor
open Go.RowKit Go.Shelf

set_option maxRecDepth 100000 in
set_option maxHeartbeats 1000000 in
theorem check_any (k n d : Int) (s : ByteArray) (w : World) (h1 : -9223372036854775808 ≤ n) (h2 : n ≤ 9223372036854775807) (g1 : -9223372036854775808 ≤ d) (g2 : d ≤ 9223372036854775807) :
    Calls Tryz.prog 69 #[.agg #[.int .i64 k, .int .i64 n, .int .i64 d, .string s]] w fun e w' => e = .returned (.int .i64 (chk k n d s)) ∧ Below w.heap.size w w' := by
  cases hp : pureB k n d s
  · have e0 : chk k n d s = 20 := by simp [chk, hp]
    rw [e0]
    go_enter Tryz.func69, Tryz.ntmps69
    go_wp2_with fail
    refine (pure_any k n d s _ h1 h2 g1 g2).mono ?_
    rintro e w1 ⟨rfl, hb⟩
    obtain ⟨hc, hf, hz, hB⟩ := bf (w := w) (by go_grown) hb
    rw [hp]
    go_wp2
    go_ret
    exact ⟨rfl, hB⟩
  · by_cases hl : 64 < s.size
    · have e0 : chk k n d s = 2 := by simp [chk, hp, hl]
      rw [e0]
      have hl' : (64 : Int) < s.size := by omega
      go_enter Tryz.func69, Tryz.ntmps69
      go_wp2_with fail
      refine (pure_any k n d s _ h1 h2 g1 g2).mono ?_
      rintro e w1 ⟨rfl, hb⟩
      obtain ⟨hc, hf, hz, hB⟩ := bf (w := w) (by go_grown) hb
      rw [hp]
      go_wp2
      go_ret
      exact ⟨rfl, hB⟩
    · have e0 : chk k n d s = 0 := by simp [chk, hp, hl]
      rw [e0]
      have hl' : ((64 : Int) < s.size) = False := by simp; omega
      go_enter Tryz.func69, Tryz.ntmps69
      go_wp2_with fail
      refine (pure_any k n d s _ h1 h2 g1 g2).mono ?_
      rintro e w1 ⟨rfl, hb⟩
      obtain ⟨hc, hf, hz, hB⟩ := bf (w := w) (by go_grown) hb
      rw [hp]
      go_wp2
      go_ret
      exact ⟨rfl, hB⟩

end Go.Proofs.YtgmmhgbodddadaaGreatDoor

namespace Go.Proofs.YtgmmhgbodddadaaGreatDoor

end Go.Proofs.YtgmmhgbodddadaaGreatDoor

namespace Go.Proofs.YtgmmhgbodddadaaGreatDoor
open Go.RowKit

/-- The digits of a number. -/
def g0 (x : Int) : Int := x % 4294967296
def g1 (x : Int) : Int := x / 4294967296 % 4294967296
def g2 (x : Int) : Int := x / 18446744073709551616 % 4294967296
def g3 (x : Int) : Int := x / 79228162514264337593543950336 % 4294967296
end Go.Proofs.YtgmmhgbodddadaaGreatDoor

namespace Go.Proofs.YtgmmhgbodddadaaGreatDoor
open Go.RowKit

theorem wp_world {P : Program} {c : Code} {Q : Exit → Act → World → Prop} {a : Act} {w : World} (h : ∀ W, W = w → c.wp P Q a W) : c.wp P Q a w := h w rfl

end Go.Proofs.YtgmmhgbodddadaaGreatDoor

namespace Go.Proofs.YtgmmhgbodddadaaGreatDoor
open Go.RowKit Go.Shelf

/-- The table of the powers of ten lies as it was laid. -/
def Pow (w : World) : Prop := Lib.TabIs Tryz.prog w "internal/strconv.uint64pow10" .u64 Lib.pow10Tab
theorem Pow.below {w W : World} (h : Pow w) (hb : Below w.heap.size w W) : Pow W := Lib.tabBelow_of_tabIs h W hb

theorem below_grow (w : World) (k : Nat) (os : Array Obj) : Below w.heap.size w (Sort.grow (w.drewN k) os) :=
  ⟨rfl, rfl, rfl, by simp [Sort.grow], fun i hi => by simp [Sort.grow, Array.getElem?_append, hi]⟩

set_option maxRecDepth 100000 in
set_option maxHeartbeats 400000 in
theorem dec_any (n : Int) (w : World) (h1 : -9223372036854775808 ≤ n) (h2 : n ≤ 9223372036854775807) (ht : Pow w) :
    Calls Tryz.prog 131 #[.int .i64 n] w fun e w' => e = .returned (.string ⟨(Lib.itoa n).toArray⟩) ∧ Below w.heap.size w w' := by
  go_enter Tryz.func131, Tryz.ntmps131
  go_wp2_with fail
  refine (Tryz.strconv_FormatInt_10 n h1 h2 _ ht).mono ?_
  rintro e w1 ⟨rfl, k, os, rfl⟩
  go_wp2
  go_ret
  exact ⟨rfl, below_grow w k os⟩

set_option maxRecDepth 100000 in
set_option maxHeartbeats 1000000 in
theorem text_rat (n d : Int) (s : ByteArray) (w : World) (h1 : -9223372036854775808 ≤ n) (h2 : n ≤ 9223372036854775807) (g1 : -9223372036854775808 ≤ d) (g2 : d ≤ 9223372036854775807) (ht : Pow w) :
    Calls Tryz.prog 112 #[.agg #[.int .i64 2, .int .i64 n, .int .i64 d, .string s]] w fun e w' => e = .returned (.string ⟨(Lib.itoa n ++ 47 :: Lib.itoa d).toArray⟩) ∧ Below w.heap.size w w' := by
  go_enter Tryz.func112, Tryz.ntmps112
  go_upto_region 5 with fail
  refine wp_world ?_
  intro W0 hW0
  have c1 : W0.cell? ⟨w.heap.size, 1, none⟩ = some (.int .i64 n) := by rw [hW0]; simp [go_sem]
  have c2 : W0.cell? ⟨w.heap.size, 2, none⟩ = some (.int .i64 d) := by rw [hW0]; simp [go_sem]
  have k0 : Below w.heap.size w W0 := by rw [hW0]; go_grown
  have k1 : w.heap.size < W0.heap.size := by rw [hW0]; simp
  clear hW0
  have lA := Lib.itoa_length_le n h1 h2
  have lB := Lib.itoa_length_le d g1 g2
  obtain ⟨A, eA⟩ : ∃ A : ByteArray, A = ⟨(Lib.itoa n).toArray⟩ := ⟨_, rfl⟩
  obtain ⟨B, eB⟩ : ∃ B : ByteArray, B = ⟨(Lib.itoa d).toArray⟩ := ⟨_, rfl⟩
  have sA : A.size ≤ 21 := by rw [eA]; show (Lib.itoa n).toArray.size ≤ 21; simpa using lA
  have sB : B.size ≤ 21 := by rw [eB]; show (Lib.itoa d).toArray.size ≤ 21; simpa using lB
  have DA := fun (W : World) (h : Pow W) => dec_any n W h1 h2 h
  have DB := fun (W : World) (h : Pow W) => dec_any d W g1 g2 h
  rw [← eA] at DA
  rw [← eB] at DB
  obtain ⟨C, eC⟩ : ∃ C : ByteArray, C = A ++ ⟨#[47]⟩ := ⟨_, rfl⟩
  have sC : C.size ≤ 22 := by rw [eC, ByteArray.size_append]; have : (⟨#[47]⟩ : ByteArray).size = 1 := rfl
                              omega
  have x1 : ∀ W : World, (Op.stringOp .add A ⟨#[47]⟩).run Tryz.prog W = .ok (.string C) W := fun W => by
    rw [run_string_add_sum W _ _ (by have : (⟨#[47]⟩ : ByteArray).size = 1 := rfl
                                     omega), eC]
  have x2 : ∀ W : World, (Op.stringOp .add C B).run Tryz.prog W = .ok (.string (C ++ B)) W := fun W => run_string_add_sum W _ _ (by omega)
  have eF : Hid (C ++ B = ⟨(Lib.itoa n ++ 47 :: Lib.itoa d).toArray⟩) := by
    rw [eC, eA, eB]
    apply ByteArray.ext
    simp
  have DA' : Hid (∀ W : World, Pow W → Calls Tryz.prog 131 #[.int .i64 n] W fun e w' => e = .returned (.string A) ∧ Below W.heap.size W w') := DA
  have DB' : Hid (∀ W : World, Pow W → Calls Tryz.prog 131 #[.int .i64 d] W fun e w' => e = .returned (.string B) ∧ Below W.heap.size W w') := DB
  clear DA DB eA eB eC sA sB sC lA lB
  go_region_held3 (fun w' => w'.cell? ⟨w.heap.size, 1, none⟩ = some (.int .i64 n) ∧ w'.cell? ⟨w.heap.size, 2, none⟩ = some (.int .i64 d)) (exact ⟨bcl (n := W0.heap.size) (by go_grown) c1 k1, bcl (n := W0.heap.size) (by go_grown) c2 k1⟩)
    (first
      | (go_at_call_of 131 (Value.int IntKind.i64 n); refine (DA'.out _ (ht.below (k0.trans (Below.mono (B := W0.heap.size) (by go_grown) k0.size)))).mono ?_; rintro e w1 ⟨rfl, hb1⟩; obtain ⟨hB1, hn1⟩ := bg0 (n := W0.heap.size) (W0 := W0) (by go_grown) (by go_size) hb1)
      | (go_at_call_of 131 (Value.int IntKind.i64 d); refine (DB'.out _ (ht.below (k0.trans (Below.mono (B := W0.heap.size) (by go_grown) k0.size)))).mono ?_; rintro e w2 ⟨rfl, hb2⟩; obtain ⟨hB2, hn2⟩ := bg0 (n := W0.heap.size) (W0 := W0) (by go_grown) (by go_size) hb2))
  all_goals
    go_wp2
    go_ret
    exact ⟨by rw [eF.out]; rfl, k0.trans (Below.mono (B := W0.heap.size) (by go_grown) k0.size)⟩

set_option maxRecDepth 100000 in
set_option maxHeartbeats 1000000 in
theorem text_int (n d : Int) (s : ByteArray) (w : World) (h1 : -9223372036854775808 ≤ n) (h2 : n ≤ 9223372036854775807) (ht : Pow w) :
    Calls Tryz.prog 112 #[.agg #[.int .i64 1, .int .i64 n, .int .i64 d, .string s]] w fun e w' => e = .returned (.string ⟨(Lib.itoa n).toArray⟩) ∧ Below w.heap.size w w' := by
  go_enter Tryz.func112, Tryz.ntmps112
  go_wp2_with fail
  refine (dec_any n _ h1 h2 (ht.below (by go_grown))).mono ?_
  rintro e w1 ⟨rfl, hb⟩
  obtain ⟨hc, hf, hz, hB⟩ := bf (w := w) (by go_grown) hb
  go_wp2
  go_ret
  exact ⟨rfl, hB⟩

set_option maxRecDepth 100000 in
set_option maxHeartbeats 1000000 in
theorem text_str (k n d : Int) (s : ByteArray) (w : World) (hs : s.size ≤ 35184372088830) (k1 : (k == 1) = false) (k2 : (k == 2) = false) :
    Calls Tryz.prog 112 #[.agg #[.int .i64 k, .int .i64 n, .int .i64 d, .string s]] w fun e w' => e = .returned (.string ⟨(quoted s.data.toList).toArray⟩) ∧ Below w.heap.size w w' := by
  go_enter Tryz.func112, Tryz.ntmps112
  go_wp2_with fail
  refine (quote_any s _ hs).mono ?_
  rintro e w1 ⟨rfl, hb⟩
  obtain ⟨hc, hf, hz, hB⟩ := bf (w := w) (by go_grown) hb
  go_wp2
  go_ret
  exact ⟨rfl, hB⟩

/-- A value's text. -/
def vtext (k n d : Int) (s : ByteArray) : List UInt8 := if k = 1 then Lib.itoa n else if k = 2 then Lib.itoa n ++ 47 :: Lib.itoa d else quoted s.data.toList

theorem text_any (k n d : Int) (s : ByteArray) (w : World) (h1 : -9223372036854775808 ≤ n) (h2 : n ≤ 9223372036854775807) (g1 : -9223372036854775808 ≤ d) (g2 : d ≤ 9223372036854775807) (hs : s.size ≤ 35184372088830) (ht : Pow w) :
    Calls Tryz.prog 112 #[.agg #[.int .i64 k, .int .i64 n, .int .i64 d, .string s]] w fun e w' => e = .returned (.string ⟨(vtext k n d s).toArray⟩) ∧ Below w.heap.size w w' := by
  unfold vtext
  by_cases k1 : k = 1
  · subst k1; exact text_int n d s w h1 h2 ht
  · rw [if_neg k1]
    by_cases k2 : k = 2
    · subst k2; exact text_rat n d s w h1 h2 g1 g2 ht
    · rw [if_neg k2]; exact text_str k n d s w hs (by simpa using k1) (by simpa using k2)

theorem chk_size {k n d : Int} {s : ByteArray} (h : chk k n d s = 0) : s.size ≤ 64 := by
  unfold chk at h
  split at h
  · cases h
  · split at h
    · cases h
    · omega

set_option maxRecDepth 100000 in
set_option maxHeartbeats 1000000 in
theorem print_any (k n d : Int) (s : ByteArray) (w : World) (h1 : -9223372036854775808 ≤ n) (h2 : n ≤ 9223372036854775807) (g1 : -9223372036854775808 ≤ d) (g2 : d ≤ 9223372036854775807) (ht : Pow w) :
    Calls Tryz.prog 92 #[.agg #[.int .i64 k, .int .i64 n, .int .i64 d, .string s]] w fun e w' => e = .returned (.tuple #[.string ⟨(if chk k n d s = 0 then vtext k n d s else []).toArray⟩, .int .i64 (chk k n d s)]) ∧ Below w.heap.size w w' := by
  by_cases hc0 : chk k n d s = 0
  · have hs := chk_size hc0
    rw [if_pos hc0, hc0]
    go_enter Tryz.func92, Tryz.ntmps92
    go_wp2_with fail
    refine (check_any k n d s _ h1 h2 g1 g2).mono ?_
    rintro e w1 ⟨rfl, hb⟩
    obtain ⟨hc, hf, hz, hB⟩ := bf (w := w) (by go_grown) hb
    rw [hc0]
    have ht1 := ht.below hB
    go_wp2_with fail
    refine (text_any k n d s _ h1 h2 g1 g2 (by omega) ht1).mono ?_
    rintro e w2 ⟨rfl, hb2⟩
    go_wp2
    go_ret2
    exact ⟨rfl, hB.trans (hb2.mono hB.size)⟩
  · rw [if_neg hc0]
    have hc1 : (chk k n d s != 0) = true := by simpa using hc0
    go_enter Tryz.func92, Tryz.ntmps92
    go_wp2_with fail
    refine (check_any k n d s _ h1 h2 g1 g2).mono ?_
    rintro e w1 ⟨rfl, hb⟩
    obtain ⟨hc, hf, hz, hB⟩ := bf (w := w) (by go_grown) hb
    go_wp2
    go_ret2
    exact ⟨rfl, hB⟩

end Go.Proofs.YtgmmhgbodddadaaGreatDoor

namespace Go.Proofs.YtgmmhgbodddadaaGreatDoor
open Go.RowKit Go.Shelf

theorem isB_below {T e : TypeId} {B b : Nat} {bs : List Value} {w W : World} (h : Lib.IsBuilder T e B b bs w) (hb : Below w.heap.size w W) : Lib.IsBuilder T e B b bs W := by
  have go : ∀ p, Lib.BuilderAt T e B b p bs w → Lib.BuilderAt T e B b p bs W := by
    intro p h
    have hlt := h.lt
    obtain ⟨hB, v, hbk, hown, hne⟩ := h
    exact ⟨hB, v, (hb.block b hlt).trans hbk, hown.kept (row := none) ⟨hb.os, hb.tape, hb.output, hb.size, fun k hk _ => hb.block k hk⟩ (Classical.em _), hne⟩
  rcases h with h | h
  · exact Or.inl (go _ h)
  · exact Or.inr (go _ h)

/-- A block that holds a value, which may be written. -/
structure BlkV (W : World) (B : Nat) (k n d : Int) (s : ByteArray) : Prop where
  c0 : W.cell? ⟨B, 0, none⟩ = some (.int .i64 k)
  c1 : W.cell? ⟨B, 1, none⟩ = some (.int .i64 n)
  c2 : W.cell? ⟨B, 2, none⟩ = some (.int .i64 d)
  c3 : W.cell? ⟨B, 3, none⟩ = some (.string s)
  f0 : W.frozen? ⟨B, 0, none⟩ = false
  f1 : W.frozen? ⟨B, 1, none⟩ = false
  f2 : W.frozen? ⟨B, 2, none⟩ = false
  f3 : W.frozen? ⟨B, 3, none⟩ = false
theorem BlkV.below {W W' : World} {B m : Nat} {k n d : Int} {s : ByteArray} (h : BlkV W B k n d s) (hb : Below m W W') (hB : B < m) : BlkV W' B k n d s :=
  ⟨(hb.cell (p := ⟨B, 0, none⟩) hB).trans h.c0, (hb.cell (p := ⟨B, 1, none⟩) hB).trans h.c1, (hb.cell (p := ⟨B, 2, none⟩) hB).trans h.c2, (hb.cell (p := ⟨B, 3, none⟩) hB).trans h.c3,
   (hb.frozen (p := ⟨B, 0, none⟩) hB).trans h.f0, (hb.frozen (p := ⟨B, 1, none⟩) hB).trans h.f1, (hb.frozen (p := ⟨B, 2, none⟩) hB).trans h.f2, (hb.frozen (p := ⟨B, 3, none⟩) hB).trans h.f3⟩
theorem BlkV.four {W : World} {B : Nat} {k n d k' n' d' : Int} {s s' : ByteArray} (h : BlkV W B k n d s) : BlkV ((((W.setCell ⟨B, 0, none⟩ (.int .i64 k')).setCell ⟨B, 1, none⟩ (.int .i64 n')).setCell ⟨B, 2, none⟩ (.int .i64 d')).setCell ⟨B, 3, none⟩ (.string s')) B k' n' d' s' := by
  obtain ⟨c0, c1, c2, c3, f0, f1, f2, f3⟩ := h
  constructor <;> simp (maxDischargeDepth := 12) [go_sem, c0, c1, c2, c3, f0, f1, f2, f3]

end Go.Proofs.YtgmmhgbodddadaaGreatDoor

namespace Go.Proofs.YtgmmhgbodddadaaGreatDoor
open Go.RowKit Go.Shelf

end Go.Proofs.YtgmmhgbodddadaaGreatDoor

namespace Go.Proofs.YtgmmhgbodddadaaGreatDoor
open Go.RowKit Go.Shelf

end Go.Proofs.YtgmmhgbodddadaaGreatDoor

namespace Go.Proofs.YtgmmhgbodddadaaGreatDoor
open Go.RowKit Go.Shelf

end Go.Proofs.YtgmmhgbodddadaaGreatDoor

namespace Go.Proofs.YtgmmhgbodddadaaGreatDoor
open Go.RowKit Go.Shelf

end Go.Proofs.YtgmmhgbodddadaaGreatDoor

namespace Go.Proofs.YtgmmhgbodddadaaGreatDoor
open Go.RowKit Go.Shelf

end Go.Proofs.YtgmmhgbodddadaaGreatDoor

namespace Go.Proofs.YtgmmhgbodddadaaGreatDoor
open Go.RowKit Go.Shelf

/-- What a call tells: N, D, the error: if both fractions may be that of p / q, else nothing and ErrArg. -/
def both (a b c d : Int) : Bool := mayB a b && mayB c d
/-- How two fractions stand to one another. -/
def cmpV (a b c d : Int) : Int := if both a b c d then (if a * d < c * b then -1 else if c * b < a * d then 1 else 0) else 0

end Go.Proofs.YtgmmhgbodddadaaGreatDoor

namespace Go.Proofs.YtgmmhgbodddadaaGreatDoor
open Go.RowKit Go.Shelf

/-- A block that holds a fraction, which may be written. -/
structure BlkR (W : World) (B : Nat) (n d : Int) : Prop where
  c0 : W.cell? ⟨B, 0, none⟩ = some (.int .i64 n)
  c1 : W.cell? ⟨B, 1, none⟩ = some (.int .i64 d)
theorem BlkR.below {W W' : World} {B m : Nat} {n d : Int} (h : BlkR W B n d) (hb : Below m W W') (hB : B < m) : BlkR W' B n d :=
  ⟨(hb.cell (p := ⟨B, 0, none⟩) hB).trans h.c0, (hb.cell (p := ⟨B, 1, none⟩) hB).trans h.c1⟩

end Go.Proofs.YtgmmhgbodddadaaGreatDoor

namespace Go.Proofs.YtgmmhgbodddadaaGreatDoor
open Go.RowKit Go.Shelf

end Go.Proofs.YtgmmhgbodddadaaGreatDoor

namespace Go.Proofs.YtgmmhgbodddadaaGreatDoor
open Go.RowKit Go.Shelf

end Go.Proofs.YtgmmhgbodddadaaGreatDoor

namespace Go.Proofs.YtgmmhgbodddadaaGreatDoor
open Go.RowKit Go.Shelf

end Go.Proofs.YtgmmhgbodddadaaGreatDoor

namespace Go.Proofs.YtgmmhgbodddadaaGreatDoor
open Go.RowKit Go.Shelf

end Go.Proofs.YtgmmhgbodddadaaGreatDoor

namespace Go.Proofs.YtgmmhgbodddadaaGreatDoor
open Go.RowKit Go.Shelf

end Go.Proofs.YtgmmhgbodddadaaGreatDoor

namespace Go.Proofs.YtgmmhgbodddadaaGreatDoor
open Go.RowKit

/-- A block of four digits, which may be written. -/
structure Blk (W : World) (B : Nat) (v0 v1 v2 v3 : Int) : Prop where
  c0 : W.cell? ⟨B, 0, none⟩ = some (.int .u64 v0)
  c1 : W.cell? ⟨B, 1, none⟩ = some (.int .u64 v1)
  c2 : W.cell? ⟨B, 2, none⟩ = some (.int .u64 v2)
  c3 : W.cell? ⟨B, 3, none⟩ = some (.int .u64 v3)
  f0 : W.frozen? ⟨B, 0, none⟩ = false
  f1 : W.frozen? ⟨B, 1, none⟩ = false
  f2 : W.frozen? ⟨B, 2, none⟩ = false
  f3 : W.frozen? ⟨B, 3, none⟩ = false

theorem Blk.below {W W' : World} {B n : Nat} {v0 v1 v2 v3 : Int} (h : Blk W B v0 v1 v2 v3) (hb : Below n W W') (hB : B < n) : Blk W' B v0 v1 v2 v3 :=
  ⟨(hb.cell (p := ⟨B, 0, none⟩) hB).trans h.c0, (hb.cell (p := ⟨B, 1, none⟩) hB).trans h.c1, (hb.cell (p := ⟨B, 2, none⟩) hB).trans h.c2, (hb.cell (p := ⟨B, 3, none⟩) hB).trans h.c3,
   (hb.frozen (p := ⟨B, 0, none⟩) hB).trans h.f0, (hb.frozen (p := ⟨B, 1, none⟩) hB).trans h.f1, (hb.frozen (p := ⟨B, 2, none⟩) hB).trans h.f2, (hb.frozen (p := ⟨B, 3, none⟩) hB).trans h.f3⟩

theorem Blk.set0 {W : World} {B : Nat} {v0 v1 v2 v3 : Int} (h : Blk W B v0 v1 v2 v3) (x : Int) : Blk (W.setCell ⟨B, 0, none⟩ (.int .u64 x)) B x v1 v2 v3 := by
  obtain ⟨c0, c1, c2, c3, f0, f1, f2, f3⟩ := h
  constructor <;> simp (maxDischargeDepth := 12) [go_sem, c0, c1, c2, c3, f0, f1, f2, f3]
theorem Blk.set1 {W : World} {B : Nat} {v0 v1 v2 v3 : Int} (h : Blk W B v0 v1 v2 v3) (x : Int) : Blk (W.setCell ⟨B, 1, none⟩ (.int .u64 x)) B v0 x v2 v3 := by
  obtain ⟨c0, c1, c2, c3, f0, f1, f2, f3⟩ := h
  constructor <;> simp (maxDischargeDepth := 12) [go_sem, c0, c1, c2, c3, f0, f1, f2, f3]
theorem Blk.set2 {W : World} {B : Nat} {v0 v1 v2 v3 : Int} (h : Blk W B v0 v1 v2 v3) (x : Int) : Blk (W.setCell ⟨B, 2, none⟩ (.int .u64 x)) B v0 v1 x v3 := by
  obtain ⟨c0, c1, c2, c3, f0, f1, f2, f3⟩ := h
  constructor <;> simp (maxDischargeDepth := 12) [go_sem, c0, c1, c2, c3, f0, f1, f2, f3]
theorem Blk.set3 {W : World} {B : Nat} {v0 v1 v2 v3 : Int} (h : Blk W B v0 v1 v2 v3) (x : Int) : Blk (W.setCell ⟨B, 3, none⟩ (.int .u64 x)) B v0 v1 v2 x := by
  obtain ⟨c0, c1, c2, c3, f0, f1, f2, f3⟩ := h
  constructor <;> simp (maxDischargeDepth := 12) [go_sem, c0, c1, c2, c3, f0, f1, f2, f3]
theorem Blk.four {W : World} {B : Nat} {v0 v1 v2 v3 : Int} (h : Blk W B v0 v1 v2 v3) (x0 x1 x2 x3 : Int) : Blk ((((W.setCell ⟨B, 0, none⟩ (.int .u64 x0)).setCell ⟨B, 1, none⟩ (.int .u64 x1)).setCell ⟨B, 2, none⟩ (.int .u64 x2)).setCell ⟨B, 3, none⟩ (.int .u64 x3)) B x0 x1 x2 x3 :=
  (((h.set0 x0).set1 x1).set2 x2).set3 x3
theorem Blk.drew {W : World} {B : Nat} {v0 v1 v2 v3 : Int} (h : Blk W B v0 v1 v2 v3) : Blk W.drew B v0 v1 v2 v3 :=
  ⟨h.c0, h.c1, h.c2, h.c3, h.f0, h.f1, h.f2, h.f3⟩
theorem Blk.drewN {W : World} {B : Nat} {v0 v1 v2 v3 : Int} (h : Blk W B v0 v1 v2 v3) (n : Nat) : Blk (W.drewN n) B v0 v1 v2 v3 :=
  ⟨h.c0, h.c1, h.c2, h.c3, h.f0, h.f1, h.f2, h.f3⟩

end Go.Proofs.YtgmmhgbodddadaaGreatDoor

namespace Go.Proofs.YtgmmhgbodddadaaGreatDoor
open Go.RowKit

theorem Blk.fresh {W : World} {T : TypeId} {x0 x1 x2 x3 : Int} : Blk (W.alloc (.cells #[.int .u64 x0, .int .u64 x1, .int .u64 x2, .int .u64 x3] T)) W.heap.size x0 x1 x2 x3 := by
  constructor <;> simp (maxDischargeDepth := 12) [go_sem]
theorem Blk.alloc {W : World} {B : Nat} {O : Obj} {x0 x1 x2 x3 : Int} (h : Blk W B x0 x1 x2 x3) (hB : B < W.heap.size) : Blk (W.alloc O) B x0 x1 x2 x3 :=
  h.below (n := W.heap.size) ⟨rfl, rfl, rfl, by simp, fun k hk => Below.heap_alloc _ _ _ (by omega)⟩ hB

end Go.Proofs.YtgmmhgbodddadaaGreatDoor

namespace Go.Proofs.YtgmmhgbodddadaaGreatDoor
open Go.RowKit

/-- A block of two numbers, which may be written. -/
structure Blk2 (W : World) (B : Nat) (v0 v1 : Int) : Prop where
  c0 : W.cell? ⟨B, 0, none⟩ = some (.int .i64 v0)
  c1 : W.cell? ⟨B, 1, none⟩ = some (.int .i64 v1)
  f0 : W.frozen? ⟨B, 0, none⟩ = false
  f1 : W.frozen? ⟨B, 1, none⟩ = false
theorem Blk2.below {W W' : World} {B n : Nat} {v0 v1 : Int} (h : Blk2 W B v0 v1) (hb : Below n W W') (hB : B < n) : Blk2 W' B v0 v1 :=
  ⟨(hb.cell (p := ⟨B, 0, none⟩) hB).trans h.c0, (hb.cell (p := ⟨B, 1, none⟩) hB).trans h.c1, (hb.frozen (p := ⟨B, 0, none⟩) hB).trans h.f0, (hb.frozen (p := ⟨B, 1, none⟩) hB).trans h.f1⟩
theorem Blk2.two {W : World} {B : Nat} {v0 v1 : Int} (h : Blk2 W B v0 v1) (x0 x1 : Int) : Blk2 ((W.setCell ⟨B, 0, none⟩ (.int .i64 x0)).setCell ⟨B, 1, none⟩ (.int .i64 x1)) B x0 x1 := by
  obtain ⟨c0, c1, f0, f1⟩ := h
  constructor <;> simp (maxDischargeDepth := 12) [go_sem, c0, c1, f0, f1]
end Go.Proofs.YtgmmhgbodddadaaGreatDoor

namespace Go.Proofs.YtgmmhgbodddadaaGreatDoor
open Go.RowKit

end Go.Proofs.YtgmmhgbodddadaaGreatDoor

namespace Go.Proofs.YtgmmhgbodddadaaGreatDoor
open Go.RowKit

end Go.Proofs.YtgmmhgbodddadaaGreatDoor

namespace Go.Proofs.YtgmmhgbodddadaaGreatDoor
open Go.RowKit Go.Shelf

end Go.Proofs.YtgmmhgbodddadaaGreatDoor

namespace Go.Proofs.YtgmmhgbodddadaaGreatDoor
open Go.RowKit Go.Shelf

/-- Are two values the same? -/
def sameB (k n d : Int) (s : ByteArray) (k' n' d' : Int) (s' : ByteArray) : Bool := k == k' && (n == n' && (d == d' && s.toList == s'.toList))

end Go.Proofs.YtgmmhgbodddadaaGreatDoor

namespace Go.Proofs.YtgmmhgbodddadaaGreatDoor
open Go.RowKit Go.Shelf

end Go.Proofs.YtgmmhgbodddadaaGreatDoor

namespace Go.Proofs.YtgmmhgbodddadaaGreatDoor
open Go.RowKit Go.Shelf
set_option linter.unusedVariables false

/-- How two values stand to one another. -/
def vcmp (k n d : Int) (s : ByteArray) (k' n' d' : Int) (s' : ByteArray) : Int :=
  if chk k n d s = 0 then (if chk k' n' d' s' = 0 then (if k = k' then (if k = 1 then Lib.compareInt n n' else if k = 2 then cmpV n d n' d' else Lib.compareBytes s.data.toList s'.data.toList) else Lib.compareInt k k') else 0) else 0
theorem chk_kind {k n d : Int} {s : ByteArray} (h : chk k n d s = 0) : k = 1 ∨ k = 2 ∨ k = 3 := by
  by_cases k1 : k = 1
  · exact Or.inl k1
  · by_cases k2 : k = 2
    · exact Or.inr (Or.inl k2)
    · by_cases k3 : k = 3
      · exact Or.inr (Or.inr k3)
      · exfalso
        have e0 : chk k n d s = 20 := by simp [chk, pureB, k1, k2, k3]
        omega

end Go.Proofs.YtgmmhgbodddadaaGreatDoor

namespace Go.Proofs.YtgmmhgbodddadaaGreatDoor
open Go.RowKit Go.Shelf
set_option linter.unusedVariables false

theorem ocmp_yes {a b c d : Int} (h1 : mayB a b = true) (h2 : mayB c d = true) : cmpV a b c d = if a * d < c * b then -1 else if c * b < a * d then 1 else 0 := by simp [cmpV, both, h1, h2]
theorem ocmp_cases {a b c d : Int} (h1 : mayB a b = true) (h2 : mayB c d = true) : (cmpV a b c d = -1 ∧ a * d < c * b) ∨ (cmpV a b c d = 0 ∧ a * d = c * b) ∨ (cmpV a b c d = 1 ∧ c * b < a * d) := by
  rw [ocmp_yes h1 h2]
  by_cases h3 : a * d < c * b
  · exact Or.inl ⟨if_pos h3, h3⟩
  · rw [if_neg h3]
    by_cases h4 : c * b < a * d
    · exact Or.inr (Or.inr ⟨if_pos h4, h4⟩)
    · exact Or.inr (Or.inl ⟨if_neg h4, by omega⟩)

theorem oon_law {a b c d u v : Int} (h1 : mayB a b = true) (h2 : mayB c d = true) (h3 : mayB u v = true) (hab : cmpV a b c d ≤ 0) (hbc : cmpV c d u v ≤ 0) :
    cmpV a b u v ≤ 0 ∧ ((cmpV a b c d = 0 ∧ cmpV c d u v = 0) ↔ cmpV a b u v = 0) := by
  obtain ⟨pb, _⟩ := may_of h1
  obtain ⟨pd, _⟩ := may_of h2
  obtain ⟨pv, _⟩ := may_of h3
  have k1 : a * d ≤ c * b := by rcases ocmp_cases h1 h2 with ⟨e, h⟩ | ⟨e, h⟩ | ⟨e, h⟩ <;> omega
  have k2 : c * v ≤ u * d := by rcases ocmp_cases h2 h3 with ⟨e, h⟩ | ⟨e, h⟩ | ⟨e, h⟩ <;> omega
  have l1 := Int.mul_le_mul_of_nonneg_right k1 (Int.le_of_lt pv)
  have l2 := Int.mul_le_mul_of_nonneg_right k2 (Int.le_of_lt pb)
  have e1 : c * b * v = c * v * b := by grind
  have e2 : a * d * v = a * v * d := by grind
  have e3 : u * d * b = u * b * d := by grind
  have k3 : a * v * d ≤ u * b * d := by omega
  have k4 : a * v ≤ u * b := Int.le_of_mul_le_mul_right k3 pd
  refine ⟨?_, ?_, ?_⟩
  · rcases ocmp_cases h1 h3 with ⟨e, h⟩ | ⟨e, h⟩ | ⟨e, h⟩ <;> omega
  · rintro ⟨z1, z2⟩
    have m1 : a * d = c * b := by rcases ocmp_cases h1 h2 with ⟨e, h⟩ | ⟨e, h⟩ | ⟨e, h⟩ <;> omega
    have m2 : c * v = u * d := by rcases ocmp_cases h2 h3 with ⟨e, h⟩ | ⟨e, h⟩ | ⟨e, h⟩ <;> omega
    have m3 : a * v * d = u * b * d := by grind
    have m4 : a * v = u * b := Int.eq_of_mul_eq_mul_right (by omega) m3
    rcases ocmp_cases h1 h3 with ⟨e, h⟩ | ⟨e, h⟩ | ⟨e, h⟩ <;> omega
  · intro z
    have m : a * v = u * b := by rcases ocmp_cases h1 h3 with ⟨e, h⟩ | ⟨e, h⟩ | ⟨e, h⟩ <;> omega
    have m3 : a * v * d = u * b * d := by rw [m]
    have n1 : a * d * v = c * b * v := by omega
    have n2 : c * v * b = u * d * b := by omega
    have n3 : a * d = c * b := Int.eq_of_mul_eq_mul_right (by omega) n1
    have n4 : c * v = u * d := Int.eq_of_mul_eq_mul_right (by omega) n2
    constructor
    · rcases ocmp_cases h1 h2 with ⟨e, h⟩ | ⟨e, h⟩ | ⟨e, h⟩ <;> omega
    · rcases ocmp_cases h2 h3 with ⟨e, h⟩ | ⟨e, h⟩ | ⟨e, h⟩ <;> omega

/-- Two fractions in their least form that are worth the same are the same. -/
theorem ozero_law {a b c d : Int} (h1 : mayB a b = true) (h2 : mayB c d = true) : cmpV a b c d = 0 ↔ a = c ∧ b = d := by
  obtain ⟨pb, cb⟩ := may_of h1
  obtain ⟨pd, cd⟩ := may_of h2
  constructor
  · intro h
    have m : a * d = c * b := by rcases ocmp_cases h1 h2 with ⟨e, h⟩ | ⟨e, h⟩ | ⟨e, h⟩ <;> omega
    have mb : a.natAbs * d.toNat = c.natAbs * b.toNat := by
      have := congrArg Int.natAbs m
      rw [Int.natAbs_mul, Int.natAbs_mul] at this
      rwa [show d.natAbs = d.toNat by omega, show b.natAbs = b.toNat by omega] at this
    have d1 : b.toNat ∣ d.toNat := cb.symm.dvd_of_dvd_mul_left ⟨c.natAbs, by rw [mb, Nat.mul_comm]⟩
    have d2 : d.toNat ∣ b.toNat := cd.symm.dvd_of_dvd_mul_left ⟨a.natAbs, by rw [← mb, Nat.mul_comm]⟩
    have e : b.toNat = d.toNat := Nat.dvd_antisymm d1 d2
    have e' : b = d := by omega
    subst e'
    exact ⟨Int.eq_of_mul_eq_mul_right (by omega) m, rfl⟩
  · rintro ⟨rfl, rfl⟩
    rcases ocmp_cases h1 h2 with ⟨e, h⟩ | ⟨e, h⟩ | ⟨e, h⟩ <;> omega

theorem cb_range : ∀ (a b : List UInt8), -1 ≤ Lib.compareBytes a b ∧ Lib.compareBytes a b ≤ 1
  | [], [] => by simp [Lib.compareBytes]
  | [], _ :: _ => by simp [Lib.compareBytes]
  | _ :: _, [] => by simp [Lib.compareBytes]
  | x :: a, y :: b => by
    have ih := cb_range a b
    unfold Lib.compareBytes
    split
    · omega
    · split <;> omega
theorem cb_zero : ∀ (a b : List UInt8), Lib.compareBytes a b = 0 ↔ a = b
  | [], [] => by simp [Lib.compareBytes]
  | [], _ :: _ => by simp [Lib.compareBytes]
  | _ :: _, [] => by simp [Lib.compareBytes]
  | x :: a, y :: b => by
    have ih := cb_zero a b
    unfold Lib.compareBytes
    by_cases h : x < y
    · have h' : x ≠ y := UInt8.ne_of_lt h
      simp [h, h']
    · by_cases h2 : y < x
      · have h' : x ≠ y := (UInt8.ne_of_lt h2).symm
        simp [h, h2, h']
      · have e : x = y := UInt8.le_antisymm (UInt8.not_lt.1 h2) (UInt8.not_lt.1 h)
        simp [e, ih]
theorem cb_on : ∀ (a b c : List UInt8), Lib.compareBytes a b ≤ 0 → Lib.compareBytes b c ≤ 0 → Lib.compareBytes a c ≤ 0 ∧ ((Lib.compareBytes a b = 0 ∧ Lib.compareBytes b c = 0) ↔ Lib.compareBytes a c = 0)
  | [], [], [] => by simp [Lib.compareBytes]
  | [], [], _ :: _ => by simp [Lib.compareBytes]
  | [], _ :: _, [] => by simp [Lib.compareBytes]
  | _ :: _, [], _ => by simp [Lib.compareBytes]
  | _ :: _, _ :: _, [] => by simp [Lib.compareBytes]
  | [], y :: b, z :: c => by simp [Lib.compareBytes]
  | x :: a, y :: b, z :: c => by
    have ih := cb_on a b c
    unfold Lib.compareBytes
    rcases Nat.lt_trichotomy x.toNat y.toNat with h | h | h
    · have h1 : x < y := UInt8.lt_iff_toNat_lt.2 h
      rcases Nat.lt_trichotomy y.toNat z.toNat with g | g | g
      · have g1 : y < z := UInt8.lt_iff_toNat_lt.2 g
        have k1 : x < z := UInt8.lt_iff_toNat_lt.2 (by omega)
        simp [h1, g1, k1]
      · have g1 : y = z := UInt8.toNat_inj.1 g
        subst g1
        simp [h1]
      · have g1 : z < y := UInt8.lt_iff_toNat_lt.2 g
        have g2 : ¬ y < z := UInt8.lt_asymm g1
        simp [g1, g2]
    · have h1 : x = y := UInt8.toNat_inj.1 h
      subst h1
      have hi : ¬ x < x := UInt8.lt_irrefl x
      rcases Nat.lt_trichotomy x.toNat z.toNat with g | g | g
      · have g1 : x < z := UInt8.lt_iff_toNat_lt.2 g
        simp [hi, g1]
      · have g1 : x = z := UInt8.toNat_inj.1 g
        subst g1
        simp only [hi, if_false]
        exact ih
      · have g1 : z < x := UInt8.lt_iff_toNat_lt.2 g
        have g2 : ¬ x < z := UInt8.lt_asymm g1
        simp [g1, g2]
    · have h1 : y < x := UInt8.lt_iff_toNat_lt.2 h
      have h2 : ¬ x < y := UInt8.lt_asymm h1
      simp [h1, h2]

theorem toList_data (s : ByteArray) : s.toList = s.data.toList := by simp [ByteArray.toList_eq]

theorem chk1_of {n d : Int} {s : ByteArray} (h : chk 1 n d s = 0) : d = 0 ∧ s.toList = [] := by
  simp only [chk, pureB, if_true] at h
  split at h
  · omega
  · rename_i g
    simp at g
    exact g
theorem chk2_of {n d : Int} {s : ByteArray} (h : chk 2 n d s = 0) : mayB n d = true ∧ s.toList = [] := by
  simp only [chk, pureB, Int.reduceEq, if_false, if_true] at h
  split at h
  · omega
  · rename_i g
    simp at g
    exact g
theorem chk3_of {n d : Int} {s : ByteArray} (h : chk 3 n d s = 0) : n = 0 ∧ d = 0 := by
  simp only [chk, pureB, Int.reduceEq, if_false, if_true] at h
  split at h
  · omega
  · rename_i g
    simp at g
    exact g

/-- A value, as four plain things. -/
structure Val where
  k : Int
  n : Int
  d : Int
  s : ByteArray
/-- May a value be at all: its numbers fit 64 bits. -/
structure Val.Fits (x : Val) : Prop where
  n1 : -9223372036854775808 ≤ x.n
  n2 : x.n ≤ 9223372036854775807
  d1 : -9223372036854775808 ≤ x.d
  d2 : x.d ≤ 9223372036854775807
def Val.may (x : Val) : Int := chk x.k x.n x.d x.s
def Val.cmp (x y : Val) : Int := vcmp x.k x.n x.d x.s y.k y.n y.d y.s
def Val.same (x y : Val) : Bool := sameB x.k x.n x.d x.s y.k y.n y.d y.s

theorem Val.cmp_ok {x y : Val} (h : x.may = 0) (g : y.may = 0) : x.cmp y = if x.k = y.k then (if x.k = 1 then Lib.compareInt x.n y.n else if x.k = 2 then cmpV x.n x.d y.n y.d else Lib.compareBytes x.s.toList y.s.toList) else Lib.compareInt x.k y.k := by
  unfold Val.may at h g
  unfold Val.cmp vcmp
  rw [if_pos h, if_pos g, toList_data, toList_data]

theorem ci_cases (a b : Int) : (Lib.compareInt a b = -1 ∧ a < b) ∨ (Lib.compareInt a b = 0 ∧ a = b) ∨ (Lib.compareInt a b = 1 ∧ b < a) := by
  unfold Lib.compareInt
  rcases Int.lt_trichotomy a b with h | h | h
  · exact Or.inl ⟨if_pos h, h⟩
  · subst h; simp
  · exact Or.inr (Or.inr ⟨by rw [if_neg (by omega), if_pos h], h⟩)

theorem Val.cases {x : Val} (h : x.may = 0) : (x.k = 1 ∧ x.d = 0 ∧ x.s.toList = []) ∨ (x.k = 2 ∧ mayB x.n x.d = true ∧ x.s.toList = []) ∨ (x.k = 3 ∧ x.n = 0 ∧ x.d = 0) := by
  unfold Val.may at h
  rcases chk_kind h with e | e | e
  · rw [e] at h; exact Or.inl ⟨e, chk1_of h⟩
  · rw [e] at h; exact Or.inr (Or.inl ⟨e, chk2_of h⟩)
  · rw [e] at h; exact Or.inr (Or.inr ⟨e, chk3_of h⟩)

theorem Val.range (x y : Val) : -1 ≤ x.cmp y ∧ x.cmp y ≤ 1 := by
  unfold Val.cmp vcmp
  split
  · split
    · split
      · split
        · rcases ci_cases x.n y.n with h | h | h <;> omega
        · split
          · unfold cmpV
            split
            · split
              · omega
              · split <;> omega
            · omega
          · exact cb_range _ _
      · rcases ci_cases x.k y.k with h | h | h <;> omega
    · omega
  · omega

theorem Val.zero {x y : Val} (h : x.may = 0) (g : y.may = 0) : x.cmp y = 0 ↔ x.same y = true := by
  rw [Val.cmp_ok h g]
  unfold Val.same sameB
  by_cases e : x.k = y.k
  · rw [if_pos e]
    rcases Val.cases h with ⟨a, p, q⟩ | ⟨a, p, q⟩ | ⟨a, p, q⟩ <;> rcases Val.cases g with ⟨b, p', q'⟩ | ⟨b, p', q'⟩ | ⟨b, p', q'⟩ <;> try omega
    · rw [if_pos a, a, b, p, p', q, q']
      rcases ci_cases x.n y.n with h | h | h <;> simp <;> omega
    · rw [a, b, q, q']
      simp only [Int.reduceEq, if_false, if_true]
      rw [ozero_law p p']
      simp
    · rw [a, b, p, p', q, q']
      simp only [Int.reduceEq, if_false]
      rw [cb_zero]
      simp
  · rw [if_neg e]
    rcases ci_cases x.k y.k with h | h | h
    · simp [e, h.1]
    · exact absurd h.2 e
    · simp [e, h.1]

theorem Val.on {x y z : Val} (h : x.may = 0) (g : y.may = 0) (f : z.may = 0) (a : x.cmp y ≤ 0) (b : y.cmp z ≤ 0) : x.cmp z ≤ 0 ∧ ((x.cmp y = 0 ∧ y.cmp z = 0) ↔ x.cmp z = 0) := by
  rw [Val.cmp_ok h g] at a ⊢
  rw [Val.cmp_ok g f] at b ⊢
  rw [Val.cmp_ok h f]
  by_cases e1 : x.k = y.k
  · rw [if_pos e1] at a ⊢
    by_cases e2 : y.k = z.k
    · rw [if_pos e2] at b ⊢
      rw [if_pos (e1.trans e2)]
      rcases Val.cases h with ⟨k1, p, q⟩ | ⟨k1, p, q⟩ | ⟨k1, p, q⟩ <;> rcases Val.cases g with ⟨k2, p', q'⟩ | ⟨k2, p', q'⟩ | ⟨k2, p', q'⟩ <;> try omega
      · rw [if_pos k1] at a ⊢
        rw [if_pos k2] at b ⊢
        rw [if_pos k1]
        rcases ci_cases x.n y.n with h | h | h <;> rcases ci_cases y.n z.n with h' | h' | h' <;> rcases ci_cases x.n z.n with h'' | h'' | h'' <;> omega
      · rcases Val.cases f with ⟨k3, p'', q''⟩ | ⟨k3, p'', q''⟩ | ⟨k3, p'', q''⟩
        · omega
        · rw [k1] at a ⊢
          rw [k2] at b ⊢
          exact oon_law p p' p'' a b
        · omega
      · rw [k1] at a ⊢
        rw [k2] at b ⊢
        exact cb_on _ _ _ a b
    · rw [if_neg e2] at b ⊢
      rw [if_neg (by omega)]
      rw [e1]
      rcases ci_cases y.k z.k with h | h | h <;> omega
  · rw [if_neg e1] at a ⊢
    by_cases e2 : y.k = z.k
    · rw [if_neg (by omega), ← e2]
      rcases ci_cases x.k y.k with h | h | h <;> omega
    · rw [if_neg e2] at b ⊢
      rcases ci_cases x.k y.k with h | h | h <;> rcases ci_cases y.k z.k with h' | h' | h' <;> try omega
      rw [if_neg (by omega)]
      rcases ci_cases x.k z.k with h'' | h'' | h'' <;> omega

end Go.Proofs.YtgmmhgbodddadaaGreatDoor

namespace Go.Proofs.YtgmmhgbodddadaaGreatDoor
open Go.RowKit Go.Shelf
set_option linter.unusedVariables false

/-- A row's values lie at a place. -/
def Lies (w : World) (b off : Nat) (xs : List Val) : Prop :=
  ∀ i (h : i < xs.length), w.cell? ⟨b, off + i * 4, none⟩ = some (.int .i64 xs[i].k) ∧ w.cell? ⟨b, off + i * 4 + 1, none⟩ = some (.int .i64 xs[i].n) ∧ w.cell? ⟨b, off + i * 4 + 2, none⟩ = some (.int .i64 xs[i].d) ∧ w.cell? ⟨b, off + i * 4 + 3, none⟩ = some (.string xs[i].s)
theorem Lies.below {w w' : World} {b off : Nat} {xs : List Val} (h : Lies w b off xs) {B : Nat} (hb : Below B w w') (hlt : b < B) : Lies w' b off xs := fun i hi => by
  obtain ⟨c0, c1, c2, c3⟩ := h i hi
  exact ⟨(hb.cell (p := ⟨b, _, none⟩) hlt).trans c0, (hb.cell (p := ⟨b, _, none⟩) hlt).trans c1, (hb.cell (p := ⟨b, _, none⟩) hlt).trans c2, (hb.cell (p := ⟨b, _, none⟩) hlt).trans c3⟩

end Go.Proofs.YtgmmhgbodddadaaGreatDoor

namespace Go.Proofs.YtgmmhgbodddadaaGreatDoor
open Go.RowKit

end Go.Proofs.YtgmmhgbodddadaaGreatDoor

namespace Go.Proofs.YtgmmhgbodddadaaGreatDoor
open Go.RowKit Go.Shelf
set_option linter.unusedVariables false

end Go.Proofs.YtgmmhgbodddadaaGreatDoor

namespace Go.Proofs.YtgmmhgbodddadaaGreatDoor
open Go.RowKit Go.Shelf
set_option linter.unusedVariables false

end Go.Proofs.YtgmmhgbodddadaaGreatDoor

namespace Go.Proofs.YtgmmhgbodddadaaGreatDoor
open Go.RowKit Go.Shelf
set_option linter.unusedVariables false

theorem inV : (Tryz.prog.info? 50).map (fun i => (i.zero, i.size, i.bytes)) = some (some (.agg #[.int .i64 0, .int .i64 0, .int .i64 0, .string ⟨#[]⟩]), 4, 40) := by kernel_rfl

/-- The cells of a value, and of a row. -/
def vcells (x : Val) : List Value := [.int .i64 x.k, .int .i64 x.n, .int .i64 x.d, .string x.s]
def flat (xs : List Val) : List Value := xs.flatMap vcells
theorem flat_get : ∀ (xs : List Val) (i j : Nat) (h : i < xs.length), j < 4 → (flat xs)[i * 4 + j]? = (vcells xs[i])[j]?
  | [], i, j, h, _ => by simp at h
  | x :: xs, 0, j, h, hj => by
    simp only [flat, List.flatMap_cons, Nat.zero_mul, Nat.zero_add, List.getElem_cons_zero]
    rw [List.getElem?_append_left (by simpa [vcells] using hj)]
  | x :: xs, i + 1, j, h, hj => by
    have ih := flat_get xs i j (by simpa using h) hj
    simp only [flat, List.flatMap_cons, List.getElem_cons_succ] at ih ⊢
    rw [List.getElem?_append_right (by simp [vcells]; omega), ← ih]
    congr 1
    simp [vcells]
    omega
theorem cells_lie {w : World} {b off : Nat} {xs : List Val} (h : ∀ j, j < xs.length * 4 → w.cell? ⟨b, off + j, none⟩ = (flat xs)[j]?) : Lies w b off xs := fun i hi => by
  refine ⟨?_, ?_, ?_, ?_⟩
  · have := h (i * 4 + 0) (by omega); rw [flat_get xs i 0 hi (by omega)] at this; simpa [vcells] using this
  · have := h (i * 4 + 1) (by omega); rw [flat_get xs i 1 hi (by omega)] at this; simpa [vcells, Nat.add_assoc] using this
  · have := h (i * 4 + 2) (by omega); rw [flat_get xs i 2 hi (by omega)] at this; simpa [vcells, Nat.add_assoc] using this
  · have := h (i * 4 + 3) (by omega); rw [flat_get xs i 3 hi (by omega)] at this; simpa [vcells, Nat.add_assoc] using this

/-- A slice value that holds a row, nil or not. -/
def RowAt (w : World) (v : Value) (xs : List Val) : Prop := ∃ p c, v = .slice p xs.length c ∧ (xs = [] ∨ ∃ b off, p = some ⟨b, off, none⟩ ∧ b < w.heap.size ∧ Lies w b off xs)
theorem RowAt.below {w w' : World} {v : Value} {xs : List Val} (h : RowAt w v xs) (hb : Below w.heap.size w w') : RowAt w' v xs := by
  obtain ⟨p, c, e, h⟩ := h
  refine ⟨p, c, e, ?_⟩
  rcases h with h | ⟨b, off, h1, h2, h3⟩
  · exact Or.inl h
  · exact Or.inr ⟨b, off, h1, Nat.lt_of_lt_of_le h2 hb.size, h3.below hb h2⟩

end Go.Proofs.YtgmmhgbodddadaaGreatDoor

namespace Go.Proofs.YtgmmhgbodddadaaGreatDoor
open Go.RowKit LX Go.Shelf
set_option linter.unusedVariables false

/-- An event. -/
structure Evt where
  name : ByteArray
  args : List Val
/-- Why values may not be. -/
def valsE : List Val → Int
  | [] => 0
  | v :: l => if v.may = 0 then valsE l else v.may
/-- Are values of these kinds? -/
def kfit : List Int → List Val → Bool
  | [], [] => true
  | k :: ks, v :: vs => v.k == k && kfit ks vs
  | _, _ => false
theorem kfit_len {ks : List Int} {vs : List Val} (h : ¬ ks.length = vs.length) : kfit ks vs = false := by
  induction ks generalizing vs with
  | nil => cases vs with
    | nil => exact absurd rfl h
    | cons v vs => rfl
  | cons k ks ih => cases vs with
    | nil => rfl
    | cons v vs =>
      unfold kfit
      rw [ih (fun e => h (by simp [e])), Bool.and_false]
/-- The kinds of the declaration at a place. -/
def kindsAt (L : List Dec) (i : Int) : List Int := (L.getD i.toNat ⟨⟨#[]⟩, []⟩).kinds
/-- Why an event does not fit. -/
def evtE (L : List Dec) (e : Evt) : Int := if valsE e.args = 0 then (if 0 ≤ findI e.name L 0 ∧ kfit (kindsAt L (findI e.name L 0)) e.args = true then 0 else 90) else valsE e.args
def evtsE (L : List Dec) : List Evt → Int
  | [] => 0
  | e :: l => if evtE L e = 0 then evtsE L l else evtE L e
def sizeE (t : Int) (n : Nat) : Int := if t < 0 ∨ 1099511627776 < t then 5 else if 64 < n then 3 else 0
/-- Why a point does not fit a signature. -/
def pointE (L : List Dec) (t : Int) (es : List Evt) : Int := if sigE L = 0 then (if sizeE t es.length = 0 then evtsE L es else sizeE t es.length) else sigE L

theorem findI_bound (x : ByteArray) (L : List Dec) (k : Nat) (h : 0 ≤ findI x L k) : (k : Int) ≤ findI x L k ∧ findI x L k < k + L.length := by
  induction L generalizing k with
  | nil => simp [findI] at h
  | cons d l ih =>
    rw [findI_cons] at h ⊢
    by_cases hd : d.name = x
    · rw [if_pos hd]; simp; omega
    · rw [if_neg hd] at h ⊢
      have := ih (k + 1) h
      simp only [List.length_cons]
      omega

theorem RowAt.formX {w : World} {v : Value} {xs : List Val} (h : RowAt w v xs) : ∃ p c, v = .slice p xs.length c ∧ ∀ i (hi : i < xs.length), ∃ b off, p = some ⟨b, off, none⟩ ∧ b < w.heap.size ∧ w.cell? ⟨b, off + i * 4, none⟩ = some (.int .i64 xs[i].k) ∧ w.cell? ⟨b, off + i * 4 + 1, none⟩ = some (.int .i64 xs[i].n) ∧ w.cell? ⟨b, off + i * 4 + 2, none⟩ = some (.int .i64 xs[i].d) ∧ w.cell? ⟨b, off + i * 4 + 3, none⟩ = some (.string xs[i].s) := by
  obtain ⟨p, c, e, h | ⟨b, off, h1, h2, h3⟩⟩ := h
  · exact ⟨p, c, e, fun i hi => by subst h; simp at hi⟩
  · exact ⟨p, c, e, fun i hi => ⟨b, off, h1, h2, h3 i hi⟩⟩

/-- Events lie in a slice. -/
def EvsAt (w : World) (v : Value) (es : List Evt) : Prop := ∃ p c, v = .slice p es.length c ∧ (es = [] ∨ ∃ b off, p = some ⟨b, off, none⟩ ∧ b < w.heap.size ∧ ∀ i (h : i < es.length), ∃ u, w.cell? ⟨b, off + i * 2, none⟩ = some (.string es[i].name) ∧ w.cell? ⟨b, off + i * 2 + 1, none⟩ = some u ∧ RowAt w u es[i].args)
theorem EvsAt.below {w w' : World} {v : Value} {es : List Evt} (h : EvsAt w v es) (hb : Below w.heap.size w w') : EvsAt w' v es := by
  obtain ⟨p, c, e, h | ⟨b, off, h1, h2, h3⟩⟩ := h
  · exact ⟨p, c, e, Or.inl h⟩
  · refine ⟨p, c, e, Or.inr ⟨b, off, h1, Nat.lt_of_lt_of_le h2 hb.size, fun i hi => ?_⟩⟩
    obtain ⟨u, a1, a2, a3⟩ := h3 i hi
    exact ⟨u, (hb.cell (p := ⟨b, _, none⟩) h2).trans a1, (hb.cell (p := ⟨b, _, none⟩) h2).trans a2, a3.below hb⟩
theorem EvsAt.form {w : World} {v : Value} {es : List Evt} (h : EvsAt w v es) : ∃ p c, v = .slice p es.length c ∧ ∀ i (hi : i < es.length), ∃ b off u, p = some ⟨b, off, none⟩ ∧ b < w.heap.size ∧ w.cell? ⟨b, off + i * 2, none⟩ = some (.string es[i].name) ∧ w.cell? ⟨b, off + i * 2 + 1, none⟩ = some u ∧ RowAt w u es[i].args := by
  obtain ⟨p, c, e, h | ⟨b, off, h1, h2, h3⟩⟩ := h
  · exact ⟨p, c, e, fun i hi => by subst h; simp at hi⟩
  · refine ⟨p, c, e, fun i hi => ?_⟩
    obtain ⟨u, a1, a2, a3⟩ := h3 i hi
    exact ⟨b, off, u, h1, h2, a1, a2, a3⟩

set_option maxRecDepth 100000 in
theorem ofkind_any (K k n d : Int) (s : ByteArray) (w : World) :
    Calls Tryz.prog 72 #[.int .i64 K, .agg #[.int .i64 k, .int .i64 n, .int .i64 d, .string s]] w fun e w' => e = .returned (.bool (k == K)) ∧ Below w.heap.size w w' := by
  go_enter Tryz.func72, Tryz.ntmps72
  go_wp2
  go_ret
  exact ⟨rfl, by go_grown⟩

set_option maxRecDepth 100000 in
set_option maxHeartbeats 2000000 in
theorem eqk_any (A B : Value) (ks : List Int) (vs : List Val) (w : World) (hA : KAt w A ks) (hB : RowAt w B vs) (lx : ks.length ≤ 9223372036854775807) (ly : vs.length ≤ 9223372036854775807) :
    Calls Tryz.prog 71 #[A, B, .func (.func 72) #[] #[]] w fun e w' => e = .returned (.bool (kfit ks vs)) ∧ Below w.heap.size w w' := by
  have eg : ∀ args w, (callFunc 72 args).run Tryz.prog w = .ok (.enter 72 args) w := enters_of Tryz.func72 (by kernel_rfl) rfl
  obtain ⟨p, c, rfl, HX0⟩ := hA.form
  obtain ⟨p', c', rfl, HY0⟩ := hB.formX
  by_cases hl : ks.length = vs.length
  · have HX : Hid (∀ i (hi : i < ks.length), ∃ b off, p = some ⟨b, off, none⟩ ∧ b < w.heap.size ∧ w.cell? ⟨b, off + i, none⟩ = some (.int .i64 ks[i])) := HX0
    have HY : Hid (∀ i (hi : i < vs.length), ∃ b off, p' = some ⟨b, off, none⟩ ∧ b < w.heap.size ∧ w.cell? ⟨b, off + i * 4, none⟩ = some (.int .i64 vs[i].k) ∧ w.cell? ⟨b, off + i * 4 + 1, none⟩ = some (.int .i64 vs[i].n) ∧ w.cell? ⟨b, off + i * 4 + 2, none⟩ = some (.int .i64 vs[i].d) ∧ w.cell? ⟨b, off + i * 4 + 3, none⟩ = some (.string vs[i].s)) := HY0
    obtain ⟨n, en⟩ : ∃ n : Nat, Hid (ks.length = n) := ⟨_, rfl⟩
    have em : Hid (vs.length = n) := hl.symm.trans en.out
    rw [en.out] at lx ⊢
    rw [em.out]
    clear hA hB hl ly HX0 HY0
    go_enter Tryz.func71, Tryz.ntmps71
    go_wp2
    go_loopw [17] (fun i wr => ∃ k : Nat, k ≤ n ∧ i = .int .i64 k ∧ Hid (kfit ks vs = kfit (ks.drop k) (vs.drop k)) ∧ Below w.heap.size w wr) (fun i _ => n - (intOf i).toNat)
    case atStart => exact ⟨0, Nat.zero_le _, rfl, (show kfit ks vs = kfit (ks.drop 0) (vs.drop 0) by simp), Below.refl _ _⟩
    case round =>
      obtain ⟨k, hk, rfl, hr, hB⟩ := hrel
      by_cases hlt : k < n
      · have kx : k < ks.length := by have := en.out; omega
        have ky : k < vs.length := by have := em.out; omega
        obtain ⟨b, off, rfl, hb, r0⟩ := HX.out k kx
        obtain ⟨b', off', rfl, hb', s0, s1, s2, s3⟩ := HY.out k ky
        have a0 := (hB.cell (p := ⟨b, off + k, none⟩) hb).trans r0
        have b0 := (hB.cell (p := ⟨b', off' + k * 4, none⟩) hb').trans s0
        have b1 := (hB.cell (p := ⟨b', off' + k * 4 + 1, none⟩) hb').trans s1
        have b2 := (hB.cell (p := ⟨b', off' + k * 4 + 2, none⟩) hb').trans s2
        have b3 := (hB.cell (p := ⟨b', off' + k * 4 + 3, none⟩) hb').trans s3
        have hbr : b < wr.heap.size := Nat.lt_of_lt_of_le hb hB.size
        have hbr' : b' < wr.heap.size := Nat.lt_of_lt_of_le hb' hB.size
        have hr2 : Hid (kfit ks vs = (vs[k].k == ks[k] && kfit (ks.drop (k + 1)) (vs.drop (k + 1)))) := by
          have h := hr.out
          rw [List.drop_eq_getElem_cons kx, List.drop_eq_getElem_cons ky] at h
          exact h
        clear r0 s0 s1 s2 s3 hr
        generalize ks[k] = K at a0 hr2
        generalize vs[k] = Y at b0 b1 b2 b3 hr2
        obtain ⟨C, eC⟩ : ∃ C : Bool, Hid ((Y.k == K) = C) := ⟨_, rfl⟩
        rw [eC.out] at hr2
        have ct : Hid (∀ W : World, Calls Tryz.prog 72 #[.int .i64 K, .agg #[.int .i64 Y.k, .int .i64 Y.n, .int .i64 Y.d, .string Y.s]] W fun e w' => e = .returned (.bool C) ∧ Below W.heap.size W w') := fun W => by
          have h := ofkind_any K Y.k Y.n Y.d Y.s W
          rw [eC.out] at h
          exact h
        clear eC
        go_wp2_with fail
        refine (ct.out _).mono ?_
        rintro e w1 ⟨rfl, hw1⟩
        obtain ⟨hw2, hn2⟩ := bgX (n := wr.heap.size) (W0 := wr) (by go_grown) (by go_size) hw1
        have hB2 : Below w.heap.size w w1 := hB.trans (hw2.mono hB.size)
        clear a0 b0 b1 b2 b3 ct hw1 hw2 hn2
        cases C with
        | true =>
          have hr3 : Hid (kfit ks vs = kfit (ks.drop (k + 1)) (vs.drop (k + 1))) := by have := hr2.out; rwa [Bool.true_and] at this
          go_wp2
          exact ⟨⟨k + 1, by omega, by go_num, hr3, hB2⟩, by simp [intOf]; omega⟩
        | false =>
          have hr3 : Hid (kfit ks vs = false) := by have := hr2.out; rwa [Bool.false_and] at this
          go_wp2
          go_ret
          exact ⟨retb hr3.out.symm, hB2⟩
      · have c2 : ¬ (k : Int) < n := by omega
        have hr3 : Hid (kfit ks vs = true) := by
          have h := hr.out
          rw [List.drop_eq_nil_of_le (by have := en.out; omega), List.drop_eq_nil_of_le (by have := em.out; omega)] at h
          exact h
        go_wp2
        go_ret
        exact ⟨retb hr3.out.symm, hB⟩
  · have HS : Hid (kfit ks vs = false) := kfit_len hl
    have h2 : ((ks.length : Int) == vs.length) = false := by simp; omega
    clear hA hB HX0 HY0
    generalize ks.length = n at *
    generalize vs.length = m at *
    go_enter Tryz.func71, Tryz.ntmps71
    go_wp2
    go_ret
    exact ⟨retb HS.out.symm, by go_grown⟩

set_option maxRecDepth 100000 in
theorem csize_any (t : Int) (p : Option Addr) (n c : Nat) (w : World) :
    Calls Tryz.prog 48 #[.agg #[.int .i64 t, .slice p n c]] w fun e w' => e = .returned (errV (sizeE t n)) ∧ Below w.heap.size w w' := by
  obtain ⟨E, eE⟩ : ∃ E : Int, Hid (sizeE t n = E) := ⟨_, rfl⟩
  rw [eE.out]
  by_cases h1 : t < 0
  · have hE : Hid (E = 5) := by have h := eE.out; unfold sizeE at h; rw [if_pos (Or.inl h1)] at h; exact h.symm
    go_enter Tryz.func48, Tryz.ntmps48
    go_wp2
    go_ret
    exact ⟨retE hE.out rfl, by go_grown⟩
  · by_cases h2 : 1099511627776 < t
    · have hE : Hid (E = 5) := by have h := eE.out; unfold sizeE at h; rw [if_pos (Or.inr h2)] at h; exact h.symm
      go_enter Tryz.func48, Tryz.ntmps48
      go_wp2
      go_ret
      exact ⟨retE hE.out rfl, by go_grown⟩
    · by_cases h3 : 64 < n
      · have hE : Hid (E = 3) := by have h := eE.out; unfold sizeE at h; rw [if_neg (by omega), if_pos h3] at h; exact h.symm
        have h3' : (64 : Int) < n := by omega
        go_enter Tryz.func48, Tryz.ntmps48
        go_wp2
        go_ret
        exact ⟨retE hE.out rfl, by go_grown⟩
      · have hE : Hid (E = 0) := by have h := eE.out; unfold sizeE at h; rw [if_neg (by omega), if_neg h3] at h; exact h.symm
        have h3' : ¬ (64 : Int) < n := by omega
        go_enter Tryz.func48, Tryz.ntmps48
        go_wp2
        go_ret
        exact ⟨retE hE.out rfl, by go_grown⟩

end Go.Proofs.YtgmmhgbodddadaaGreatDoor



namespace Go.Proofs.YtgmmhgbodddadaaGreatDoor
open Go.RowKit Go.Shelf
set_option linter.unusedVariables false

/-- A digit to the base 16, capital or not; 16: it is none. -/
def hexv (c : UInt8) : Nat := if 48 ≤ c.toNat ∧ c.toNat ≤ 57 then c.toNat - 48 else if 97 ≤ c.toNat ∧ c.toNat ≤ 102 then c.toNat - 87 else if 65 ≤ c.toNat ∧ c.toNat ≤ 70 then c.toNat - 55 else 16
/-- A byte made small. -/
def low8 (c : UInt8) : Int := bits .or .u8 c.toNat 32
theorem low_all : ∀ n : Fin 256, 0 ≤ bits .or .u8 (n.1 : Int) 32 ∧ bits .or .u8 (n.1 : Int) 32 ≤ 255 ∧ (if 48 ≤ n.1 ∧ n.1 ≤ 57 then True else if 97 ≤ bits .or .u8 (n.1 : Int) 32 ∧ bits .or .u8 (n.1 : Int) 32 ≤ 122 then (if bits .or .u8 (n.1 : Int) 32 ≤ 102 then ((hexv (UInt8.ofNat n.1) : Nat) : Int) = bits .or .u8 (n.1 : Int) 32 - 87 else hexv (UInt8.ofNat n.1) = 16) else hexv (UInt8.ofNat n.1) = 16) := by decide +kernel

/-- What class a byte is of. -/
inductive Cls (c : UInt8) : Prop where
  | dig (h1 : 48 ≤ (c.toNat : Int)) (h2 : (c.toNat : Int) ≤ 57) (h3 : ((hexv c : Nat) : Int) = c.toNat - 48) (h9 : ((c.toNat : Int) == 95) = false)
  | hex (h1 : ¬ (48 ≤ (c.toNat : Int) ∧ (c.toNat : Int) ≤ 57)) (h2 : 97 ≤ low8 c) (h3 : low8 c ≤ 102) (h4 : ((hexv c : Nat) : Int) = low8 c - 87) (h9 : ((c.toNat : Int) == 95) = false)
  | let (h1 : ¬ (48 ≤ (c.toNat : Int) ∧ (c.toNat : Int) ≤ 57)) (h2 : 102 < low8 c) (h3 : low8 c ≤ 122) (h4 : hexv c = 16) (h9 : ((c.toNat : Int) == 95) = false)
  | lss (h1 : ¬ (48 ≤ (c.toNat : Int) ∧ (c.toNat : Int) ≤ 57)) (h2 : low8 c < 97) (h3 : 0 ≤ low8 c) (h4 : hexv c = 16) (h9 : ((c.toNat : Int) == 95) = false)
  | gtr (h1 : ¬ (48 ≤ (c.toNat : Int) ∧ (c.toNat : Int) ≤ 57)) (h2 : 122 < low8 c) (h3 : low8 c ≤ 255) (h4 : hexv c = 16)
theorem cls (c : UInt8) : Cls c := by
  have hc : c.toNat < 256 := c.toNat_lt
  obtain ⟨a1, a2, a3⟩ := low_all ⟨c.toNat, hc⟩
  rw [show (⟨c.toNat, hc⟩ : Fin 256).1 = c.toNat from rfl, UInt8.ofNat_toNat] at a3
  have a4 : c.toNat = 95 → bits .or .u8 (c.toNat : Int) 32 = 127 := by intro h; rw [h]; decide
  by_cases h : 48 ≤ c.toNat ∧ c.toNat ≤ 57
  · exact .dig (by omega) (by omega) (by unfold hexv; rw [if_pos h]; omega) (by simp; omega)
  · rw [if_neg h] at a3
    by_cases g : 97 ≤ bits .or .u8 (c.toNat : Int) 32 ∧ bits .or .u8 (c.toNat : Int) 32 ≤ 122
    · rw [if_pos g] at a3
      by_cases f : bits .or .u8 (c.toNat : Int) 32 ≤ 102
      · rw [if_pos f] at a3
        exact .hex (by omega) g.1 f a3 (by simp; omega)
      · rw [if_neg f] at a3
        exact .let (by omega) (by unfold low8; omega) g.2 a3 (by simp; omega)
    · rw [if_neg g] at a3
      by_cases f : bits .or .u8 (c.toNat : Int) 32 < 97
      · exact .lss (by omega) f a1 a3 (by simp; omega)
      · exact .gtr (by omega) (by unfold low8; omega) a2 a3

set_option maxRecDepth 100000 in
set_option maxHeartbeats 4000000 in
theorem pu_let (a b : UInt8) (w : World) (h0 : ¬ (48 ≤ (a.toNat : Int) ∧ (a.toNat : Int) ≤ 57)) (h2 : 102 < low8 a) (h3 : low8 a ≤ 122) (h9 : ((a.toNat : Int) == 95) = false) :
    Calls Tryz.prog 174 #[.string ⟨#[a, b]⟩, .int .i64 16, .int .i64 8] w fun e w' => e = .returned (.tuple #[.int .u64 0, .iface 244 (.int .i64 2)]) ∧ Below w.heap.size w w' := by
  have hcv := Lib.run_convert_string_bytes (P := Tryz.prog) w 9 60 5 ⟨#[a, b]⟩ Tryz.underlying9 Tryz.underlying60 Tryz.underlying5
  have hB0 : (Lib.bytesWorld w 5 ⟨#[a, b]⟩).cell? ⟨w.heap.size, 0, none⟩ = some (.int .u8 a.toNat) := Lib.bytesWorld_cell w 5 ⟨#[a, b]⟩ 0 (by show 0 < 2; decide)
  have hB1 : (Lib.bytesWorld w 5 ⟨#[a, b]⟩).cell? ⟨w.heap.size, 1, none⟩ = some (.int .u8 b.toNat) := Lib.bytesWorld_cell w 5 ⟨#[a, b]⟩ 1 (by show 1 < 2; decide)
  have hbb := Lib.bytesWorld_below w 5 ⟨#[a, b]⟩
  have ua : a.toNat < 256 := a.toNat_lt
  have ub : b.toNat < 256 := b.toNat_lt
  have LA : Hid (∀ W : World, Calls Tryz.prog 180 #[.int .u8 a.toNat] W fun e w' => e = .returned (.int .u8 (low8 a)) ∧ w' = W) := fun W => Tryz.internal_strconv_lower a.toNat W
  have LB : Hid (∀ W : World, Calls Tryz.prog 180 #[.int .u8 b.toNat] W fun e w' => e = .returned (.int .u8 (low8 b)) ∧ w' = W) := fun W => Tryz.internal_strconv_lower b.toNat W
  generalize Lib.bytesWorld w 5 ⟨#[a, b]⟩ = W1 at *
  have hn : (48 ≤ (a.toNat : Int)) = False ∨ ((48 ≤ (a.toNat : Int)) = True ∧ ((a.toNat : Int) ≤ 57) = False) := by
    by_cases q : 48 ≤ (a.toNat : Int)
    · right; refine ⟨by simpa using q, by simp; omega⟩
    · left; simpa using q

  rcases hn with hx | ⟨hx, hy⟩
  all_goals clear h0
  all_goals
    go_enter Tryz.func174, Tryz.ntmps174
    go_wp2
    refine wp_loop_rounds 4 ?_
    rw [rounds_succ]
    go_wp2_with (first | (go_at_call_of 180 (Value.int IntKind.u8 a.toNat); refine (LA.out _).mono ?_; rintro e w' ⟨rfl, rfl⟩) | (go_at_call_of 180 (Value.int IntKind.u8 b.toNat); refine (LB.out _).mono ?_; rintro e w' ⟨rfl, rfl⟩))
    go_ret2
    exact ⟨rfl, hbb⟩

set_option maxRecDepth 100000 in
set_option maxHeartbeats 4000000 in
theorem pu_lss (a b : UInt8) (w : World) (h0 : ¬ (48 ≤ (a.toNat : Int) ∧ (a.toNat : Int) ≤ 57)) (h2 : low8 a < 97) (h3 : 0 ≤ low8 a) (h9 : ((a.toNat : Int) == 95) = false) :
    Calls Tryz.prog 174 #[.string ⟨#[a, b]⟩, .int .i64 16, .int .i64 8] w fun e w' => e = .returned (.tuple #[.int .u64 0, .iface 244 (.int .i64 2)]) ∧ Below w.heap.size w w' := by
  have hcv := Lib.run_convert_string_bytes (P := Tryz.prog) w 9 60 5 ⟨#[a, b]⟩ Tryz.underlying9 Tryz.underlying60 Tryz.underlying5
  have hB0 : (Lib.bytesWorld w 5 ⟨#[a, b]⟩).cell? ⟨w.heap.size, 0, none⟩ = some (.int .u8 a.toNat) := Lib.bytesWorld_cell w 5 ⟨#[a, b]⟩ 0 (by show 0 < 2; decide)
  have hB1 : (Lib.bytesWorld w 5 ⟨#[a, b]⟩).cell? ⟨w.heap.size, 1, none⟩ = some (.int .u8 b.toNat) := Lib.bytesWorld_cell w 5 ⟨#[a, b]⟩ 1 (by show 1 < 2; decide)
  have hbb := Lib.bytesWorld_below w 5 ⟨#[a, b]⟩
  have ua : a.toNat < 256 := a.toNat_lt
  have ub : b.toNat < 256 := b.toNat_lt
  have LA : Hid (∀ W : World, Calls Tryz.prog 180 #[.int .u8 a.toNat] W fun e w' => e = .returned (.int .u8 (low8 a)) ∧ w' = W) := fun W => Tryz.internal_strconv_lower a.toNat W
  have LB : Hid (∀ W : World, Calls Tryz.prog 180 #[.int .u8 b.toNat] W fun e w' => e = .returned (.int .u8 (low8 b)) ∧ w' = W) := fun W => Tryz.internal_strconv_lower b.toNat W
  generalize Lib.bytesWorld w 5 ⟨#[a, b]⟩ = W1 at *
  have hn : (48 ≤ (a.toNat : Int)) = False ∨ ((48 ≤ (a.toNat : Int)) = True ∧ ((a.toNat : Int) ≤ 57) = False) := by
    by_cases q : 48 ≤ (a.toNat : Int)
    · right; refine ⟨by simpa using q, by simp; omega⟩
    · left; simpa using q

  rcases hn with hx | ⟨hx, hy⟩
  all_goals clear h0
  all_goals
    go_enter Tryz.func174, Tryz.ntmps174
    go_wp2
    refine wp_loop_rounds 4 ?_
    rw [rounds_succ]
    go_wp2_with (first | (go_at_call_of 180 (Value.int IntKind.u8 a.toNat); refine (LA.out _).mono ?_; rintro e w' ⟨rfl, rfl⟩) | (go_at_call_of 180 (Value.int IntKind.u8 b.toNat); refine (LB.out _).mono ?_; rintro e w' ⟨rfl, rfl⟩))
    go_ret2
    exact ⟨rfl, hbb⟩

set_option maxRecDepth 100000 in
set_option maxHeartbeats 4000000 in
theorem pu_gtr (a b : UInt8) (w : World) (h0 : ¬ (48 ≤ (a.toNat : Int) ∧ (a.toNat : Int) ≤ 57)) (h2 : 122 < low8 a) (h3 : low8 a ≤ 255) :
    Calls Tryz.prog 174 #[.string ⟨#[a, b]⟩, .int .i64 16, .int .i64 8] w fun e w' => e = .returned (.tuple #[.int .u64 0, .iface 244 (.int .i64 2)]) ∧ Below w.heap.size w w' := by
  have hcv := Lib.run_convert_string_bytes (P := Tryz.prog) w 9 60 5 ⟨#[a, b]⟩ Tryz.underlying9 Tryz.underlying60 Tryz.underlying5
  have hB0 : (Lib.bytesWorld w 5 ⟨#[a, b]⟩).cell? ⟨w.heap.size, 0, none⟩ = some (.int .u8 a.toNat) := Lib.bytesWorld_cell w 5 ⟨#[a, b]⟩ 0 (by show 0 < 2; decide)
  have hB1 : (Lib.bytesWorld w 5 ⟨#[a, b]⟩).cell? ⟨w.heap.size, 1, none⟩ = some (.int .u8 b.toNat) := Lib.bytesWorld_cell w 5 ⟨#[a, b]⟩ 1 (by show 1 < 2; decide)
  have hbb := Lib.bytesWorld_below w 5 ⟨#[a, b]⟩
  have ua : a.toNat < 256 := a.toNat_lt
  have ub : b.toNat < 256 := b.toNat_lt
  have LA : Hid (∀ W : World, Calls Tryz.prog 180 #[.int .u8 a.toNat] W fun e w' => e = .returned (.int .u8 (low8 a)) ∧ w' = W) := fun W => Tryz.internal_strconv_lower a.toNat W
  have LB : Hid (∀ W : World, Calls Tryz.prog 180 #[.int .u8 b.toNat] W fun e w' => e = .returned (.int .u8 (low8 b)) ∧ w' = W) := fun W => Tryz.internal_strconv_lower b.toNat W
  generalize Lib.bytesWorld w 5 ⟨#[a, b]⟩ = W1 at *
  have hm : ((a.toNat : Int) == 95) = false ∨ ((a.toNat : Int) == 95) = true := by cases ((a.toNat : Int) == 95) <;> simp
  have hn : (48 ≤ (a.toNat : Int)) = False ∨ ((48 ≤ (a.toNat : Int)) = True ∧ ((a.toNat : Int) ≤ 57) = False) := by
    by_cases q : 48 ≤ (a.toNat : Int)
    · right; refine ⟨by simpa using q, by simp; omega⟩
    · left; simpa using q

  rcases hm with h9 | h9 <;> rcases hn with hx | ⟨hx, hy⟩
  all_goals clear h0
  all_goals
    go_enter Tryz.func174, Tryz.ntmps174
    go_wp2
    refine wp_loop_rounds 4 ?_
    rw [rounds_succ]
    go_wp2_with (first | (go_at_call_of 180 (Value.int IntKind.u8 a.toNat); refine (LA.out _).mono ?_; rintro e w' ⟨rfl, rfl⟩) | (go_at_call_of 180 (Value.int IntKind.u8 b.toNat); refine (LB.out _).mono ?_; rintro e w' ⟨rfl, rfl⟩))
    go_ret2
    exact ⟨rfl, hbb⟩

set_option maxRecDepth 100000 in
set_option maxHeartbeats 4000000 in
theorem pu_dig_dig (a b : UInt8) (w : World) (h1 : 48 ≤ (a.toNat : Int)) (h2 : (a.toNat : Int) ≤ 57) (h9 : ((a.toNat : Int) == 95) = false) (g1 : 48 ≤ (b.toNat : Int)) (g2 : (b.toNat : Int) ≤ 57) (g9 : ((b.toNat : Int) == 95) = false) :
    Calls Tryz.prog 174 #[.string ⟨#[a, b]⟩, .int .i64 16, .int .i64 8] w fun e w' => e = .returned (.tuple #[.int .u64 ((a.toNat - 48 : Int) * 16 + (b.toNat - 48 : Int)), .nilIface]) ∧ Below w.heap.size w w' := by
  have hcv := Lib.run_convert_string_bytes (P := Tryz.prog) w 9 60 5 ⟨#[a, b]⟩ Tryz.underlying9 Tryz.underlying60 Tryz.underlying5
  have hB0 : (Lib.bytesWorld w 5 ⟨#[a, b]⟩).cell? ⟨w.heap.size, 0, none⟩ = some (.int .u8 a.toNat) := Lib.bytesWorld_cell w 5 ⟨#[a, b]⟩ 0 (by show 0 < 2; decide)
  have hB1 : (Lib.bytesWorld w 5 ⟨#[a, b]⟩).cell? ⟨w.heap.size, 1, none⟩ = some (.int .u8 b.toNat) := Lib.bytesWorld_cell w 5 ⟨#[a, b]⟩ 1 (by show 1 < 2; decide)
  have hbb := Lib.bytesWorld_below w 5 ⟨#[a, b]⟩
  have ua : a.toNat < 256 := a.toNat_lt
  have ub : b.toNat < 256 := b.toNat_lt
  have LA : Hid (∀ W : World, Calls Tryz.prog 180 #[.int .u8 a.toNat] W fun e w' => e = .returned (.int .u8 (low8 a)) ∧ w' = W) := fun W => Tryz.internal_strconv_lower a.toNat W
  have LB : Hid (∀ W : World, Calls Tryz.prog 180 #[.int .u8 b.toNat] W fun e w' => e = .returned (.int .u8 (low8 b)) ∧ w' = W) := fun W => Tryz.internal_strconv_lower b.toNat W
  generalize Lib.bytesWorld w 5 ⟨#[a, b]⟩ = W1 at *

  go_enter Tryz.func174, Tryz.ntmps174
  go_wp2
  refine wp_loop_rounds 4 ?_
  rw [rounds_succ]
  go_wp2_with (first | (go_at_call_of 180 (Value.int IntKind.u8 a.toNat); refine (LA.out _).mono ?_; rintro e w' ⟨rfl, rfl⟩) | (go_at_call_of 180 (Value.int IntKind.u8 b.toNat); refine (LB.out _).mono ?_; rintro e w' ⟨rfl, rfl⟩))
  rw [rounds_succ]
  go_wp2_with (first | (go_at_call_of 180 (Value.int IntKind.u8 a.toNat); refine (LA.out _).mono ?_; rintro e w' ⟨rfl, rfl⟩) | (go_at_call_of 180 (Value.int IntKind.u8 b.toNat); refine (LB.out _).mono ?_; rintro e w' ⟨rfl, rfl⟩))
  rw [rounds_succ]
  go_wp2
  go_ret2
  exact ⟨rfl, hbb⟩

set_option maxRecDepth 100000 in
set_option maxHeartbeats 4000000 in
theorem pu_dig_hex (a b : UInt8) (w : World) (h1 : 48 ≤ (a.toNat : Int)) (h2 : (a.toNat : Int) ≤ 57) (h9 : ((a.toNat : Int) == 95) = false) (g0 : ¬ (48 ≤ (b.toNat : Int) ∧ (b.toNat : Int) ≤ 57)) (g2 : 97 ≤ low8 b) (g3 : low8 b ≤ 102) (g9 : ((b.toNat : Int) == 95) = false) :
    Calls Tryz.prog 174 #[.string ⟨#[a, b]⟩, .int .i64 16, .int .i64 8] w fun e w' => e = .returned (.tuple #[.int .u64 ((a.toNat - 48 : Int) * 16 + (low8 b - 97 + 10)), .nilIface]) ∧ Below w.heap.size w w' := by
  have hcv := Lib.run_convert_string_bytes (P := Tryz.prog) w 9 60 5 ⟨#[a, b]⟩ Tryz.underlying9 Tryz.underlying60 Tryz.underlying5
  have hB0 : (Lib.bytesWorld w 5 ⟨#[a, b]⟩).cell? ⟨w.heap.size, 0, none⟩ = some (.int .u8 a.toNat) := Lib.bytesWorld_cell w 5 ⟨#[a, b]⟩ 0 (by show 0 < 2; decide)
  have hB1 : (Lib.bytesWorld w 5 ⟨#[a, b]⟩).cell? ⟨w.heap.size, 1, none⟩ = some (.int .u8 b.toNat) := Lib.bytesWorld_cell w 5 ⟨#[a, b]⟩ 1 (by show 1 < 2; decide)
  have hbb := Lib.bytesWorld_below w 5 ⟨#[a, b]⟩
  have ua : a.toNat < 256 := a.toNat_lt
  have ub : b.toNat < 256 := b.toNat_lt
  have LA : Hid (∀ W : World, Calls Tryz.prog 180 #[.int .u8 a.toNat] W fun e w' => e = .returned (.int .u8 (low8 a)) ∧ w' = W) := fun W => Tryz.internal_strconv_lower a.toNat W
  have LB : Hid (∀ W : World, Calls Tryz.prog 180 #[.int .u8 b.toNat] W fun e w' => e = .returned (.int .u8 (low8 b)) ∧ w' = W) := fun W => Tryz.internal_strconv_lower b.toNat W
  generalize Lib.bytesWorld w 5 ⟨#[a, b]⟩ = W1 at *
  have gn : (48 ≤ (b.toNat : Int)) = False ∨ ((48 ≤ (b.toNat : Int)) = True ∧ ((b.toNat : Int) ≤ 57) = False) := by
    by_cases q : 48 ≤ (b.toNat : Int)
    · right; refine ⟨by simpa using q, by simp; omega⟩
    · left; simpa using q

  rcases gn with gx | ⟨gx, gy⟩
  all_goals clear g0
  all_goals
    go_enter Tryz.func174, Tryz.ntmps174
    go_wp2
    refine wp_loop_rounds 4 ?_
    rw [rounds_succ]
    go_wp2_with (first | (go_at_call_of 180 (Value.int IntKind.u8 a.toNat); refine (LA.out _).mono ?_; rintro e w' ⟨rfl, rfl⟩) | (go_at_call_of 180 (Value.int IntKind.u8 b.toNat); refine (LB.out _).mono ?_; rintro e w' ⟨rfl, rfl⟩))
    rw [rounds_succ]
    go_wp2_with (first | (go_at_call_of 180 (Value.int IntKind.u8 a.toNat); refine (LA.out _).mono ?_; rintro e w' ⟨rfl, rfl⟩) | (go_at_call_of 180 (Value.int IntKind.u8 b.toNat); refine (LB.out _).mono ?_; rintro e w' ⟨rfl, rfl⟩))
    rw [rounds_succ]
    go_wp2
    go_ret2
    exact ⟨rfl, hbb⟩

set_option maxRecDepth 100000 in
set_option maxHeartbeats 4000000 in
theorem pu_dig_let (a b : UInt8) (w : World) (h1 : 48 ≤ (a.toNat : Int)) (h2 : (a.toNat : Int) ≤ 57) (h9 : ((a.toNat : Int) == 95) = false) (g0 : ¬ (48 ≤ (b.toNat : Int) ∧ (b.toNat : Int) ≤ 57)) (g2 : 102 < low8 b) (g3 : low8 b ≤ 122) (g9 : ((b.toNat : Int) == 95) = false) :
    Calls Tryz.prog 174 #[.string ⟨#[a, b]⟩, .int .i64 16, .int .i64 8] w fun e w' => e = .returned (.tuple #[.int .u64 0, .iface 244 (.int .i64 2)]) ∧ Below w.heap.size w w' := by
  have hcv := Lib.run_convert_string_bytes (P := Tryz.prog) w 9 60 5 ⟨#[a, b]⟩ Tryz.underlying9 Tryz.underlying60 Tryz.underlying5
  have hB0 : (Lib.bytesWorld w 5 ⟨#[a, b]⟩).cell? ⟨w.heap.size, 0, none⟩ = some (.int .u8 a.toNat) := Lib.bytesWorld_cell w 5 ⟨#[a, b]⟩ 0 (by show 0 < 2; decide)
  have hB1 : (Lib.bytesWorld w 5 ⟨#[a, b]⟩).cell? ⟨w.heap.size, 1, none⟩ = some (.int .u8 b.toNat) := Lib.bytesWorld_cell w 5 ⟨#[a, b]⟩ 1 (by show 1 < 2; decide)
  have hbb := Lib.bytesWorld_below w 5 ⟨#[a, b]⟩
  have ua : a.toNat < 256 := a.toNat_lt
  have ub : b.toNat < 256 := b.toNat_lt
  have LA : Hid (∀ W : World, Calls Tryz.prog 180 #[.int .u8 a.toNat] W fun e w' => e = .returned (.int .u8 (low8 a)) ∧ w' = W) := fun W => Tryz.internal_strconv_lower a.toNat W
  have LB : Hid (∀ W : World, Calls Tryz.prog 180 #[.int .u8 b.toNat] W fun e w' => e = .returned (.int .u8 (low8 b)) ∧ w' = W) := fun W => Tryz.internal_strconv_lower b.toNat W
  generalize Lib.bytesWorld w 5 ⟨#[a, b]⟩ = W1 at *
  have gn : (48 ≤ (b.toNat : Int)) = False ∨ ((48 ≤ (b.toNat : Int)) = True ∧ ((b.toNat : Int) ≤ 57) = False) := by
    by_cases q : 48 ≤ (b.toNat : Int)
    · right; refine ⟨by simpa using q, by simp; omega⟩
    · left; simpa using q

  rcases gn with gx | ⟨gx, gy⟩
  all_goals clear g0
  all_goals
    go_enter Tryz.func174, Tryz.ntmps174
    go_wp2
    refine wp_loop_rounds 4 ?_
    rw [rounds_succ]
    go_wp2_with (first | (go_at_call_of 180 (Value.int IntKind.u8 a.toNat); refine (LA.out _).mono ?_; rintro e w' ⟨rfl, rfl⟩) | (go_at_call_of 180 (Value.int IntKind.u8 b.toNat); refine (LB.out _).mono ?_; rintro e w' ⟨rfl, rfl⟩))
    rw [rounds_succ]
    go_wp2_with (first | (go_at_call_of 180 (Value.int IntKind.u8 a.toNat); refine (LA.out _).mono ?_; rintro e w' ⟨rfl, rfl⟩) | (go_at_call_of 180 (Value.int IntKind.u8 b.toNat); refine (LB.out _).mono ?_; rintro e w' ⟨rfl, rfl⟩))
    go_ret2
    exact ⟨rfl, hbb⟩

set_option maxRecDepth 100000 in
set_option maxHeartbeats 4000000 in
theorem pu_dig_lss (a b : UInt8) (w : World) (h1 : 48 ≤ (a.toNat : Int)) (h2 : (a.toNat : Int) ≤ 57) (h9 : ((a.toNat : Int) == 95) = false) (g0 : ¬ (48 ≤ (b.toNat : Int) ∧ (b.toNat : Int) ≤ 57)) (g2 : low8 b < 97) (g3 : 0 ≤ low8 b) (g9 : ((b.toNat : Int) == 95) = false) :
    Calls Tryz.prog 174 #[.string ⟨#[a, b]⟩, .int .i64 16, .int .i64 8] w fun e w' => e = .returned (.tuple #[.int .u64 0, .iface 244 (.int .i64 2)]) ∧ Below w.heap.size w w' := by
  have hcv := Lib.run_convert_string_bytes (P := Tryz.prog) w 9 60 5 ⟨#[a, b]⟩ Tryz.underlying9 Tryz.underlying60 Tryz.underlying5
  have hB0 : (Lib.bytesWorld w 5 ⟨#[a, b]⟩).cell? ⟨w.heap.size, 0, none⟩ = some (.int .u8 a.toNat) := Lib.bytesWorld_cell w 5 ⟨#[a, b]⟩ 0 (by show 0 < 2; decide)
  have hB1 : (Lib.bytesWorld w 5 ⟨#[a, b]⟩).cell? ⟨w.heap.size, 1, none⟩ = some (.int .u8 b.toNat) := Lib.bytesWorld_cell w 5 ⟨#[a, b]⟩ 1 (by show 1 < 2; decide)
  have hbb := Lib.bytesWorld_below w 5 ⟨#[a, b]⟩
  have ua : a.toNat < 256 := a.toNat_lt
  have ub : b.toNat < 256 := b.toNat_lt
  have LA : Hid (∀ W : World, Calls Tryz.prog 180 #[.int .u8 a.toNat] W fun e w' => e = .returned (.int .u8 (low8 a)) ∧ w' = W) := fun W => Tryz.internal_strconv_lower a.toNat W
  have LB : Hid (∀ W : World, Calls Tryz.prog 180 #[.int .u8 b.toNat] W fun e w' => e = .returned (.int .u8 (low8 b)) ∧ w' = W) := fun W => Tryz.internal_strconv_lower b.toNat W
  generalize Lib.bytesWorld w 5 ⟨#[a, b]⟩ = W1 at *
  have gn : (48 ≤ (b.toNat : Int)) = False ∨ ((48 ≤ (b.toNat : Int)) = True ∧ ((b.toNat : Int) ≤ 57) = False) := by
    by_cases q : 48 ≤ (b.toNat : Int)
    · right; refine ⟨by simpa using q, by simp; omega⟩
    · left; simpa using q

  rcases gn with gx | ⟨gx, gy⟩
  all_goals clear g0
  all_goals
    go_enter Tryz.func174, Tryz.ntmps174
    go_wp2
    refine wp_loop_rounds 4 ?_
    rw [rounds_succ]
    go_wp2_with (first | (go_at_call_of 180 (Value.int IntKind.u8 a.toNat); refine (LA.out _).mono ?_; rintro e w' ⟨rfl, rfl⟩) | (go_at_call_of 180 (Value.int IntKind.u8 b.toNat); refine (LB.out _).mono ?_; rintro e w' ⟨rfl, rfl⟩))
    rw [rounds_succ]
    go_wp2_with (first | (go_at_call_of 180 (Value.int IntKind.u8 a.toNat); refine (LA.out _).mono ?_; rintro e w' ⟨rfl, rfl⟩) | (go_at_call_of 180 (Value.int IntKind.u8 b.toNat); refine (LB.out _).mono ?_; rintro e w' ⟨rfl, rfl⟩))
    go_ret2
    exact ⟨rfl, hbb⟩

set_option maxRecDepth 100000 in
set_option maxHeartbeats 4000000 in
theorem pu_dig_gtr (a b : UInt8) (w : World) (h1 : 48 ≤ (a.toNat : Int)) (h2 : (a.toNat : Int) ≤ 57) (h9 : ((a.toNat : Int) == 95) = false) (g0 : ¬ (48 ≤ (b.toNat : Int) ∧ (b.toNat : Int) ≤ 57)) (g2 : 122 < low8 b) (g3 : low8 b ≤ 255) :
    Calls Tryz.prog 174 #[.string ⟨#[a, b]⟩, .int .i64 16, .int .i64 8] w fun e w' => e = .returned (.tuple #[.int .u64 0, .iface 244 (.int .i64 2)]) ∧ Below w.heap.size w w' := by
  have hcv := Lib.run_convert_string_bytes (P := Tryz.prog) w 9 60 5 ⟨#[a, b]⟩ Tryz.underlying9 Tryz.underlying60 Tryz.underlying5
  have hB0 : (Lib.bytesWorld w 5 ⟨#[a, b]⟩).cell? ⟨w.heap.size, 0, none⟩ = some (.int .u8 a.toNat) := Lib.bytesWorld_cell w 5 ⟨#[a, b]⟩ 0 (by show 0 < 2; decide)
  have hB1 : (Lib.bytesWorld w 5 ⟨#[a, b]⟩).cell? ⟨w.heap.size, 1, none⟩ = some (.int .u8 b.toNat) := Lib.bytesWorld_cell w 5 ⟨#[a, b]⟩ 1 (by show 1 < 2; decide)
  have hbb := Lib.bytesWorld_below w 5 ⟨#[a, b]⟩
  have ua : a.toNat < 256 := a.toNat_lt
  have ub : b.toNat < 256 := b.toNat_lt
  have LA : Hid (∀ W : World, Calls Tryz.prog 180 #[.int .u8 a.toNat] W fun e w' => e = .returned (.int .u8 (low8 a)) ∧ w' = W) := fun W => Tryz.internal_strconv_lower a.toNat W
  have LB : Hid (∀ W : World, Calls Tryz.prog 180 #[.int .u8 b.toNat] W fun e w' => e = .returned (.int .u8 (low8 b)) ∧ w' = W) := fun W => Tryz.internal_strconv_lower b.toNat W
  generalize Lib.bytesWorld w 5 ⟨#[a, b]⟩ = W1 at *
  have gm : ((b.toNat : Int) == 95) = false ∨ ((b.toNat : Int) == 95) = true := by cases ((b.toNat : Int) == 95) <;> simp
  have gn : (48 ≤ (b.toNat : Int)) = False ∨ ((48 ≤ (b.toNat : Int)) = True ∧ ((b.toNat : Int) ≤ 57) = False) := by
    by_cases q : 48 ≤ (b.toNat : Int)
    · right; refine ⟨by simpa using q, by simp; omega⟩
    · left; simpa using q

  rcases gm with g9 | g9 <;> rcases gn with gx | ⟨gx, gy⟩
  all_goals clear g0
  all_goals
    go_enter Tryz.func174, Tryz.ntmps174
    go_wp2
    refine wp_loop_rounds 4 ?_
    rw [rounds_succ]
    go_wp2_with (first | (go_at_call_of 180 (Value.int IntKind.u8 a.toNat); refine (LA.out _).mono ?_; rintro e w' ⟨rfl, rfl⟩) | (go_at_call_of 180 (Value.int IntKind.u8 b.toNat); refine (LB.out _).mono ?_; rintro e w' ⟨rfl, rfl⟩))
    rw [rounds_succ]
    go_wp2_with (first | (go_at_call_of 180 (Value.int IntKind.u8 a.toNat); refine (LA.out _).mono ?_; rintro e w' ⟨rfl, rfl⟩) | (go_at_call_of 180 (Value.int IntKind.u8 b.toNat); refine (LB.out _).mono ?_; rintro e w' ⟨rfl, rfl⟩))
    go_ret2
    exact ⟨rfl, hbb⟩

set_option maxRecDepth 100000 in
set_option maxHeartbeats 4000000 in
theorem pu_hex_dig (a b : UInt8) (w : World) (h0 : ¬ (48 ≤ (a.toNat : Int) ∧ (a.toNat : Int) ≤ 57)) (h2 : 97 ≤ low8 a) (h3 : low8 a ≤ 102) (h9 : ((a.toNat : Int) == 95) = false) (g1 : 48 ≤ (b.toNat : Int)) (g2 : (b.toNat : Int) ≤ 57) (g9 : ((b.toNat : Int) == 95) = false) :
    Calls Tryz.prog 174 #[.string ⟨#[a, b]⟩, .int .i64 16, .int .i64 8] w fun e w' => e = .returned (.tuple #[.int .u64 ((low8 a - 97 + 10) * 16 + (b.toNat - 48 : Int)), .nilIface]) ∧ Below w.heap.size w w' := by
  have hcv := Lib.run_convert_string_bytes (P := Tryz.prog) w 9 60 5 ⟨#[a, b]⟩ Tryz.underlying9 Tryz.underlying60 Tryz.underlying5
  have hB0 : (Lib.bytesWorld w 5 ⟨#[a, b]⟩).cell? ⟨w.heap.size, 0, none⟩ = some (.int .u8 a.toNat) := Lib.bytesWorld_cell w 5 ⟨#[a, b]⟩ 0 (by show 0 < 2; decide)
  have hB1 : (Lib.bytesWorld w 5 ⟨#[a, b]⟩).cell? ⟨w.heap.size, 1, none⟩ = some (.int .u8 b.toNat) := Lib.bytesWorld_cell w 5 ⟨#[a, b]⟩ 1 (by show 1 < 2; decide)
  have hbb := Lib.bytesWorld_below w 5 ⟨#[a, b]⟩
  have ua : a.toNat < 256 := a.toNat_lt
  have ub : b.toNat < 256 := b.toNat_lt
  have LA : Hid (∀ W : World, Calls Tryz.prog 180 #[.int .u8 a.toNat] W fun e w' => e = .returned (.int .u8 (low8 a)) ∧ w' = W) := fun W => Tryz.internal_strconv_lower a.toNat W
  have LB : Hid (∀ W : World, Calls Tryz.prog 180 #[.int .u8 b.toNat] W fun e w' => e = .returned (.int .u8 (low8 b)) ∧ w' = W) := fun W => Tryz.internal_strconv_lower b.toNat W
  generalize Lib.bytesWorld w 5 ⟨#[a, b]⟩ = W1 at *
  have hn : (48 ≤ (a.toNat : Int)) = False ∨ ((48 ≤ (a.toNat : Int)) = True ∧ ((a.toNat : Int) ≤ 57) = False) := by
    by_cases q : 48 ≤ (a.toNat : Int)
    · right; refine ⟨by simpa using q, by simp; omega⟩
    · left; simpa using q

  rcases hn with hx | ⟨hx, hy⟩
  all_goals clear h0
  all_goals
    go_enter Tryz.func174, Tryz.ntmps174
    go_wp2
    refine wp_loop_rounds 4 ?_
    rw [rounds_succ]
    go_wp2_with (first | (go_at_call_of 180 (Value.int IntKind.u8 a.toNat); refine (LA.out _).mono ?_; rintro e w' ⟨rfl, rfl⟩) | (go_at_call_of 180 (Value.int IntKind.u8 b.toNat); refine (LB.out _).mono ?_; rintro e w' ⟨rfl, rfl⟩))
    rw [rounds_succ]
    go_wp2_with (first | (go_at_call_of 180 (Value.int IntKind.u8 a.toNat); refine (LA.out _).mono ?_; rintro e w' ⟨rfl, rfl⟩) | (go_at_call_of 180 (Value.int IntKind.u8 b.toNat); refine (LB.out _).mono ?_; rintro e w' ⟨rfl, rfl⟩))
    rw [rounds_succ]
    go_wp2
    go_ret2
    exact ⟨rfl, hbb⟩

set_option maxRecDepth 100000 in
set_option maxHeartbeats 4000000 in
theorem pu_hex_hex (a b : UInt8) (w : World) (h0 : ¬ (48 ≤ (a.toNat : Int) ∧ (a.toNat : Int) ≤ 57)) (h2 : 97 ≤ low8 a) (h3 : low8 a ≤ 102) (h9 : ((a.toNat : Int) == 95) = false) (g0 : ¬ (48 ≤ (b.toNat : Int) ∧ (b.toNat : Int) ≤ 57)) (g2 : 97 ≤ low8 b) (g3 : low8 b ≤ 102) (g9 : ((b.toNat : Int) == 95) = false) :
    Calls Tryz.prog 174 #[.string ⟨#[a, b]⟩, .int .i64 16, .int .i64 8] w fun e w' => e = .returned (.tuple #[.int .u64 ((low8 a - 97 + 10) * 16 + (low8 b - 97 + 10)), .nilIface]) ∧ Below w.heap.size w w' := by
  have hcv := Lib.run_convert_string_bytes (P := Tryz.prog) w 9 60 5 ⟨#[a, b]⟩ Tryz.underlying9 Tryz.underlying60 Tryz.underlying5
  have hB0 : (Lib.bytesWorld w 5 ⟨#[a, b]⟩).cell? ⟨w.heap.size, 0, none⟩ = some (.int .u8 a.toNat) := Lib.bytesWorld_cell w 5 ⟨#[a, b]⟩ 0 (by show 0 < 2; decide)
  have hB1 : (Lib.bytesWorld w 5 ⟨#[a, b]⟩).cell? ⟨w.heap.size, 1, none⟩ = some (.int .u8 b.toNat) := Lib.bytesWorld_cell w 5 ⟨#[a, b]⟩ 1 (by show 1 < 2; decide)
  have hbb := Lib.bytesWorld_below w 5 ⟨#[a, b]⟩
  have ua : a.toNat < 256 := a.toNat_lt
  have ub : b.toNat < 256 := b.toNat_lt
  have LA : Hid (∀ W : World, Calls Tryz.prog 180 #[.int .u8 a.toNat] W fun e w' => e = .returned (.int .u8 (low8 a)) ∧ w' = W) := fun W => Tryz.internal_strconv_lower a.toNat W
  have LB : Hid (∀ W : World, Calls Tryz.prog 180 #[.int .u8 b.toNat] W fun e w' => e = .returned (.int .u8 (low8 b)) ∧ w' = W) := fun W => Tryz.internal_strconv_lower b.toNat W
  generalize Lib.bytesWorld w 5 ⟨#[a, b]⟩ = W1 at *
  have hn : (48 ≤ (a.toNat : Int)) = False ∨ ((48 ≤ (a.toNat : Int)) = True ∧ ((a.toNat : Int) ≤ 57) = False) := by
    by_cases q : 48 ≤ (a.toNat : Int)
    · right; refine ⟨by simpa using q, by simp; omega⟩
    · left; simpa using q
  have gn : (48 ≤ (b.toNat : Int)) = False ∨ ((48 ≤ (b.toNat : Int)) = True ∧ ((b.toNat : Int) ≤ 57) = False) := by
    by_cases q : 48 ≤ (b.toNat : Int)
    · right; refine ⟨by simpa using q, by simp; omega⟩
    · left; simpa using q

  rcases hn with hx | ⟨hx, hy⟩ <;> rcases gn with gx | ⟨gx, gy⟩
  all_goals clear h0
  all_goals clear g0
  all_goals
    go_enter Tryz.func174, Tryz.ntmps174
    go_wp2
    refine wp_loop_rounds 4 ?_
    rw [rounds_succ]
    go_wp2_with (first | (go_at_call_of 180 (Value.int IntKind.u8 a.toNat); refine (LA.out _).mono ?_; rintro e w' ⟨rfl, rfl⟩) | (go_at_call_of 180 (Value.int IntKind.u8 b.toNat); refine (LB.out _).mono ?_; rintro e w' ⟨rfl, rfl⟩))
    rw [rounds_succ]
    go_wp2_with (first | (go_at_call_of 180 (Value.int IntKind.u8 a.toNat); refine (LA.out _).mono ?_; rintro e w' ⟨rfl, rfl⟩) | (go_at_call_of 180 (Value.int IntKind.u8 b.toNat); refine (LB.out _).mono ?_; rintro e w' ⟨rfl, rfl⟩))
    rw [rounds_succ]
    go_wp2
    go_ret2
    exact ⟨rfl, hbb⟩

set_option maxRecDepth 100000 in
set_option maxHeartbeats 4000000 in
theorem pu_hex_let (a b : UInt8) (w : World) (h0 : ¬ (48 ≤ (a.toNat : Int) ∧ (a.toNat : Int) ≤ 57)) (h2 : 97 ≤ low8 a) (h3 : low8 a ≤ 102) (h9 : ((a.toNat : Int) == 95) = false) (g0 : ¬ (48 ≤ (b.toNat : Int) ∧ (b.toNat : Int) ≤ 57)) (g2 : 102 < low8 b) (g3 : low8 b ≤ 122) (g9 : ((b.toNat : Int) == 95) = false) :
    Calls Tryz.prog 174 #[.string ⟨#[a, b]⟩, .int .i64 16, .int .i64 8] w fun e w' => e = .returned (.tuple #[.int .u64 0, .iface 244 (.int .i64 2)]) ∧ Below w.heap.size w w' := by
  have hcv := Lib.run_convert_string_bytes (P := Tryz.prog) w 9 60 5 ⟨#[a, b]⟩ Tryz.underlying9 Tryz.underlying60 Tryz.underlying5
  have hB0 : (Lib.bytesWorld w 5 ⟨#[a, b]⟩).cell? ⟨w.heap.size, 0, none⟩ = some (.int .u8 a.toNat) := Lib.bytesWorld_cell w 5 ⟨#[a, b]⟩ 0 (by show 0 < 2; decide)
  have hB1 : (Lib.bytesWorld w 5 ⟨#[a, b]⟩).cell? ⟨w.heap.size, 1, none⟩ = some (.int .u8 b.toNat) := Lib.bytesWorld_cell w 5 ⟨#[a, b]⟩ 1 (by show 1 < 2; decide)
  have hbb := Lib.bytesWorld_below w 5 ⟨#[a, b]⟩
  have ua : a.toNat < 256 := a.toNat_lt
  have ub : b.toNat < 256 := b.toNat_lt
  have LA : Hid (∀ W : World, Calls Tryz.prog 180 #[.int .u8 a.toNat] W fun e w' => e = .returned (.int .u8 (low8 a)) ∧ w' = W) := fun W => Tryz.internal_strconv_lower a.toNat W
  have LB : Hid (∀ W : World, Calls Tryz.prog 180 #[.int .u8 b.toNat] W fun e w' => e = .returned (.int .u8 (low8 b)) ∧ w' = W) := fun W => Tryz.internal_strconv_lower b.toNat W
  generalize Lib.bytesWorld w 5 ⟨#[a, b]⟩ = W1 at *
  have hn : (48 ≤ (a.toNat : Int)) = False ∨ ((48 ≤ (a.toNat : Int)) = True ∧ ((a.toNat : Int) ≤ 57) = False) := by
    by_cases q : 48 ≤ (a.toNat : Int)
    · right; refine ⟨by simpa using q, by simp; omega⟩
    · left; simpa using q
  have gn : (48 ≤ (b.toNat : Int)) = False ∨ ((48 ≤ (b.toNat : Int)) = True ∧ ((b.toNat : Int) ≤ 57) = False) := by
    by_cases q : 48 ≤ (b.toNat : Int)
    · right; refine ⟨by simpa using q, by simp; omega⟩
    · left; simpa using q

  rcases hn with hx | ⟨hx, hy⟩ <;> rcases gn with gx | ⟨gx, gy⟩
  all_goals clear h0
  all_goals clear g0
  all_goals
    go_enter Tryz.func174, Tryz.ntmps174
    go_wp2
    refine wp_loop_rounds 4 ?_
    rw [rounds_succ]
    go_wp2_with (first | (go_at_call_of 180 (Value.int IntKind.u8 a.toNat); refine (LA.out _).mono ?_; rintro e w' ⟨rfl, rfl⟩) | (go_at_call_of 180 (Value.int IntKind.u8 b.toNat); refine (LB.out _).mono ?_; rintro e w' ⟨rfl, rfl⟩))
    rw [rounds_succ]
    go_wp2_with (first | (go_at_call_of 180 (Value.int IntKind.u8 a.toNat); refine (LA.out _).mono ?_; rintro e w' ⟨rfl, rfl⟩) | (go_at_call_of 180 (Value.int IntKind.u8 b.toNat); refine (LB.out _).mono ?_; rintro e w' ⟨rfl, rfl⟩))
    go_ret2
    exact ⟨rfl, hbb⟩

set_option maxRecDepth 100000 in
set_option maxHeartbeats 4000000 in
theorem pu_hex_lss (a b : UInt8) (w : World) (h0 : ¬ (48 ≤ (a.toNat : Int) ∧ (a.toNat : Int) ≤ 57)) (h2 : 97 ≤ low8 a) (h3 : low8 a ≤ 102) (h9 : ((a.toNat : Int) == 95) = false) (g0 : ¬ (48 ≤ (b.toNat : Int) ∧ (b.toNat : Int) ≤ 57)) (g2 : low8 b < 97) (g3 : 0 ≤ low8 b) (g9 : ((b.toNat : Int) == 95) = false) :
    Calls Tryz.prog 174 #[.string ⟨#[a, b]⟩, .int .i64 16, .int .i64 8] w fun e w' => e = .returned (.tuple #[.int .u64 0, .iface 244 (.int .i64 2)]) ∧ Below w.heap.size w w' := by
  have hcv := Lib.run_convert_string_bytes (P := Tryz.prog) w 9 60 5 ⟨#[a, b]⟩ Tryz.underlying9 Tryz.underlying60 Tryz.underlying5
  have hB0 : (Lib.bytesWorld w 5 ⟨#[a, b]⟩).cell? ⟨w.heap.size, 0, none⟩ = some (.int .u8 a.toNat) := Lib.bytesWorld_cell w 5 ⟨#[a, b]⟩ 0 (by show 0 < 2; decide)
  have hB1 : (Lib.bytesWorld w 5 ⟨#[a, b]⟩).cell? ⟨w.heap.size, 1, none⟩ = some (.int .u8 b.toNat) := Lib.bytesWorld_cell w 5 ⟨#[a, b]⟩ 1 (by show 1 < 2; decide)
  have hbb := Lib.bytesWorld_below w 5 ⟨#[a, b]⟩
  have ua : a.toNat < 256 := a.toNat_lt
  have ub : b.toNat < 256 := b.toNat_lt
  have LA : Hid (∀ W : World, Calls Tryz.prog 180 #[.int .u8 a.toNat] W fun e w' => e = .returned (.int .u8 (low8 a)) ∧ w' = W) := fun W => Tryz.internal_strconv_lower a.toNat W
  have LB : Hid (∀ W : World, Calls Tryz.prog 180 #[.int .u8 b.toNat] W fun e w' => e = .returned (.int .u8 (low8 b)) ∧ w' = W) := fun W => Tryz.internal_strconv_lower b.toNat W
  generalize Lib.bytesWorld w 5 ⟨#[a, b]⟩ = W1 at *
  have hn : (48 ≤ (a.toNat : Int)) = False ∨ ((48 ≤ (a.toNat : Int)) = True ∧ ((a.toNat : Int) ≤ 57) = False) := by
    by_cases q : 48 ≤ (a.toNat : Int)
    · right; refine ⟨by simpa using q, by simp; omega⟩
    · left; simpa using q
  have gn : (48 ≤ (b.toNat : Int)) = False ∨ ((48 ≤ (b.toNat : Int)) = True ∧ ((b.toNat : Int) ≤ 57) = False) := by
    by_cases q : 48 ≤ (b.toNat : Int)
    · right; refine ⟨by simpa using q, by simp; omega⟩
    · left; simpa using q

  rcases hn with hx | ⟨hx, hy⟩ <;> rcases gn with gx | ⟨gx, gy⟩
  all_goals clear h0
  all_goals clear g0
  all_goals
    go_enter Tryz.func174, Tryz.ntmps174
    go_wp2
    refine wp_loop_rounds 4 ?_
    rw [rounds_succ]
    go_wp2_with (first | (go_at_call_of 180 (Value.int IntKind.u8 a.toNat); refine (LA.out _).mono ?_; rintro e w' ⟨rfl, rfl⟩) | (go_at_call_of 180 (Value.int IntKind.u8 b.toNat); refine (LB.out _).mono ?_; rintro e w' ⟨rfl, rfl⟩))
    rw [rounds_succ]
    go_wp2_with (first | (go_at_call_of 180 (Value.int IntKind.u8 a.toNat); refine (LA.out _).mono ?_; rintro e w' ⟨rfl, rfl⟩) | (go_at_call_of 180 (Value.int IntKind.u8 b.toNat); refine (LB.out _).mono ?_; rintro e w' ⟨rfl, rfl⟩))
    go_ret2
    exact ⟨rfl, hbb⟩

set_option maxRecDepth 100000 in
set_option maxHeartbeats 4000000 in
theorem pu_hex_gtr (a b : UInt8) (w : World) (h0 : ¬ (48 ≤ (a.toNat : Int) ∧ (a.toNat : Int) ≤ 57)) (h2 : 97 ≤ low8 a) (h3 : low8 a ≤ 102) (h9 : ((a.toNat : Int) == 95) = false) (g0 : ¬ (48 ≤ (b.toNat : Int) ∧ (b.toNat : Int) ≤ 57)) (g2 : 122 < low8 b) (g3 : low8 b ≤ 255) :
    Calls Tryz.prog 174 #[.string ⟨#[a, b]⟩, .int .i64 16, .int .i64 8] w fun e w' => e = .returned (.tuple #[.int .u64 0, .iface 244 (.int .i64 2)]) ∧ Below w.heap.size w w' := by
  have hcv := Lib.run_convert_string_bytes (P := Tryz.prog) w 9 60 5 ⟨#[a, b]⟩ Tryz.underlying9 Tryz.underlying60 Tryz.underlying5
  have hB0 : (Lib.bytesWorld w 5 ⟨#[a, b]⟩).cell? ⟨w.heap.size, 0, none⟩ = some (.int .u8 a.toNat) := Lib.bytesWorld_cell w 5 ⟨#[a, b]⟩ 0 (by show 0 < 2; decide)
  have hB1 : (Lib.bytesWorld w 5 ⟨#[a, b]⟩).cell? ⟨w.heap.size, 1, none⟩ = some (.int .u8 b.toNat) := Lib.bytesWorld_cell w 5 ⟨#[a, b]⟩ 1 (by show 1 < 2; decide)
  have hbb := Lib.bytesWorld_below w 5 ⟨#[a, b]⟩
  have ua : a.toNat < 256 := a.toNat_lt
  have ub : b.toNat < 256 := b.toNat_lt
  have LA : Hid (∀ W : World, Calls Tryz.prog 180 #[.int .u8 a.toNat] W fun e w' => e = .returned (.int .u8 (low8 a)) ∧ w' = W) := fun W => Tryz.internal_strconv_lower a.toNat W
  have LB : Hid (∀ W : World, Calls Tryz.prog 180 #[.int .u8 b.toNat] W fun e w' => e = .returned (.int .u8 (low8 b)) ∧ w' = W) := fun W => Tryz.internal_strconv_lower b.toNat W
  generalize Lib.bytesWorld w 5 ⟨#[a, b]⟩ = W1 at *
  have hn : (48 ≤ (a.toNat : Int)) = False ∨ ((48 ≤ (a.toNat : Int)) = True ∧ ((a.toNat : Int) ≤ 57) = False) := by
    by_cases q : 48 ≤ (a.toNat : Int)
    · right; refine ⟨by simpa using q, by simp; omega⟩
    · left; simpa using q
  have gm : ((b.toNat : Int) == 95) = false ∨ ((b.toNat : Int) == 95) = true := by cases ((b.toNat : Int) == 95) <;> simp
  have gn : (48 ≤ (b.toNat : Int)) = False ∨ ((48 ≤ (b.toNat : Int)) = True ∧ ((b.toNat : Int) ≤ 57) = False) := by
    by_cases q : 48 ≤ (b.toNat : Int)
    · right; refine ⟨by simpa using q, by simp; omega⟩
    · left; simpa using q

  rcases gm with g9 | g9 <;> rcases hn with hx | ⟨hx, hy⟩ <;> rcases gn with gx | ⟨gx, gy⟩
  all_goals clear h0
  all_goals clear g0
  all_goals
    go_enter Tryz.func174, Tryz.ntmps174
    go_wp2
    refine wp_loop_rounds 4 ?_
    rw [rounds_succ]
    go_wp2_with (first | (go_at_call_of 180 (Value.int IntKind.u8 a.toNat); refine (LA.out _).mono ?_; rintro e w' ⟨rfl, rfl⟩) | (go_at_call_of 180 (Value.int IntKind.u8 b.toNat); refine (LB.out _).mono ?_; rintro e w' ⟨rfl, rfl⟩))
    rw [rounds_succ]
    go_wp2_with (first | (go_at_call_of 180 (Value.int IntKind.u8 a.toNat); refine (LA.out _).mono ?_; rintro e w' ⟨rfl, rfl⟩) | (go_at_call_of 180 (Value.int IntKind.u8 b.toNat); refine (LB.out _).mono ?_; rintro e w' ⟨rfl, rfl⟩))
    go_ret2
    exact ⟨rfl, hbb⟩

end Go.Proofs.YtgmmhgbodddadaaGreatDoor

namespace Go.Proofs.YtgmmhgbodddadaaGreatDoor
open Go.RowKit Go.Shelf
set_option linter.unusedVariables false

/-- What two bytes say to the base 16. -/
def hex2 (a b : UInt8) : Option UInt8 := if hexv a < 16 ∧ hexv b < 16 then some (UInt8.ofNat (16 * hexv a + hexv b)) else none


/-- Internal ParseUint of two bytes. -/
theorem ipu_yes (a b : UInt8) (w : World) (hh : (hexv a < 16 ∧ hexv b < 16)) :
    Calls Tryz.prog 174 #[.string ⟨#[a, b]⟩, .int .i64 16, .int .i64 8] w fun e w' => e = .returned (.tuple #[.int .u64 ((16 * hexv a + hexv b : Nat) : Int), .nilIface]) ∧ Below w.heap.size w w' := by
  rcases cls a with ⟨h1, h2, h3, h9⟩ | ⟨h1, h2, h3, h4, h9⟩ | ⟨h1, h2, h3, h4, h9⟩ | ⟨h1, h2, h3, h4, h9⟩ | ⟨h1, h2, h3, h4⟩
  · rcases cls b with ⟨g1, g2, g3, g9⟩ | ⟨g1, g2, g3, g4, g9⟩ | ⟨g1, g2, g3, g4, g9⟩ | ⟨g1, g2, g3, g4, g9⟩ | ⟨g1, g2, g3, g4⟩
    · have h := pu_dig_dig a b w h1 h2 h9 g1 g2 g9
      rw [show (a.toNat - 48 : Int) * 16 + (b.toNat - 48 : Int) = ((16 * hexv a + hexv b : Nat) : Int) by omega] at h
      exact h
    · have h := pu_dig_hex a b w h1 h2 h9 g1 g2 g3 g9
      rw [show (a.toNat - 48 : Int) * 16 + (low8 b - 97 + 10) = ((16 * hexv a + hexv b : Nat) : Int) by omega] at h
      exact h
    · exfalso; omega
    · exfalso; omega
    · exfalso; omega
  · rcases cls b with ⟨g1, g2, g3, g9⟩ | ⟨g1, g2, g3, g4, g9⟩ | ⟨g1, g2, g3, g4, g9⟩ | ⟨g1, g2, g3, g4, g9⟩ | ⟨g1, g2, g3, g4⟩
    · have h := pu_hex_dig a b w h1 h2 h3 h9 g1 g2 g9
      rw [show (low8 a - 97 + 10) * 16 + (b.toNat - 48 : Int) = ((16 * hexv a + hexv b : Nat) : Int) by omega] at h
      exact h
    · have h := pu_hex_hex a b w h1 h2 h3 h9 g1 g2 g3 g9
      rw [show (low8 a - 97 + 10) * 16 + (low8 b - 97 + 10) = ((16 * hexv a + hexv b : Nat) : Int) by omega] at h
      exact h
    · exfalso; omega
    · exfalso; omega
    · exfalso; omega
  · exfalso; omega
  · exfalso; omega
  · exfalso; omega
/-- Internal ParseUint of two bytes. -/
theorem ipu_no (a b : UInt8) (w : World) (hh : ¬ (hexv a < 16 ∧ hexv b < 16)) :
    Calls Tryz.prog 174 #[.string ⟨#[a, b]⟩, .int .i64 16, .int .i64 8] w fun e w' => e = .returned (.tuple #[.int .u64 0, .iface 244 (.int .i64 2)]) ∧ Below w.heap.size w w' := by
  rcases cls a with ⟨h1, h2, h3, h9⟩ | ⟨h1, h2, h3, h4, h9⟩ | ⟨h1, h2, h3, h4, h9⟩ | ⟨h1, h2, h3, h4, h9⟩ | ⟨h1, h2, h3, h4⟩
  · rcases cls b with ⟨g1, g2, g3, g9⟩ | ⟨g1, g2, g3, g4, g9⟩ | ⟨g1, g2, g3, g4, g9⟩ | ⟨g1, g2, g3, g4, g9⟩ | ⟨g1, g2, g3, g4⟩
    · exact absurd ⟨by omega, by omega⟩ hh
    · exact absurd ⟨by omega, by omega⟩ hh
    · exact pu_dig_let a b w h1 h2 h9 g1 g2 g3 g9
    · exact pu_dig_lss a b w h1 h2 h9 g1 g2 g3 g9
    · exact pu_dig_gtr a b w h1 h2 h9 g1 g2 g3
  · rcases cls b with ⟨g1, g2, g3, g9⟩ | ⟨g1, g2, g3, g4, g9⟩ | ⟨g1, g2, g3, g4, g9⟩ | ⟨g1, g2, g3, g4, g9⟩ | ⟨g1, g2, g3, g4⟩
    · exact absurd ⟨by omega, by omega⟩ hh
    · exact absurd ⟨by omega, by omega⟩ hh
    · exact pu_hex_let a b w h1 h2 h3 h9 g1 g2 g3 g9
    · exact pu_hex_lss a b w h1 h2 h3 h9 g1 g2 g3 g9
    · exact pu_hex_gtr a b w h1 h2 h3 h9 g1 g2 g3
  · exact pu_let a b w h1 h2 h3 h9
  · exact pu_lss a b w h1 h2 h3 h9
  · exact pu_gtr a b w h1 h2 h3

/-- The two errors of strconv lie as interface values. -/
structure Errs (w : World) : Prop where
  syn : ∃ ev, w.cell? ⟨7, 0, none⟩ = some ev ∧ (ev = .nilIface ∨ ∃ te pe, ev = .iface te pe)
  rng : ∃ ev, w.cell? ⟨8, 0, none⟩ = some ev ∧ (ev = .nilIface ∨ ∃ te pe, ev = .iface te pe)
theorem Errs.below {w W : World} (h : Errs w) (hb : Below w.heap.size w W) (hs : 9 ≤ w.heap.size) : Errs W := by
  obtain ⟨⟨e1, c1, d1⟩, ⟨e2, c2, d2⟩⟩ := h
  exact ⟨⟨e1, (hb.cell (p := ⟨_, 0, none⟩) (by show 7 < w.heap.size; omega)).trans c1, d1⟩, ⟨e2, (hb.cell (p := ⟨_, 0, none⟩) (by show 8 < w.heap.size; omega)).trans c2, d2⟩⟩

set_option maxRecDepth 100000 in
set_option maxHeartbeats 2000000 in
theorem pu_yes (a b : UInt8) (w : World) (h : hexv a < 16 ∧ hexv b < 16) :
    Calls Tryz.prog 173 #[.string ⟨#[a, b]⟩, .int .i64 16, .int .i64 8] w fun e w' => e = .returned (.tuple #[.int .u64 ((16 * hexv a + hexv b : Nat) : Int), .nilIface]) ∧ Below w.heap.size w w' := by
  obtain ⟨v, ev⟩ : ∃ v : Int, Hid (((16 * hexv a + hexv b : Nat) : Int) = v) := ⟨_, rfl⟩
  have H : Hid (∀ W : World, Calls Tryz.prog 174 #[.string ⟨#[a, b]⟩, .int .i64 16, .int .i64 8] W fun e w' => e = .returned (.tuple #[.int .u64 v, .nilIface]) ∧ Below W.heap.size W w') := fun W => by
    have q := ipu_yes a b W h
    rw [ev.out] at q
    exact q
  rw [ev.out]
  clear h ev
  go_enter Tryz.func173, Tryz.ntmps173
  go_wp2_with fail
  refine (H.out _).mono ?_
  rintro e w1 ⟨rfl, hb⟩
  go_wp2
  go_ret2
  exact ⟨rfl, hb⟩

set_option maxRecDepth 100000 in
set_option maxHeartbeats 2000000 in
theorem pu_no (a b : UInt8) (w : World) (h : ¬ (hexv a < 16 ∧ hexv b < 16)) (he : Errs w) (hs : 9 ≤ w.heap.size) :
    Calls Tryz.prog 173 #[.string ⟨#[a, b]⟩, .int .i64 16, .int .i64 8] w fun e w' => ∃ p, e = .returned (.tuple #[.int .u64 0, .iface 245 p]) ∧ Below w.heap.size w w' := by
  have H : Hid (∀ W : World, Calls Tryz.prog 174 #[.string ⟨#[a, b]⟩, .int .i64 16, .int .i64 8] W fun e w' => e = .returned (.tuple #[.int .u64 0, .iface 244 (.int .i64 2)]) ∧ Below W.heap.size W w') := fun W => by
    exact ipu_no a b W h
  clear h
  go_enter Tryz.func173, Tryz.ntmps173
  go_wp2_with fail
  refine (H.out _).mono ?_
  rintro e w1 ⟨rfl, hb⟩
  obtain ⟨⟨ev, hv, hev⟩, -⟩ := he.below hb hs
  have hsz : (⟨#[a, b]⟩ : ByteArray).size ≤ 281474976710656 := by show 2 ≤ _; decide
  go_wp2_with fail
  refine (Tryz.strconv_toError_syntax _ _ 16 8 ev _ hsz hv hev).mono ?_
  rintro e w2 ⟨N, rfl, -, -, hb2⟩
  go_wp2
  go_ret2
  exact ⟨_, rfl, hb.trans (hb2.mono hb.size)⟩

end Go.Proofs.YtgmmhgbodddadaaGreatDoor

namespace Go.Proofs.YtgmmhgbodddadaaGreatDoor
open Go.RowKit Go.Shelf
set_option linter.unusedVariables false

/-- What stands behind a backslash: the byte, and how many bytes say so. -/
def une : List UInt8 → Option (UInt8 × Nat)
  | [] => none
  | c :: r => if c.toNat = 120 then (match r with
      | a :: b :: _ => (hex2 a b).map fun x => (x, 3)
      | _ => none) else some (c, 1)
/-- What a text between quotes says. -/
def unq (l : List UInt8) : Option (List UInt8) :=
  match l with
  | [] => some []
  | c :: r => if c.toNat = 92 then (match une r with
      | none => none
      | some (x, k) => (unq (r.drop k)).map fun y => x :: y) else (unq r).map fun y => c :: y
termination_by l.length
decreasing_by all_goals simp; try omega

theorem unq_nil : unq [] = some [] := by rw [unq]
theorem unq_plain {c : UInt8} (r : List UInt8) (h : c.toNat ≠ 92) : unq (c :: r) = (unq r).map fun y => c :: y := by rw [unq]; simp [h]
theorem unq_esc {c : UInt8} (r : List UInt8) (h : c.toNat = 92) : unq (c :: r) = (match une r with
      | none => none
      | some (x, k) => (unq (r.drop k)).map fun y => x :: y) := by rw [unq]; simp [h]
theorem une_len {l : List UInt8} {x : UInt8} {k : Nat} (h : une l = some (x, k)) : k ≤ l.length ∧ k ≤ 3 := by
  unfold une at h
  split at h
  · cases h
  · split at h
    · split at h
      · simp only [Option.map_eq_some_iff, Prod.mk.injEq] at h
        obtain ⟨y, _, _, rfl⟩ := h
        simp
      · cases h
    · simp only [Option.some.injEq, Prod.mk.injEq] at h
      simp [← h.2]
set_option maxRecDepth 100000 in
set_option maxHeartbeats 2000000 in
theorem unesc_nil (w : World) :
    Calls Tryz.prog 169 #[.string ⟨#[]⟩] w fun e w' => e = .returned (.tuple #[.int .u8 0, .int .i64 0, .bool false]) ∧ Below w.heap.size w w' := by
  go_enter Tryz.func169, Tryz.ntmps169
  go_wp2
  refine bodyPost_ret (by simp [results, Tryz.results169, go_sem]; try rfl) rfl ?_
  exact ⟨rfl, Below.refl _ _⟩

set_option maxRecDepth 100000 in
set_option maxHeartbeats 2000000 in
theorem unesc_one (u : ByteArray) (c : UInt8) (w : World) (h0 : 0 < u.size) (hc : u[0] = c) (h1 : ((c.toNat : Int) != 120) = true) (hne : (u.toList == []) = false) :
    Calls Tryz.prog 169 #[.string u] w fun e w' => e = .returned (.tuple #[.int .u8 c.toNat, .int .i64 1, .bool true]) ∧ Below w.heap.size w w' := by
  have h0' : (0 : Int) < u.size := by omega
  have hb : ByteArray.toList u ≠ [] := by simpa using hne
  go_enter Tryz.func169, Tryz.ntmps169
  go_wp2
  refine bodyPost_ret (by simp [results, Tryz.results169, go_sem]; try rfl) rfl ?_
  exact ⟨rfl, Below.refl _ _⟩

set_option maxRecDepth 100000 in
set_option maxHeartbeats 2000000 in
theorem unesc_short (u : ByteArray) (c : UInt8) (w : World) (h0 : 0 < u.size) (hc : u[0] = c) (h1 : ((c.toNat : Int) != 120) = false) (hne : (u.toList == []) = false) (h3 : u.size < 3) :
    Calls Tryz.prog 169 #[.string u] w fun e w' => e = .returned (.tuple #[.int .u8 0, .int .i64 0, .bool false]) ∧ Below w.heap.size w w' := by
  have h0' : (0 : Int) < u.size := by omega
  have h3' : (u.size : Int) < 3 := by omega
  have hb : ByteArray.toList u ≠ [] := by simpa using hne
  go_enter Tryz.func169, Tryz.ntmps169
  go_wp2
  refine bodyPost_ret (by simp [results, Tryz.results169, go_sem]; try rfl) rfl ?_
  exact ⟨rfl, Below.refl _ _⟩

set_option maxRecDepth 100000 in
set_option maxHeartbeats 2000000 in
theorem unesc_yes (u : ByteArray) (c a b : UInt8) (w : World) (h0 : 0 < u.size) (hc : u[0] = c) (h1 : ((c.toNat : Int) != 120) = false) (hne : (u.toList == []) = false) (h3 : 3 ≤ u.size) (hx : u.extract 1 3 = ⟨#[a, b]⟩) (hh : hexv a < 16 ∧ hexv b < 16) :
    Calls Tryz.prog 169 #[.string u] w fun e w' => e = .returned (.tuple #[.int .u8 ((16 * hexv a + hexv b : Nat) : Int), .int .i64 3, .bool true]) ∧ Below w.heap.size w w' := by
  obtain ⟨v, ev⟩ : ∃ v : Nat, Hid (16 * hexv a + hexv b = v) := ⟨_, rfl⟩
  have hv : v < 256 := by have := ev.out; omega
  have H : Hid (∀ W : World, Calls Tryz.prog 173 #[.string ⟨#[a, b]⟩, .int .i64 16, .int .i64 8] W fun e w' => e = .returned (.tuple #[.int .u64 (v : Int), .nilIface]) ∧ Below W.heap.size W w') := fun W => by
    have q := pu_yes a b W hh
    rw [ev.out] at q
    exact q
  have hw : IntKind.u8.wrap (v : Int) = (v : Int) := by simp [IntKind.wrap, IntKind.bits, IntKind.signed]; omega
  rw [ev.out]
  clear ev hh
  have h0' : (0 : Int) < u.size := by omega
  have h3' : (3 : Int) ≤ u.size := by omega
  have hb : ByteArray.toList u ≠ [] := by simpa using hne
  go_enter Tryz.func169, Tryz.ntmps169
  go_wp2_with fail
  refine (H.out _).mono ?_
  rintro e w1 ⟨rfl, hb1⟩
  go_wp2
  go_region
  go_wp2
  refine bodyPost_ret (by simp [results, Tryz.results169, go_sem]; try rfl) rfl ?_
  exact ⟨rfl, hb1.drew⟩

set_option maxRecDepth 100000 in
set_option maxHeartbeats 2000000 in
theorem unesc_no (u : ByteArray) (c a b : UInt8) (w : World) (h0 : 0 < u.size) (hc : u[0] = c) (h1 : ((c.toNat : Int) != 120) = false) (hne : (u.toList == []) = false) (h3 : 3 ≤ u.size) (hx : u.extract 1 3 = ⟨#[a, b]⟩) (hh : ¬ (hexv a < 16 ∧ hexv b < 16)) (he : Errs w) (h8 : 9 ≤ w.heap.size) :
    Calls Tryz.prog 169 #[.string u] w fun e w' => e = .returned (.tuple #[.int .u8 0, .int .i64 3, .bool false]) ∧ Below w.heap.size w w' := by
  have H : Hid (∀ W : World, Errs W → 9 ≤ W.heap.size → Calls Tryz.prog 173 #[.string ⟨#[a, b]⟩, .int .i64 16, .int .i64 8] W fun e w' => ∃ p, e = .returned (.tuple #[.int .u64 0, .iface 245 p]) ∧ Below W.heap.size W w') := fun W h g => pu_no a b W hh h g
  clear hh
  have h0' : (0 : Int) < u.size := by omega
  have h3' : (3 : Int) ≤ u.size := by omega
  have hb : ByteArray.toList u ≠ [] := by simpa using hne
  go_enter Tryz.func169, Tryz.ntmps169
  go_wp2_with fail
  refine (H.out _ he h8).mono ?_
  rintro e w1 ⟨p, rfl, hb1⟩
  go_wp2
  go_region
  go_wp2
  refine bodyPost_ret (by simp [results, Tryz.results169, go_sem]; try rfl) rfl ?_
  exact ⟨rfl, hb1.drew⟩

/-- unescape at every text. -/
theorem unesc_any (u : ByteArray) (w : World) (he : Errs w) (h8 : 9 ≤ w.heap.size) :
    Calls Tryz.prog 169 #[.string u] w fun e w' => (match une u.data.toList with
      | some (x, k) => e = .returned (.tuple #[.int .u8 x.toNat, .int .i64 k, .bool true])
      | none => ∃ p q, e = .returned (.tuple #[.int .u8 p, .int .i64 q, .bool false])) ∧ Below w.heap.size w w' := by
  obtain ⟨⟨l⟩⟩ := u
  match l with
  | [] =>
    refine (unesc_nil w).mono ?_
    rintro e w' ⟨rfl, hb⟩
    exact ⟨⟨_, _, rfl⟩, hb⟩
  | c :: r =>
    have h0 : 0 < (⟨⟨c :: r⟩⟩ : ByteArray).size := by show 0 < (c :: r).length; simp
    have hc : (⟨⟨c :: r⟩⟩ : ByteArray)[0] = c := rfl
    have hne : ((⟨⟨c :: r⟩⟩ : ByteArray).toList == []) = false := by simp [ByteArray.toList_eq]
    have el : (⟨⟨c :: r⟩⟩ : ByteArray).data.toList = c :: r := rfl
    rw [el]
    by_cases h1 : c.toNat = 120
    · have h1' : ((c.toNat : Int) != 120) = false := by simp [h1]
      match r with
      | [] =>
        refine (unesc_short _ c w h0 hc h1' hne (by show 1 < 3; omega)).mono ?_
        rintro e w' ⟨rfl, hb⟩
        refine ⟨?_, hb⟩
        simp only [une, h1, if_true]
        exact ⟨_, _, rfl⟩
      | [a] =>
        refine (unesc_short _ c w h0 hc h1' hne (by show 2 < 3; omega)).mono ?_
        rintro e w' ⟨rfl, hb⟩
        refine ⟨?_, hb⟩
        simp only [une, h1, if_true]
        exact ⟨_, _, rfl⟩
      | a :: b :: r' =>
        have h3 : 3 ≤ (⟨⟨c :: a :: b :: r'⟩⟩ : ByteArray).size := by show 3 ≤ (c :: a :: b :: r').length; simp
        have hx : (⟨⟨c :: a :: b :: r'⟩⟩ : ByteArray).extract 1 3 = ⟨#[a, b]⟩ := by apply ByteArray.ext; simp [ByteArray.data_extract]
        by_cases hh : hexv a < 16 ∧ hexv b < 16
        · refine (unesc_yes _ c a b w h0 hc h1' hne h3 hx hh).mono ?_
          rintro e w' ⟨rfl, hb⟩
          refine ⟨?_, hb⟩
          have e1 : (UInt8.ofNat (16 * hexv a + hexv b)).toNat = 16 * hexv a + hexv b := by simp [UInt8.toNat_ofNat]; omega
          simp only [une, h1, if_true, hex2, if_pos hh, Option.map_some, e1]
          rfl
        · refine (unesc_no _ c a b w h0 hc h1' hne h3 hx hh he h8).mono ?_
          rintro e w' ⟨rfl, hb⟩
          refine ⟨?_, hb⟩
          simp only [une, h1, if_true, hex2, if_neg hh, Option.map_none]
          exact ⟨_, _, rfl⟩
    · have h1' : ((c.toNat : Int) != 120) = true := by simp; omega
      refine (unesc_one _ c w h0 hc h1' hne).mono ?_
      rintro e w' ⟨rfl, hb⟩
      refine ⟨?_, hb⟩
      simp only [une, if_neg h1]
      rfl

theorem unq_len : ∀ (n : Nat) (l x : List UInt8), l.length ≤ n → unq l = some x → x.length ≤ l.length
  | n, [], x, _, h => by rw [unq_nil] at h; cases h; simp
  | 0, c :: r, x, hn, h => by simp at hn
  | n + 1, c :: r, x, hn, h => by
    by_cases hc : c.toNat = 92
    · rw [unq_esc _ hc] at h
      split at h
      · cases h
      · rename_i y k hu
        simp only [Option.map_eq_some_iff] at h
        obtain ⟨z, hz, rfl⟩ := h
        have := unq_len n (r.drop k) z (by simp at hn ⊢; omega) hz
        simp at this ⊢
        omega
    · rw [unq_plain _ hc] at h
      simp only [Option.map_eq_some_iff] at h
      obtain ⟨z, hz, rfl⟩ := h
      have := unq_len n r z (by simp at hn; omega) hz
      simp
      omega

/-- What is told of what a text may say. -/
def outS (o : Option (List UInt8)) : ByteArray := ⟨(o.getD []).toArray⟩
def outB (o : Option (List UInt8)) : Bool := o.isSome
/-- What stands behind a first quote. -/
def unqS (l : List UInt8) : Option (List UInt8) := if Lib.hasSuffix l [34] then unq (Lib.trimSuffix l [34]) else none

theorem ext_from (s : ByteArray) (k : Nat) : (s.extract k s.size).data.toList = s.data.toList.drop k := by
  have e : s.data.size = s.size := rfl
  simp [ByteArray.data_extract, List.take_of_length_le, e]

set_option maxRecDepth 100000 in
set_option maxHeartbeats 4000000 in
theorem unquote_no (t : ByteArray) (w : World) (hs : t.size ≤ 9223372036854775807) (h : Lib.hasSuffix t.data.toList [34] = false) :
    Calls Tryz.prog 165 #[.string t] w fun e w' => e = .returned (.tuple #[.string ⟨#[]⟩, .bool false]) ∧ Below w.heap.size w w' := by
  have CS : Hid (∀ W : World, Calls Tryz.prog 168 #[.string t, .string ⟨#[34]⟩] W fun e w' => ∃ I, e = .returned (.tuple #[.string I, .bool false]) ∧ w' = W) := fun W => by
    have q := Tryz.strings_CutSuffix t ⟨#[34]⟩ W hs
    rw [show (⟨#[34]⟩ : ByteArray).data.toList = [34] from rfl, h] at q
    refine q.mono ?_
    rintro e w' ⟨rfl, rfl⟩
    exact ⟨_, rfl, rfl⟩
  clear h
  go_enter Tryz.func165, Tryz.ntmps165
  go_wp2_with fail
  refine (CS.out _).mono ?_
  rintro e w1 ⟨I, rfl, rfl⟩
  go_wp2
  go_ret2
  exact ⟨rfl, Below.refl _ _⟩

set_option maxRecDepth 100000 in
set_option maxHeartbeats 8000000 in
theorem unquote_yes (t I : ByteArray) (w : World) (hs : t.size ≤ 9223372036854775807) (h : Lib.hasSuffix t.data.toList [34] = true) (hI : (⟨(Lib.trimSuffix t.data.toList [34]).toArray⟩ : ByteArray) = I) (hz : I.size ≤ 140737488355000) (he : Errs w) (h8 : 9 ≤ w.heap.size) :
    Calls Tryz.prog 165 #[.string t] w fun e w' => e = .returned (.tuple #[.string (outS (unq I.data.toList)), .bool (outB (unq I.data.toList))]) ∧ Below w.heap.size w w' := by
  have CS : Hid (∀ W : World, Calls Tryz.prog 168 #[.string t, .string ⟨#[34]⟩] W fun e w' => e = .returned (.tuple #[.string I, .bool true]) ∧ w' = W) := fun W => by
    have q := Tryz.strings_CutSuffix t ⟨#[34]⟩ W hs
    rw [show (⟨#[34]⟩ : ByteArray).data.toList = [34] from rfl, h, hI] at q
    exact q
  clear h hI
  have HE : Hid (Errs w) := he
  clear he
  go_enter Tryz.func165, Tryz.ntmps165
  go_wp2_with fail
  refine (CS.out _).mono ?_
  rintro e w' ⟨rfl, rfl⟩
  go_wp2
  have h0 : Hid (Lib.IsBuilder 62 5 w'.heap.size w'.heap.size (Lib.byteCells []) (w'.alloc (.cells #[.pointer none, .slice none 0 0] 62))) := Lib.fresh_isBuilder _ _ w'
  have k0 : Below w'.heap.size w' (w'.alloc (.cells #[.pointer none, .slice none 0 0] 62)) := (Below.refl _ _).alloc (Nat.le_refl _) _
  generalize w'.alloc (.cells #[.pointer none, .slice none 0 0] 62) = W0 at *
  go_loopw [7] (fun i wr => ∃ (k : Nat) (acc : List UInt8), k ≤ I.size ∧ acc.length ≤ k ∧ i = .int .i64 k ∧ Hid (unq I.data.toList = (unq (I.data.toList.drop k)).map fun y => acc ++ y) ∧ Hid (Lib.IsBuilder 62 5 w'.heap.size w'.heap.size (Lib.byteCells acc) wr) ∧ Below w'.heap.size w' wr) (fun i _ => I.size - (intOf i).toNat)
  case atStart => exact ⟨0, [], by omega, by simp, rfl, (show unq I.data.toList = (unq (I.data.toList.drop 0)).map fun y => [] ++ y by simp), h0, k0⟩
  case round =>
    obtain ⟨k, acc, hk, ha, rfl, hU, hI, hB⟩ := hrel
    have hsz := hB.size
    by_cases hke : k = I.size
    · subst hke
      have e0 : Hid (unq I.data.toList = some acc) := by
        have q := hU.out
        rw [List.drop_of_length_le (by simp), unq_nil] at q
        exact q.trans (by simp)
      clear hU
      go_wp2_with fail
      refine (Tryz.Builder_String_any w'.heap.size w'.heap.size _ _ hI.out hsz).mono ?_
      rintro e w3 ⟨rfl, hb3⟩
      go_wp2
      go_ret2
      refine ⟨?_, hB.trans hb3⟩
      rw [e0.out]
      rfl
    · have hk' : (k : Int) < I.size := by omega
      have hkk : k < I.size := by omega
      have hd : I.data.toList.drop k = I[k] :: I.data.toList.drop (k + 1) := by
        rw [List.drop_eq_getElem_cons (by simpa using hkk)]
        rfl
      rw [hd] at hU
      have hu : I[k].toNat < 256 := I[k].toNat_lt
      clear hd
      obtain ⟨c, hc⟩ : ∃ c : UInt8, I[k] = c := ⟨_, rfl⟩
      rw [hc] at hu
      rw [hc] at hU
      by_cases a1 : c.toNat = 92
      · have a1' : ((c.toNat : Int) == 92) = true := by simp; omega
        have EB : Errs wr := HE.out.below hB h8
        have h8' : 9 ≤ wr.heap.size := by omega
        have UE : Hid (∀ W : World, Errs W → 9 ≤ W.heap.size → Calls Tryz.prog 169 #[.string (I.extract (k + 1) I.size)] W fun e w' => (match une (I.data.toList.drop (k + 1)) with
            | some (x, k) => e = .returned (.tuple #[.int .u8 x.toNat, .int .i64 k, .bool true])
            | none => ∃ p q, e = .returned (.tuple #[.int .u8 p, .int .i64 q, .bool false])) ∧ Below W.heap.size W w') := fun W g1 g2 => by
          have q := unesc_any (I.extract (k + 1) I.size) W g1 g2
          rw [ext_from] at q
          exact q
        have hU2 := hU.out
        rw [unq_esc _ a1] at hU2
        have hk1 : (k : Int) + 1 ≤ I.size := by omega
        cases hun : une (I.data.toList.drop (k + 1)) with
        | none =>
          rw [hun] at hU2 UE
          have e0 : Hid (unq I.data.toList = none) := hU2.trans (by simp)
          clear hU hU2 hun a1
          go_wp2_with fail
          refine (UE.out _ EB h8').mono ?_
          rintro e w2 ⟨⟨p, q, rfl⟩, hb2⟩
          go_wp2
          go_ret2
          refine ⟨?_, hB.trans (hb2.mono hB.size)⟩
          rw [e0.out]
          rfl
        | some y =>
          obtain ⟨x, j⟩ := y
          rw [hun] at hU2 UE
          obtain ⟨j1, j2⟩ := une_len hun
          have j3 : k + 1 + j ≤ I.size := by simp at j1; omega
          have e0 : Hid (unq I.data.toList = (unq (I.data.toList.drop (k + j + 1))).map fun y => (acc ++ [x]) ++ y) := by
            simp only [Option.map_map, List.drop_drop] at hU2
            rw [show k + j + 1 = k + 1 + j by omega]
            refine Eq.trans hU2 ?_
            congr 1
            funext y
            simp
          clear hU hU2 hun a1 j1
          go_wp2_with fail
          refine (UE.out _ EB h8').mono ?_
          rintro e w2 ⟨rfl, hb2⟩
          have h2' : Hid (Lib.IsBuilder 62 5 w'.heap.size w'.heap.size (Lib.byteCells acc) w2) := isB_below hI.out hb2
          have k2 : Below w'.heap.size w' w2 := hB.trans (hb2.mono hB.size)
          have hx : x.toNat < 256 := x.toNat_lt
          have hj : (j : Int) ≤ 3 := by omega
          clear hI hb2 UE
          go_wp2_with fail
          refine (wbyte w'.heap.size w'.heap.size _ _ _ h2'.out (by rw [Lib.byteCells_length]; omega) k2.size).mono ?_
          rintro e w3 ⟨rfl, h3, hb3⟩
          have h3' : Hid (Lib.IsBuilder 62 5 w'.heap.size w'.heap.size (Lib.byteCells (acc ++ [x])) w3) := by
            have := cells_snoc acc x
            rw [← this]
            exact Or.inr h3
          clear h3
          go_wp2
          exact ⟨⟨k + j + 1, acc ++ [x], by omega, by simp; omega, by simp, e0, h3', k2.trans hb3⟩, by simp [intOf]; omega⟩
      · have a1' : ((c.toNat : Int) == 92) = false := by simp; omega
        have e0 : Hid (unq I.data.toList = (unq (I.data.toList.drop (k + 1))).map fun y => (acc ++ [c]) ++ y) := by
          have q := hU.out
          rw [unq_plain _ a1, Option.map_map] at q
          refine Eq.trans q ?_
          congr 1
          funext y
          simp
        clear hU a1
        go_wp2_with fail
        refine (wbyte w'.heap.size w'.heap.size _ _ _ hI.out (by rw [Lib.byteCells_length]; omega) hsz).mono ?_
        rintro e w3 ⟨rfl, h3, hb3⟩
        have h3' : Hid (Lib.IsBuilder 62 5 w'.heap.size w'.heap.size (Lib.byteCells (acc ++ [c])) w3) := by
          have := cells_snoc acc c
          rw [← this]
          exact Or.inr h3
        clear h3
        go_wp2
        exact ⟨⟨k + 1, acc ++ [c], by omega, by simp; omega, by simp, e0, h3', hB.trans hb3⟩, by simp [intOf]; omega⟩

end Go.Proofs.YtgmmhgbodddadaaGreatDoor

namespace Go.Proofs.YtgmmhgbodddadaaGreatDoor
open Go.RowKit Go.Shelf
set_option linter.unusedVariables false

/-- A text cut at its first slash. -/
def cutL : List UInt8 → List UInt8 × List UInt8 × Bool
  | [] => ([], [], false)
  | c :: r => if c.toNat = 47 then ([], r, true) else (c :: (cutL r).1, (cutL r).2.1, (cutL r).2.2)
/-- What ParseInt tells: the number, and whether there is no error. -/
def pint (l : List UInt8) : Int × Bool := match Lib.parseIntB 64 l with
  | .ok v => (v, true)
  | .«syntax» => (0, false)
  | .range => (Lib.intSat 64 l, false)
theorem pint_fits (l : List UInt8) : -9223372036854775808 ≤ (pint l).1 ∧ (pint l).1 ≤ 9223372036854775807 := by
  unfold pint
  split
  · rename_i v h
    have p63 : (2 : Nat) ^ (64 - 1) = 9223372036854775808 := by decide
    unfold Lib.parseIntB at h
    split at h
    · cases h
    · simp only [] at h
      split at h
      · cases h
      · cases h
      · rw [p63] at h
        split at h
        · cases h
        · split at h
          · cases h
          · simp only [Lib.NumEnd.ok.injEq] at h
            rw [← h]
            split <;> simp only [] <;> omega
  · simp
  · unfold Lib.intSat
    have p63 : (2 : Nat) ^ (64 - 1) = 9223372036854775808 := by decide
    rw [p63]
    split <;> simp

theorem cutL_no : ∀ (l : List UInt8), (cutL l).2.2 = false → cutL l = (l, [], false) ∧ Lib.indexByte l 47 = -1
  | [], _ => ⟨rfl, rfl⟩
  | c :: r, h => by
    unfold cutL at h ⊢
    by_cases hc : c.toNat = 47
    · rw [if_pos hc] at h; cases h
    · rw [if_neg hc] at h ⊢
      obtain ⟨h1, h2⟩ := cutL_no r h
      have h3 : (c == 47) = false := by simp; intro e; exact hc (by rw [e]; rfl)
      refine ⟨by rw [h1], ?_⟩
      unfold Lib.indexByte
      rw [h3, h2]
      rfl
theorem cutL_yes : ∀ (l : List UInt8), (cutL l).2.2 = true → l = (cutL l).1 ++ 47 :: (cutL l).2.1 ∧ Lib.indexByte l 47 = ((cutL l).1.length : Int)
  | [], h => by cases h
  | c :: r, h => by
    unfold cutL at h ⊢
    by_cases hc : c.toNat = 47
    · rw [if_pos hc]
      have e : c = 47 := UInt8.toNat_inj.1 hc
      subst e
      exact ⟨rfl, rfl⟩
    · rw [if_neg hc] at h ⊢
      obtain ⟨h1, h2⟩ := cutL_yes r h
      have h3 : (c == 47) = false := by simp; intro e; exact hc (by rw [e]; rfl)
      refine ⟨by simp only [List.cons_append]; rw [← h1], ?_⟩
      unfold Lib.indexByte
      rw [h3, h2]
      have h4 : (((cutL r).1.length : Int) == -1) = false := by simp
      simp [h4]

theorem ext_take (s : ByteArray) (k : Nat) (h : k ≤ s.size) : (s.extract 0 k).data.toList = s.data.toList.take k := by
  simp [ByteArray.data_extract]
theorem ext_drop (s : ByteArray) (k : Nat) (h : k ≤ s.size) : (s.extract k s.size).data.toList = s.data.toList.drop k := by
  have e : s.data.size = s.size := rfl
  simp [ByteArray.data_extract, List.take_of_length_le, e]
theorem ba_eq {a : ByteArray} {l : List UInt8} (h : a.data.toList = l) : a = ⟨l.toArray⟩ := by
  apply ByteArray.ext
  rw [← h]

set_option maxRecDepth 100000 in
set_option maxHeartbeats 2000000 in
theorem cut_no (s : ByteArray) (w : World) (h : (cutL s.data.toList).2.2 = false) :
    Calls Tryz.prog 159 #[.string s, .string ⟨#[47]⟩] w fun e w' => e = .returned (.tuple #[.string s, .string ⟨#[]⟩, .bool false]) ∧ ∃ k, w' = w.drewN k := by
  have H : Hid (∀ W : World, Calls Tryz.prog 163 #[.string s, .string ⟨#[47]⟩] W fun e w' => e = .returned (.tuple #[.string s, .string ⟨#[]⟩, .bool false]) ∧ ∃ k, w' = W.drewN k) := fun W => by
    have I : Hid (∀ W : World, Calls Tryz.prog 117 #[.string s, .string ⟨#[47]⟩] W fun e w' => e = .returned (.int .i64 (-1)) ∧ w' = W) := fun W => by
      have q := Tryz.stringslite_Index_one s 47 W
      rw [(cutL_no _ h).2] at q
      exact q
    clear h
    go_enter Tryz.func163, Tryz.ntmps163
    go_wp2_with fail
    refine (I.out _).mono ?_
    rintro e w1 ⟨rfl, rfl⟩
    go_wp2
    refine bodyPost_ret (by simp [results, Tryz.results163, go_sem]; try rfl) rfl ?_
    exact ⟨rfl, 0, rfl⟩
  clear h
  go_enter Tryz.func159, Tryz.ntmps159
  go_wp2_with fail
  refine (H.out _).mono ?_
  rintro e w1 ⟨rfl, k, rfl⟩
  go_wp2
  refine bodyPost_ret (by simp [results, Tryz.results159, go_sem]; try rfl) rfl ?_
  exact ⟨rfl, k, rfl⟩

set_option maxRecDepth 100000 in
set_option maxHeartbeats 2000000 in
theorem cut_yes (s : ByteArray) (w : World) (h : (cutL s.data.toList).2.2 = true) (hs : s.size ≤ 140737488355328) :
    Calls Tryz.prog 159 #[.string s, .string ⟨#[47]⟩] w fun e w' => e = .returned (.tuple #[.string ⟨(cutL s.data.toList).1.toArray⟩, .string ⟨(cutL s.data.toList).2.1.toArray⟩, .bool true]) ∧ ∃ k, w' = w.drewN k := by
  obtain ⟨h1, h2⟩ := cutL_yes _ h
  obtain ⟨A, eA⟩ : ∃ A : ByteArray, Hid ((⟨(cutL s.data.toList).1.toArray⟩ : ByteArray) = A) := ⟨_, rfl⟩
  obtain ⟨B, eB⟩ : ∃ B : ByteArray, Hid ((⟨(cutL s.data.toList).2.1.toArray⟩ : ByteArray) = B) := ⟨_, rfl⟩
  obtain ⟨n, en⟩ : ∃ n : Nat, Hid ((cutL s.data.toList).1.length = n) := ⟨_, rfl⟩
  have hl : s.data.toList.length = n + 1 + (cutL s.data.toList).2.1.length := by
    have := congrArg List.length h1
    rw [List.length_append, List.length_cons, en.out] at this
    omega
  have hsz : s.data.toList.length = s.size := by simp
  have hn : n + 1 ≤ s.size := by omega
  have x1 : s.extract 0 n = A := by
    rw [← eA.out]
    refine ba_eq ?_
    rw [ext_take s n (by omega)]
    generalize cutL s.data.toList = c at h1 en
    rw [h1, ← en.out]
    simp
  have x2 : s.extract (n + 1) s.size = B := by
    rw [← eB.out]
    refine ba_eq ?_
    rw [ext_drop s (n + 1) hn]
    generalize cutL s.data.toList = c at h1 en
    rw [h1, ← en.out, List.drop_append]
    simp
  rw [eA.out, eB.out]
  have H : Hid (∀ W : World, Calls Tryz.prog 163 #[.string s, .string ⟨#[47]⟩] W fun e w' => e = .returned (.tuple #[.string A, .string B, .bool true]) ∧ ∃ k, w' = W.drewN k) := fun W => by
    have I : Hid (∀ W : World, Calls Tryz.prog 117 #[.string s, .string ⟨#[47]⟩] W fun e w' => e = .returned (.int .i64 n) ∧ w' = W) := fun W => by
      have q := Tryz.stringslite_Index_one s 47 W
      rw [h2, en.out] at q
      exact q
    clear h h1 h2 eA eB en hl hsz
    have z1 : (⟨#[47]⟩ : ByteArray).size = 1 := rfl
    have hn0 : (n : Int) ≤ s.size := by omega
    have hn1 : (n : Int) + 1 ≤ s.size := by omega
    go_enter Tryz.func163, Tryz.ntmps163
    go_wp2_with fail
    refine (I.out _).mono ?_
    rintro e w1 ⟨rfl, rfl⟩
    go_wp2
    go_quiet (fail)
    go_wp2
    refine bodyPost_ret (by simp [results, Tryz.results163, go_sem]; try rfl) rfl ?_
    exact ⟨rfl, nq, rfl⟩
  clear h h1 h2 eA eB en x1 x2 hl hsz
  go_enter Tryz.func159, Tryz.ntmps159
  go_wp2_with fail
  refine (H.out _).mono ?_
  rintro e w1 ⟨rfl, k, rfl⟩
  go_wp2
  refine bodyPost_ret (by simp [results, Tryz.results159, go_sem]; try rfl) rfl ?_
  exact ⟨rfl, k, rfl⟩

end Go.Proofs.YtgmmhgbodddadaaGreatDoor
