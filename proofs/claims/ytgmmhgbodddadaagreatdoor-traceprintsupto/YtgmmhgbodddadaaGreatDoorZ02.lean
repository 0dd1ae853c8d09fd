/- The document's greatest common divisor. -/
import Derived.Test.YtgmmhgbodddadaaGreatDoorZ01
import Derived.Lib.AppendStr
import Derived.Lib.UnsafeStr
import Derived.Lib.MakeNoZero
import Derived.Laws.Externs
import Derived.OwnWalk
import Derived.LoopN
import Derived.Lib.AppendIntMem
import Derived.Lib.ItoaLen
import Derived.Lib.ConvBytes
import Derived.Lib.AtoiErrMem
import Derived.Deep.DeepCutAuto
import Derived.Laws.EntriesVeiled
import Derived.Handy
import Derived.ChangeKeysEq
import Derived.Deep.Cut

namespace Go.Proofs.YtgmmhgbodddadaaGreatDoor
open Go.RowKit Go.Shelf

theorem bg0 {n : Nat} {W0 W w1 : World} (h0 : Below n W0 W) (hn : n ≤ W.heap.size) (hb : Below W.heap.size W w1) : Below n W0 w1 ∧ n ≤ w1.heap.size := ⟨h0.trans (hb.mono hn), Nat.le_trans hn hb.size⟩

theorem may_of {n d : Int} (h : mayB n d = true) : 0 < d ∧ Nat.Coprime n.natAbs d.toNat := by
  unfold mayB oE oN oD at h
  by_cases hd : d = 0
  · simp [hd] at h
  · simp only [hd, if_false, Bool.and_eq_true, beq_iff_eq] at h
    obtain ⟨h1, h2, h3⟩ := h
    have hs : 0 < sz d := by unfold sz; omega
    have hg := gc_pos (sz (ofP n d)) (sz d) hs
    have hdv := gc_dvd_right (sz (ofP n d)) (sz d) (by omega)
    unfold rE outE at h1
    unfold rD outD at h3
    unfold rN outN at h2
    split at h1
    · rename_i hok
      rw [if_pos hok] at h2 h3
      have hp : 0 < d := by
        have : 0 ≤ sz d / gc (sz (ofP n d)) (sz d) := Int.ediv_nonneg (by omega) (by omega)
        omega
      have e1 : sz d = d := sz_of_nonneg (by omega)
      have e2 : ofP n d = n := by unfold ofP sg; simp [show ¬ d < 0 by omega]
      rw [e1, e2] at h3 hdv hg
      have e3 := Int.ediv_mul_cancel hdv
      rw [h3] at e3
      have e4 : gc (sz n) d = 1 := by
        have : d * gc (sz n) d = d * 1 := by rw [e3, Int.mul_one]
        exact Int.eq_of_mul_eq_mul_left (by omega) this
      refine ⟨hp, ?_⟩
      unfold gc sz at e4
      have : Nat.gcd ((n.natAbs : Int)).toNat d.toNat = 1 := by omega
      simpa using this
    · simp at h1

end Go.Proofs.YtgmmhgbodddadaaGreatDoor

namespace Go.Proofs.YtgmmhgbodddadaaGreatDoor
open Go.RowKit Go.Shelf

theorem szB : (Tryz.prog.info? 62).map (·.size) = some 2 := by kernel_rfl
theorem inB : (Tryz.prog.info? 5).map (fun i => (i.zero, i.size, i.bytes)) = some (some (.int .u8 0), 1, 1) := by kernel_rfl

set_option maxHeartbeats 1000000 in
set_option maxRecDepth 100000 in
theorem ck_used (b : Nat) (w : World) (h0 : w.cell? ⟨b, 0, none⟩ = some (.pointer (some ⟨b, 0, none⟩))) :
    Calls Tryz.prog 53 #[.pointer (some ⟨b, 0, none⟩)] w fun e w' => e = .returned (.tuple #[]) ∧ w' = w := by
  obtain ⟨j, hj, _⟩ := Option.map_eq_some_iff.1 szB
  have hr := Lib.run_neq_ptr_same (P := Tryz.prog) w ⟨b, 0, none⟩ Tryz.underlying59 hj
  go_enter Tryz.func53, Tryz.ntmps53
  go_wp2
  go_end0
  exact ⟨rfl, rfl⟩

set_option maxHeartbeats 1000000 in
set_option maxRecDepth 100000 in
theorem ck_fresh (b : Nat) (w : World) (h0 : w.cell? ⟨b, 0, none⟩ = some (.pointer none)) (hsh : w.shape? b = some (62, 2)) (hfz : w.frozen? ⟨b, 0, none⟩ = false) :
    Calls Tryz.prog 53 #[.pointer (some ⟨b, 0, none⟩)] w fun e w' => e = .returned (.tuple #[]) ∧ w' = w.setCell ⟨b, 0, none⟩ (.pointer (some ⟨b, 0, none⟩)) := by
  obtain ⟨j, hj, hjs⟩ := Option.map_eq_some_iff.1 szB
  have r1 := Lib.run_to_unsafe (P := Tryz.prog) w ⟨b, 0, none⟩ Tryz.underlying59 Tryz.underlying118 hj (by rw [hjs]; decide) hsh (Nat.zero_lt_succ 1)
  have r3 := Lib.run_from_unsafe (P := Tryz.prog) w ⟨b, 0, none⟩ Tryz.underlying118 Tryz.underlying59 hj hsh (by kernel_rfl)
  go_enter Tryz.func53, Tryz.ntmps53
  have r2 : (callFunc 74 #[.pointer (some ⟨b, 0, none⟩)]).run Tryz.prog w = .ok (.value (.pointer (some ⟨b, 0, none⟩))) w := by
    rw [run_callFunc_extern Tryz.func74 (by kernel_rfl) (by kernel_rfl) (by kernel_rfl) (e := Extern.AbiNoEscape.same) (by kernel_rfl), Lib.run_noEscape]
    rfl
  go_wp2
  go_end0
  exact ⟨rfl, rfl⟩

theorem ck (B b : Nat) (bs : List Value) (w : World) (h : Lib.IsBuilder 62 5 B b bs w) :
    Calls Tryz.prog 53 #[.pointer (some ⟨b, 0, none⟩)] w fun e w' => e = .returned (.tuple #[]) ∧ Lib.BuilderAt 62 5 B b (.pointer (some ⟨b, 0, none⟩)) bs w' ∧ Below B w w' := by
  rcases h with h | h
  · refine (ck_fresh b w h.cell0 h.shape h.frozen0).mono ?_
    rintro e w' ⟨rfl, rfl⟩
    exact ⟨rfl, h.used _, (Below.refl B w).setCell (p := ⟨b, 0, none⟩) h.1 _⟩
  · refine (ck_used b w h.cell0).mono ?_
    rintro e w' ⟨rfl, rfl⟩
    exact ⟨rfl, h, Below.refl B _⟩

set_option maxHeartbeats 2000000 in
set_option maxRecDepth 100000 in
/-- WriteByte: one byte more. -/
theorem wbyte (B b : Nat) (bs : List Value) (c : Int) (w : World) (h : Lib.IsBuilder 62 5 B b bs w) (hlen : bs.length + 1 ≤ 140737488355328) (hBw : B ≤ w.heap.size) :
    Calls Tryz.prog 31 #[.pointer (some ⟨b, 0, none⟩), .int .u8 c] w fun e w' => e = .returned .nilIface ∧ Lib.BuilderAt 62 5 B b (.pointer (some ⟨b, 0, none⟩)) (bs ++ [.int .u8 c]) w' ∧ Below B w w' := by
  obtain ⟨i0, hi, hz0, hz1, hz2⟩ := info_parts inB
  go_enter Tryz.func31, Tryz.ntmps31
  go_wp2_with (go_at_call 53; refine (ck B b bs _ h).mono ?_)
  rintro e w1 ⟨rfl, ⟨hB, v, hbk, hown, hne⟩, hb1⟩
  have s1 := hb1.size
  have c1 : w1.cell? ⟨b, 1, none⟩ = some v := by rw [Lib.cell_of_heap hbk]; rfl
  go_wp2_with (at_builtin; refine wpList_append_own _ rfl _ _ 60 rfl B 5 i0 (.int .u8 0) 1 1 Tryz.underlying60 hi hz0 hz1 hz2 rfl (by decide) _ _ _ rfl (hown.alloc _) ⟨w1.heap.size, 0, none⟩ 1 1 [.int .u8 c] rfl rfl ?c1 ?c2 ?c3 ?c4 ?c5 ?_)
  case c1 =>
    intro j u hj
    match j, hj with
    | 0, hj => simp at hj; subst hj; simp [Addr.add]
  case c2 => intro u hu; simp at hu; subst hu; rfl
  case c3 => unfold maxLen; omega
  case c4 => omega
  case c5 => simp; omega
  intro v' w2 hown' hgrow _
  have hlt : b < w1.heap.size := Lib.BuilderAt.lt ⟨hB, v, hbk, hown, hne⟩
  have hb2 : w2.heap[b]? = some (.cells #[.pointer (some ⟨b, 0, none⟩), v] 62 (0, 0)) := by
    rw [hgrow.block b (by simp; omega) (fun e => hne e.symm), Lib.alloc_old w1 _ b hlt]
    exact hbk
  have d1 : w2.cell? ⟨b, 1, none⟩ = some v := by rw [Lib.cell_of_heap hb2]; rfl
  have f1 : w2.frozen? ⟨b, 1, none⟩ = false := Lib.frozen_of_heap hb2 1
  obtain ⟨g, cap, rfl⟩ : ∃ g cap, v' = .slice (some ⟨g, 0, none⟩) (bs.length + 1) cap := by
    rcases hown'.2 with ⟨_, h0⟩ | ⟨g, cap, cur, hv, _⟩
    · omega
    · exact ⟨g, cap, hv⟩
  go_wp2
  go_ret
  refine ⟨rfl, ?_, ?_⟩
  · exact Lib.BuilderAt.put (T := 62) (e := 5) hB hb2 (bs' := bs ++ [.int .u8 c]) (by simpa using hown') (by decide)
  · exact ((hb1.alloc (by omega) _).grown hgrow (by simp; omega) (fun k hk => (hown.lt k hk).1)).setCell (p := ⟨b, 1, none⟩) hB _

set_option maxHeartbeats 2000000 in
set_option maxRecDepth 100000 in
/-- WriteString: some bytes more. -/
theorem wstr (B b : Nat) (bs : List Value) (s : ByteArray) (w : World) (h : Lib.IsBuilder 62 5 B b bs w) (hlen : bs.length + s.size ≤ 140737488355328) (hBw : B ≤ w.heap.size) :
    Calls Tryz.prog 29 #[.pointer (some ⟨b, 0, none⟩), .string s] w fun e w' => e = .returned (.tuple #[.int .i64 s.size, .nilIface]) ∧ Lib.BuilderAt 62 5 B b (.pointer (some ⟨b, 0, none⟩)) (bs ++ Lib.strCells s) w' ∧ Below B w w' := by
  obtain ⟨i0, hi, hz0, hz1, hz2⟩ := info_parts inB
  go_enter Tryz.func29, Tryz.ntmps29
  go_wp2_with (go_at_call 53; refine (ck B b bs _ h).mono ?_)
  rintro e w1 ⟨rfl, ⟨hB, v, hbk, hown, hne⟩, hb1⟩
  have s1 := hb1.size
  have c1 : w1.cell? ⟨b, 1, none⟩ = some v := by rw [Lib.cell_of_heap hbk]; rfl
  go_wp2_with (at_builtin; refine Lib.wpList_append_own_string _ rfl _ _ 60 9 rfl B 5 i0 Tryz.underlying60 Tryz.underlying9 hi hz0 hz1 hz2 _ _ _ rfl hown s rfl ?c3 ?c4 ?c5 ?_)
  case c3 => unfold maxLen; omega
  case c4 => omega
  case c5 => omega
  intro v' w2 hown' hgrow _
  have hlt : b < w1.heap.size := Lib.BuilderAt.lt ⟨hB, v, hbk, hown, hne⟩
  have hb2 : w2.heap[b]? = some (.cells #[.pointer (some ⟨b, 0, none⟩), v] 62 (0, 0)) := by
    rw [hgrow.block b hlt (fun e => hne e.symm)]
    exact hbk
  have d1 : w2.cell? ⟨b, 1, none⟩ = some v := by rw [Lib.cell_of_heap hb2]; rfl
  have f1 : w2.frozen? ⟨b, 1, none⟩ = false := Lib.frozen_of_heap hb2 1
  obtain ⟨ao, n', cap, rfl⟩ : ∃ ao n' cap, v' = .slice ao n' cap := by
    rcases hown'.2 with ⟨hv, _⟩ | ⟨g, cap, cur, hv, _⟩
    · exact ⟨_, _, _, hv⟩
    · exact ⟨_, _, _, hv⟩
  go_wp2
  go_ret2
  refine ⟨rfl, ?_, ?_⟩
  · exact Lib.BuilderAt.put (T := 62) (e := 5) hB hb2 (bs' := bs ++ Lib.strCells s) (by simpa [Lib.strCells_length] using hown') (by decide)
  · exact (hb1.grown hgrow (by omega) (fun k hk => (hown.lt k hk).1)).setCell (p := ⟨b, 1, none⟩) hB _

end Go.Proofs.YtgmmhgbodddadaaGreatDoor

namespace Go.Proofs.YtgmmhgbodddadaaGreatDoor
open Go.RowKit Go.Shelf

def hexd (n : Nat) : UInt8 := if n < 10 then (48 + n).toUInt8 else (87 + n).toUInt8
/-- A byte in a string's text. -/
def esc (c : UInt8) : List UInt8 := if c.toNat = 34 ∨ c.toNat = 92 then [92, c] else if 32 ≤ c.toNat ∧ c.toNat ≤ 126 then [c] else [92, 120, hexd (c.toNat / 16), hexd (c.toNat % 16)]
def inside (l : List UInt8) : List UInt8 := l.flatMap esc
def quoted (l : List UInt8) : List UInt8 := 34 :: inside l ++ [34]

theorem esc_len (c : UInt8) : (esc c).length ≤ 4 := by
  unfold esc; split
  · simp
  · split <;> simp
theorem inside_len (l : List UInt8) : (inside l).length ≤ 4 * l.length := by
  induction l with
  | nil => simp [inside]
  | cons c l ih =>
    have := esc_len c
    simp only [inside, List.flatMap_cons, List.length_append, List.length_cons] at ih ⊢
    omega
theorem inside_snoc (l : List UInt8) (c : UInt8) : inside (l ++ [c]) = inside l ++ esc c := by simp [inside]
theorem inside_take (s : ByteArray) (k : Nat) (h : k < s.size) : inside (s.data.toList.take (k + 1)) = inside (s.data.toList.take k) ++ esc s[k] := by
  rw [← inside_snoc]
  congr 1
  have h' : k < s.data.toList.length := by simpa using h
  rw [List.take_succ_eq_append_getElem h']
  rfl
theorem cells_snoc (l : List UInt8) (c : UInt8) : Lib.byteCells l ++ [.int .u8 c.toNat] = Lib.byteCells (l ++ [c]) := by simp [Lib.byteCells]

theorem hex_all : ∀ i : Fin 16, (⟨#[48, 49, 50, 51, 52, 53, 54, 55, 56, 57, 97, 98, 99, 100, 101, 102]⟩ : ByteArray)[i.1]'i.2 = hexd i.1 := by decide
theorem hex_tab (n : Nat) (h : n < 16) : (⟨#[48, 49, 50, 51, 52, 53, 54, 55, 56, 57, 97, 98, 99, 100, 101, 102]⟩ : ByteArray)[n]'h = hexd n := hex_all ⟨n, h⟩

set_option maxHeartbeats 4000000 in
set_option maxRecDepth 100000 in
theorem quote_any (s : ByteArray) (w : World) (hs : s.size ≤ 35184372088830) :
    Calls Tryz.prog 132 #[.string s] w fun e w' => e = .returned (.string ⟨(quoted s.data.toList).toArray⟩) ∧ Below w.heap.size w w' := by
  go_enter Tryz.func132, Tryz.ntmps132
  go_wp2_with fail
  refine (wbyte w.heap.size w.heap.size [] 34 _ (Lib.fresh_isBuilder _ _ w) (by simp) (by simp)).mono ?_
  rintro e w1 ⟨rfl, h1, hb1⟩
  go_wp2
  go_loopw [9] (fun i wr => ∃ k : Nat, k ≤ s.size ∧ i = .int .i64 k ∧ Hid (Lib.IsBuilder 62 5 w.heap.size w.heap.size (Lib.byteCells (34 :: inside (s.data.toList.take k))) wr) ∧ Below w.heap.size w wr) (fun i _ => s.size - (intOf i).toNat)
  case atStart => exact ⟨0, by omega, rfl, Or.inr h1, (Below.refl _ w |>.alloc (Nat.le_refl _) _).trans hb1⟩
  case round =>
    obtain ⟨k, hk, rfl, hI, hB⟩ := hrel
    have hsz := hB.size
    by_cases hke : k = s.size
    · subst hke
      have e0 : s.data.toList.take s.size = s.data.toList := List.take_of_length_le (by simp)
      rw [e0] at hI
      have hl := inside_len s.data.toList
      have hl2 : s.data.toList.length = s.size := by simp
      go_wp2_with fail
      refine (wbyte w.heap.size w.heap.size _ 34 _ hI.out (by rw [Lib.byteCells_length]; simp; omega) hsz).mono ?_
      rintro e w2 ⟨rfl, h2, hb2⟩
      have h2' : Hid (Lib.IsBuilder 62 5 w.heap.size w.heap.size (Lib.byteCells (quoted s.data.toList)) w2) := by
        have := cells_snoc (34 :: inside s.data.toList) 34
        unfold quoted
        refine Or.inr ?_
        rw [← this]; exact h2
      have hB2 := hB.trans hb2
      clear h2 hI
      go_wp2_with fail
      refine (Tryz.Builder_String_any w.heap.size w.heap.size _ _ h2'.out hB2.size).mono ?_
      rintro e w3 ⟨rfl, hb3⟩
      go_wp2
      go_ret
      exact ⟨rfl, hB2.trans hb3⟩
    · have hk' : (k : Int) < s.size := by omega
      have hkk : k < s.size := by omega
      have hstep := inside_take s k hkk
      have hl := inside_len (s.data.toList.take k)
      have hl2 : (s.data.toList.take k).length ≤ k := by simp; omega
      have hbd : (Lib.byteCells (34 :: inside (s.data.toList.take k))).length + 4 ≤ 140737488355328 := by rw [Lib.byteCells_length]; simp; omega
      have HS : Hid (inside (s.data.toList.take (k + 1)) = inside (s.data.toList.take k) ++ esc s[k]) := hstep
      clear hstep hl hl2
      have hu : s[k].toNat < 256 := s[k].toNat_lt
      obtain ⟨c, hc⟩ : ∃ c : UInt8, s[k] = c := ⟨_, rfl⟩
      rw [hc] at hu
      rw [hc] at HS
      by_cases a1 : (c.toNat : Int) = 34 ∨ (c.toNat : Int) = 92
      · rcases a1 with a1 | a1
        · obtain rfl : c = 34 := UInt8.toNat_inj.1 (show c.toNat = 34 from (by omega))
          have he : Hid (esc 34 = [92, 34]) := (show esc 34 = [92, 34] from (by decide))
          clear a1 hu
          go_wp2_with fail
          refine (wbyte w.heap.size w.heap.size _ _ _ hI.out (by omega) hsz).mono ?_
          rintro e w2 ⟨rfl, h2, hb2⟩
          have s2 := hb2.size
          have h2' : Hid (Lib.IsBuilder 62 5 w.heap.size w.heap.size (Lib.byteCells (34 :: inside (s.data.toList.take k)) ++ [Value.int IntKind.u8 92]) w2) := Or.inr h2
          clear h2
          go_wp2_with fail
          refine (wbyte w.heap.size w.heap.size _ _ _ h2'.out (by simp; omega) (by omega)).mono ?_
          rintro e w3 ⟨rfl, h3, hb3⟩
          go_wp2
          refine ⟨⟨k + 1, by omega, by simp, ?_, (hB.trans hb2).trans hb3⟩, by simp [intOf]; omega⟩
          have h4 : Lib.IsBuilder 62 5 w.heap.size w.heap.size (Lib.byteCells (34 :: inside (s.data.toList.take (k + 1)))) w3 := by
            have e1 := cells_snoc (34 :: inside (s.data.toList.take k)) 92
            have e2 := cells_snoc (34 :: inside (s.data.toList.take k) ++ [92]) 34
            rw [HS.out, he.out, ← List.cons_append, show ([92, 34] : List UInt8) = [92] ++ [34] from rfl, ← List.append_assoc, ← e2, ← e1]
            exact Or.inr h3
          exact h4
        · obtain rfl : c = 92 := UInt8.toNat_inj.1 (show c.toNat = 92 from (by omega))
          have he : Hid (esc 92 = [92, 92]) := (show esc 92 = [92, 92] from (by decide))
          clear a1 hu
          go_wp2_with fail
          refine (wbyte w.heap.size w.heap.size _ _ _ hI.out (by omega) hsz).mono ?_
          rintro e w2 ⟨rfl, h2, hb2⟩
          have s2 := hb2.size
          have h2' : Hid (Lib.IsBuilder 62 5 w.heap.size w.heap.size (Lib.byteCells (34 :: inside (s.data.toList.take k)) ++ [Value.int IntKind.u8 92]) w2) := Or.inr h2
          clear h2
          go_wp2_with fail
          refine (wbyte w.heap.size w.heap.size _ _ _ h2'.out (by simp; omega) (by omega)).mono ?_
          rintro e w3 ⟨rfl, h3, hb3⟩
          go_wp2
          refine ⟨⟨k + 1, by omega, by simp, ?_, (hB.trans hb2).trans hb3⟩, by simp [intOf]; omega⟩
          have h4 : Lib.IsBuilder 62 5 w.heap.size w.heap.size (Lib.byteCells (34 :: inside (s.data.toList.take (k + 1)))) w3 := by
            have e1 := cells_snoc (34 :: inside (s.data.toList.take k)) 92
            have e2 := cells_snoc (34 :: inside (s.data.toList.take k) ++ [92]) 92
            rw [HS.out, he.out, ← List.cons_append, show ([92, 92] : List UInt8) = [92] ++ [92] from rfl, ← List.append_assoc, ← e2, ← e1]
            exact Or.inr h3
          exact h4
      · have a2 : ((c.toNat : Int) == 34) = false := by simp; omega
        have a3 : ((c.toNat : Int) == 92) = false := by simp; omega
        by_cases a4 : 32 ≤ (c.toNat : Int) ∧ (c.toNat : Int) ≤ 126
        · have he : Hid (esc c = [c]) := by unfold Hid esc; rw [if_neg (by omega), if_pos (by omega)]
          obtain ⟨a5, a6⟩ := a4
          go_wp2_with fail
          refine (wbyte w.heap.size w.heap.size _ _ _ hI.out (by omega) hsz).mono ?_
          rintro e w2 ⟨rfl, h2, hb2⟩
          go_wp2
          refine ⟨⟨k + 1, by omega, by simp, ?_, hB.trans hb2⟩, by simp [intOf]; omega⟩
          have h3 : Lib.IsBuilder 62 5 w.heap.size w.heap.size (Lib.byteCells (34 :: inside (s.data.toList.take (k + 1)))) w2 := by
            rw [HS.out, he.out, ← List.cons_append, ← cells_snoc]
            exact Or.inr h2
          exact h3
        · have he : Hid (esc c = [92, 120, hexd (c.toNat / 16), hexd (c.toNat % 16)]) := by unfold Hid esc; rw [if_neg (by omega), if_neg (by omega)]
          by_cases a5 : 32 ≤ (c.toNat : Int)
          · have a6 : ((c.toNat : Int) ≤ 126) = False := by simp; omega
            go_wp2_with fail
            refine (wstr w.heap.size w.heap.size _ _ _ hI.out (show _ + 2 ≤ 140737488355328 from (by omega)) hsz).mono ?_
            rintro e w2 ⟨rfl, h2, hb2⟩
            have s2 := hb2.size
            have h2' : Hid (Lib.IsBuilder 62 5 w.heap.size w.heap.size (Lib.byteCells (34 :: inside (s.data.toList.take k)) ++ Lib.strCells ⟨#[92, 120]⟩) w2) := Or.inr h2
            have l2 : (Lib.byteCells (34 :: inside (s.data.toList.take k)) ++ Lib.strCells ⟨#[92, 120]⟩).length + 2 ≤ 140737488355328 := by
              have : (Lib.strCells ⟨#[92, 120]⟩).length = 2 := rfl
              rw [List.length_append]; omega
            clear h2
            go_wp2_with fail
            refine (wbyte w.heap.size w.heap.size _ _ _ h2'.out (by omega) (by omega)).mono ?_
            rintro e w3 ⟨rfl, h3, hb3⟩
            have s3 := hb3.size
            have h3' : Hid (Lib.IsBuilder 62 5 w.heap.size w.heap.size _ w3) := Or.inr h3
            clear h3
            go_wp2_with fail
            refine (wbyte w.heap.size w.heap.size _ _ _ h3'.out (by rw [List.length_append]; simp only [List.length_cons, List.length_nil]; omega) (by omega)).mono ?_
            rintro e w4 ⟨rfl, h4, hb4⟩
            go_wp2
            refine ⟨⟨k + 1, by omega, by simp, ?_, ((hB.trans hb2).trans hb3).trans hb4⟩, by simp [intOf]; omega⟩
            have h5 : Lib.IsBuilder 62 5 w.heap.size w.heap.size (Lib.byteCells (34 :: inside (s.data.toList.take (k + 1)))) w4 := by
              rw [HS.out, he.out, ← hex_tab (c.toNat / 16) (by omega), ← hex_tab (c.toNat % 16) (by omega)]
              refine Or.inr ?_
              simp only [Lib.byteCells, Lib.strCells, List.map_cons, List.map_append, List.map_nil, List.cons_append, List.append_assoc, List.nil_append] at h4 ⊢
              exact h4
            exact h5
          · have a6 : (32 ≤ (c.toNat : Int)) = False := by simp; omega
            go_wp2_with fail
            refine (wstr w.heap.size w.heap.size _ _ _ hI.out (show _ + 2 ≤ 140737488355328 from (by omega)) hsz).mono ?_
            rintro e w2 ⟨rfl, h2, hb2⟩
            have s2 := hb2.size
            have h2' : Hid (Lib.IsBuilder 62 5 w.heap.size w.heap.size (Lib.byteCells (34 :: inside (s.data.toList.take k)) ++ Lib.strCells ⟨#[92, 120]⟩) w2) := Or.inr h2
            have l2 : (Lib.byteCells (34 :: inside (s.data.toList.take k)) ++ Lib.strCells ⟨#[92, 120]⟩).length + 2 ≤ 140737488355328 := by
              have : (Lib.strCells ⟨#[92, 120]⟩).length = 2 := rfl
              rw [List.length_append]; omega
            clear h2
            go_wp2_with fail
            refine (wbyte w.heap.size w.heap.size _ _ _ h2'.out (by omega) (by omega)).mono ?_
            rintro e w3 ⟨rfl, h3, hb3⟩
            have s3 := hb3.size
            have h3' : Hid (Lib.IsBuilder 62 5 w.heap.size w.heap.size _ w3) := Or.inr h3
            clear h3
            go_wp2_with fail
            refine (wbyte w.heap.size w.heap.size _ _ _ h3'.out (by rw [List.length_append]; simp only [List.length_cons, List.length_nil]; omega) (by omega)).mono ?_
            rintro e w4 ⟨rfl, h4, hb4⟩
            go_wp2
            refine ⟨⟨k + 1, by omega, by simp, ?_, ((hB.trans hb2).trans hb3).trans hb4⟩, by simp [intOf]; omega⟩
            have h5 : Lib.IsBuilder 62 5 w.heap.size w.heap.size (Lib.byteCells (34 :: inside (s.data.toList.take (k + 1)))) w4 := by
              rw [HS.out, he.out, ← hex_tab (c.toNat / 16) (by omega), ← hex_tab (c.toNat % 16) (by omega)]
              refine Or.inr ?_
              simp only [Lib.byteCells, Lib.strCells, List.map_cons, List.map_append, List.map_nil, List.cons_append, List.append_assoc, List.nil_append] at h4 ⊢
              exact h4
            exact h5

end Go.Proofs.YtgmmhgbodddadaaGreatDoor

namespace Go.Proofs.YtgmmhgbodddadaaGreatDoor
open Go.RowKit Go.Shelf

/-- May a value be, its length aside? -/
def pureB (k n d : Int) (s : ByteArray) : Bool := if k = 1 then d == 0 && s.toList.isEmpty else if k = 2 then mayB n d && s.toList.isEmpty else if k = 3 then n == 0 && d == 0 else false
/-- Why a value may not be. -/
def chk (k n d : Int) (s : ByteArray) : Int := if pureB k n d s = false then 20 else if 64 < s.size then 2 else 0

theorem ret_bool {a b : Bool} (h : a = b) : Ending.returned (.bool a) = .returned (.bool b) := by rw [h]

set_option maxRecDepth 100000 in
set_option maxHeartbeats 1000000 in
theorem pure_any (k n d : Int) (s : ByteArray) (w : World) (h1 : -9223372036854775808 ≤ n) (h2 : n ≤ 9223372036854775807) (g1 : -9223372036854775808 ≤ d) (g2 : d ≤ 9223372036854775807) :
    Calls Tryz.prog 96 #[.agg #[.int .i64 k, .int .i64 n, .int .i64 d, .string s]] w fun e w' => e = .returned (.bool (pureB k n d s)) ∧ Below w.heap.size w w' := by
  by_cases k1 : k = 1
  · subst k1
    cases hd : d == 0
    · go_enter Tryz.func96, Tryz.ntmps96
      go_wp2
      go_ret
      exact ⟨ret_bool (by simp [pureB, hd]), by go_grown⟩
    · have hd' : d = 0 := by simpa using hd
      subst hd'
      go_enter Tryz.func96, Tryz.ntmps96
      go_wp2
      go_ret
      exact ⟨ret_bool (by simp [pureB]), by go_grown⟩
  · have k1' : (k == 1) = false := by simpa using k1
    by_cases k2 : k = 2
    · subst k2
      have e0 : pureB 2 n d s = (mayB n d && s.toList.isEmpty) := by simp [pureB]
      rw [e0]
      by_cases a1 : oE n d = 0
      · cases m : (oN n d == n && oD n d == d)
        · go_enter Tryz.func96, Tryz.ntmps96
          go_wp2_with (first
            | (go_at_call 113; refine (of_all _ _ _ h1 h2 g1 g2).mono ?_; rintro e w1 ⟨rfl, hb⟩; obtain ⟨hc, hf, hz, hB⟩ := bf (w := w) (by go_grown) hb; simp only [World.size_alloc] at hz; have z0 : w.heap.size < w1.heap.size := (by omega)))
          all_goals
            go_ret
            exact ⟨ret_bool (by simp_all [mayB]), by go_grown⟩
        · go_enter Tryz.func96, Tryz.ntmps96
          go_wp2_with (first
            | (go_at_call 113; refine (of_all _ _ _ h1 h2 g1 g2).mono ?_; rintro e w1 ⟨rfl, hb⟩; obtain ⟨hc, hf, hz, hB⟩ := bf (w := w) (by go_grown) hb; simp only [World.size_alloc] at hz; have z0 : w.heap.size < w1.heap.size := (by omega)))
          all_goals
            go_ret
            exact ⟨ret_bool (by simp_all [mayB]), by go_grown⟩
      · have a2 : (oE n d == 0) = false := by simpa using a1
        go_enter Tryz.func96, Tryz.ntmps96
        go_wp2_with (first
          | (go_at_call 113; refine (of_all _ _ _ h1 h2 g1 g2).mono ?_; rintro e w1 ⟨rfl, hb⟩; obtain ⟨hc, hf, hz, hB⟩ := bf (w := w) (by go_grown) hb; simp only [World.size_alloc] at hz; have z0 : w.heap.size < w1.heap.size := (by omega)))
        all_goals
          go_ret
          exact ⟨ret_bool (by simp [mayB, a2]), by go_grown⟩
    · have k2' : (k == 2) = false := by simpa using k2
      by_cases k3 : k = 3
      · subst k3
        have e0 : pureB 3 n d s = (n == 0 && d == 0) := by simp [pureB]
        rw [e0]
        cases hn : n == 0
        · go_enter Tryz.func96, Tryz.ntmps96
          go_wp2
          go_ret
          exact ⟨ret_bool (by simp), by go_grown⟩
        · go_enter Tryz.func96, Tryz.ntmps96
          go_wp2
          go_ret
          exact ⟨ret_bool (by simp), by go_grown⟩
      · have k3' : (k == 3) = false := by simpa using k3
        have e0 : pureB k n d s = false := by simp [pureB, k1, k2, k3]
        rw [e0]
        go_enter Tryz.func96, Tryz.ntmps96
        go_wp2
        go_ret
        exact ⟨rfl, by go_grown⟩

end Go.Proofs.YtgmmhgbodddadaaGreatDoor

namespace Go.Proofs.YtgmmhgbodddadaaGreatDoor
open Go.RowKit Go.Shelf

set_option maxRecDepth 100000 in
set_option maxHeartbeats 1000000 in
theorem check_any (k n d : Int) (s : ByteArray) (w : World) (h1 : -9223372036854775808 ≤ n) (h2 : n ≤ 9223372036854775807) (g1 : -9223372036854775808 ≤ d) (g2 : d ≤ 9223372036854775807) :
    Calls Tryz.prog 69 #[.agg #[.int .i64 k, .int .i64 n, .int .i64 d, .string s]] w fun e w' => e = .returned (.int .i64 (chk k n d s)) ∧ Below w.heap.size w w' := by
  cases hp : pureB k n d s
  · have e0 : chk k n d s = 20 := by simp [chk, hp]
    rw [e0]
    go_enter Tryz.func69, Tryz.ntmps69
    go_wp2_with fail
    refine (pure_any k n d s _ h1 h2 g1 g2).mono ?_
    rintro e w1 ⟨rfl, hb⟩
    obtain ⟨hc, hf, hz, hB⟩ := bf (w := w) (by go_grown) hb
    rw [hp]
    go_wp2
    go_ret
    exact ⟨rfl, hB⟩
  · by_cases hl : 64 < s.size
    · have e0 : chk k n d s = 2 := by simp [chk, hp, hl]
      rw [e0]
      have hl' : (64 : Int) < s.size := by omega
      go_enter Tryz.func69, Tryz.ntmps69
      go_wp2_with fail
      refine (pure_any k n d s _ h1 h2 g1 g2).mono ?_
      rintro e w1 ⟨rfl, hb⟩
      obtain ⟨hc, hf, hz, hB⟩ := bf (w := w) (by go_grown) hb
      rw [hp]
      go_wp2
      go_ret
      exact ⟨rfl, hB⟩
    · have e0 : chk k n d s = 0 := by simp [chk, hp, hl]
      rw [e0]
      have hl' : ((64 : Int) < s.size) = False := by simp; omega
      go_enter Tryz.func69, Tryz.ntmps69
      go_wp2_with fail
      refine (pure_any k n d s _ h1 h2 g1 g2).mono ?_
      rintro e w1 ⟨rfl, hb⟩
      obtain ⟨hc, hf, hz, hB⟩ := bf (w := w) (by go_grown) hb
      rw [hp]
      go_wp2
      go_ret
      exact ⟨rfl, hB⟩

end Go.Proofs.YtgmmhgbodddadaaGreatDoor

namespace Go.Proofs.YtgmmhgbodddadaaGreatDoor

/-- One bit more: what is left, and how often. -/
theorem bit_step {a b x bit : Int} (hb : 0 < b) (hx : a = 2 * x + bit) (h0 : 0 ≤ bit) (h1 : bit ≤ 1) :
    (b ≤ 2 * (x % b) + bit → a % b = 2 * (x % b) + bit - b ∧ a / b = 2 * (x / b) + 1) ∧ (2 * (x % b) + bit < b → a % b = 2 * (x % b) + bit ∧ a / b = 2 * (x / b)) := by
  have e := Int.mul_ediv_add_emod x b
  have m0 := Int.emod_nonneg x (show b ≠ 0 by omega)
  have m1 := Int.emod_lt_of_pos x hb
  generalize x / b = q at *
  generalize x % b = r at *
  constructor
  · intro h
    have ha : a = (2 * r + bit - b) + b * (2 * q + 1) := by rw [hx, ← e]; grind
    refine ⟨?_, ?_⟩
    · rw [ha, Int.add_mul_emod_self_left]; exact Int.emod_eq_of_lt (by omega) (by omega)
    · rw [ha, Int.add_mul_ediv_left _ _ (by omega), Int.ediv_eq_zero_of_lt (by omega) (by omega)]; omega
  · intro h
    have ha : a = (2 * r + bit) + b * (2 * q) := by rw [hx, ← e]; grind
    refine ⟨?_, ?_⟩
    · rw [ha, Int.add_mul_emod_self_left]; exact Int.emod_eq_of_lt (by omega) (by omega)
    · rw [ha, Int.add_mul_ediv_left _ _ (by omega), Int.ediv_eq_zero_of_lt (by omega) (by omega)]; omega

theorem pow_succ_i (k : Nat) : (2 : Int) ^ (k + 1) = 2 ^ k * 2 := Int.pow_succ 2 k
theorem pow_pos_i (k : Nat) : (0 : Int) < 2 ^ k := Int.pow_pos (by decide)

theorem half_step (a : Int) (k : Nat) : a / 2 ^ k = 2 * (a / 2 ^ (k + 1)) + a / 2 ^ k % 2 := by
  rw [pow_succ_i, ← Int.ediv_ediv_of_nonneg (Int.le_of_lt (pow_pos_i k))]
  omega

/-- The bit of a number is that of its digit: c is 2^(32 j), g the digit. -/
theorem bit_of (y : Int) (s : Nat) (hs : s < 32) : y / 2 ^ s % 2 = y % 4294967296 / 2 ^ s % 2 := by
  have hB : (4294967296 : Int) = 2 ^ s * (2 * 2 ^ (31 - s)) := by
    have : (2 : Int) ^ s * (2 * 2 ^ (31 - s)) = 2 ^ (s + (1 + (31 - s))) := by rw [Int.pow_add, Int.pow_add]; rfl
    rw [this, show s + (1 + (31 - s)) = 32 by omega]; rfl
  have hp := pow_pos_i s
  have e := Int.mul_ediv_add_emod y 4294967296
  generalize y / 4294967296 = q at *
  generalize y % 4294967296 = r at *
  have : y / 2 ^ s = r / 2 ^ s + 2 * (2 ^ (31 - s) * q) := by
    rw [← e, hB]
    rw [show 2 ^ s * (2 * 2 ^ (31 - s)) * q + r = r + 2 ^ s * (2 * (2 ^ (31 - s) * q)) by grind]
    exact Int.add_mul_ediv_left _ _ (by omega)
  rw [this]; omega

/-- A digit that is a multiple of 2^(s+1) has room for 2^s, which leaves a multiple of 2^s. -/
theorem dig_room (t : Int) (s : Nat) (hs : s < 32) (h0 : 0 ≤ t) (h1 : t < 4294967296) (hd : t % 2 ^ (s + 1) = 0) : t + 2 ^ s < 4294967296 ∧ (t + 2 ^ s) % 2 ^ s = 0 ∧ t % 2 ^ s = 0 := by
  have hp := pow_pos_i s
  have hB : (4294967296 : Int) = 2 ^ (s + 1) * 2 ^ (31 - s) := by
    rw [← Int.pow_add, show s + 1 + (31 - s) = 32 by omega]; rfl
  obtain ⟨c, hc⟩ := Int.dvd_of_emod_eq_zero hd
  have hp1 := pow_pos_i (s + 1)
  have hlt : c < 2 ^ (31 - s) := by
    apply Int.lt_of_not_ge; intro hge
    have := Int.mul_le_mul_of_nonneg_left hge (Int.le_of_lt hp1)
    omega
  have hle : 2 ^ (s + 1) * (c + 1) ≤ 2 ^ (s + 1) * 2 ^ (31 - s) := Int.mul_le_mul_of_nonneg_left (by omega) (Int.le_of_lt hp1)
  have e1 : (2 : Int) ^ (s + 1) * (c + 1) = t + 2 ^ (s + 1) := by rw [hc]; grind
  have e2 := pow_succ_i s
  have e3 : t = 2 ^ s * (2 * c) := by rw [hc, e2]; grind
  refine ⟨by omega, ?_, ?_⟩
  · rw [e3, show (2 : Int) ^ s * (2 * c) + 2 ^ s = 2 ^ s * (2 * c + 1) by grind]; exact Int.mul_emod_right _ _
  · rw [e3]; exact Int.mul_emod_right _ _

end Go.Proofs.YtgmmhgbodddadaaGreatDoor

namespace Go.Proofs.YtgmmhgbodddadaaGreatDoor
open Go.RowKit

/-- The digits of a number. -/
def g0 (x : Int) : Int := x % 4294967296
def g1 (x : Int) : Int := x / 4294967296 % 4294967296
def g2 (x : Int) : Int := x / 18446744073709551616 % 4294967296
def g3 (x : Int) : Int := x / 79228162514264337593543950336 % 4294967296
theorem g0_bd (x : Int) : 0 ≤ g0 x ∧ g0 x ≤ 4294967295 := by unfold g0; omega
theorem g1_bd (x : Int) : 0 ≤ g1 x ∧ g1 x ≤ 4294967295 := by unfold g1; omega
theorem g2_bd (x : Int) : 0 ≤ g2 x ∧ g2 x ≤ 4294967295 := by unfold g2; omega
theorem g3_bd (x : Int) : 0 ≤ g3 x ∧ g3 x ≤ 4294967295 := by unfold g3; omega
theorem g_sum (x : Int) (h0 : 0 ≤ x) (h1 : x < 340282366920938463463374607431768211456) : x = g0 x + g1 x * 4294967296 + g2 x * 18446744073709551616 + g3 x * 79228162514264337593543950336 := by
  unfold g0 g1 g2 g3; omega
theorem g_of (a b c d : Int) (h0 : 0 ≤ a ∧ a ≤ 4294967295) (h1 : 0 ≤ b ∧ b ≤ 4294967295) (h2 : 0 ≤ c ∧ c ≤ 4294967295) (h3 : 0 ≤ d ∧ d ≤ 4294967295) :
    g0 (a + b * 4294967296 + c * 18446744073709551616 + d * 79228162514264337593543950336) = a ∧ g1 (a + b * 4294967296 + c * 18446744073709551616 + d * 79228162514264337593543950336) = b ∧ g2 (a + b * 4294967296 + c * 18446744073709551616 + d * 79228162514264337593543950336) = c ∧ g3 (a + b * 4294967296 + c * 18446744073709551616 + d * 79228162514264337593543950336) = d := by
  unfold g0 g1 g2 g3; omega

theorem ret_big {a b c d a' b' c' d' : Int} (h0 : a = a') (h1 : b = b') (h2 : c = c') (h3 : d = d') : Ending.returned (.agg #[.int .u64 a, .int .u64 b, .int .u64 c, .int .u64 d]) = Ending.returned (.agg #[.int .u64 a', .int .u64 b', .int .u64 c', .int .u64 d']) := by rw [h0, h1, h2, h3]

set_option maxHeartbeats 400000 in
theorem rsize_any (n : Int) (w : World) (h1 : -9223372036854775808 ≤ n) (h2 : n ≤ 9223372036854775807) :
    Calls Tryz.prog 122 #[.int .i64 n] w fun e w' => e = .returned (.int .u64 (sz n)) ∧ w' = w := by
  by_cases h : n < 0
  · go_enter Tryz.func122, Tryz.ntmps122
    go_wp2
    go_ret
    exact ⟨ret_int (by rw [sz_of_neg h]; go_arith), rfl⟩
  · have h' : 0 ≤ n := by omega
    go_enter Tryz.func122, Tryz.ntmps122
    go_wp2
    go_ret
    exact ⟨ret_int (by rw [sz_of_nonneg h']), rfl⟩

set_option maxHeartbeats 400000 in
theorem rof_any (n : Int) (w : World) (h1 : 0 ≤ n) (h2 : n ≤ 18446744073709551615) :
    Calls Tryz.prog 121 #[.int .u64 n] w fun e w' => e = .returned (.agg #[.int .u64 (g0 n), .int .u64 (g1 n), .int .u64 (g2 n), .int .u64 (g3 n)]) ∧ Below w.heap.size w w' := by
  go_enter Tryz.func121, Tryz.ntmps121
  go_wp2
  go_returns
  exact ⟨ret_big (by unfold g0; rfl) (by unfold g1; omega) (by unfold g2; omega) (by unfold g3; omega), by go_grown⟩

set_option maxRecDepth 100000 in
set_option maxHeartbeats 2000000 in
theorem rplus_raw (a0 a1 a2 a3 b0 b1 b2 b3 : Int) (w : World) (p0 : 0 ≤ a0) (p1 : 0 ≤ a1) (p2 : 0 ≤ a2) (p3 : 0 ≤ a3) (q0 : 0 ≤ b0) (q1 : 0 ≤ b1) (q2 : 0 ≤ b2) (q3 : 0 ≤ b3)
    (r0 : a0 ≤ 4294967295) (r1 : a1 ≤ 4294967295) (r2 : a2 ≤ 4294967295) (r3 : a3 ≤ 4294967295) (s0 : b0 ≤ 4294967295) (s1 : b1 ≤ 4294967295) (s2 : b2 ≤ 4294967295) (s3 : b3 ≤ 4294967295) :
    Calls Tryz.prog 161 #[.agg #[.int .u64 a0, .int .u64 a1, .int .u64 a2, .int .u64 a3], .agg #[.int .u64 b0, .int .u64 b1, .int .u64 b2, .int .u64 b3]] w fun e w' => e = .returned (.agg #[.int .u64 ((a0 + b0) % 4294967296), .int .u64 ((a1 + b1 + (a0 + b0) / 4294967296) % 4294967296), .int .u64 ((a2 + b2 + (a1 + b1 + (a0 + b0) / 4294967296) / 4294967296) % 4294967296), .int .u64 ((a3 + b3 + (a2 + b2 + (a1 + b1 + (a0 + b0) / 4294967296) / 4294967296) / 4294967296) % 4294967296)]) ∧ Below w.heap.size w w' := by
  go_enter Tryz.func161, Tryz.ntmps161
  go_wp2
  refine wp_loop_rounds 5 ?_
  rw [rounds_succ]
  go_wp2
  go_quiet (fail)
  go_wp2
  rw [rounds_succ]
  go_wp2
  go_quiet (fail)
  go_wp2
  rw [rounds_succ]
  go_wp2
  go_quiet (fail)
  go_wp2
  rw [rounds_succ]
  go_wp2
  go_quiet (fail)
  go_wp2
  rw [rounds_succ]
  go_wp2
  go_returns
  exact ⟨rfl, by repeat' (first | (with_reducible exact Below.refl _ _) | (with_reducible assumption) | (with_reducible refine bdrewN _ ?_) | (with_reducible refine Below.alloc ?_ ?_ _) | (with_reducible refine Below.setCell ?_ ?_ _) | (with_reducible refine Below.drew ?_) | go_size)⟩

theorem rplus_any (x y : Int) (w : World) (hx : 0 ≤ x) (hy : 0 ≤ y) (h : x + y < 340282366920938463463374607431768211456) :
    Calls Tryz.prog 161 #[.agg #[.int .u64 (g0 x), .int .u64 (g1 x), .int .u64 (g2 x), .int .u64 (g3 x)], .agg #[.int .u64 (g0 y), .int .u64 (g1 y), .int .u64 (g2 y), .int .u64 (g3 y)]] w fun e w' => e = .returned (.agg #[.int .u64 (g0 (x + y)), .int .u64 (g1 (x + y)), .int .u64 (g2 (x + y)), .int .u64 (g3 (x + y))]) ∧ Below w.heap.size w w' := by
  have a0 := g0_bd x; have a1 := g1_bd x; have a2 := g2_bd x; have a3 := g3_bd x
  have b0 := g0_bd y; have b1 := g1_bd y; have b2 := g2_bd y; have b3 := g3_bd y
  have ex := g_sum x hx (by omega); have ey := g_sum y hy (by omega)
  refine (rplus_raw _ _ _ _ _ _ _ _ w a0.1 a1.1 a2.1 a3.1 b0.1 b1.1 b2.1 b3.1 a0.2 a1.2 a2.2 a3.2 b0.2 b1.2 b2.2 b3.2).mono ?_
  rintro e w' ⟨rfl, hb⟩
  have e : x + y = ((g0 x + g0 y) % 4294967296) + ((g1 x + g1 y + (g0 x + g0 y) / 4294967296) % 4294967296) * 4294967296 + ((g2 x + g2 y + (g1 x + g1 y + (g0 x + g0 y) / 4294967296) / 4294967296) % 4294967296) * 18446744073709551616 + ((g3 x + g3 y + (g2 x + g2 y + (g1 x + g1 y + (g0 x + g0 y) / 4294967296) / 4294967296) / 4294967296) % 4294967296) * 79228162514264337593543950336 := by
    generalize g0 x = X0 at *; generalize g1 x = X1 at *; generalize g2 x = X2 at *; generalize g3 x = X3 at *
    generalize g0 y = Y0 at *; generalize g1 y = Y1 at *; generalize g2 y = Y2 at *; generalize g3 y = Y3 at *
    clear hb
    omega
  obtain ⟨k0, k1, k2, k3⟩ := g_of ((g0 x + g0 y) % 4294967296) ((g1 x + g1 y + (g0 x + g0 y) / 4294967296) % 4294967296) ((g2 x + g2 y + (g1 x + g1 y + (g0 x + g0 y) / 4294967296) / 4294967296) % 4294967296) ((g3 x + g3 y + (g2 x + g2 y + (g1 x + g1 y + (g0 x + g0 y) / 4294967296) / 4294967296) / 4294967296) % 4294967296) (by omega) (by omega) (by omega) (by omega)
  rw [← e] at k0 k1 k2 k3
  exact ⟨ret_big k0.symm k1.symm k2.symm k3.symm, hb⟩

set_option maxRecDepth 100000 in
set_option maxHeartbeats 2000000 in
theorem rless_raw (a0 a1 a2 a3 b0 b1 b2 b3 : Int) (w : World) (p0 : 0 ≤ a0) (p1 : 0 ≤ a1) (p2 : 0 ≤ a2) (p3 : 0 ≤ a3) (q0 : 0 ≤ b0) (q1 : 0 ≤ b1) (q2 : 0 ≤ b2) (q3 : 0 ≤ b3)
    (r0 : a0 ≤ 4294967295) (r1 : a1 ≤ 4294967295) (r2 : a2 ≤ 4294967295) (r3 : a3 ≤ 4294967295) (s0 : b0 ≤ 4294967295) (s1 : b1 ≤ 4294967295) (s2 : b2 ≤ 4294967295) (s3 : b3 ≤ 4294967295) :
    Calls Tryz.prog 162 #[.agg #[.int .u64 a0, .int .u64 a1, .int .u64 a2, .int .u64 a3], .agg #[.int .u64 b0, .int .u64 b1, .int .u64 b2, .int .u64 b3]] w fun e w' => e = .returned (.agg #[.int .u64 ((a0 + 4294967296 - b0) % 4294967296), .int .u64 ((a1 + 4294967296 - b1 - (1 - (a0 + 4294967296 - b0) / 4294967296)) % 4294967296), .int .u64 ((a2 + 4294967296 - b2 - (1 - (a1 + 4294967296 - b1 - (1 - (a0 + 4294967296 - b0) / 4294967296)) / 4294967296)) % 4294967296), .int .u64 ((a3 + 4294967296 - b3 - (1 - (a2 + 4294967296 - b2 - (1 - (a1 + 4294967296 - b1 - (1 - (a0 + 4294967296 - b0) / 4294967296)) / 4294967296)) / 4294967296)) % 4294967296)]) ∧ Below w.heap.size w w' := by
  go_enter Tryz.func162, Tryz.ntmps162
  go_wp2
  refine wp_loop_rounds 5 ?_
  rw [rounds_succ]
  go_wp2
  go_quiet (fail)
  go_wp2
  rw [rounds_succ]
  go_wp2
  go_quiet (fail)
  go_wp2
  rw [rounds_succ]
  go_wp2
  go_quiet (fail)
  go_wp2
  rw [rounds_succ]
  go_wp2
  go_quiet (fail)
  go_wp2
  rw [rounds_succ]
  go_wp2
  go_returns
  exact ⟨rfl, by repeat' (first | (with_reducible exact Below.refl _ _) | (with_reducible assumption) | (with_reducible refine bdrewN _ ?_) | (with_reducible refine Below.alloc ?_ ?_ _) | (with_reducible refine Below.setCell ?_ ?_ _) | (with_reducible refine Below.drew ?_) | go_size)⟩

theorem rless_any (x y : Int) (w : World) (hy : 0 ≤ y) (h : y ≤ x) (hx : x < 340282366920938463463374607431768211456) :
    Calls Tryz.prog 162 #[.agg #[.int .u64 (g0 x), .int .u64 (g1 x), .int .u64 (g2 x), .int .u64 (g3 x)], .agg #[.int .u64 (g0 y), .int .u64 (g1 y), .int .u64 (g2 y), .int .u64 (g3 y)]] w fun e w' => e = .returned (.agg #[.int .u64 (g0 (x - y)), .int .u64 (g1 (x - y)), .int .u64 (g2 (x - y)), .int .u64 (g3 (x - y))]) ∧ Below w.heap.size w w' := by
  have a0 := g0_bd x; have a1 := g1_bd x; have a2 := g2_bd x; have a3 := g3_bd x
  have b0 := g0_bd y; have b1 := g1_bd y; have b2 := g2_bd y; have b3 := g3_bd y
  have ex := g_sum x (by omega) hx; have ey := g_sum y hy (by omega)
  refine (rless_raw _ _ _ _ _ _ _ _ w a0.1 a1.1 a2.1 a3.1 b0.1 b1.1 b2.1 b3.1 a0.2 a1.2 a2.2 a3.2 b0.2 b1.2 b2.2 b3.2).mono ?_
  rintro e w' ⟨rfl, hb⟩
  have e : x - y = ((g0 x + 4294967296 - g0 y) % 4294967296) + ((g1 x + 4294967296 - g1 y - (1 - (g0 x + 4294967296 - g0 y) / 4294967296)) % 4294967296) * 4294967296 + ((g2 x + 4294967296 - g2 y - (1 - (g1 x + 4294967296 - g1 y - (1 - (g0 x + 4294967296 - g0 y) / 4294967296)) / 4294967296)) % 4294967296) * 18446744073709551616 + ((g3 x + 4294967296 - g3 y - (1 - (g2 x + 4294967296 - g2 y - (1 - (g1 x + 4294967296 - g1 y - (1 - (g0 x + 4294967296 - g0 y) / 4294967296)) / 4294967296)) / 4294967296)) % 4294967296) * 79228162514264337593543950336 := by
    generalize g0 x = X0 at *; generalize g1 x = X1 at *; generalize g2 x = X2 at *; generalize g3 x = X3 at *
    generalize g0 y = Y0 at *; generalize g1 y = Y1 at *; generalize g2 y = Y2 at *; generalize g3 y = Y3 at *
    clear hb
    omega
  obtain ⟨k0, k1, k2, k3⟩ := g_of ((g0 x + 4294967296 - g0 y) % 4294967296) ((g1 x + 4294967296 - g1 y - (1 - (g0 x + 4294967296 - g0 y) / 4294967296)) % 4294967296) ((g2 x + 4294967296 - g2 y - (1 - (g1 x + 4294967296 - g1 y - (1 - (g0 x + 4294967296 - g0 y) / 4294967296)) / 4294967296)) % 4294967296) ((g3 x + 4294967296 - g3 y - (1 - (g2 x + 4294967296 - g2 y - (1 - (g1 x + 4294967296 - g1 y - (1 - (g0 x + 4294967296 - g0 y) / 4294967296)) / 4294967296)) / 4294967296)) % 4294967296) (by omega) (by omega) (by omega) (by omega)
  rw [← e] at k0 k1 k2 k3
  exact ⟨ret_big k0.symm k1.symm k2.symm k3.symm, hb⟩

/-- -1, 0, 1. -/
def cmpI (x y : Int) : Int := if x < y then -1 else if y < x then 1 else 0

set_option maxRecDepth 100000 in
set_option maxHeartbeats 2000000 in
theorem rcompare_raw (a0 a1 a2 a3 b0 b1 b2 b3 : Int) (w : World) (p0 : 0 ≤ a0) (p1 : 0 ≤ a1) (p2 : 0 ≤ a2) (_p3 : 0 ≤ a3) (q0 : 0 ≤ b0) (q1 : 0 ≤ b1) (q2 : 0 ≤ b2) (_q3 : 0 ≤ b3)
    (r0 : a0 ≤ 4294967295) (r1 : a1 ≤ 4294967295) (r2 : a2 ≤ 4294967295) (_r3 : a3 ≤ 4294967295) (s0 : b0 ≤ 4294967295) (s1 : b1 ≤ 4294967295) (s2 : b2 ≤ 4294967295) (_s3 : b3 ≤ 4294967295) :
    Calls Tryz.prog 153 #[.agg #[.int .u64 a0, .int .u64 a1, .int .u64 a2, .int .u64 a3], .agg #[.int .u64 b0, .int .u64 b1, .int .u64 b2, .int .u64 b3]] w fun e w' => e = .returned (.int .i64 (cmpI (a0 + a1 * 4294967296 + a2 * 18446744073709551616 + a3 * 79228162514264337593543950336) (b0 + b1 * 4294967296 + b2 * 18446744073709551616 + b3 * 79228162514264337593543950336))) ∧ Below w.heap.size w w' := by
  go_enter Tryz.func153, Tryz.ntmps153
  go_wp2
  refine wp_loop_rounds 5 ?_
  rw [rounds_succ]
  go_wp2
  go_quiet (fail)
  by_cases u3 : a3 < b3
  · go_wp2
    go_ret
    exact ⟨ret_int (by unfold cmpI; rw [if_pos (by omega)]), by repeat' (first | (with_reducible exact Below.refl _ _) | (with_reducible assumption) | (with_reducible refine bdrewN _ ?_) | (with_reducible refine Below.alloc ?_ ?_ _) | (with_reducible refine Below.setCell ?_ ?_ _) | (with_reducible refine Below.drew ?_) | go_size)⟩
  go_wp2
  go_quiet (fail)
  by_cases v3 : b3 < a3
  · go_wp2
    go_ret
    exact ⟨ret_int (by unfold cmpI; rw [if_neg (by omega), if_pos (by omega)]), by repeat' (first | (with_reducible exact Below.refl _ _) | (with_reducible assumption) | (with_reducible refine bdrewN _ ?_) | (with_reducible refine Below.alloc ?_ ?_ _) | (with_reducible refine Below.setCell ?_ ?_ _) | (with_reducible refine Below.drew ?_) | go_size)⟩
  go_wp2
  rw [rounds_succ]
  go_wp2
  go_quiet (fail)
  by_cases u2 : a2 < b2
  · go_wp2
    go_ret
    exact ⟨ret_int (by unfold cmpI; rw [if_pos (by omega)]), by repeat' (first | (with_reducible exact Below.refl _ _) | (with_reducible assumption) | (with_reducible refine bdrewN _ ?_) | (with_reducible refine Below.alloc ?_ ?_ _) | (with_reducible refine Below.setCell ?_ ?_ _) | (with_reducible refine Below.drew ?_) | go_size)⟩
  go_wp2
  go_quiet (fail)
  by_cases v2 : b2 < a2
  · go_wp2
    go_ret
    exact ⟨ret_int (by unfold cmpI; rw [if_neg (by omega), if_pos (by omega)]), by repeat' (first | (with_reducible exact Below.refl _ _) | (with_reducible assumption) | (with_reducible refine bdrewN _ ?_) | (with_reducible refine Below.alloc ?_ ?_ _) | (with_reducible refine Below.setCell ?_ ?_ _) | (with_reducible refine Below.drew ?_) | go_size)⟩
  go_wp2
  rw [rounds_succ]
  go_wp2
  go_quiet (fail)
  by_cases u1 : a1 < b1
  · go_wp2
    go_ret
    exact ⟨ret_int (by unfold cmpI; rw [if_pos (by omega)]), by repeat' (first | (with_reducible exact Below.refl _ _) | (with_reducible assumption) | (with_reducible refine bdrewN _ ?_) | (with_reducible refine Below.alloc ?_ ?_ _) | (with_reducible refine Below.setCell ?_ ?_ _) | (with_reducible refine Below.drew ?_) | go_size)⟩
  go_wp2
  go_quiet (fail)
  by_cases v1 : b1 < a1
  · go_wp2
    go_ret
    exact ⟨ret_int (by unfold cmpI; rw [if_neg (by omega), if_pos (by omega)]), by repeat' (first | (with_reducible exact Below.refl _ _) | (with_reducible assumption) | (with_reducible refine bdrewN _ ?_) | (with_reducible refine Below.alloc ?_ ?_ _) | (with_reducible refine Below.setCell ?_ ?_ _) | (with_reducible refine Below.drew ?_) | go_size)⟩
  go_wp2
  rw [rounds_succ]
  go_wp2
  go_quiet (fail)
  by_cases u0 : a0 < b0
  · go_wp2
    go_ret
    exact ⟨ret_int (by unfold cmpI; rw [if_pos (by omega)]), by repeat' (first | (with_reducible exact Below.refl _ _) | (with_reducible assumption) | (with_reducible refine bdrewN _ ?_) | (with_reducible refine Below.alloc ?_ ?_ _) | (with_reducible refine Below.setCell ?_ ?_ _) | (with_reducible refine Below.drew ?_) | go_size)⟩
  go_wp2
  go_quiet (fail)
  by_cases v0 : b0 < a0
  · go_wp2
    go_ret
    exact ⟨ret_int (by unfold cmpI; rw [if_neg (by omega), if_pos (by omega)]), by repeat' (first | (with_reducible exact Below.refl _ _) | (with_reducible assumption) | (with_reducible refine bdrewN _ ?_) | (with_reducible refine Below.alloc ?_ ?_ _) | (with_reducible refine Below.setCell ?_ ?_ _) | (with_reducible refine Below.drew ?_) | go_size)⟩
  go_wp2
  rw [rounds_succ]
  go_wp2
  go_ret
  exact ⟨ret_int (by unfold cmpI; rw [if_neg (by omega), if_neg (by omega)]), by repeat' (first | (with_reducible exact Below.refl _ _) | (with_reducible assumption) | (with_reducible refine bdrewN _ ?_) | (with_reducible refine Below.alloc ?_ ?_ _) | (with_reducible refine Below.setCell ?_ ?_ _) | (with_reducible refine Below.drew ?_) | go_size)⟩

theorem rcompare_any (x y : Int) (w : World) (hx : 0 ≤ x) (hx' : x < 340282366920938463463374607431768211456) (hy : 0 ≤ y) (hy' : y < 340282366920938463463374607431768211456) :
    Calls Tryz.prog 153 #[.agg #[.int .u64 (g0 x), .int .u64 (g1 x), .int .u64 (g2 x), .int .u64 (g3 x)], .agg #[.int .u64 (g0 y), .int .u64 (g1 y), .int .u64 (g2 y), .int .u64 (g3 y)]] w fun e w' => e = .returned (.int .i64 (cmpI x y)) ∧ Below w.heap.size w w' := by
  have a0 := g0_bd x; have a1 := g1_bd x; have a2 := g2_bd x; have a3 := g3_bd x
  have b0 := g0_bd y; have b1 := g1_bd y; have b2 := g2_bd y; have b3 := g3_bd y
  have h := rcompare_raw _ _ _ _ _ _ _ _ w a0.1 a1.1 a2.1 a3.1 b0.1 b1.1 b2.1 b3.1 a0.2 a1.2 a2.2 a3.2 b0.2 b1.2 b2.2 b3.2
  rwa [← g_sum x hx hx', ← g_sum y hy hy'] at h

end Go.Proofs.YtgmmhgbodddadaaGreatDoor

namespace Go.Proofs.YtgmmhgbodddadaaGreatDoor
open Go.RowKit

theorem wp_world {P : Program} {c : Code} {Q : Exit → Act → World → Prop} {a : Act} {w : World} (h : ∀ W, W = w → c.wp P Q a W) : c.wp P Q a w := h w rfl

/-- With k bits of a still to come: what is left, how often b goes in, and which bits of that are still 0. -/
structure Inv (a b : Int) (k : Nat) (t0 t1 t2 t3 R : Int) : Prop where
  rest : R = a / 2 ^ k % b
  times : t0 + t1 * 4294967296 + t2 * 18446744073709551616 + t3 * 79228162514264337593543950336 = a / 2 ^ k / b * 2 ^ k
  d0 : t0 % 2 ^ min k 32 = 0
  d1 : t1 % 2 ^ min (k - 32) 32 = 0
  d2 : t2 % 2 ^ min (k - 64) 32 = 0
  d3 : t3 % 2 ^ min (k - 96) 32 = 0

theorem inv_step0 (a b t0 t1 t2 t3 R : Int) (s : Nat) (hs : s < 32) (hb : 0 < b) (h0 : 0 ≤ t0) (h1 : t0 < 4294967296) (h : Inv a b (0 + s + 1) t0 t1 t2 t3 R) :
    (b ≤ 2 * R + g0 a / 2 ^ s % 2 → t0 + 2 ^ s < 4294967296 ∧ Inv a b (0 + s) (t0 + 2 ^ s) t1 t2 t3 (2 * R + g0 a / 2 ^ s % 2 - b)) ∧ (2 * R + g0 a / 2 ^ s % 2 < b → Inv a b (0 + s) t0 t1 t2 t3 (2 * R + g0 a / 2 ^ s % 2)) := by
  obtain ⟨hr, ht, q0, q1, q2, q3⟩ := h
  have hbit : a / 2 ^ (0 + s) % 2 = g0 a / 2 ^ s % 2 := by
    unfold g0
    rw [show 0 + s = s by omega]; exact bit_of a s hs
  have hx := half_step a (0 + s)
  rw [hbit] at hx
  have hb0 : 0 ≤ g0 a / 2 ^ s % 2 := by omega
  have hb1 : g0 a / 2 ^ s % 2 ≤ 1 := by omega
  have hp : (2 : Int) ^ (0 + s + 1) = 2 ^ (0 + s) * 2 := pow_succ_i _
  have hp2 : (2 : Int) ^ (0 + s) = 1 * 2 ^ s := by rw [Int.pow_add]; rfl
  have qe : min (0 + s + 1) 32 = s + 1 := by omega
  have qj := q0
  rw [qe] at qj
  obtain ⟨r1, r2, r3⟩ := dig_room t0 s hs h0 h1 qj
  obtain ⟨s1, s2⟩ := bit_step hb hx hb0 hb1
  rw [← hr] at s1 s2
  generalize g0 a / 2 ^ s % 2 = bit at *
  constructor
  · intro hc
    obtain ⟨u1, u2⟩ := s1 hc
    refine ⟨r1, ⟨u1.symm, ?_, (by rw [show min ((0 + s)) 32 = s by omega]; exact r2), (by rw [show min ((0 + s) - 32) 32 = 0 by omega]; simp), (by rw [show min ((0 + s) - 64) 32 = 0 by omega]; simp), (by rw [show min ((0 + s) - 96) 32 = 0 by omega]; simp)⟩⟩
    rw [u2]
    have : (2 * (a / 2 ^ (0 + s + 1) / b) + 1) * 2 ^ (0 + s) = a / 2 ^ (0 + s + 1) / b * 2 ^ (0 + s + 1) + 2 ^ (0 + s) := by rw [hp]; grind
    rw [this, ← ht, hp2]
    generalize (2 : Int) ^ s = p at *
    grind
  · intro hc
    obtain ⟨u1, u2⟩ := s2 hc
    refine ⟨u1.symm, ?_, (by rw [show min ((0 + s)) 32 = s by omega]; exact r3), (by rw [show min ((0 + s) - 32) 32 = 0 by omega]; simp), (by rw [show min ((0 + s) - 64) 32 = 0 by omega]; simp), (by rw [show min ((0 + s) - 96) 32 = 0 by omega]; simp)⟩
    rw [u2]
    have : 2 * (a / 2 ^ (0 + s + 1) / b) * 2 ^ (0 + s) = a / 2 ^ (0 + s + 1) / b * 2 ^ (0 + s + 1) := by rw [hp]; grind
    rw [this, ht]

theorem inv_step1 (a b t0 t1 t2 t3 R : Int) (s : Nat) (hs : s < 32) (hb : 0 < b) (h0 : 0 ≤ t1) (h1 : t1 < 4294967296) (h : Inv a b (32 + s + 1) t0 t1 t2 t3 R) :
    (b ≤ 2 * R + g1 a / 2 ^ s % 2 → t1 + 2 ^ s < 4294967296 ∧ Inv a b (32 + s) t0 (t1 + 2 ^ s) t2 t3 (2 * R + g1 a / 2 ^ s % 2 - b)) ∧ (2 * R + g1 a / 2 ^ s % 2 < b → Inv a b (32 + s) t0 t1 t2 t3 (2 * R + g1 a / 2 ^ s % 2)) := by
  obtain ⟨hr, ht, q0, q1, q2, q3⟩ := h
  have hbit : a / 2 ^ (32 + s) % 2 = g1 a / 2 ^ s % 2 := by
    unfold g1
    have e : a / 2 ^ (32 + s) = a / 4294967296 / 2 ^ s := by
      rw [Int.pow_add, ← Int.ediv_ediv_of_nonneg (by decide)]; rfl
    rw [e]; exact bit_of _ s hs
  have hx := half_step a (32 + s)
  rw [hbit] at hx
  have hb0 : 0 ≤ g1 a / 2 ^ s % 2 := by omega
  have hb1 : g1 a / 2 ^ s % 2 ≤ 1 := by omega
  have hp : (2 : Int) ^ (32 + s + 1) = 2 ^ (32 + s) * 2 := pow_succ_i _
  have hp2 : (2 : Int) ^ (32 + s) = 4294967296 * 2 ^ s := by rw [Int.pow_add]; rfl
  have qe : min ((32 + s + 1) - 32) 32 = s + 1 := by omega
  have qj := q1
  rw [qe] at qj
  obtain ⟨r1, r2, r3⟩ := dig_room t1 s hs h0 h1 qj
  obtain ⟨s1, s2⟩ := bit_step hb hx hb0 hb1
  rw [← hr] at s1 s2
  generalize g1 a / 2 ^ s % 2 = bit at *
  constructor
  · intro hc
    obtain ⟨u1, u2⟩ := s1 hc
    refine ⟨r1, ⟨u1.symm, ?_, (by rw [show min ((32 + s)) 32 = min ((32 + s + 1)) 32 by omega]; exact q0), (by rw [show min ((32 + s) - 32) 32 = s by omega]; exact r2), (by rw [show min ((32 + s) - 64) 32 = 0 by omega]; simp), (by rw [show min ((32 + s) - 96) 32 = 0 by omega]; simp)⟩⟩
    rw [u2]
    have : (2 * (a / 2 ^ (32 + s + 1) / b) + 1) * 2 ^ (32 + s) = a / 2 ^ (32 + s + 1) / b * 2 ^ (32 + s + 1) + 2 ^ (32 + s) := by rw [hp]; grind
    rw [this, ← ht, hp2]
    generalize (2 : Int) ^ s = p at *
    grind
  · intro hc
    obtain ⟨u1, u2⟩ := s2 hc
    refine ⟨u1.symm, ?_, (by rw [show min ((32 + s)) 32 = min ((32 + s + 1)) 32 by omega]; exact q0), (by rw [show min ((32 + s) - 32) 32 = s by omega]; exact r3), (by rw [show min ((32 + s) - 64) 32 = 0 by omega]; simp), (by rw [show min ((32 + s) - 96) 32 = 0 by omega]; simp)⟩
    rw [u2]
    have : 2 * (a / 2 ^ (32 + s + 1) / b) * 2 ^ (32 + s) = a / 2 ^ (32 + s + 1) / b * 2 ^ (32 + s + 1) := by rw [hp]; grind
    rw [this, ht]

theorem inv_step2 (a b t0 t1 t2 t3 R : Int) (s : Nat) (hs : s < 32) (hb : 0 < b) (h0 : 0 ≤ t2) (h1 : t2 < 4294967296) (h : Inv a b (64 + s + 1) t0 t1 t2 t3 R) :
    (b ≤ 2 * R + g2 a / 2 ^ s % 2 → t2 + 2 ^ s < 4294967296 ∧ Inv a b (64 + s) t0 t1 (t2 + 2 ^ s) t3 (2 * R + g2 a / 2 ^ s % 2 - b)) ∧ (2 * R + g2 a / 2 ^ s % 2 < b → Inv a b (64 + s) t0 t1 t2 t3 (2 * R + g2 a / 2 ^ s % 2)) := by
  obtain ⟨hr, ht, q0, q1, q2, q3⟩ := h
  have hbit : a / 2 ^ (64 + s) % 2 = g2 a / 2 ^ s % 2 := by
    unfold g2
    have e : a / 2 ^ (64 + s) = a / 18446744073709551616 / 2 ^ s := by
      rw [Int.pow_add, ← Int.ediv_ediv_of_nonneg (by decide)]; rfl
    rw [e]; exact bit_of _ s hs
  have hx := half_step a (64 + s)
  rw [hbit] at hx
  have hb0 : 0 ≤ g2 a / 2 ^ s % 2 := by omega
  have hb1 : g2 a / 2 ^ s % 2 ≤ 1 := by omega
  have hp : (2 : Int) ^ (64 + s + 1) = 2 ^ (64 + s) * 2 := pow_succ_i _
  have hp2 : (2 : Int) ^ (64 + s) = 18446744073709551616 * 2 ^ s := by rw [Int.pow_add]; rfl
  have qe : min ((64 + s + 1) - 64) 32 = s + 1 := by omega
  have qj := q2
  rw [qe] at qj
  obtain ⟨r1, r2, r3⟩ := dig_room t2 s hs h0 h1 qj
  obtain ⟨s1, s2⟩ := bit_step hb hx hb0 hb1
  rw [← hr] at s1 s2
  generalize g2 a / 2 ^ s % 2 = bit at *
  constructor
  · intro hc
    obtain ⟨u1, u2⟩ := s1 hc
    refine ⟨r1, ⟨u1.symm, ?_, (by rw [show min ((64 + s)) 32 = min ((64 + s + 1)) 32 by omega]; exact q0), (by rw [show min ((64 + s) - 32) 32 = min ((64 + s + 1) - 32) 32 by omega]; exact q1), (by rw [show min ((64 + s) - 64) 32 = s by omega]; exact r2), (by rw [show min ((64 + s) - 96) 32 = 0 by omega]; simp)⟩⟩
    rw [u2]
    have : (2 * (a / 2 ^ (64 + s + 1) / b) + 1) * 2 ^ (64 + s) = a / 2 ^ (64 + s + 1) / b * 2 ^ (64 + s + 1) + 2 ^ (64 + s) := by rw [hp]; grind
    rw [this, ← ht, hp2]
    generalize (2 : Int) ^ s = p at *
    grind
  · intro hc
    obtain ⟨u1, u2⟩ := s2 hc
    refine ⟨u1.symm, ?_, (by rw [show min ((64 + s)) 32 = min ((64 + s + 1)) 32 by omega]; exact q0), (by rw [show min ((64 + s) - 32) 32 = min ((64 + s + 1) - 32) 32 by omega]; exact q1), (by rw [show min ((64 + s) - 64) 32 = s by omega]; exact r3), (by rw [show min ((64 + s) - 96) 32 = 0 by omega]; simp)⟩
    rw [u2]
    have : 2 * (a / 2 ^ (64 + s + 1) / b) * 2 ^ (64 + s) = a / 2 ^ (64 + s + 1) / b * 2 ^ (64 + s + 1) := by rw [hp]; grind
    rw [this, ht]

theorem inv_step3 (a b t0 t1 t2 t3 R : Int) (s : Nat) (hs : s < 32) (hb : 0 < b) (h0 : 0 ≤ t3) (h1 : t3 < 4294967296) (h : Inv a b (96 + s + 1) t0 t1 t2 t3 R) :
    (b ≤ 2 * R + g3 a / 2 ^ s % 2 → t3 + 2 ^ s < 4294967296 ∧ Inv a b (96 + s) t0 t1 t2 (t3 + 2 ^ s) (2 * R + g3 a / 2 ^ s % 2 - b)) ∧ (2 * R + g3 a / 2 ^ s % 2 < b → Inv a b (96 + s) t0 t1 t2 t3 (2 * R + g3 a / 2 ^ s % 2)) := by
  obtain ⟨hr, ht, q0, q1, q2, q3⟩ := h
  have hbit : a / 2 ^ (96 + s) % 2 = g3 a / 2 ^ s % 2 := by
    unfold g3
    have e : a / 2 ^ (96 + s) = a / 79228162514264337593543950336 / 2 ^ s := by
      rw [Int.pow_add, ← Int.ediv_ediv_of_nonneg (by decide)]; rfl
    rw [e]; exact bit_of _ s hs
  have hx := half_step a (96 + s)
  rw [hbit] at hx
  have hb0 : 0 ≤ g3 a / 2 ^ s % 2 := by omega
  have hb1 : g3 a / 2 ^ s % 2 ≤ 1 := by omega
  have hp : (2 : Int) ^ (96 + s + 1) = 2 ^ (96 + s) * 2 := pow_succ_i _
  have hp2 : (2 : Int) ^ (96 + s) = 79228162514264337593543950336 * 2 ^ s := by rw [Int.pow_add]; rfl
  have qe : min ((96 + s + 1) - 96) 32 = s + 1 := by omega
  have qj := q3
  rw [qe] at qj
  obtain ⟨r1, r2, r3⟩ := dig_room t3 s hs h0 h1 qj
  obtain ⟨s1, s2⟩ := bit_step hb hx hb0 hb1
  rw [← hr] at s1 s2
  generalize g3 a / 2 ^ s % 2 = bit at *
  constructor
  · intro hc
    obtain ⟨u1, u2⟩ := s1 hc
    refine ⟨r1, ⟨u1.symm, ?_, (by rw [show min ((96 + s)) 32 = min ((96 + s + 1)) 32 by omega]; exact q0), (by rw [show min ((96 + s) - 32) 32 = min ((96 + s + 1) - 32) 32 by omega]; exact q1), (by rw [show min ((96 + s) - 64) 32 = min ((96 + s + 1) - 64) 32 by omega]; exact q2), (by rw [show min ((96 + s) - 96) 32 = s by omega]; exact r2)⟩⟩
    rw [u2]
    have : (2 * (a / 2 ^ (96 + s + 1) / b) + 1) * 2 ^ (96 + s) = a / 2 ^ (96 + s + 1) / b * 2 ^ (96 + s + 1) + 2 ^ (96 + s) := by rw [hp]; grind
    rw [this, ← ht, hp2]
    generalize (2 : Int) ^ s = p at *
    grind
  · intro hc
    obtain ⟨u1, u2⟩ := s2 hc
    refine ⟨u1.symm, ?_, (by rw [show min ((96 + s)) 32 = min ((96 + s + 1)) 32 by omega]; exact q0), (by rw [show min ((96 + s) - 32) 32 = min ((96 + s + 1) - 32) 32 by omega]; exact q1), (by rw [show min ((96 + s) - 64) 32 = min ((96 + s + 1) - 64) 32 by omega]; exact q2), (by rw [show min ((96 + s) - 96) 32 = s by omega]; exact r3)⟩
    rw [u2]
    have : 2 * (a / 2 ^ (96 + s + 1) / b) * 2 ^ (96 + s) = a / 2 ^ (96 + s + 1) / b * 2 ^ (96 + s + 1) := by rw [hp]; grind
    rw [this, ht]

end Go.Proofs.YtgmmhgbodddadaaGreatDoor

namespace Go.Proofs.YtgmmhgbodddadaaGreatDoor
open Go.RowKit Go.Shelf

/-- The table of the powers of ten lies as it was laid. -/
def Pow (w : World) : Prop := Lib.TabIs Tryz.prog w "internal/strconv.uint64pow10" .u64 Lib.pow10Tab
theorem Pow.below {w W : World} (h : Pow w) (hb : Below w.heap.size w W) : Pow W := Lib.tabBelow_of_tabIs h W hb

theorem below_grow (w : World) (k : Nat) (os : Array Obj) : Below w.heap.size w (Sort.grow (w.drewN k) os) :=
  ⟨rfl, rfl, rfl, by simp [Sort.grow], fun i hi => by simp [Sort.grow, Array.getElem?_append, hi]⟩

set_option maxRecDepth 100000 in
set_option maxHeartbeats 400000 in
theorem dec_any (n : Int) (w : World) (h1 : -9223372036854775808 ≤ n) (h2 : n ≤ 9223372036854775807) (ht : Pow w) :
    Calls Tryz.prog 131 #[.int .i64 n] w fun e w' => e = .returned (.string ⟨(Lib.itoa n).toArray⟩) ∧ Below w.heap.size w w' := by
  go_enter Tryz.func131, Tryz.ntmps131
  go_wp2_with fail
  refine (Tryz.strconv_FormatInt_10 n h1 h2 _ ht).mono ?_
  rintro e w1 ⟨rfl, k, os, rfl⟩
  go_wp2
  go_ret
  exact ⟨rfl, below_grow w k os⟩

set_option maxRecDepth 100000 in
set_option maxHeartbeats 1000000 in
theorem text_rat (n d : Int) (s : ByteArray) (w : World) (h1 : -9223372036854775808 ≤ n) (h2 : n ≤ 9223372036854775807) (g1 : -9223372036854775808 ≤ d) (g2 : d ≤ 9223372036854775807) (ht : Pow w) :
    Calls Tryz.prog 112 #[.agg #[.int .i64 2, .int .i64 n, .int .i64 d, .string s]] w fun e w' => e = .returned (.string ⟨(Lib.itoa n ++ 47 :: Lib.itoa d).toArray⟩) ∧ Below w.heap.size w w' := by
  go_enter Tryz.func112, Tryz.ntmps112
  go_upto_region 5 with fail
  refine wp_world ?_
  intro W0 hW0
  have c1 : W0.cell? ⟨w.heap.size, 1, none⟩ = some (.int .i64 n) := by rw [hW0]; simp [go_sem]
  have c2 : W0.cell? ⟨w.heap.size, 2, none⟩ = some (.int .i64 d) := by rw [hW0]; simp [go_sem]
  have k0 : Below w.heap.size w W0 := by rw [hW0]; go_grown
  have k1 : w.heap.size < W0.heap.size := by rw [hW0]; simp
  clear hW0
  have lA := Lib.itoa_length_le n h1 h2
  have lB := Lib.itoa_length_le d g1 g2
  obtain ⟨A, eA⟩ : ∃ A : ByteArray, A = ⟨(Lib.itoa n).toArray⟩ := ⟨_, rfl⟩
  obtain ⟨B, eB⟩ : ∃ B : ByteArray, B = ⟨(Lib.itoa d).toArray⟩ := ⟨_, rfl⟩
  have sA : A.size ≤ 21 := by rw [eA]; show (Lib.itoa n).toArray.size ≤ 21; simpa using lA
  have sB : B.size ≤ 21 := by rw [eB]; show (Lib.itoa d).toArray.size ≤ 21; simpa using lB
  have DA := fun (W : World) (h : Pow W) => dec_any n W h1 h2 h
  have DB := fun (W : World) (h : Pow W) => dec_any d W g1 g2 h
  rw [← eA] at DA
  rw [← eB] at DB
  obtain ⟨C, eC⟩ : ∃ C : ByteArray, C = A ++ ⟨#[47]⟩ := ⟨_, rfl⟩
  have sC : C.size ≤ 22 := by rw [eC, ByteArray.size_append]; have : (⟨#[47]⟩ : ByteArray).size = 1 := rfl
                              omega
  have x1 : ∀ W : World, (Op.stringOp .add A ⟨#[47]⟩).run Tryz.prog W = .ok (.string C) W := fun W => by
    rw [run_string_add_sum W _ _ (by have : (⟨#[47]⟩ : ByteArray).size = 1 := rfl
                                     omega), eC]
  have x2 : ∀ W : World, (Op.stringOp .add C B).run Tryz.prog W = .ok (.string (C ++ B)) W := fun W => run_string_add_sum W _ _ (by omega)
  have eF : Hid (C ++ B = ⟨(Lib.itoa n ++ 47 :: Lib.itoa d).toArray⟩) := by
    rw [eC, eA, eB]
    apply ByteArray.ext
    simp
  have DA' : Hid (∀ W : World, Pow W → Calls Tryz.prog 131 #[.int .i64 n] W fun e w' => e = .returned (.string A) ∧ Below W.heap.size W w') := DA
  have DB' : Hid (∀ W : World, Pow W → Calls Tryz.prog 131 #[.int .i64 d] W fun e w' => e = .returned (.string B) ∧ Below W.heap.size W w') := DB
  clear DA DB eA eB eC sA sB sC lA lB
  go_region_held3 (fun w' => w'.cell? ⟨w.heap.size, 1, none⟩ = some (.int .i64 n) ∧ w'.cell? ⟨w.heap.size, 2, none⟩ = some (.int .i64 d)) (exact ⟨bcl (n := W0.heap.size) (by go_grown) c1 k1, bcl (n := W0.heap.size) (by go_grown) c2 k1⟩)
    (first
      | (go_at_call_of 131 (Value.int IntKind.i64 n); refine (DA'.out _ (ht.below (k0.trans (Below.mono (B := W0.heap.size) (by go_grown) k0.size)))).mono ?_; rintro e w1 ⟨rfl, hb1⟩; obtain ⟨hB1, hn1⟩ := bg0 (n := W0.heap.size) (W0 := W0) (by go_grown) (by go_size) hb1)
      | (go_at_call_of 131 (Value.int IntKind.i64 d); refine (DB'.out _ (ht.below (k0.trans (Below.mono (B := W0.heap.size) (by go_grown) k0.size)))).mono ?_; rintro e w2 ⟨rfl, hb2⟩; obtain ⟨hB2, hn2⟩ := bg0 (n := W0.heap.size) (W0 := W0) (by go_grown) (by go_size) hb2))
  all_goals
    go_wp2
    go_ret
    exact ⟨by rw [eF.out]; rfl, k0.trans (Below.mono (B := W0.heap.size) (by go_grown) k0.size)⟩

set_option maxRecDepth 100000 in
set_option maxHeartbeats 1000000 in
theorem text_int (n d : Int) (s : ByteArray) (w : World) (h1 : -9223372036854775808 ≤ n) (h2 : n ≤ 9223372036854775807) (ht : Pow w) :
    Calls Tryz.prog 112 #[.agg #[.int .i64 1, .int .i64 n, .int .i64 d, .string s]] w fun e w' => e = .returned (.string ⟨(Lib.itoa n).toArray⟩) ∧ Below w.heap.size w w' := by
  go_enter Tryz.func112, Tryz.ntmps112
  go_wp2_with fail
  refine (dec_any n _ h1 h2 (ht.below (by go_grown))).mono ?_
  rintro e w1 ⟨rfl, hb⟩
  obtain ⟨hc, hf, hz, hB⟩ := bf (w := w) (by go_grown) hb
  go_wp2
  go_ret
  exact ⟨rfl, hB⟩

set_option maxRecDepth 100000 in
set_option maxHeartbeats 1000000 in
theorem text_str (k n d : Int) (s : ByteArray) (w : World) (hs : s.size ≤ 35184372088830) (k1 : (k == 1) = false) (k2 : (k == 2) = false) :
    Calls Tryz.prog 112 #[.agg #[.int .i64 k, .int .i64 n, .int .i64 d, .string s]] w fun e w' => e = .returned (.string ⟨(quoted s.data.toList).toArray⟩) ∧ Below w.heap.size w w' := by
  go_enter Tryz.func112, Tryz.ntmps112
  go_wp2_with fail
  refine (quote_any s _ hs).mono ?_
  rintro e w1 ⟨rfl, hb⟩
  obtain ⟨hc, hf, hz, hB⟩ := bf (w := w) (by go_grown) hb
  go_wp2
  go_ret
  exact ⟨rfl, hB⟩

/-- A value's text. -/
def vtext (k n d : Int) (s : ByteArray) : List UInt8 := if k = 1 then Lib.itoa n else if k = 2 then Lib.itoa n ++ 47 :: Lib.itoa d else quoted s.data.toList

theorem text_any (k n d : Int) (s : ByteArray) (w : World) (h1 : -9223372036854775808 ≤ n) (h2 : n ≤ 9223372036854775807) (g1 : -9223372036854775808 ≤ d) (g2 : d ≤ 9223372036854775807) (hs : s.size ≤ 35184372088830) (ht : Pow w) :
    Calls Tryz.prog 112 #[.agg #[.int .i64 k, .int .i64 n, .int .i64 d, .string s]] w fun e w' => e = .returned (.string ⟨(vtext k n d s).toArray⟩) ∧ Below w.heap.size w w' := by
  unfold vtext
  by_cases k1 : k = 1
  · subst k1; exact text_int n d s w h1 h2 ht
  · rw [if_neg k1]
    by_cases k2 : k = 2
    · subst k2; exact text_rat n d s w h1 h2 g1 g2 ht
    · rw [if_neg k2]; exact text_str k n d s w hs (by simpa using k1) (by simpa using k2)

theorem chk_size {k n d : Int} {s : ByteArray} (h : chk k n d s = 0) : s.size ≤ 64 := by
  unfold chk at h
  split at h
  · cases h
  · split at h
    · cases h
    · omega

set_option maxRecDepth 100000 in
set_option maxHeartbeats 1000000 in
theorem print_any (k n d : Int) (s : ByteArray) (w : World) (h1 : -9223372036854775808 ≤ n) (h2 : n ≤ 9223372036854775807) (g1 : -9223372036854775808 ≤ d) (g2 : d ≤ 9223372036854775807) (ht : Pow w) :
    Calls Tryz.prog 92 #[.agg #[.int .i64 k, .int .i64 n, .int .i64 d, .string s]] w fun e w' => e = .returned (.tuple #[.string ⟨(if chk k n d s = 0 then vtext k n d s else []).toArray⟩, .int .i64 (chk k n d s)]) ∧ Below w.heap.size w w' := by
  by_cases hc0 : chk k n d s = 0
  · have hs := chk_size hc0
    rw [if_pos hc0, hc0]
    go_enter Tryz.func92, Tryz.ntmps92
    go_wp2_with fail
    refine (check_any k n d s _ h1 h2 g1 g2).mono ?_
    rintro e w1 ⟨rfl, hb⟩
    obtain ⟨hc, hf, hz, hB⟩ := bf (w := w) (by go_grown) hb
    rw [hc0]
    have ht1 := ht.below hB
    go_wp2_with fail
    refine (text_any k n d s _ h1 h2 g1 g2 (by omega) ht1).mono ?_
    rintro e w2 ⟨rfl, hb2⟩
    go_wp2
    go_ret2
    exact ⟨rfl, hB.trans (hb2.mono hB.size)⟩
  · rw [if_neg hc0]
    have hc1 : (chk k n d s != 0) = true := by simpa using hc0
    go_enter Tryz.func92, Tryz.ntmps92
    go_wp2_with fail
    refine (check_any k n d s _ h1 h2 g1 g2).mono ?_
    rintro e w1 ⟨rfl, hb⟩
    obtain ⟨hc, hf, hz, hB⟩ := bf (w := w) (by go_grown) hb
    go_wp2
    go_ret2
    exact ⟨rfl, hB⟩

end Go.Proofs.YtgmmhgbodddadaaGreatDoor

namespace Go.Proofs.YtgmmhgbodddadaaGreatDoor
open Go.RowKit Go.Shelf

theorem isB_below {T e : TypeId} {B b : Nat} {bs : List Value} {w W : World} (h : Lib.IsBuilder T e B b bs w) (hb : Below w.heap.size w W) : Lib.IsBuilder T e B b bs W := by
  have go : ∀ p, Lib.BuilderAt T e B b p bs w → Lib.BuilderAt T e B b p bs W := by
    intro p h
    have hlt := h.lt
    obtain ⟨hB, v, hbk, hown, hne⟩ := h
    exact ⟨hB, v, (hb.block b hlt).trans hbk, hown.kept (row := none) ⟨hb.os, hb.tape, hb.output, hb.size, fun k hk _ => hb.block k hk⟩ (Classical.em _), hne⟩
  rcases h with h | h
  · exact Or.inl (go _ h)
  · exact Or.inr (go _ h)

/-- A block that holds a value, which may be written. -/
structure BlkV (W : World) (B : Nat) (k n d : Int) (s : ByteArray) : Prop where
  c0 : W.cell? ⟨B, 0, none⟩ = some (.int .i64 k)
  c1 : W.cell? ⟨B, 1, none⟩ = some (.int .i64 n)
  c2 : W.cell? ⟨B, 2, none⟩ = some (.int .i64 d)
  c3 : W.cell? ⟨B, 3, none⟩ = some (.string s)
  f0 : W.frozen? ⟨B, 0, none⟩ = false
  f1 : W.frozen? ⟨B, 1, none⟩ = false
  f2 : W.frozen? ⟨B, 2, none⟩ = false
  f3 : W.frozen? ⟨B, 3, none⟩ = false
theorem BlkV.below {W W' : World} {B m : Nat} {k n d : Int} {s : ByteArray} (h : BlkV W B k n d s) (hb : Below m W W') (hB : B < m) : BlkV W' B k n d s :=
  ⟨(hb.cell (p := ⟨B, 0, none⟩) hB).trans h.c0, (hb.cell (p := ⟨B, 1, none⟩) hB).trans h.c1, (hb.cell (p := ⟨B, 2, none⟩) hB).trans h.c2, (hb.cell (p := ⟨B, 3, none⟩) hB).trans h.c3,
   (hb.frozen (p := ⟨B, 0, none⟩) hB).trans h.f0, (hb.frozen (p := ⟨B, 1, none⟩) hB).trans h.f1, (hb.frozen (p := ⟨B, 2, none⟩) hB).trans h.f2, (hb.frozen (p := ⟨B, 3, none⟩) hB).trans h.f3⟩
theorem BlkV.four {W : World} {B : Nat} {k n d k' n' d' : Int} {s s' : ByteArray} (h : BlkV W B k n d s) : BlkV ((((W.setCell ⟨B, 0, none⟩ (.int .i64 k')).setCell ⟨B, 1, none⟩ (.int .i64 n')).setCell ⟨B, 2, none⟩ (.int .i64 d')).setCell ⟨B, 3, none⟩ (.string s')) B k' n' d' s' := by
  obtain ⟨c0, c1, c2, c3, f0, f1, f2, f3⟩ := h
  constructor <;> simp (maxDischargeDepth := 12) [go_sem, c0, c1, c2, c3, f0, f1, f2, f3]

end Go.Proofs.YtgmmhgbodddadaaGreatDoor

namespace Go.Proofs.YtgmmhgbodddadaaGreatDoor
open Go.RowKit Go.Shelf

end Go.Proofs.YtgmmhgbodddadaaGreatDoor

namespace Go.Proofs.YtgmmhgbodddadaaGreatDoor
open Go.RowKit Go.Shelf

end Go.Proofs.YtgmmhgbodddadaaGreatDoor

namespace Go.Proofs.YtgmmhgbodddadaaGreatDoor
open Go.RowKit Go.Shelf

end Go.Proofs.YtgmmhgbodddadaaGreatDoor

namespace Go.Proofs.YtgmmhgbodddadaaGreatDoor
open Go.RowKit Go.Shelf

end Go.Proofs.YtgmmhgbodddadaaGreatDoor

namespace Go.Proofs.YtgmmhgbodddadaaGreatDoor
open Go.RowKit Go.Shelf

end Go.Proofs.YtgmmhgbodddadaaGreatDoor

namespace Go.Proofs.YtgmmhgbodddadaaGreatDoor
open Go.RowKit Go.Shelf

/-- What a call tells: N, D, the error: if both fractions may be that of p / q, else nothing and ErrArg. -/
def both (a b c d : Int) : Bool := mayB a b && mayB c d
/-- How two fractions stand to one another. -/
def cmpV (a b c d : Int) : Int := if both a b c d then (if a * d < c * b then -1 else if c * b < a * d then 1 else 0) else 0

end Go.Proofs.YtgmmhgbodddadaaGreatDoor

namespace Go.Proofs.YtgmmhgbodddadaaGreatDoor
open Go.RowKit Go.Shelf

/-- A block that holds a fraction, which may be written. -/
structure BlkR (W : World) (B : Nat) (n d : Int) : Prop where
  c0 : W.cell? ⟨B, 0, none⟩ = some (.int .i64 n)
  c1 : W.cell? ⟨B, 1, none⟩ = some (.int .i64 d)
theorem BlkR.below {W W' : World} {B m : Nat} {n d : Int} (h : BlkR W B n d) (hb : Below m W W') (hB : B < m) : BlkR W' B n d :=
  ⟨(hb.cell (p := ⟨B, 0, none⟩) hB).trans h.c0, (hb.cell (p := ⟨B, 1, none⟩) hB).trans h.c1⟩

end Go.Proofs.YtgmmhgbodddadaaGreatDoor

namespace Go.Proofs.YtgmmhgbodddadaaGreatDoor
open Go.RowKit Go.Shelf

end Go.Proofs.YtgmmhgbodddadaaGreatDoor

namespace Go.Proofs.YtgmmhgbodddadaaGreatDoor
open Go.RowKit Go.Shelf

end Go.Proofs.YtgmmhgbodddadaaGreatDoor

namespace Go.Proofs.YtgmmhgbodddadaaGreatDoor
open Go.RowKit Go.Shelf

end Go.Proofs.YtgmmhgbodddadaaGreatDoor

namespace Go.Proofs.YtgmmhgbodddadaaGreatDoor
open Go.RowKit Go.Shelf

end Go.Proofs.YtgmmhgbodddadaaGreatDoor

namespace Go.Proofs.YtgmmhgbodddadaaGreatDoor
open Go.RowKit Go.Shelf

end Go.Proofs.YtgmmhgbodddadaaGreatDoor

namespace Go.Proofs.YtgmmhgbodddadaaGreatDoor
open Go.RowKit

/-- A block of four digits, which may be written. -/
structure Blk (W : World) (B : Nat) (v0 v1 v2 v3 : Int) : Prop where
  c0 : W.cell? ⟨B, 0, none⟩ = some (.int .u64 v0)
  c1 : W.cell? ⟨B, 1, none⟩ = some (.int .u64 v1)
  c2 : W.cell? ⟨B, 2, none⟩ = some (.int .u64 v2)
  c3 : W.cell? ⟨B, 3, none⟩ = some (.int .u64 v3)
  f0 : W.frozen? ⟨B, 0, none⟩ = false
  f1 : W.frozen? ⟨B, 1, none⟩ = false
  f2 : W.frozen? ⟨B, 2, none⟩ = false
  f3 : W.frozen? ⟨B, 3, none⟩ = false

theorem Blk.below {W W' : World} {B n : Nat} {v0 v1 v2 v3 : Int} (h : Blk W B v0 v1 v2 v3) (hb : Below n W W') (hB : B < n) : Blk W' B v0 v1 v2 v3 :=
  ⟨(hb.cell (p := ⟨B, 0, none⟩) hB).trans h.c0, (hb.cell (p := ⟨B, 1, none⟩) hB).trans h.c1, (hb.cell (p := ⟨B, 2, none⟩) hB).trans h.c2, (hb.cell (p := ⟨B, 3, none⟩) hB).trans h.c3,
   (hb.frozen (p := ⟨B, 0, none⟩) hB).trans h.f0, (hb.frozen (p := ⟨B, 1, none⟩) hB).trans h.f1, (hb.frozen (p := ⟨B, 2, none⟩) hB).trans h.f2, (hb.frozen (p := ⟨B, 3, none⟩) hB).trans h.f3⟩

theorem Blk.set0 {W : World} {B : Nat} {v0 v1 v2 v3 : Int} (h : Blk W B v0 v1 v2 v3) (x : Int) : Blk (W.setCell ⟨B, 0, none⟩ (.int .u64 x)) B x v1 v2 v3 := by
  obtain ⟨c0, c1, c2, c3, f0, f1, f2, f3⟩ := h
  constructor <;> simp (maxDischargeDepth := 12) [go_sem, c0, c1, c2, c3, f0, f1, f2, f3]
theorem Blk.set1 {W : World} {B : Nat} {v0 v1 v2 v3 : Int} (h : Blk W B v0 v1 v2 v3) (x : Int) : Blk (W.setCell ⟨B, 1, none⟩ (.int .u64 x)) B v0 x v2 v3 := by
  obtain ⟨c0, c1, c2, c3, f0, f1, f2, f3⟩ := h
  constructor <;> simp (maxDischargeDepth := 12) [go_sem, c0, c1, c2, c3, f0, f1, f2, f3]
theorem Blk.set2 {W : World} {B : Nat} {v0 v1 v2 v3 : Int} (h : Blk W B v0 v1 v2 v3) (x : Int) : Blk (W.setCell ⟨B, 2, none⟩ (.int .u64 x)) B v0 v1 x v3 := by
  obtain ⟨c0, c1, c2, c3, f0, f1, f2, f3⟩ := h
  constructor <;> simp (maxDischargeDepth := 12) [go_sem, c0, c1, c2, c3, f0, f1, f2, f3]
theorem Blk.set3 {W : World} {B : Nat} {v0 v1 v2 v3 : Int} (h : Blk W B v0 v1 v2 v3) (x : Int) : Blk (W.setCell ⟨B, 3, none⟩ (.int .u64 x)) B v0 v1 v2 x := by
  obtain ⟨c0, c1, c2, c3, f0, f1, f2, f3⟩ := h
  constructor <;> simp (maxDischargeDepth := 12) [go_sem, c0, c1, c2, c3, f0, f1, f2, f3]
theorem Blk.other {W : World} {B C o : Nat} {v0 v1 v2 v3 : Int} {x : Value} (h : Blk W C v0 v1 v2 v3) (hne : C ≠ B) : Blk (W.setCell ⟨B, o, none⟩ x) C v0 v1 v2 v3 := by
  obtain ⟨c0, c1, c2, c3, f0, f1, f2, f3⟩ := h
  constructor <;> simp (maxDischargeDepth := 12) [go_sem, c0, c1, c2, c3, f0, f1, f2, f3]
theorem Blk.four {W : World} {B : Nat} {v0 v1 v2 v3 : Int} (h : Blk W B v0 v1 v2 v3) (x0 x1 x2 x3 : Int) : Blk ((((W.setCell ⟨B, 0, none⟩ (.int .u64 x0)).setCell ⟨B, 1, none⟩ (.int .u64 x1)).setCell ⟨B, 2, none⟩ (.int .u64 x2)).setCell ⟨B, 3, none⟩ (.int .u64 x3)) B x0 x1 x2 x3 :=
  (((h.set0 x0).set1 x1).set2 x2).set3 x3
theorem Blk.other4 {W : World} {B C : Nat} {v0 v1 v2 v3 : Int} {x0 x1 x2 x3 : Value} (h : Blk W C v0 v1 v2 v3) (hne : C ≠ B) : Blk ((((W.setCell ⟨B, 0, none⟩ x0).setCell ⟨B, 1, none⟩ x1).setCell ⟨B, 2, none⟩ x2).setCell ⟨B, 3, none⟩ x3) C v0 v1 v2 v3 :=
  (((h.other hne).other hne).other hne).other hne
theorem Blk.drew {W : World} {B : Nat} {v0 v1 v2 v3 : Int} (h : Blk W B v0 v1 v2 v3) : Blk W.drew B v0 v1 v2 v3 :=
  ⟨h.c0, h.c1, h.c2, h.c3, h.f0, h.f1, h.f2, h.f3⟩
theorem Blk.drewN {W : World} {B : Nat} {v0 v1 v2 v3 : Int} (h : Blk W B v0 v1 v2 v3) (n : Nat) : Blk (W.drewN n) B v0 v1 v2 v3 :=
  ⟨h.c0, h.c1, h.c2, h.c3, h.f0, h.f1, h.f2, h.f3⟩

theorem bcl2 {n : Nat} {W0 wx : World} (h : Below n W0 wx) {a : Addr} {v : Value} (hv : W0.cell? a = some v) (ha : a.block < n) : wx.cell? a = some v := (h.cell ha).trans hv
theorem bfr2 {n : Nat} {W0 wx : World} (h : Below n W0 wx) {a : Addr} (hv : W0.frozen? a = false) (ha : a.block < n) : wx.frozen? a = false := (h.frozen ha).trans hv

theorem inv_start (a b : Int) (ha : 0 ≤ a) (ha' : a < 340282366920938463463374607431768211456) : Inv a b 128 0 0 0 0 0 := by
  have e : a / 2 ^ 128 = 0 := Int.ediv_eq_zero_of_lt ha ha'
  refine ⟨by rw [e]; simp, by rw [e]; simp, by simp, by simp, by simp, by simp⟩

theorem dig_bit (R bit : Int) (hb0 : 0 ≤ bit) (hb1 : bit ≤ 1) : g0 (R + R) + bit = g0 (2 * R + bit) ∧ g1 (R + R) = g1 (2 * R + bit) ∧ g2 (R + R) = g2 (2 * R + bit) ∧ g3 (R + R) = g3 (2 * R + bit) := by
  unfold g0 g1 g2 g3; omega

theorem ret_two {a0 a1 a2 a3 b0 b1 b2 b3 a0' a1' a2' a3' b0' b1' b2' b3' : Int} (h0 : a0 = a0') (h1 : a1 = a1') (h2 : a2 = a2') (h3 : a3 = a3') (k0 : b0 = b0') (k1 : b1 = b1') (k2 : b2 = b2') (k3 : b3 = b3') : Ending.returned (.tuple #[.agg #[.int .u64 a0, .int .u64 a1, .int .u64 a2, .int .u64 a3], .agg #[.int .u64 b0, .int .u64 b1, .int .u64 b2, .int .u64 b3]]) = Ending.returned (.tuple #[.agg #[.int .u64 a0', .int .u64 a1', .int .u64 a2', .int .u64 a3'], .agg #[.int .u64 b0', .int .u64 b1', .int .u64 b2', .int .u64 b3']]) := by rw [h0, h1, h2, h3, k0, k1, k2, k3]

set_option maxRecDepth 100000 in
set_option maxHeartbeats 8000000 in
theorem rdiv_any (a b : Int) (w : World) (ha : 0 ≤ a) (ha' : a < 340282366920938463463374607431768211456) (hb : 0 < b) (hb' : b ≤ 170141183460469231731687303715884105728) :
    Calls Tryz.prog 152 #[.agg #[.int .u64 (g0 a), .int .u64 (g1 a), .int .u64 (g2 a), .int .u64 (g3 a)], .agg #[.int .u64 (g0 b), .int .u64 (g1 b), .int .u64 (g2 b), .int .u64 (g3 b)]] w fun e w' => e = .returned (.tuple #[.agg #[.int .u64 (g0 (a / b)), .int .u64 (g1 (a / b)), .int .u64 (g2 (a / b)), .int .u64 (g3 (a / b))], .agg #[.int .u64 (g0 (a % b)), .int .u64 (g1 (a % b)), .int .u64 (g2 (a % b)), .int .u64 (g3 (a % b))]]) ∧ Below w.heap.size w w' := by
  have z0 := g0_bd a
  have z1 := g1_bd a
  have z2 := g2_bd a
  have z3 := g3_bd a
  have y0 := g0_bd b
  have y1 := g1_bd b
  have y2 := g2_bd b
  have y3 := g3_bd b
  go_enter Tryz.func152, Tryz.ntmps152
  go_wp2
  go_loopw [8] (fun i wr => ∃ (k : Nat) (t0 t1 t2 t3 R : Int), k ≤ 128 ∧ 0 ≤ t0 ∧ t0 < 4294967296 ∧ 0 ≤ t1 ∧ t1 < 4294967296 ∧ 0 ≤ t2 ∧ t2 < 4294967296 ∧ 0 ≤ t3 ∧ t3 < 4294967296 ∧ Hid (Inv a b k t0 t1 t2 t3 R) ∧ (∃ i0 : Int, i0 = (k : Int) - 1 ∧ i = .int .i64 i0) ∧ Below w.heap.size w wr ∧ w.heap.size + 1 + 1 + 1 + 1 + 1 < wr.heap.size ∧ Blk wr (w.heap.size) (g0 (a)) (g1 (a)) (g2 (a)) (g3 (a)) ∧ Blk wr (w.heap.size + 1) (g0 (b)) (g1 (b)) (g2 (b)) (g3 (b)) ∧ Blk wr (w.heap.size + 1 + 1 + 1 + 1) (t0) (t1) (t2) (t3) ∧ Blk wr (w.heap.size + 1 + 1 + 1 + 1 + 1) (g0 (R)) (g1 (R)) (g2 (R)) (g3 (R)) ∧ Blk wr (w.heap.size + 1 + 1) (0) (0) (0) (0) ∧ Blk wr (w.heap.size + 1 + 1 + 1) (0) (0) (0) (0)) (fun i _ => (intOf i + 1).toNat)
  case atStart =>
    refine ⟨128, 0, 0, 0, 0, 0, by omega, by omega, by omega, by omega, by omega, by omega, by omega, by omega, by omega, inv_start a b ha ha', ⟨127, by decide, rfl⟩, by go_grown, by go_size, ?_, ?_, ?_, ?_, ?_, ?_⟩
    all_goals (constructor <;> simp (maxDischargeDepth := 12) [go_sem, show g0 0 = 0 by decide, show g1 0 = 0 by decide, show g2 0 = 0 by decide, show g3 0 = 0 by decide])
  case round =>
    obtain ⟨k, t0, t1, t2, t3, R, hk, p0, q0, p1, q1, p2, q2, p3, q3, hI, ⟨i0, hi0, rfl⟩, hBw, hsz, kA, kB, kT, kR, kX, kY⟩ := hrel
    by_cases hk0 : k = 0
    · subst hk0
      have hi1 : i0 < 0 := by omega
      have hi2 : (0 ≤ i0) = False := by simp; omega
      clear hi0
      obtain ⟨t0', t1', t2', t3'⟩ : Hid (g0 (a / b) = t0) ∧ Hid (g1 (a / b) = t1) ∧ Hid (g2 (a / b) = t2) ∧ Hid (g3 (a / b) = t3) := by
        have e := hI.out.times
        simp at e
        have := g_of t0 t1 t2 t3 ⟨p0, by omega⟩ ⟨p1, by omega⟩ ⟨p2, by omega⟩ ⟨p3, by omega⟩
        rw [e] at this; exact this
      have eR : Hid (R = a % b) := by have e := hI.out.rest; simp at e; exact e
      have kXX := kX
      obtain ⟨kX0, kX1, kX2, kX3, kX4, kX5, kX6, kX7⟩ := kX
      have kYY := kY
      obtain ⟨kY0, kY1, kY2, kY3, kY4, kY5, kY6, kY7⟩ := kY
      obtain ⟨kT0, kT1, kT2, kT3, -, -, -, -⟩ := kT
      obtain ⟨kR0, kR1, kR2, kR3, -, -, -, -⟩ := kR
      clear hI
      go_wp2
      go_region
      generalize hW : World.drew _ = W9
      have kX' : Blk W9 (w.heap.size + 1 + 1) t0 t1 t2 t3 := by rw [← hW]; exact ((kXX.four t0 t1 t2 t3).other4 (by omega)).drew
      have kY' : Blk W9 (w.heap.size + 1 + 1 + 1) (g0 R) (g1 R) (g2 R) (g3 R) := by rw [← hW]; exact ((kYY.other4 (by omega)).four _ _ _ _).drew
      have hB9 : Below w.heap.size w W9 := by rw [← hW]; repeat' (first | (with_reducible exact Below.refl _ _) | (with_reducible assumption) | (with_reducible refine bdrewN _ ?_) | (with_reducible refine Below.alloc ?_ ?_ _) | (with_reducible refine Below.setCell ?_ ?_ _) | (with_reducible refine Below.drew ?_) | go_size | (simp; omega))
      clear hW
      obtain ⟨x0, x1, x2, x3, -, -, -, -⟩ := kX'
      obtain ⟨x4, x5, x6, x7, -, -, -, -⟩ := kY'
      go_wp2
      refine bodyPost_ret (by simp [results, Tryz.results152, go_sem, x0, x1, x2, x3, x4, x5, x6, x7]; try rfl) rfl ?_
      exact ⟨ret_two t0'.out.symm t1'.out.symm t2'.out.symm t3'.out.symm (by rw [eR.out]) (by rw [eR.out]) (by rw [eR.out]) (by rw [eR.out]), hB9⟩
    · have hR : R = a / 2 ^ k % b := hI.out.rest
      have hR0 : 0 ≤ R := by rw [hR]; exact Int.emod_nonneg _ (by omega)
      have hR1 : R < b := by rw [hR]; exact Int.emod_lt_of_pos _ hb
      clear hR
      have hi1 : 0 ≤ i0 := by omega
      have hi3 : i0 ≤ 127 := by omega
      obtain ⟨s, hs, hks⟩ : ∃ s : Nat, s < 32 ∧ (k = 0 + s + 1 ∨ k = 32 + s + 1 ∨ k = 64 + s + 1 ∨ k = 96 + s + 1) := ⟨(k - 1) % 32, by omega, by omega⟩
      have hs' : (s : Int) < 32 := by omega
      have hp1 := pow_pos_i s
      have hp2 : (2 : Int) ^ s ≤ 2147483648 := by
        have : (2 : Int) ^ s * 2 ^ (31 - s) = 2147483648 := by rw [← Int.pow_add, show s + (31 - s) = 31 by omega]; rfl
        have h2 : (1 : Int) ≤ 2 ^ (31 - s) := pow_pos_i _
        have h3 : (2 : Int) ^ s * 1 ≤ 2 ^ s * 2 ^ (31 - s) := Int.mul_le_mul_of_nonneg_left h2 (by omega)
        omega
      rcases hks with rfl | rfl | rfl | rfl
      · obtain ⟨st1, st2⟩ := inv_step0 a b t0 t1 t2 t3 R s hs hb p0 q0 hI.out
        obtain ⟨bit, eB⟩ : ∃ bit : Int, g0 a / 2 ^ s % 2 = bit := ⟨_, rfl⟩
        have hb0 : 0 ≤ bit := by omega
        have hb1 : bit ≤ 1 := by omega
        obtain ⟨X, hX⟩ : ∃ X : Int, 2 * R + bit = X := ⟨_, rfl⟩
        have hX0 : 0 ≤ X := by omega
        have hX1 : X < 340282366920938463463374607431768211456 := by omega
        rw [eB, hX] at st1 st2
        have e1 : i0 / 32 = 0 := by omega
        have e3 : i0 % 32 = (s : Int) := by omega
        have e2 : IntKind.i64.wrap (i0.tdiv 32) = 0 := by rw [Int.tdiv_eq_ediv_of_nonneg hi1, e1]; rfl
        have e4 : IntKind.i64.wrap (i0.tmod 32) = (s : Int) := by rw [Int.tmod_eq_emod_of_nonneg hi1, e3]; go_arith
        obtain ⟨d0, d1, d2, d3⟩ := dig_bit R bit hb0 hb1
        rw [hX] at d0 d1 d2 d3
        have HB : Hid (i0 = (0 + s + 1 : Nat) - 1) := hi0
        clear hi0
        have K : Hid (Blk wr (w.heap.size) (g0 (a)) (g1 (a)) (g2 (a)) (g3 (a)) ∧ Blk wr (w.heap.size + 1) (g0 (b)) (g1 (b)) (g2 (b)) (g3 (b)) ∧ Blk wr (w.heap.size + 1 + 1 + 1 + 1) t0 t1 t2 t3 ∧ Blk wr (w.heap.size + 1 + 1) 0 0 0 0 ∧ Blk wr (w.heap.size + 1 + 1 + 1) 0 0 0 0) := ⟨kA, kB, kT, kX, kY⟩
        clear kA kB kT kX kY
        obtain ⟨kR0, kR1, kR2, kR3, kR4, kR5, kR6, kR7⟩ := kR
        go_wp2_with fail
        refine (rplus_any R R _ hR0 hR0 (by omega)).mono ?_
        rintro e w1 ⟨rfl, hb1⟩
        obtain ⟨n0, n1, n2, n3⟩ := (⟨bcl2 hb1 kR0 (by simp; omega), bcl2 hb1 kR1 (by simp; omega), bcl2 hb1 kR2 (by simp; omega), bcl2 hb1 kR3 (by simp; omega)⟩ : w1.cell? ⟨w.heap.size + 1 + 1 + 1 + 1 + 1, 0, none⟩ = some (.int .u64 (g0 R)) ∧ w1.cell? ⟨w.heap.size + 1 + 1 + 1 + 1 + 1, 1, none⟩ = some (.int .u64 (g1 R)) ∧ w1.cell? ⟨w.heap.size + 1 + 1 + 1 + 1 + 1, 2, none⟩ = some (.int .u64 (g2 R)) ∧ w1.cell? ⟨w.heap.size + 1 + 1 + 1 + 1 + 1, 3, none⟩ = some (.int .u64 (g3 R)))
        obtain ⟨f0, f1, f2, f3⟩ := (⟨bfr2 hb1 kR4 (by simp; omega), bfr2 hb1 kR5 (by simp; omega), bfr2 hb1 kR6 (by simp; omega), bfr2 hb1 kR7 (by simp; omega)⟩ : w1.frozen? ⟨w.heap.size + 1 + 1 + 1 + 1 + 1, 0, none⟩ = false ∧ w1.frozen? ⟨w.heap.size + 1 + 1 + 1 + 1 + 1, 1, none⟩ = false ∧ w1.frozen? ⟨w.heap.size + 1 + 1 + 1 + 1 + 1, 2, none⟩ = false ∧ w1.frozen? ⟨w.heap.size + 1 + 1 + 1 + 1 + 1, 3, none⟩ = false)
        go_wp2_with fail
        refine wp_world ?_
        intro W1 hW1
        have K1 : Blk W1 (w.heap.size) (g0 (a)) (g1 (a)) (g2 (a)) (g3 (a)) ∧ Blk W1 (w.heap.size + 1) (g0 (b)) (g1 (b)) (g2 (b)) (g3 (b)) ∧ Blk W1 (w.heap.size + 1 + 1 + 1 + 1) t0 t1 t2 t3 ∧ Blk W1 (w.heap.size + 1 + 1) 0 0 0 0 ∧ Blk W1 (w.heap.size + 1 + 1 + 1) 0 0 0 0 := by
          obtain ⟨u1, u2, u3, u4, u5⟩ := K.out
          rw [hW1]
          exact ⟨(u1.below hb1 (by omega)).other4 (by omega), (u2.below hb1 (by omega)).other4 (by omega), (u3.below hb1 (by omega)).other4 (by omega), (u4.below hb1 (by omega)).other4 (by omega), (u5.below hb1 (by omega)).other4 (by omega)⟩
        have K1R : Blk W1 (w.heap.size + 1 + 1 + 1 + 1 + 1) (g0 (R + R)) (g1 X) (g2 X) (g3 X) := by
          rw [hW1]; exact Blk.four ⟨n0, n1, n2, n3, f0, f1, f2, f3⟩ _ _ _ _
        have hB1 : Below w.heap.size w W1 := by
          have := hBw.trans (hb1.mono hBw.size)
          rw [hW1]; repeat' (first | (with_reducible exact Below.refl _ _) | (with_reducible assumption) | (with_reducible refine bdrewN _ ?_) | (with_reducible refine Below.alloc ?_ ?_ _) | (with_reducible refine Below.setCell ?_ ?_ _) | (with_reducible refine Below.drew ?_) | go_size | (simp; omega))
        have hs1 : w.heap.size + 1 + 1 + 1 + 1 + 1 < W1.heap.size := by
          have := hb1.size
          rw [hW1]; simp; omega
        clear hW1 n0 n1 n2 n3 f0 f1 f2 f3 kR0 kR1 kR2 kR3 kR4 kR5 kR6 kR7 hb1 K hBw hsz
        have KK : Hid (Blk W1 (w.heap.size) (g0 (a)) (g1 (a)) (g2 (a)) (g3 (a)) ∧ Blk W1 (w.heap.size + 1) (g0 (b)) (g1 (b)) (g2 (b)) (g3 (b)) ∧ Blk W1 (w.heap.size + 1 + 1 + 1 + 1) t0 t1 t2 t3 ∧ Blk W1 (w.heap.size + 1 + 1) 0 0 0 0 ∧ Blk W1 (w.heap.size + 1 + 1 + 1) 0 0 0 0) := K1
        have KR : Hid (Blk W1 (w.heap.size + 1 + 1 + 1 + 1 + 1) (g0 (R + R)) (g1 X) (g2 X) (g3 X)) := K1R
        obtain ⟨⟨v0, v1, v2, v3, -, -, -, -⟩, -⟩ := K1
        obtain ⟨r0, -, -, -, r4, -, -, -⟩ := K1R
        go_region
        generalize hW : World.setCell _ _ _ = W2
        have ev : IntKind.u64.wrap (g0 (R + R) + (g0 a / 2 ^ s).tmod 2) = g0 X := by
          have e := g0_bd a
          have : 0 ≤ g0 a / 2 ^ s := Int.ediv_nonneg e.1 (by omega)
          rw [Int.tmod_eq_emod_of_nonneg this, eB, d0]
          have := g0_bd X
          rw [IntKind.wrap_u64]; omega
        have K2R : Blk W2 (w.heap.size + 1 + 1 + 1 + 1 + 1) (g0 X) (g1 X) (g2 X) (g3 X) := by
          rw [← hW, ev]; exact KR.out.set0 _
        have K2 : Hid (Blk W2 (w.heap.size) (g0 (a)) (g1 (a)) (g2 (a)) (g3 (a)) ∧ Blk W2 (w.heap.size + 1) (g0 (b)) (g1 (b)) (g2 (b)) (g3 (b)) ∧ Blk W2 (w.heap.size + 1 + 1 + 1 + 1) t0 t1 t2 t3 ∧ Blk W2 (w.heap.size + 1 + 1) 0 0 0 0 ∧ Blk W2 (w.heap.size + 1 + 1 + 1) 0 0 0 0) := by
          obtain ⟨u1, u2, u3, u4, u5⟩ := KK.out
          rw [← hW]
          exact ⟨u1.other (by omega), u2.other (by omega), u3.other (by omega), u4.other (by omega), u5.other (by omega)⟩
        have hB2 : Below w.heap.size w W2 := by rw [← hW]; repeat' (first | (with_reducible exact Below.refl _ _) | (with_reducible assumption) | (with_reducible refine bdrewN _ ?_) | (with_reducible refine Below.alloc ?_ ?_ _) | (with_reducible refine Below.setCell ?_ ?_ _) | (with_reducible refine Below.drew ?_) | go_size | (simp; omega))
        have hs2 : w.heap.size + 1 + 1 + 1 + 1 + 1 < W2.heap.size := by rw [← hW]; simp; omega
        clear hW ev KK KR hB1 hs1 v0 v1 v2 v3 r0 r4 d0 d1 d2 d3
        have KR : Hid (Blk W2 (w.heap.size + 1 + 1 + 1 + 1 + 1) (g0 X) (g1 X) (g2 X) (g3 X)) := K2R
        obtain ⟨r0, r1, r2, r3, r4, r5, r6, r7⟩ := K2R
        obtain ⟨l0, l1, l2, l3, -, -, -, -⟩ := K2.out.2.1
        obtain ⟨c, ec⟩ : ∃ c : Int, Hid (cmpI X b = c) := ⟨_, rfl⟩
        by_cases hc : b ≤ X
        · have hc0 : 0 ≤ c := by rw [← ec.out]; unfold cmpI; split <;> (try split) <;> omega
          obtain ⟨y1, y2⟩ := st1 hc
          clear st1 st2
          go_wp2_with fail
          refine (rcompare_any X b _ hX0 hX1 (by omega) (by omega)).mono ?_
          rintro e w3 ⟨rfl, hb3⟩
          rw [ec.out]
          have hH : W2.drew.heap.size = W2.heap.size := rfl
          rw [hH] at hb3
          have hb4 : Below W2.heap.size W2 w3 := ⟨hb3.os, hb3.tape, hb3.output, hb3.size, hb3.block⟩
          have hB3 := hB2.trans (hb4.mono hB2.size)
          have hs3 := hb4.size
          have hs4 : w.heap.size + 1 + 1 + 1 + 1 + 1 < w3.heap.size := by omega
          have K3 : Hid (Blk w3 (w.heap.size) (g0 (a)) (g1 (a)) (g2 (a)) (g3 (a)) ∧ Blk w3 (w.heap.size + 1) (g0 (b)) (g1 (b)) (g2 (b)) (g3 (b)) ∧ Blk w3 (w.heap.size + 1 + 1 + 1 + 1) t0 t1 t2 t3 ∧ Blk w3 (w.heap.size + 1 + 1) 0 0 0 0 ∧ Blk w3 (w.heap.size + 1 + 1 + 1) 0 0 0 0) := by
            obtain ⟨u1, u2, u3, u4, u5⟩ := K2.out
            exact ⟨u1.below hb4 (by omega), u2.below hb4 (by omega), u3.below hb4 (by omega), u4.below hb4 (by omega), u5.below hb4 (by omega)⟩
          have K3R : Hid (Blk w3 (w.heap.size + 1 + 1 + 1 + 1 + 1) (g0 X) (g1 X) (g2 X) (g3 X)) := KR.out.below hb4 (by omega)
          clear hb3 hb4 hs3 hs2 hB2 K2 KR r0 r1 r2 r3 r4 r5 r6 r7 l0 l1 l2 l3 hH
          obtain ⟨r0, r1, r2, r3, -, -, -, -⟩ := K3R.out
          obtain ⟨l0, l1, l2, l3, -, -, -, -⟩ := K3.out.2.1
          go_wp2_with fail
          refine (rless_any X b _ (by omega) hc hX1).mono ?_
          rintro e w4 ⟨rfl, hb5⟩
          have hB4 := hB3.trans (hb5.mono hB3.size)
          have hs5 := hb5.size
          have K4 : Hid (Blk w4 (w.heap.size) (g0 (a)) (g1 (a)) (g2 (a)) (g3 (a)) ∧ Blk w4 (w.heap.size + 1) (g0 (b)) (g1 (b)) (g2 (b)) (g3 (b)) ∧ Blk w4 (w.heap.size + 1 + 1 + 1 + 1) t0 t1 t2 t3 ∧ Blk w4 (w.heap.size + 1 + 1) 0 0 0 0 ∧ Blk w4 (w.heap.size + 1 + 1 + 1) 0 0 0 0) := by
            obtain ⟨u1, u2, u3, u4, u5⟩ := K3.out
            exact ⟨u1.below hb5 (by omega), u2.below hb5 (by omega), u3.below hb5 (by omega), u4.below hb5 (by omega), u5.below hb5 (by omega)⟩
          have K4R : Hid (Blk w4 (w.heap.size + 1 + 1 + 1 + 1 + 1) (g0 X) (g1 X) (g2 X) (g3 X)) := K3R.out.below hb5 (by omega)
          have hs6 : w.heap.size + 1 + 1 + 1 + 1 + 1 < w4.heap.size := by omega
          clear hb5 hs5 hs4 hB3 K3 K3R r0 r1 r2 r3 l0 l1 l2 l3
          obtain ⟨r0, r1, r2, r3, r4, r5, r6, r7⟩ := K4R.out
          obtain ⟨l0, l1, l2, l3, l4, l5, l6, l7⟩ := K4.out.2.2.1
          obtain ⟨u1, u2, u3, u4, u5⟩ := K4.out
          have u6 := K4R.out
          go_wp2
          exact ⟨⟨0 + s, (t0 + 2 ^ s), t1, t2, t3, X - b, by omega, (by omega), y1, p1, q1, p2, q2, p3, q3, y2, ⟨i0 - 1, by have := HB.out; omega, rfl⟩, (by repeat' (first | (with_reducible exact Below.refl _ _) | (with_reducible assumption) | (with_reducible refine bdrewN _ ?_) | (with_reducible refine Below.alloc ?_ ?_ _) | (with_reducible refine Below.setCell ?_ ?_ _) | (with_reducible refine Below.drew ?_) | go_size | (simp; omega))), by simp; omega, (u1.other4 (by omega)).other (by omega), (u2.other4 (by omega)).other (by omega), (u3.other4 (by omega)).set0 _, (u6.four _ _ _ _).other (by omega), (u4.other4 (by omega)).other (by omega), (u5.other4 (by omega)).other (by omega)⟩, by simp [intOf]; omega⟩
        · have hc0 : (0 ≤ c) = False := by simp; rw [← ec.out]; unfold cmpI; split <;> (try split) <;> omega
          have hc1 : c < 0 := by simpa using hc0
          have y2 := st2 (by omega)
          clear st1 st2
          go_wp2_with fail
          refine (rcompare_any X b _ hX0 hX1 (by omega) (by omega)).mono ?_
          rintro e w3 ⟨rfl, hb3⟩
          rw [ec.out]
          obtain ⟨u1, u2, u3, u4, u5⟩ := K2.out
          have u6 := KR.out
          have hH : W2.drew.heap.size = W2.heap.size := rfl
          rw [hH] at hb3
          have hb4 : Below W2.heap.size W2 w3 := ⟨hb3.os, hb3.tape, hb3.output, hb3.size, hb3.block⟩
          have hB3 := hB2.trans (hb4.mono hB2.size)
          have hs3 := hb4.size
          go_wp2
          exact ⟨⟨0 + s, t0, t1, t2, t3, X, by omega, p0, q0, p1, q1, p2, q2, p3, q3, y2, ⟨i0 - 1, by have := HB.out; omega, rfl⟩, hB3, by omega, u1.below hb4 (by omega), u2.below hb4 (by omega), u3.below hb4 (by omega), u6.below hb4 (by omega), u4.below hb4 (by omega), u5.below hb4 (by omega)⟩, by simp [intOf]; omega⟩
      · obtain ⟨st1, st2⟩ := inv_step1 a b t0 t1 t2 t3 R s hs hb p1 q1 hI.out
        obtain ⟨bit, eB⟩ : ∃ bit : Int, g1 a / 2 ^ s % 2 = bit := ⟨_, rfl⟩
        have hb0 : 0 ≤ bit := by omega
        have hb1 : bit ≤ 1 := by omega
        obtain ⟨X, hX⟩ : ∃ X : Int, 2 * R + bit = X := ⟨_, rfl⟩
        have hX0 : 0 ≤ X := by omega
        have hX1 : X < 340282366920938463463374607431768211456 := by omega
        rw [eB, hX] at st1 st2
        have e1 : i0 / 32 = 1 := by omega
        have e3 : i0 % 32 = (s : Int) := by omega
        have e2 : IntKind.i64.wrap (i0.tdiv 32) = 1 := by rw [Int.tdiv_eq_ediv_of_nonneg hi1, e1]; rfl
        have e4 : IntKind.i64.wrap (i0.tmod 32) = (s : Int) := by rw [Int.tmod_eq_emod_of_nonneg hi1, e3]; go_arith
        obtain ⟨d0, d1, d2, d3⟩ := dig_bit R bit hb0 hb1
        rw [hX] at d0 d1 d2 d3
        have HB : Hid (i0 = (32 + s + 1 : Nat) - 1) := hi0
        clear hi0
        have K : Hid (Blk wr (w.heap.size) (g0 (a)) (g1 (a)) (g2 (a)) (g3 (a)) ∧ Blk wr (w.heap.size + 1) (g0 (b)) (g1 (b)) (g2 (b)) (g3 (b)) ∧ Blk wr (w.heap.size + 1 + 1 + 1 + 1) t0 t1 t2 t3 ∧ Blk wr (w.heap.size + 1 + 1) 0 0 0 0 ∧ Blk wr (w.heap.size + 1 + 1 + 1) 0 0 0 0) := ⟨kA, kB, kT, kX, kY⟩
        clear kA kB kT kX kY
        obtain ⟨kR0, kR1, kR2, kR3, kR4, kR5, kR6, kR7⟩ := kR
        go_wp2_with fail
        refine (rplus_any R R _ hR0 hR0 (by omega)).mono ?_
        rintro e w1 ⟨rfl, hb1⟩
        obtain ⟨n0, n1, n2, n3⟩ := (⟨bcl2 hb1 kR0 (by simp; omega), bcl2 hb1 kR1 (by simp; omega), bcl2 hb1 kR2 (by simp; omega), bcl2 hb1 kR3 (by simp; omega)⟩ : w1.cell? ⟨w.heap.size + 1 + 1 + 1 + 1 + 1, 0, none⟩ = some (.int .u64 (g0 R)) ∧ w1.cell? ⟨w.heap.size + 1 + 1 + 1 + 1 + 1, 1, none⟩ = some (.int .u64 (g1 R)) ∧ w1.cell? ⟨w.heap.size + 1 + 1 + 1 + 1 + 1, 2, none⟩ = some (.int .u64 (g2 R)) ∧ w1.cell? ⟨w.heap.size + 1 + 1 + 1 + 1 + 1, 3, none⟩ = some (.int .u64 (g3 R)))
        obtain ⟨f0, f1, f2, f3⟩ := (⟨bfr2 hb1 kR4 (by simp; omega), bfr2 hb1 kR5 (by simp; omega), bfr2 hb1 kR6 (by simp; omega), bfr2 hb1 kR7 (by simp; omega)⟩ : w1.frozen? ⟨w.heap.size + 1 + 1 + 1 + 1 + 1, 0, none⟩ = false ∧ w1.frozen? ⟨w.heap.size + 1 + 1 + 1 + 1 + 1, 1, none⟩ = false ∧ w1.frozen? ⟨w.heap.size + 1 + 1 + 1 + 1 + 1, 2, none⟩ = false ∧ w1.frozen? ⟨w.heap.size + 1 + 1 + 1 + 1 + 1, 3, none⟩ = false)
        go_wp2_with fail
        refine wp_world ?_
        intro W1 hW1
        have K1 : Blk W1 (w.heap.size) (g0 (a)) (g1 (a)) (g2 (a)) (g3 (a)) ∧ Blk W1 (w.heap.size + 1) (g0 (b)) (g1 (b)) (g2 (b)) (g3 (b)) ∧ Blk W1 (w.heap.size + 1 + 1 + 1 + 1) t0 t1 t2 t3 ∧ Blk W1 (w.heap.size + 1 + 1) 0 0 0 0 ∧ Blk W1 (w.heap.size + 1 + 1 + 1) 0 0 0 0 := by
          obtain ⟨u1, u2, u3, u4, u5⟩ := K.out
          rw [hW1]
          exact ⟨(u1.below hb1 (by omega)).other4 (by omega), (u2.below hb1 (by omega)).other4 (by omega), (u3.below hb1 (by omega)).other4 (by omega), (u4.below hb1 (by omega)).other4 (by omega), (u5.below hb1 (by omega)).other4 (by omega)⟩
        have K1R : Blk W1 (w.heap.size + 1 + 1 + 1 + 1 + 1) (g0 (R + R)) (g1 X) (g2 X) (g3 X) := by
          rw [hW1]; exact Blk.four ⟨n0, n1, n2, n3, f0, f1, f2, f3⟩ _ _ _ _
        have hB1 : Below w.heap.size w W1 := by
          have := hBw.trans (hb1.mono hBw.size)
          rw [hW1]; repeat' (first | (with_reducible exact Below.refl _ _) | (with_reducible assumption) | (with_reducible refine bdrewN _ ?_) | (with_reducible refine Below.alloc ?_ ?_ _) | (with_reducible refine Below.setCell ?_ ?_ _) | (with_reducible refine Below.drew ?_) | go_size | (simp; omega))
        have hs1 : w.heap.size + 1 + 1 + 1 + 1 + 1 < W1.heap.size := by
          have := hb1.size
          rw [hW1]; simp; omega
        clear hW1 n0 n1 n2 n3 f0 f1 f2 f3 kR0 kR1 kR2 kR3 kR4 kR5 kR6 kR7 hb1 K hBw hsz
        have KK : Hid (Blk W1 (w.heap.size) (g0 (a)) (g1 (a)) (g2 (a)) (g3 (a)) ∧ Blk W1 (w.heap.size + 1) (g0 (b)) (g1 (b)) (g2 (b)) (g3 (b)) ∧ Blk W1 (w.heap.size + 1 + 1 + 1 + 1) t0 t1 t2 t3 ∧ Blk W1 (w.heap.size + 1 + 1) 0 0 0 0 ∧ Blk W1 (w.heap.size + 1 + 1 + 1) 0 0 0 0) := K1
        have KR : Hid (Blk W1 (w.heap.size + 1 + 1 + 1 + 1 + 1) (g0 (R + R)) (g1 X) (g2 X) (g3 X)) := K1R
        obtain ⟨⟨v0, v1, v2, v3, -, -, -, -⟩, -⟩ := K1
        obtain ⟨r0, -, -, -, r4, -, -, -⟩ := K1R
        go_region
        generalize hW : World.setCell _ _ _ = W2
        have ev : IntKind.u64.wrap (g0 (R + R) + (g1 a / 2 ^ s).tmod 2) = g0 X := by
          have e := g1_bd a
          have : 0 ≤ g1 a / 2 ^ s := Int.ediv_nonneg e.1 (by omega)
          rw [Int.tmod_eq_emod_of_nonneg this, eB, d0]
          have := g0_bd X
          rw [IntKind.wrap_u64]; omega
        have K2R : Blk W2 (w.heap.size + 1 + 1 + 1 + 1 + 1) (g0 X) (g1 X) (g2 X) (g3 X) := by
          rw [← hW, ev]; exact KR.out.set0 _
        have K2 : Hid (Blk W2 (w.heap.size) (g0 (a)) (g1 (a)) (g2 (a)) (g3 (a)) ∧ Blk W2 (w.heap.size + 1) (g0 (b)) (g1 (b)) (g2 (b)) (g3 (b)) ∧ Blk W2 (w.heap.size + 1 + 1 + 1 + 1) t0 t1 t2 t3 ∧ Blk W2 (w.heap.size + 1 + 1) 0 0 0 0 ∧ Blk W2 (w.heap.size + 1 + 1 + 1) 0 0 0 0) := by
          obtain ⟨u1, u2, u3, u4, u5⟩ := KK.out
          rw [← hW]
          exact ⟨u1.other (by omega), u2.other (by omega), u3.other (by omega), u4.other (by omega), u5.other (by omega)⟩
        have hB2 : Below w.heap.size w W2 := by rw [← hW]; repeat' (first | (with_reducible exact Below.refl _ _) | (with_reducible assumption) | (with_reducible refine bdrewN _ ?_) | (with_reducible refine Below.alloc ?_ ?_ _) | (with_reducible refine Below.setCell ?_ ?_ _) | (with_reducible refine Below.drew ?_) | go_size | (simp; omega))
        have hs2 : w.heap.size + 1 + 1 + 1 + 1 + 1 < W2.heap.size := by rw [← hW]; simp; omega
        clear hW ev KK KR hB1 hs1 v0 v1 v2 v3 r0 r4 d0 d1 d2 d3
        have KR : Hid (Blk W2 (w.heap.size + 1 + 1 + 1 + 1 + 1) (g0 X) (g1 X) (g2 X) (g3 X)) := K2R
        obtain ⟨r0, r1, r2, r3, r4, r5, r6, r7⟩ := K2R
        obtain ⟨l0, l1, l2, l3, -, -, -, -⟩ := K2.out.2.1
        obtain ⟨c, ec⟩ : ∃ c : Int, Hid (cmpI X b = c) := ⟨_, rfl⟩
        by_cases hc : b ≤ X
        · have hc0 : 0 ≤ c := by rw [← ec.out]; unfold cmpI; split <;> (try split) <;> omega
          obtain ⟨y1, y2⟩ := st1 hc
          clear st1 st2
          go_wp2_with fail
          refine (rcompare_any X b _ hX0 hX1 (by omega) (by omega)).mono ?_
          rintro e w3 ⟨rfl, hb3⟩
          rw [ec.out]
          have hH : W2.drew.heap.size = W2.heap.size := rfl
          rw [hH] at hb3
          have hb4 : Below W2.heap.size W2 w3 := ⟨hb3.os, hb3.tape, hb3.output, hb3.size, hb3.block⟩
          have hB3 := hB2.trans (hb4.mono hB2.size)
          have hs3 := hb4.size
          have hs4 : w.heap.size + 1 + 1 + 1 + 1 + 1 < w3.heap.size := by omega
          have K3 : Hid (Blk w3 (w.heap.size) (g0 (a)) (g1 (a)) (g2 (a)) (g3 (a)) ∧ Blk w3 (w.heap.size + 1) (g0 (b)) (g1 (b)) (g2 (b)) (g3 (b)) ∧ Blk w3 (w.heap.size + 1 + 1 + 1 + 1) t0 t1 t2 t3 ∧ Blk w3 (w.heap.size + 1 + 1) 0 0 0 0 ∧ Blk w3 (w.heap.size + 1 + 1 + 1) 0 0 0 0) := by
            obtain ⟨u1, u2, u3, u4, u5⟩ := K2.out
            exact ⟨u1.below hb4 (by omega), u2.below hb4 (by omega), u3.below hb4 (by omega), u4.below hb4 (by omega), u5.below hb4 (by omega)⟩
          have K3R : Hid (Blk w3 (w.heap.size + 1 + 1 + 1 + 1 + 1) (g0 X) (g1 X) (g2 X) (g3 X)) := KR.out.below hb4 (by omega)
          clear hb3 hb4 hs3 hs2 hB2 K2 KR r0 r1 r2 r3 r4 r5 r6 r7 l0 l1 l2 l3 hH
          obtain ⟨r0, r1, r2, r3, -, -, -, -⟩ := K3R.out
          obtain ⟨l0, l1, l2, l3, -, -, -, -⟩ := K3.out.2.1
          go_wp2_with fail
          refine (rless_any X b _ (by omega) hc hX1).mono ?_
          rintro e w4 ⟨rfl, hb5⟩
          have hB4 := hB3.trans (hb5.mono hB3.size)
          have hs5 := hb5.size
          have K4 : Hid (Blk w4 (w.heap.size) (g0 (a)) (g1 (a)) (g2 (a)) (g3 (a)) ∧ Blk w4 (w.heap.size + 1) (g0 (b)) (g1 (b)) (g2 (b)) (g3 (b)) ∧ Blk w4 (w.heap.size + 1 + 1 + 1 + 1) t0 t1 t2 t3 ∧ Blk w4 (w.heap.size + 1 + 1) 0 0 0 0 ∧ Blk w4 (w.heap.size + 1 + 1 + 1) 0 0 0 0) := by
            obtain ⟨u1, u2, u3, u4, u5⟩ := K3.out
            exact ⟨u1.below hb5 (by omega), u2.below hb5 (by omega), u3.below hb5 (by omega), u4.below hb5 (by omega), u5.below hb5 (by omega)⟩
          have K4R : Hid (Blk w4 (w.heap.size + 1 + 1 + 1 + 1 + 1) (g0 X) (g1 X) (g2 X) (g3 X)) := K3R.out.below hb5 (by omega)
          have hs6 : w.heap.size + 1 + 1 + 1 + 1 + 1 < w4.heap.size := by omega
          clear hb5 hs5 hs4 hB3 K3 K3R r0 r1 r2 r3 l0 l1 l2 l3
          obtain ⟨r0, r1, r2, r3, r4, r5, r6, r7⟩ := K4R.out
          obtain ⟨l0, l1, l2, l3, l4, l5, l6, l7⟩ := K4.out.2.2.1
          obtain ⟨u1, u2, u3, u4, u5⟩ := K4.out
          have u6 := K4R.out
          go_wp2
          exact ⟨⟨32 + s, t0, (t1 + 2 ^ s), t2, t3, X - b, by omega, p0, q0, (by omega), y1, p2, q2, p3, q3, y2, ⟨i0 - 1, by have := HB.out; omega, rfl⟩, (by repeat' (first | (with_reducible exact Below.refl _ _) | (with_reducible assumption) | (with_reducible refine bdrewN _ ?_) | (with_reducible refine Below.alloc ?_ ?_ _) | (with_reducible refine Below.setCell ?_ ?_ _) | (with_reducible refine Below.drew ?_) | go_size | (simp; omega))), by simp; omega, (u1.other4 (by omega)).other (by omega), (u2.other4 (by omega)).other (by omega), (u3.other4 (by omega)).set1 _, (u6.four _ _ _ _).other (by omega), (u4.other4 (by omega)).other (by omega), (u5.other4 (by omega)).other (by omega)⟩, by simp [intOf]; omega⟩
        · have hc0 : (0 ≤ c) = False := by simp; rw [← ec.out]; unfold cmpI; split <;> (try split) <;> omega
          have hc1 : c < 0 := by simpa using hc0
          have y2 := st2 (by omega)
          clear st1 st2
          go_wp2_with fail
          refine (rcompare_any X b _ hX0 hX1 (by omega) (by omega)).mono ?_
          rintro e w3 ⟨rfl, hb3⟩
          rw [ec.out]
          obtain ⟨u1, u2, u3, u4, u5⟩ := K2.out
          have u6 := KR.out
          have hH : W2.drew.heap.size = W2.heap.size := rfl
          rw [hH] at hb3
          have hb4 : Below W2.heap.size W2 w3 := ⟨hb3.os, hb3.tape, hb3.output, hb3.size, hb3.block⟩
          have hB3 := hB2.trans (hb4.mono hB2.size)
          have hs3 := hb4.size
          go_wp2
          exact ⟨⟨32 + s, t0, t1, t2, t3, X, by omega, p0, q0, p1, q1, p2, q2, p3, q3, y2, ⟨i0 - 1, by have := HB.out; omega, rfl⟩, hB3, by omega, u1.below hb4 (by omega), u2.below hb4 (by omega), u3.below hb4 (by omega), u6.below hb4 (by omega), u4.below hb4 (by omega), u5.below hb4 (by omega)⟩, by simp [intOf]; omega⟩
      · obtain ⟨st1, st2⟩ := inv_step2 a b t0 t1 t2 t3 R s hs hb p2 q2 hI.out
        obtain ⟨bit, eB⟩ : ∃ bit : Int, g2 a / 2 ^ s % 2 = bit := ⟨_, rfl⟩
        have hb0 : 0 ≤ bit := by omega
        have hb1 : bit ≤ 1 := by omega
        obtain ⟨X, hX⟩ : ∃ X : Int, 2 * R + bit = X := ⟨_, rfl⟩
        have hX0 : 0 ≤ X := by omega
        have hX1 : X < 340282366920938463463374607431768211456 := by omega
        rw [eB, hX] at st1 st2
        have e1 : i0 / 32 = 2 := by omega
        have e3 : i0 % 32 = (s : Int) := by omega
        have e2 : IntKind.i64.wrap (i0.tdiv 32) = 2 := by rw [Int.tdiv_eq_ediv_of_nonneg hi1, e1]; rfl
        have e4 : IntKind.i64.wrap (i0.tmod 32) = (s : Int) := by rw [Int.tmod_eq_emod_of_nonneg hi1, e3]; go_arith
        obtain ⟨d0, d1, d2, d3⟩ := dig_bit R bit hb0 hb1
        rw [hX] at d0 d1 d2 d3
        have HB : Hid (i0 = (64 + s + 1 : Nat) - 1) := hi0
        clear hi0
        have K : Hid (Blk wr (w.heap.size) (g0 (a)) (g1 (a)) (g2 (a)) (g3 (a)) ∧ Blk wr (w.heap.size + 1) (g0 (b)) (g1 (b)) (g2 (b)) (g3 (b)) ∧ Blk wr (w.heap.size + 1 + 1 + 1 + 1) t0 t1 t2 t3 ∧ Blk wr (w.heap.size + 1 + 1) 0 0 0 0 ∧ Blk wr (w.heap.size + 1 + 1 + 1) 0 0 0 0) := ⟨kA, kB, kT, kX, kY⟩
        clear kA kB kT kX kY
        obtain ⟨kR0, kR1, kR2, kR3, kR4, kR5, kR6, kR7⟩ := kR
        go_wp2_with fail
        refine (rplus_any R R _ hR0 hR0 (by omega)).mono ?_
        rintro e w1 ⟨rfl, hb1⟩
        obtain ⟨n0, n1, n2, n3⟩ := (⟨bcl2 hb1 kR0 (by simp; omega), bcl2 hb1 kR1 (by simp; omega), bcl2 hb1 kR2 (by simp; omega), bcl2 hb1 kR3 (by simp; omega)⟩ : w1.cell? ⟨w.heap.size + 1 + 1 + 1 + 1 + 1, 0, none⟩ = some (.int .u64 (g0 R)) ∧ w1.cell? ⟨w.heap.size + 1 + 1 + 1 + 1 + 1, 1, none⟩ = some (.int .u64 (g1 R)) ∧ w1.cell? ⟨w.heap.size + 1 + 1 + 1 + 1 + 1, 2, none⟩ = some (.int .u64 (g2 R)) ∧ w1.cell? ⟨w.heap.size + 1 + 1 + 1 + 1 + 1, 3, none⟩ = some (.int .u64 (g3 R)))
        obtain ⟨f0, f1, f2, f3⟩ := (⟨bfr2 hb1 kR4 (by simp; omega), bfr2 hb1 kR5 (by simp; omega), bfr2 hb1 kR6 (by simp; omega), bfr2 hb1 kR7 (by simp; omega)⟩ : w1.frozen? ⟨w.heap.size + 1 + 1 + 1 + 1 + 1, 0, none⟩ = false ∧ w1.frozen? ⟨w.heap.size + 1 + 1 + 1 + 1 + 1, 1, none⟩ = false ∧ w1.frozen? ⟨w.heap.size + 1 + 1 + 1 + 1 + 1, 2, none⟩ = false ∧ w1.frozen? ⟨w.heap.size + 1 + 1 + 1 + 1 + 1, 3, none⟩ = false)
        go_wp2_with fail
        refine wp_world ?_
        intro W1 hW1
        have K1 : Blk W1 (w.heap.size) (g0 (a)) (g1 (a)) (g2 (a)) (g3 (a)) ∧ Blk W1 (w.heap.size + 1) (g0 (b)) (g1 (b)) (g2 (b)) (g3 (b)) ∧ Blk W1 (w.heap.size + 1 + 1 + 1 + 1) t0 t1 t2 t3 ∧ Blk W1 (w.heap.size + 1 + 1) 0 0 0 0 ∧ Blk W1 (w.heap.size + 1 + 1 + 1) 0 0 0 0 := by
          obtain ⟨u1, u2, u3, u4, u5⟩ := K.out
          rw [hW1]
          exact ⟨(u1.below hb1 (by omega)).other4 (by omega), (u2.below hb1 (by omega)).other4 (by omega), (u3.below hb1 (by omega)).other4 (by omega), (u4.below hb1 (by omega)).other4 (by omega), (u5.below hb1 (by omega)).other4 (by omega)⟩
        have K1R : Blk W1 (w.heap.size + 1 + 1 + 1 + 1 + 1) (g0 (R + R)) (g1 X) (g2 X) (g3 X) := by
          rw [hW1]; exact Blk.four ⟨n0, n1, n2, n3, f0, f1, f2, f3⟩ _ _ _ _
        have hB1 : Below w.heap.size w W1 := by
          have := hBw.trans (hb1.mono hBw.size)
          rw [hW1]; repeat' (first | (with_reducible exact Below.refl _ _) | (with_reducible assumption) | (with_reducible refine bdrewN _ ?_) | (with_reducible refine Below.alloc ?_ ?_ _) | (with_reducible refine Below.setCell ?_ ?_ _) | (with_reducible refine Below.drew ?_) | go_size | (simp; omega))
        have hs1 : w.heap.size + 1 + 1 + 1 + 1 + 1 < W1.heap.size := by
          have := hb1.size
          rw [hW1]; simp; omega
        clear hW1 n0 n1 n2 n3 f0 f1 f2 f3 kR0 kR1 kR2 kR3 kR4 kR5 kR6 kR7 hb1 K hBw hsz
        have KK : Hid (Blk W1 (w.heap.size) (g0 (a)) (g1 (a)) (g2 (a)) (g3 (a)) ∧ Blk W1 (w.heap.size + 1) (g0 (b)) (g1 (b)) (g2 (b)) (g3 (b)) ∧ Blk W1 (w.heap.size + 1 + 1 + 1 + 1) t0 t1 t2 t3 ∧ Blk W1 (w.heap.size + 1 + 1) 0 0 0 0 ∧ Blk W1 (w.heap.size + 1 + 1 + 1) 0 0 0 0) := K1
        have KR : Hid (Blk W1 (w.heap.size + 1 + 1 + 1 + 1 + 1) (g0 (R + R)) (g1 X) (g2 X) (g3 X)) := K1R
        obtain ⟨⟨v0, v1, v2, v3, -, -, -, -⟩, -⟩ := K1
        obtain ⟨r0, -, -, -, r4, -, -, -⟩ := K1R
        go_region
        generalize hW : World.setCell _ _ _ = W2
        have ev : IntKind.u64.wrap (g0 (R + R) + (g2 a / 2 ^ s).tmod 2) = g0 X := by
          have e := g2_bd a
          have : 0 ≤ g2 a / 2 ^ s := Int.ediv_nonneg e.1 (by omega)
          rw [Int.tmod_eq_emod_of_nonneg this, eB, d0]
          have := g0_bd X
          rw [IntKind.wrap_u64]; omega
        have K2R : Blk W2 (w.heap.size + 1 + 1 + 1 + 1 + 1) (g0 X) (g1 X) (g2 X) (g3 X) := by
          rw [← hW, ev]; exact KR.out.set0 _
        have K2 : Hid (Blk W2 (w.heap.size) (g0 (a)) (g1 (a)) (g2 (a)) (g3 (a)) ∧ Blk W2 (w.heap.size + 1) (g0 (b)) (g1 (b)) (g2 (b)) (g3 (b)) ∧ Blk W2 (w.heap.size + 1 + 1 + 1 + 1) t0 t1 t2 t3 ∧ Blk W2 (w.heap.size + 1 + 1) 0 0 0 0 ∧ Blk W2 (w.heap.size + 1 + 1 + 1) 0 0 0 0) := by
          obtain ⟨u1, u2, u3, u4, u5⟩ := KK.out
          rw [← hW]
          exact ⟨u1.other (by omega), u2.other (by omega), u3.other (by omega), u4.other (by omega), u5.other (by omega)⟩
        have hB2 : Below w.heap.size w W2 := by rw [← hW]; repeat' (first | (with_reducible exact Below.refl _ _) | (with_reducible assumption) | (with_reducible refine bdrewN _ ?_) | (with_reducible refine Below.alloc ?_ ?_ _) | (with_reducible refine Below.setCell ?_ ?_ _) | (with_reducible refine Below.drew ?_) | go_size | (simp; omega))
        have hs2 : w.heap.size + 1 + 1 + 1 + 1 + 1 < W2.heap.size := by rw [← hW]; simp; omega
        clear hW ev KK KR hB1 hs1 v0 v1 v2 v3 r0 r4 d0 d1 d2 d3
        have KR : Hid (Blk W2 (w.heap.size + 1 + 1 + 1 + 1 + 1) (g0 X) (g1 X) (g2 X) (g3 X)) := K2R
        obtain ⟨r0, r1, r2, r3, r4, r5, r6, r7⟩ := K2R
        obtain ⟨l0, l1, l2, l3, -, -, -, -⟩ := K2.out.2.1
        obtain ⟨c, ec⟩ : ∃ c : Int, Hid (cmpI X b = c) := ⟨_, rfl⟩
        by_cases hc : b ≤ X
        · have hc0 : 0 ≤ c := by rw [← ec.out]; unfold cmpI; split <;> (try split) <;> omega
          obtain ⟨y1, y2⟩ := st1 hc
          clear st1 st2
          go_wp2_with fail
          refine (rcompare_any X b _ hX0 hX1 (by omega) (by omega)).mono ?_
          rintro e w3 ⟨rfl, hb3⟩
          rw [ec.out]
          have hH : W2.drew.heap.size = W2.heap.size := rfl
          rw [hH] at hb3
          have hb4 : Below W2.heap.size W2 w3 := ⟨hb3.os, hb3.tape, hb3.output, hb3.size, hb3.block⟩
          have hB3 := hB2.trans (hb4.mono hB2.size)
          have hs3 := hb4.size
          have hs4 : w.heap.size + 1 + 1 + 1 + 1 + 1 < w3.heap.size := by omega
          have K3 : Hid (Blk w3 (w.heap.size) (g0 (a)) (g1 (a)) (g2 (a)) (g3 (a)) ∧ Blk w3 (w.heap.size + 1) (g0 (b)) (g1 (b)) (g2 (b)) (g3 (b)) ∧ Blk w3 (w.heap.size + 1 + 1 + 1 + 1) t0 t1 t2 t3 ∧ Blk w3 (w.heap.size + 1 + 1) 0 0 0 0 ∧ Blk w3 (w.heap.size + 1 + 1 + 1) 0 0 0 0) := by
            obtain ⟨u1, u2, u3, u4, u5⟩ := K2.out
            exact ⟨u1.below hb4 (by omega), u2.below hb4 (by omega), u3.below hb4 (by omega), u4.below hb4 (by omega), u5.below hb4 (by omega)⟩
          have K3R : Hid (Blk w3 (w.heap.size + 1 + 1 + 1 + 1 + 1) (g0 X) (g1 X) (g2 X) (g3 X)) := KR.out.below hb4 (by omega)
          clear hb3 hb4 hs3 hs2 hB2 K2 KR r0 r1 r2 r3 r4 r5 r6 r7 l0 l1 l2 l3 hH
          obtain ⟨r0, r1, r2, r3, -, -, -, -⟩ := K3R.out
          obtain ⟨l0, l1, l2, l3, -, -, -, -⟩ := K3.out.2.1
          go_wp2_with fail
          refine (rless_any X b _ (by omega) hc hX1).mono ?_
          rintro e w4 ⟨rfl, hb5⟩
          have hB4 := hB3.trans (hb5.mono hB3.size)
          have hs5 := hb5.size
          have K4 : Hid (Blk w4 (w.heap.size) (g0 (a)) (g1 (a)) (g2 (a)) (g3 (a)) ∧ Blk w4 (w.heap.size + 1) (g0 (b)) (g1 (b)) (g2 (b)) (g3 (b)) ∧ Blk w4 (w.heap.size + 1 + 1 + 1 + 1) t0 t1 t2 t3 ∧ Blk w4 (w.heap.size + 1 + 1) 0 0 0 0 ∧ Blk w4 (w.heap.size + 1 + 1 + 1) 0 0 0 0) := by
            obtain ⟨u1, u2, u3, u4, u5⟩ := K3.out
            exact ⟨u1.below hb5 (by omega), u2.below hb5 (by omega), u3.below hb5 (by omega), u4.below hb5 (by omega), u5.below hb5 (by omega)⟩
          have K4R : Hid (Blk w4 (w.heap.size + 1 + 1 + 1 + 1 + 1) (g0 X) (g1 X) (g2 X) (g3 X)) := K3R.out.below hb5 (by omega)
          have hs6 : w.heap.size + 1 + 1 + 1 + 1 + 1 < w4.heap.size := by omega
          clear hb5 hs5 hs4 hB3 K3 K3R r0 r1 r2 r3 l0 l1 l2 l3
          obtain ⟨r0, r1, r2, r3, r4, r5, r6, r7⟩ := K4R.out
          obtain ⟨l0, l1, l2, l3, l4, l5, l6, l7⟩ := K4.out.2.2.1
          obtain ⟨u1, u2, u3, u4, u5⟩ := K4.out
          have u6 := K4R.out
          go_wp2
          exact ⟨⟨64 + s, t0, t1, (t2 + 2 ^ s), t3, X - b, by omega, p0, q0, p1, q1, (by omega), y1, p3, q3, y2, ⟨i0 - 1, by have := HB.out; omega, rfl⟩, (by repeat' (first | (with_reducible exact Below.refl _ _) | (with_reducible assumption) | (with_reducible refine bdrewN _ ?_) | (with_reducible refine Below.alloc ?_ ?_ _) | (with_reducible refine Below.setCell ?_ ?_ _) | (with_reducible refine Below.drew ?_) | go_size | (simp; omega))), by simp; omega, (u1.other4 (by omega)).other (by omega), (u2.other4 (by omega)).other (by omega), (u3.other4 (by omega)).set2 _, (u6.four _ _ _ _).other (by omega), (u4.other4 (by omega)).other (by omega), (u5.other4 (by omega)).other (by omega)⟩, by simp [intOf]; omega⟩
        · have hc0 : (0 ≤ c) = False := by simp; rw [← ec.out]; unfold cmpI; split <;> (try split) <;> omega
          have hc1 : c < 0 := by simpa using hc0
          have y2 := st2 (by omega)
          clear st1 st2
          go_wp2_with fail
          refine (rcompare_any X b _ hX0 hX1 (by omega) (by omega)).mono ?_
          rintro e w3 ⟨rfl, hb3⟩
          rw [ec.out]
          obtain ⟨u1, u2, u3, u4, u5⟩ := K2.out
          have u6 := KR.out
          have hH : W2.drew.heap.size = W2.heap.size := rfl
          rw [hH] at hb3
          have hb4 : Below W2.heap.size W2 w3 := ⟨hb3.os, hb3.tape, hb3.output, hb3.size, hb3.block⟩
          have hB3 := hB2.trans (hb4.mono hB2.size)
          have hs3 := hb4.size
          go_wp2
          exact ⟨⟨64 + s, t0, t1, t2, t3, X, by omega, p0, q0, p1, q1, p2, q2, p3, q3, y2, ⟨i0 - 1, by have := HB.out; omega, rfl⟩, hB3, by omega, u1.below hb4 (by omega), u2.below hb4 (by omega), u3.below hb4 (by omega), u6.below hb4 (by omega), u4.below hb4 (by omega), u5.below hb4 (by omega)⟩, by simp [intOf]; omega⟩
      · obtain ⟨st1, st2⟩ := inv_step3 a b t0 t1 t2 t3 R s hs hb p3 q3 hI.out
        obtain ⟨bit, eB⟩ : ∃ bit : Int, g3 a / 2 ^ s % 2 = bit := ⟨_, rfl⟩
        have hb0 : 0 ≤ bit := by omega
        have hb1 : bit ≤ 1 := by omega
        obtain ⟨X, hX⟩ : ∃ X : Int, 2 * R + bit = X := ⟨_, rfl⟩
        have hX0 : 0 ≤ X := by omega
        have hX1 : X < 340282366920938463463374607431768211456 := by omega
        rw [eB, hX] at st1 st2
        have e1 : i0 / 32 = 3 := by omega
        have e3 : i0 % 32 = (s : Int) := by omega
        have e2 : IntKind.i64.wrap (i0.tdiv 32) = 3 := by rw [Int.tdiv_eq_ediv_of_nonneg hi1, e1]; rfl
        have e4 : IntKind.i64.wrap (i0.tmod 32) = (s : Int) := by rw [Int.tmod_eq_emod_of_nonneg hi1, e3]; go_arith
        obtain ⟨d0, d1, d2, d3⟩ := dig_bit R bit hb0 hb1
        rw [hX] at d0 d1 d2 d3
        have HB : Hid (i0 = (96 + s + 1 : Nat) - 1) := hi0
        clear hi0
        have K : Hid (Blk wr (w.heap.size) (g0 (a)) (g1 (a)) (g2 (a)) (g3 (a)) ∧ Blk wr (w.heap.size + 1) (g0 (b)) (g1 (b)) (g2 (b)) (g3 (b)) ∧ Blk wr (w.heap.size + 1 + 1 + 1 + 1) t0 t1 t2 t3 ∧ Blk wr (w.heap.size + 1 + 1) 0 0 0 0 ∧ Blk wr (w.heap.size + 1 + 1 + 1) 0 0 0 0) := ⟨kA, kB, kT, kX, kY⟩
        clear kA kB kT kX kY
        obtain ⟨kR0, kR1, kR2, kR3, kR4, kR5, kR6, kR7⟩ := kR
        go_wp2_with fail
        refine (rplus_any R R _ hR0 hR0 (by omega)).mono ?_
        rintro e w1 ⟨rfl, hb1⟩
        obtain ⟨n0, n1, n2, n3⟩ := (⟨bcl2 hb1 kR0 (by simp; omega), bcl2 hb1 kR1 (by simp; omega), bcl2 hb1 kR2 (by simp; omega), bcl2 hb1 kR3 (by simp; omega)⟩ : w1.cell? ⟨w.heap.size + 1 + 1 + 1 + 1 + 1, 0, none⟩ = some (.int .u64 (g0 R)) ∧ w1.cell? ⟨w.heap.size + 1 + 1 + 1 + 1 + 1, 1, none⟩ = some (.int .u64 (g1 R)) ∧ w1.cell? ⟨w.heap.size + 1 + 1 + 1 + 1 + 1, 2, none⟩ = some (.int .u64 (g2 R)) ∧ w1.cell? ⟨w.heap.size + 1 + 1 + 1 + 1 + 1, 3, none⟩ = some (.int .u64 (g3 R)))
        obtain ⟨f0, f1, f2, f3⟩ := (⟨bfr2 hb1 kR4 (by simp; omega), bfr2 hb1 kR5 (by simp; omega), bfr2 hb1 kR6 (by simp; omega), bfr2 hb1 kR7 (by simp; omega)⟩ : w1.frozen? ⟨w.heap.size + 1 + 1 + 1 + 1 + 1, 0, none⟩ = false ∧ w1.frozen? ⟨w.heap.size + 1 + 1 + 1 + 1 + 1, 1, none⟩ = false ∧ w1.frozen? ⟨w.heap.size + 1 + 1 + 1 + 1 + 1, 2, none⟩ = false ∧ w1.frozen? ⟨w.heap.size + 1 + 1 + 1 + 1 + 1, 3, none⟩ = false)
        go_wp2_with fail
        refine wp_world ?_
        intro W1 hW1
        have K1 : Blk W1 (w.heap.size) (g0 (a)) (g1 (a)) (g2 (a)) (g3 (a)) ∧ Blk W1 (w.heap.size + 1) (g0 (b)) (g1 (b)) (g2 (b)) (g3 (b)) ∧ Blk W1 (w.heap.size + 1 + 1 + 1 + 1) t0 t1 t2 t3 ∧ Blk W1 (w.heap.size + 1 + 1) 0 0 0 0 ∧ Blk W1 (w.heap.size + 1 + 1 + 1) 0 0 0 0 := by
          obtain ⟨u1, u2, u3, u4, u5⟩ := K.out
          rw [hW1]
          exact ⟨(u1.below hb1 (by omega)).other4 (by omega), (u2.below hb1 (by omega)).other4 (by omega), (u3.below hb1 (by omega)).other4 (by omega), (u4.below hb1 (by omega)).other4 (by omega), (u5.below hb1 (by omega)).other4 (by omega)⟩
        have K1R : Blk W1 (w.heap.size + 1 + 1 + 1 + 1 + 1) (g0 (R + R)) (g1 X) (g2 X) (g3 X) := by
          rw [hW1]; exact Blk.four ⟨n0, n1, n2, n3, f0, f1, f2, f3⟩ _ _ _ _
        have hB1 : Below w.heap.size w W1 := by
          have := hBw.trans (hb1.mono hBw.size)
          rw [hW1]; repeat' (first | (with_reducible exact Below.refl _ _) | (with_reducible assumption) | (with_reducible refine bdrewN _ ?_) | (with_reducible refine Below.alloc ?_ ?_ _) | (with_reducible refine Below.setCell ?_ ?_ _) | (with_reducible refine Below.drew ?_) | go_size | (simp; omega))
        have hs1 : w.heap.size + 1 + 1 + 1 + 1 + 1 < W1.heap.size := by
          have := hb1.size
          rw [hW1]; simp; omega
        clear hW1 n0 n1 n2 n3 f0 f1 f2 f3 kR0 kR1 kR2 kR3 kR4 kR5 kR6 kR7 hb1 K hBw hsz
        have KK : Hid (Blk W1 (w.heap.size) (g0 (a)) (g1 (a)) (g2 (a)) (g3 (a)) ∧ Blk W1 (w.heap.size + 1) (g0 (b)) (g1 (b)) (g2 (b)) (g3 (b)) ∧ Blk W1 (w.heap.size + 1 + 1 + 1 + 1) t0 t1 t2 t3 ∧ Blk W1 (w.heap.size + 1 + 1) 0 0 0 0 ∧ Blk W1 (w.heap.size + 1 + 1 + 1) 0 0 0 0) := K1
        have KR : Hid (Blk W1 (w.heap.size + 1 + 1 + 1 + 1 + 1) (g0 (R + R)) (g1 X) (g2 X) (g3 X)) := K1R
        obtain ⟨⟨v0, v1, v2, v3, -, -, -, -⟩, -⟩ := K1
        obtain ⟨r0, -, -, -, r4, -, -, -⟩ := K1R
        go_region
        generalize hW : World.setCell _ _ _ = W2
        have ev : IntKind.u64.wrap (g0 (R + R) + (g3 a / 2 ^ s).tmod 2) = g0 X := by
          have e := g3_bd a
          have : 0 ≤ g3 a / 2 ^ s := Int.ediv_nonneg e.1 (by omega)
          rw [Int.tmod_eq_emod_of_nonneg this, eB, d0]
          have := g0_bd X
          rw [IntKind.wrap_u64]; omega
        have K2R : Blk W2 (w.heap.size + 1 + 1 + 1 + 1 + 1) (g0 X) (g1 X) (g2 X) (g3 X) := by
          rw [← hW, ev]; exact KR.out.set0 _
        have K2 : Hid (Blk W2 (w.heap.size) (g0 (a)) (g1 (a)) (g2 (a)) (g3 (a)) ∧ Blk W2 (w.heap.size + 1) (g0 (b)) (g1 (b)) (g2 (b)) (g3 (b)) ∧ Blk W2 (w.heap.size + 1 + 1 + 1 + 1) t0 t1 t2 t3 ∧ Blk W2 (w.heap.size + 1 + 1) 0 0 0 0 ∧ Blk W2 (w.heap.size + 1 + 1 + 1) 0 0 0 0) := by
          obtain ⟨u1, u2, u3, u4, u5⟩ := KK.out
          rw [← hW]
          exact ⟨u1.other (by omega), u2.other (by omega), u3.other (by omega), u4.other (by omega), u5.other (by omega)⟩
        have hB2 : Below w.heap.size w W2 := by rw [← hW]; repeat' (first | (with_reducible exact Below.refl _ _) | (with_reducible assumption) | (with_reducible refine bdrewN _ ?_) | (with_reducible refine Below.alloc ?_ ?_ _) | (with_reducible refine Below.setCell ?_ ?_ _) | (with_reducible refine Below.drew ?_) | go_size | (simp; omega))
        have hs2 : w.heap.size + 1 + 1 + 1 + 1 + 1 < W2.heap.size := by rw [← hW]; simp; omega
        clear hW ev KK KR hB1 hs1 v0 v1 v2 v3 r0 r4 d0 d1 d2 d3
        have KR : Hid (Blk W2 (w.heap.size + 1 + 1 + 1 + 1 + 1) (g0 X) (g1 X) (g2 X) (g3 X)) := K2R
        obtain ⟨r0, r1, r2, r3, r4, r5, r6, r7⟩ := K2R
        obtain ⟨l0, l1, l2, l3, -, -, -, -⟩ := K2.out.2.1
        obtain ⟨c, ec⟩ : ∃ c : Int, Hid (cmpI X b = c) := ⟨_, rfl⟩
        by_cases hc : b ≤ X
        · have hc0 : 0 ≤ c := by rw [← ec.out]; unfold cmpI; split <;> (try split) <;> omega
          obtain ⟨y1, y2⟩ := st1 hc
          clear st1 st2
          go_wp2_with fail
          refine (rcompare_any X b _ hX0 hX1 (by omega) (by omega)).mono ?_
          rintro e w3 ⟨rfl, hb3⟩
          rw [ec.out]
          have hH : W2.drew.heap.size = W2.heap.size := rfl
          rw [hH] at hb3
          have hb4 : Below W2.heap.size W2 w3 := ⟨hb3.os, hb3.tape, hb3.output, hb3.size, hb3.block⟩
          have hB3 := hB2.trans (hb4.mono hB2.size)
          have hs3 := hb4.size
          have hs4 : w.heap.size + 1 + 1 + 1 + 1 + 1 < w3.heap.size := by omega
          have K3 : Hid (Blk w3 (w.heap.size) (g0 (a)) (g1 (a)) (g2 (a)) (g3 (a)) ∧ Blk w3 (w.heap.size + 1) (g0 (b)) (g1 (b)) (g2 (b)) (g3 (b)) ∧ Blk w3 (w.heap.size + 1 + 1 + 1 + 1) t0 t1 t2 t3 ∧ Blk w3 (w.heap.size + 1 + 1) 0 0 0 0 ∧ Blk w3 (w.heap.size + 1 + 1 + 1) 0 0 0 0) := by
            obtain ⟨u1, u2, u3, u4, u5⟩ := K2.out
            exact ⟨u1.below hb4 (by omega), u2.below hb4 (by omega), u3.below hb4 (by omega), u4.below hb4 (by omega), u5.below hb4 (by omega)⟩
          have K3R : Hid (Blk w3 (w.heap.size + 1 + 1 + 1 + 1 + 1) (g0 X) (g1 X) (g2 X) (g3 X)) := KR.out.below hb4 (by omega)
          clear hb3 hb4 hs3 hs2 hB2 K2 KR r0 r1 r2 r3 r4 r5 r6 r7 l0 l1 l2 l3 hH
          obtain ⟨r0, r1, r2, r3, -, -, -, -⟩ := K3R.out
          obtain ⟨l0, l1, l2, l3, -, -, -, -⟩ := K3.out.2.1
          go_wp2_with fail
          refine (rless_any X b _ (by omega) hc hX1).mono ?_
          rintro e w4 ⟨rfl, hb5⟩
          have hB4 := hB3.trans (hb5.mono hB3.size)
          have hs5 := hb5.size
          have K4 : Hid (Blk w4 (w.heap.size) (g0 (a)) (g1 (a)) (g2 (a)) (g3 (a)) ∧ Blk w4 (w.heap.size + 1) (g0 (b)) (g1 (b)) (g2 (b)) (g3 (b)) ∧ Blk w4 (w.heap.size + 1 + 1 + 1 + 1) t0 t1 t2 t3 ∧ Blk w4 (w.heap.size + 1 + 1) 0 0 0 0 ∧ Blk w4 (w.heap.size + 1 + 1 + 1) 0 0 0 0) := by
            obtain ⟨u1, u2, u3, u4, u5⟩ := K3.out
            exact ⟨u1.below hb5 (by omega), u2.below hb5 (by omega), u3.below hb5 (by omega), u4.below hb5 (by omega), u5.below hb5 (by omega)⟩
          have K4R : Hid (Blk w4 (w.heap.size + 1 + 1 + 1 + 1 + 1) (g0 X) (g1 X) (g2 X) (g3 X)) := K3R.out.below hb5 (by omega)
          have hs6 : w.heap.size + 1 + 1 + 1 + 1 + 1 < w4.heap.size := by omega
          clear hb5 hs5 hs4 hB3 K3 K3R r0 r1 r2 r3 l0 l1 l2 l3
          obtain ⟨r0, r1, r2, r3, r4, r5, r6, r7⟩ := K4R.out
          obtain ⟨l0, l1, l2, l3, l4, l5, l6, l7⟩ := K4.out.2.2.1
          obtain ⟨u1, u2, u3, u4, u5⟩ := K4.out
          have u6 := K4R.out
          go_wp2
          exact ⟨⟨96 + s, t0, t1, t2, (t3 + 2 ^ s), X - b, by omega, p0, q0, p1, q1, p2, q2, (by omega), y1, y2, ⟨i0 - 1, by have := HB.out; omega, rfl⟩, (by repeat' (first | (with_reducible exact Below.refl _ _) | (with_reducible assumption) | (with_reducible refine bdrewN _ ?_) | (with_reducible refine Below.alloc ?_ ?_ _) | (with_reducible refine Below.setCell ?_ ?_ _) | (with_reducible refine Below.drew ?_) | go_size | (simp; omega))), by simp; omega, (u1.other4 (by omega)).other (by omega), (u2.other4 (by omega)).other (by omega), (u3.other4 (by omega)).set3 _, (u6.four _ _ _ _).other (by omega), (u4.other4 (by omega)).other (by omega), (u5.other4 (by omega)).other (by omega)⟩, by simp [intOf]; omega⟩
        · have hc0 : (0 ≤ c) = False := by simp; rw [← ec.out]; unfold cmpI; split <;> (try split) <;> omega
          have hc1 : c < 0 := by simpa using hc0
          have y2 := st2 (by omega)
          clear st1 st2
          go_wp2_with fail
          refine (rcompare_any X b _ hX0 hX1 (by omega) (by omega)).mono ?_
          rintro e w3 ⟨rfl, hb3⟩
          rw [ec.out]
          obtain ⟨u1, u2, u3, u4, u5⟩ := K2.out
          have u6 := KR.out
          have hH : W2.drew.heap.size = W2.heap.size := rfl
          rw [hH] at hb3
          have hb4 : Below W2.heap.size W2 w3 := ⟨hb3.os, hb3.tape, hb3.output, hb3.size, hb3.block⟩
          have hB3 := hB2.trans (hb4.mono hB2.size)
          have hs3 := hb4.size
          go_wp2
          exact ⟨⟨96 + s, t0, t1, t2, t3, X, by omega, p0, q0, p1, q1, p2, q2, p3, q3, y2, ⟨i0 - 1, by have := HB.out; omega, rfl⟩, hB3, by omega, u1.below hb4 (by omega), u2.below hb4 (by omega), u3.below hb4 (by omega), u6.below hb4 (by omega), u4.below hb4 (by omega), u5.below hb4 (by omega)⟩, by simp [intOf]; omega⟩

end Go.Proofs.YtgmmhgbodddadaaGreatDoor

namespace Go.Proofs.YtgmmhgbodddadaaGreatDoor
open Go.RowKit

set_option maxRecDepth 100000 in
/-- '==' between two rows of four digits. -/
theorem eq_dig (w : World) (x0 x1 x2 x3 y0 y1 y2 y3 : Int) :
    Sem.run Tryz.prog (Op.equalIn 9999 196 (.agg #[.int .u64 x0, .int .u64 x1, .int .u64 x2, .int .u64 x3]) (.agg #[.int .u64 y0, .int .u64 y1, .int .u64 y2, .int .u64 y3])) w = .ok (x0 == y0 && (x1 == y1 && (x2 == y2 && x3 == y3))) w := by
  have hp : Tryz.prog.plainKey 180 = true := by kernel_rfl
  have hc : Tryz.prog.cellsOf 180 = 1 := by kernel_rfl
  obtain ⟨i, hi⟩ : ∃ i, Tryz.prog.info? 180 = some i := ⟨_, rfl⟩
  have P0 : ∀ (xs : Array Value) (o : Nat) (a : Value), xs[o]? = some a → (part 180 xs o).run Tryz.prog w = .ok a w := fun xs o a h => run_part_plain w hp h
  have E0 : ∀ a b : Int, (Op.equalIn 9998 180 (.int .u64 a) (.int .u64 b)).run Tryz.prog w = .ok (a == b) w := fun a b => run_equalIn_int w 9997 _ _ _ a b Tryz.underlying180
  rw [run_equalIn_array w 9998 _ _ Tryz.underlying196 hi, hc]
  simp only [show List.range 4 = [0, 1, 2, 3] from rfl, Op.eqItems, Sem.run_bind, Nat.mul_one]
  rw [P0 _ 0 (.int .u64 x0) rfl, Result.andThen_ok, P0 _ 0 (.int .u64 y0) rfl, Result.andThen_ok, E0, Result.andThen_ok]
  by_cases h0 : x0 = y0
  · by_cases h1 : x1 = y1
    · by_cases h2 : x2 = y2
      · by_cases h3 : x3 = y3
        · simp [h0, h1, h2, h3, P0, E0]
        · simp [h0, h1, h2, h3, P0, E0]
      · simp [h0, h1, h2, P0, E0]
    · simp [h0, h1, P0, E0]
  · simp [h0]

theorem eq_digT (w : World) (x0 x1 x2 x3 : Int) :
    Sem.run Tryz.prog (Op.equalIn 9999 196 (.agg #[.int .u64 x0, .int .u64 x1, .int .u64 x2, .int .u64 x3]) (.agg #[.int .u64 x0, .int .u64 x1, .int .u64 x2, .int .u64 x3])) w = .ok true w := by
  rw [eq_dig]; simp
theorem eq_digF (w : World) (x0 x1 x2 x3 y0 y1 y2 y3 : Int) (h : ¬ (x0 = y0 ∧ x1 = y1 ∧ x2 = y2 ∧ x3 = y3)) :
    Sem.run Tryz.prog (Op.equalIn 9999 196 (.agg #[.int .u64 x0, .int .u64 x1, .int .u64 x2, .int .u64 x3]) (.agg #[.int .u64 y0, .int .u64 y1, .int .u64 y2, .int .u64 y3])) w = .ok false w := by
  rw [eq_dig]
  have : (x0 == y0 && (x1 == y1 && (x2 == y2 && x3 == y3))) = false := by simpa using h
  rw [this]

/-- The number that lies in a block of four digits. -/
def cellI (W : World) (B o : Nat) : Int := match W.cell? ⟨B, o, none⟩ with | some v => intOf v | none => 0
def bigAt (W : World) (B : Nat) : Nat := (cellI W B 0 + cellI W B 1 * 4294967296 + cellI W B 2 * 18446744073709551616 + cellI W B 3 * 79228162514264337593543950336).toNat
theorem Blk.big {W : World} {B : Nat} {x : Int} (h : Blk W B (g0 x) (g1 x) (g2 x) (g3 x)) (h0 : 0 ≤ x) (h1 : x < 340282366920938463463374607431768211456) : bigAt W B = x.toNat := by
  obtain ⟨c0, c1, c2, c3, -, -, -, -⟩ := h
  have e := g_sum x h0 h1
  simp only [bigAt, cellI, c0, c1, c2, c3, intOf]
  rw [← e]

theorem g_zero : g0 0 = 0 ∧ g1 0 = 0 ∧ g2 0 = 0 ∧ g3 0 = 0 := by decide
theorem g_pos (x : Int) (h0 : 0 ≤ x) (h1 : x < 340282366920938463463374607431768211456) (h : x ≠ 0) : ¬ (g0 x = 0 ∧ g1 x = 0 ∧ g2 x = 0 ∧ g3 x = 0) := by
  unfold g0 g1 g2 g3; omega
theorem Blk.fresh {W : World} {T : TypeId} {x0 x1 x2 x3 : Int} : Blk (W.alloc (.cells #[.int .u64 x0, .int .u64 x1, .int .u64 x2, .int .u64 x3] T)) W.heap.size x0 x1 x2 x3 := by
  constructor <;> simp (maxDischargeDepth := 12) [go_sem]
theorem Blk.alloc {W : World} {B : Nat} {O : Obj} {x0 x1 x2 x3 : Int} (h : Blk W B x0 x1 x2 x3) (hB : B < W.heap.size) : Blk (W.alloc O) B x0 x1 x2 x3 :=
  h.below (n := W.heap.size) ⟨rfl, rfl, rfl, by simp, fun k hk => Below.heap_alloc _ _ _ (by omega)⟩ hB

set_option maxRecDepth 100000 in
set_option maxHeartbeats 4000000 in
theorem rcommon_any (a b : Int) (w : World) (ha : 0 ≤ a) (ha' : a < 340282366920938463463374607431768211456) (hb : 0 ≤ b) (hb' : b ≤ 170141183460469231731687303715884105728) :
    Calls Tryz.prog 151 #[.agg #[.int .u64 (g0 a), .int .u64 (g1 a), .int .u64 (g2 a), .int .u64 (g3 a)], .agg #[.int .u64 (g0 b), .int .u64 (g1 b), .int .u64 (g2 b), .int .u64 (g3 b)]] w fun e w' => e = .returned (.agg #[.int .u64 (g0 (gc a b)), .int .u64 (g1 (gc a b)), .int .u64 (g2 (gc a b)), .int .u64 (g3 (gc a b))]) ∧ Below w.heap.size w w' := by
  go_enter Tryz.func151, Tryz.ntmps151
  go_wp2
  go_loopw [9] (fun _ wr => ∃ x y : Int, 0 ≤ x ∧ x < 340282366920938463463374607431768211456 ∧ 0 ≤ y ∧ y ≤ 170141183460469231731687303715884105728 ∧ Hid (gc x y = gc a b) ∧ Below w.heap.size w wr ∧ w.heap.size + 1 + 1 + 1 < wr.heap.size ∧ Blk wr (w.heap.size) (g0 (x)) (g1 (x)) (g2 (x)) (g3 (x)) ∧ Blk wr (w.heap.size + 1) (g0 (y)) (g1 (y)) (g2 (y)) (g3 (y)) ∧ Blk wr (w.heap.size + 1 + 1) (0) (0) (0) (0) ∧ Blk wr (w.heap.size + 1 + 1 + 1) (0) (0) (0) (0)) (fun _ wr => bigAt wr (w.heap.size + 1))
  case atStart =>
    refine ⟨a, b, ha, ha', hb, hb', rfl, by go_grown, by go_size, ?_, ?_, ?_, ?_⟩
    all_goals (constructor <;> simp (maxDischargeDepth := 12) [go_sem])
  case round =>
    obtain ⟨x, y, hx, hx', hy, hy', hg, hBw, hsz, kX, kY, kO, kN⟩ := hrel
    by_cases hy0 : y = 0
    · subst hy0
      have hgx : Hid (gc a b = x) := by rw [← hg.out]; exact gc_zero x hx
      clear hg
      obtain ⟨c0, c1, c2, c3, -, -, -, -⟩ := kY
      rw [g_zero.1] at c0
      rw [g_zero.2.1] at c1
      rw [g_zero.2.2.1] at c2
      rw [g_zero.2.2.2] at c3
      obtain ⟨n0, n1, n2, n3, -, -, -, -⟩ := kN
      have kO' := kO
      obtain ⟨o0, o1, o2, o3, o4, o5, o6, o7⟩ := kO
      obtain ⟨x0, x1, x2, x3, -, -, -, -⟩ := kX
      have he := eq_digT wr 0 0 0 0
      go_wp2
      have hB9 : Below w.heap.size w ((((wr.setCell ⟨w.heap.size + 1 + 1, 0, none⟩ (.int .u64 (g0 x))).setCell ⟨w.heap.size + 1 + 1, 1, none⟩ (.int .u64 (g1 x))).setCell ⟨w.heap.size + 1 + 1, 2, none⟩ (.int .u64 (g2 x))).setCell ⟨w.heap.size + 1 + 1, 3, none⟩ (.int .u64 (g3 x))) := (by repeat' (first | (with_reducible exact Below.refl _ _) | (with_reducible assumption) | (with_reducible refine bdrewN _ ?_) | (with_reducible refine Below.alloc ?_ ?_ _) | (with_reducible refine Below.setCell ?_ ?_ _) | (with_reducible refine Below.drew ?_) | go_size | (simp; omega)))
      have kO2 := kO'.four (g0 x) (g1 x) (g2 x) (g3 x)
      generalize World.setCell _ _ _ = W9 at hB9 kO2 ⊢
      obtain ⟨v0, v1, v2, v3, -, -, -, -⟩ := kO2
      refine bodyPost_ret (by simp [results, Tryz.results151, go_sem, v0, v1, v2, v3]; try rfl) rfl ?_
      exact ⟨ret_big (by rw [hgx.out]) (by rw [hgx.out]) (by rw [hgx.out]) (by rw [hgx.out]), hB9⟩
    · have hd := g_pos y hy (by omega) hy0
      have he := eq_digF wr _ _ _ _ 0 0 0 0 hd
      clear hd
      have kX' : Hid (Blk wr (w.heap.size) (g0 x) (g1 x) (g2 x) (g3 x)) := kX
      have kY' : Hid (Blk wr (w.heap.size + 1) (g0 y) (g1 y) (g2 y) (g3 y)) := kY
      have kO' : Hid (Blk wr (w.heap.size + 1 + 1) 0 0 0 0) := kO
      have kN' : Hid (Blk wr (w.heap.size + 1 + 1 + 1) 0 0 0 0) := kN
      clear kO
      obtain ⟨x0, x1, x2, x3, -, -, -, -⟩ := kX
      obtain ⟨y0, y1, y2, y3, -, -, -, -⟩ := kY
      obtain ⟨n0, n1, n2, n3, -, -, -, -⟩ := kN
      go_wp2_with fail
      refine (rdiv_any x y _ hx hx' (by omega) hy').mono ?_
      rintro e w1 ⟨rfl, hb1⟩
      have hs1 := hb1.size
      have u0 := kX'.out.below hb1 (by omega)
      have u1 := kY'.out.below hb1 (by omega)
      have u2 := kO'.out.below hb1 (by omega)
      have u3 := kN'.out.below hb1 (by omega)
      have hB1 := hBw.trans (hb1.mono hBw.size)
      have hsz1 : w.heap.size + 1 + 1 + 1 < w1.heap.size := by omega
      have U : Hid (Blk w1 (w.heap.size) (g0 x) (g1 x) (g2 x) (g3 x) ∧ Blk w1 (w.heap.size + 1) (g0 y) (g1 y) (g2 y) (g3 y) ∧ Blk w1 (w.heap.size + 1 + 1) 0 0 0 0 ∧ Blk w1 (w.heap.size + 1 + 1 + 1) 0 0 0 0) := ⟨u0, u1, u2, u3⟩
      clear u2 u3 kX' hb1 hs1 hBw hsz x0 x1 x2 x3 y0 y1 y2 y3 n0 n1 n2 n3 he
      clear u0 u1
      go_upto_region 4 with fail
      refine wp_world ?_
      intro W1 hW1
      obtain ⟨u0, u1, u2, u3⟩ := U.out
      have v0 : Blk W1 (w.heap.size) (g0 x) (g1 x) (g2 x) (g3 x) := by rw [hW1]; exact (u0.alloc (by omega)).alloc (by simp; omega)
      have v1 : Blk W1 (w.heap.size + 1) (g0 y) (g1 y) (g2 y) (g3 y) := by rw [hW1]; exact (u1.alloc (by omega)).alloc (by simp; omega)
      have v2 : Blk W1 (w.heap.size + 1 + 1) 0 0 0 0 := by rw [hW1]; exact (u2.alloc (by omega)).alloc (by simp; omega)
      have v3 : Blk W1 (w.heap.size + 1 + 1 + 1) 0 0 0 0 := by rw [hW1]; exact (u3.alloc (by omega)).alloc (by simp; omega)
      have v4 : Blk W1 (w1.heap.size + 1) (g0 (x % y)) (g1 (x % y)) (g2 (x % y)) (g3 (x % y)) := by
        rw [hW1]; have := Blk.fresh (W := w1.alloc (.cells #[.int .u64 (g0 (x / y)), .int .u64 (g1 (x / y)), .int .u64 (g2 (x / y)), .int .u64 (g3 (x / y))] 198)) (T := 198) (x0 := g0 (x % y)) (x1 := g1 (x % y)) (x2 := g2 (x % y)) (x3 := g3 (x % y))
        simpa using this
      have hB2 : Below w.heap.size w W1 := by rw [hW1]; exact (by repeat' (first | (with_reducible exact Below.refl _ _) | (with_reducible assumption) | (with_reducible refine bdrewN _ ?_) | (with_reducible refine Below.alloc ?_ ?_ _) | (with_reducible refine Below.setCell ?_ ?_ _) | (with_reducible refine Below.drew ?_) | go_size | (simp; omega)))
      have hs2 : w.heap.size + 1 + 1 + 1 < W1.heap.size := by rw [hW1]; simp; omega
      clear hW1 u0 u1 u2 u3 U hB1
      have V : Hid (Blk W1 (w.heap.size) (g0 x) (g1 x) (g2 x) (g3 x) ∧ Blk W1 (w.heap.size + 1) (g0 y) (g1 y) (g2 y) (g3 y) ∧ Blk W1 (w.heap.size + 1 + 1) 0 0 0 0 ∧ Blk W1 (w.heap.size + 1 + 1 + 1) 0 0 0 0) := ⟨v0, v1, v2, v3⟩
      clear v2 v3
      have hne1 : w1.heap.size + 1 ≠ w.heap.size := by omega
      have hne2 : w1.heap.size + 1 ≠ w.heap.size + 1 := by omega
      obtain ⟨x0, x1, x2, x3, x4, x5, x6, x7⟩ := v0
      obtain ⟨y0, y1, y2, y3, y4, y5, y6, y7⟩ := v1
      obtain ⟨r0, r1, r2, r3, -, -, -, -⟩ := v4
      go_wp2
      obtain ⟨u0, u1, u2, u3⟩ := V.out
      have m0 := Int.emod_nonneg x hy0
      have m1 := Int.emod_lt_of_pos x (show 0 < y by omega)
      refine ⟨⟨y, x % y, hy, by omega, m0, by omega, (gc_step x y hx (by omega)).trans hg.out, (by repeat' (first | (with_reducible exact Below.refl _ _) | (with_reducible assumption) | (with_reducible refine bdrewN _ ?_) | (with_reducible refine Below.alloc ?_ ?_ _) | (with_reducible refine Below.setCell ?_ ?_ _) | (with_reducible refine Below.drew ?_) | go_size | (simp; omega))), by simp; omega, ?_, ?_, ?_, ?_⟩, ?_⟩
      · exact (u0.four _ _ _ _).other4 (by omega)
      · exact (u1.other4 (B := w.heap.size) (by omega)).four _ _ _ _
      · exact (u2.other4 (by omega)).other4 (by omega)
      · exact (u3.other4 (by omega)).other4 (by omega)
      refine Nat.lt_of_le_of_lt (Nat.le_of_eq (Blk.big (x := x % y) ((u1.other4 (B := w.heap.size) (by omega)).four _ _ _ _) m0 (by omega))) ?_
      rw [kY'.out.big hy (by omega)]
      omega

end Go.Proofs.YtgmmhgbodddadaaGreatDoor
