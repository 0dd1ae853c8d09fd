/- The document's Print. -/
import Derived.Test.YtedoahibceeklabGreatDoorVText
import Derived.OwnWalk
import Derived.Laws.OwnMore
import Derived.Laws.IdiomStrings
import Derived.Deep.RegionLaw
import Derived.Test.YtedoahibceeklabGreatDoorVCheck0

namespace Go.Proofs.YtedoahibceeklabGreatDoor
open Go.RowKit Go.Shelf
set_option linter.unusedVariables false

abbrev hexS : ByteArray := { data := #[48, 49, 50, 51, 52, 53, 54, 55, 56, 57, 97, 98, 99, 100, 101, 102] }

theorem dig_ext (d : Nat) (h : d < 10) : hexS.extract d (d + 1) = ⟨#[UInt8.ofNat (48 + d)]⟩ := by
  match d, h with
  | 0, _ => rfl
  | 1, _ => rfl
  | 2, _ => rfl
  | 3, _ => rfl
  | 4, _ => rfl
  | 5, _ => rfl
  | 6, _ => rfl
  | 7, _ => rfl
  | 8, _ => rfl
  | 9, _ => rfl
theorem dec_last (v : Nat) (h : v < 10) : Lib.decDigits v = [UInt8.ofNat (48 + v % 10)] := by rw [Lib.decDigits_one h, Nat.mod_eq_of_lt h]
theorem dec_more (v : Nat) (h : ¬ v < 10) : Lib.decDigits v = Lib.decDigits (v / 10) ++ [UInt8.ofNat (48 + v % 10)] := by rw [Lib.decDigits, dif_neg h]

set_option maxRecDepth 100000 in
set_option maxHeartbeats 1000000 in
theorem ddec_pos (u : Nat) (w : World) (h2 : u ≤ 9223372036854775807) (hl : (Lib.decDigits u).length ≤ 21) :
    Calls Tryz.prog 28 #[.int .i64 u] w fun e w' => e = .returned (.string ⟨(Lib.decDigits u).toArray⟩) ∧ Below w.heap.size w w' := by
  have HL : Hid ((Lib.decDigits u).length ≤ 21) := hl
  clear hl
  go_enter Tryz.func28, Tryz.ntmps28
  go_wp2
  go_loopw [3, 4] (fun s r wr => ∃ (S : List UInt8) (v : Nat), v ≤ u ∧ s = .string ⟨S.toArray⟩ ∧ r = .int .i64 v ∧ Hid (Lib.decDigits v ++ S = Lib.decDigits u) ∧ Below w.heap.size w wr) (fun _ r _ => (intOf r).toNat)
  case atStart => exact ⟨[], u, Nat.le_refl _, rfl, rfl, (show Lib.decDigits u ++ [] = Lib.decDigits u by simp), Below.refl _ _⟩
  case round =>
    obtain ⟨S, v, hv, rfl, rfl, hS, hB⟩ := hrel
    obtain ⟨q, eq⟩ : ∃ q : Nat, Hid (v % 10 = q) := ⟨_, rfl⟩
    obtain ⟨t, et⟩ : ∃ t : Nat, Hid (v / 10 = t) := ⟨_, rfl⟩
    have hq : q < 10 := by have := eq.out; omega
    have hm : (v : Int) % 10 = (q : Int) := by have := eq.out; omega
    have hd : (v : Int) / 10 = (t : Int) := by have := et.out; omega
    have lS : S.length ≤ 21 := by
      have h1 := congrArg List.length hS.out
      have h2 := HL.out
      simp only [List.length_append] at h1
      omega
    obtain ⟨c, ec⟩ : ∃ c : UInt8, Hid (UInt8.ofNat (48 + q) = c) := ⟨_, rfl⟩
    have x1 : ∀ W : World, (Op.stringOp .add (hexS.extract q (q + 1)) ⟨S.toArray⟩).run Tryz.prog W = .ok (.string ⟨(c :: S).toArray⟩) W := fun W => by
      rw [run_string_add_sum W _ _ (by
        rw [dig_ext q hq]
        have e1 : (⟨#[UInt8.ofNat (48 + q)]⟩ : ByteArray).size = 1 := rfl
        have e2 : (⟨S.toArray⟩ : ByteArray).size = S.length := by show S.toArray.size = _; simp
        omega), dig_ext q hq, ec.out]
      first | rfl | (congr 2; apply ByteArray.ext; simp)
    by_cases ht : t = 0
    · have hE : Hid (c :: S = Lib.decDigits u) := by
        have h1 := hS.out
        rw [dec_last v (by have := et.out; omega), eq.out, ec.out] at h1
        exact h1
      clear hS eq et HL
      subst ht
      rw [hE.out] at x1
      go_wp2
      go_ret
      exact ⟨rfl, hB⟩
    · have ht' : ((t : Int) == 0) = false := by simp; omega
      have hE : Hid (Lib.decDigits t ++ (c :: S) = Lib.decDigits u) := by
        have h1 := hS.out
        rw [dec_more v (by have := et.out; omega), eq.out, et.out, ec.out, List.append_assoc] at h1
        exact h1
      have hlt : t < v := by have := et.out; omega
      clear hS eq et HL
      go_wp2
      exact ⟨⟨_, t, by omega, rfl, rfl, hE, hB⟩, by simp [intOf]; omega⟩

set_option maxRecDepth 100000 in
set_option maxHeartbeats 1000000 in
theorem ddec_neg (u : Nat) (w : World) (h2 : u ≤ 9223372036854775808) (h0 : 0 < u) (hl : (Lib.decDigits u).length ≤ 21) :
    Calls Tryz.prog 28 #[.int .i64 (-(u : Int))] w fun e w' => e = .returned (.string ⟨(45 :: Lib.decDigits u).toArray⟩) ∧ Below w.heap.size w w' := by
  have HL : Hid ((Lib.decDigits u).length ≤ 21) := hl
  clear hl
  go_enter Tryz.func28, Tryz.ntmps28
  go_wp2
  go_loopw [3, 4] (fun s r wr => ∃ (S : List UInt8) (v : Nat), v ≤ u ∧ s = .string ⟨S.toArray⟩ ∧ r = .int .i64 (-(v : Int)) ∧ Hid (Lib.decDigits v ++ S = Lib.decDigits u) ∧ Below w.heap.size w wr) (fun _ r _ => (intOf r).natAbs)
  case atStart => exact ⟨[], u, Nat.le_refl _, rfl, rfl, (show Lib.decDigits u ++ [] = Lib.decDigits u by simp), Below.refl _ _⟩
  case round =>
    obtain ⟨S, v, hv, rfl, rfl, hS, hB⟩ := hrel
    obtain ⟨q, eq⟩ : ∃ q : Nat, Hid (v % 10 = q) := ⟨_, rfl⟩
    obtain ⟨t, et⟩ : ∃ t : Nat, Hid (v / 10 = t) := ⟨_, rfl⟩
    have hq : q < 10 := by have := eq.out; omega
    have hm : (-(v : Int)).tmod 10 = -(q : Int) := by rw [Int.neg_tmod]; have := eq.out; rw [← this]; rfl
    have hd : (-(v : Int)).tdiv 10 = -(t : Int) := by rw [Int.neg_tdiv]; have := et.out; rw [← this]; rfl
    have lS : S.length ≤ 21 := by
      have h1 := congrArg List.length hS.out
      have h2 := HL.out
      simp only [List.length_append] at h1
      omega
    obtain ⟨c, ec⟩ : ∃ c : UInt8, Hid (UInt8.ofNat (48 + q) = c) := ⟨_, rfl⟩
    have x1 : ∀ W : World, (Op.stringOp .add (hexS.extract q (q + 1)) ⟨S.toArray⟩).run Tryz.prog W = .ok (.string ⟨(c :: S).toArray⟩) W := fun W => by
      rw [run_string_add_sum W _ _ (by
        rw [dig_ext q hq]
        have e1 : (⟨#[UInt8.ofNat (48 + q)]⟩ : ByteArray).size = 1 := rfl
        have e2 : (⟨S.toArray⟩ : ByteArray).size = S.length := by show S.toArray.size = _; simp
        omega), dig_ext q hq, ec.out]
      first | rfl | (congr 2; apply ByteArray.ext; simp)
    have z1 : ∀ W : World, (Op.stringOp .add ⟨#[45]⟩ ⟨(Lib.decDigits u).toArray⟩).run Tryz.prog W = .ok (.string ⟨(45 :: Lib.decDigits u).toArray⟩) W := fun W => by
      rw [run_string_add_sum W _ _ (by
        have e1 : (⟨#[45]⟩ : ByteArray).size = 1 := rfl
        have e2 : (⟨(Lib.decDigits u).toArray⟩ : ByteArray).size = (Lib.decDigits u).length := by show (Lib.decDigits u).toArray.size = _; simp
        have := HL.out
        omega)]
      first | rfl | (congr 2; apply ByteArray.ext; simp)
    by_cases ht : t = 0
    · have hE : Hid (c :: S = Lib.decDigits u) := by
        have h1 := hS.out
        rw [dec_last v (by have := et.out; omega), eq.out, ec.out] at h1
        exact h1
      clear hS eq et HL
      subst ht
      have hn : -(u : Int) < 0 := by omega
      rw [hE.out] at x1
      by_cases hq0 : q = 0
      · subst hq0
        go_wp2
        go_ret
        exact ⟨rfl, hB⟩
      · have hq1 : -(q : Int) < 0 := by omega
        go_wp2
        go_ret
        exact ⟨rfl, hB⟩
    · have ht' : ((t : Int) == 0) = false := by simp; omega
      have hE : Hid (Lib.decDigits t ++ (c :: S) = Lib.decDigits u) := by
        have h1 := hS.out
        rw [dec_more v (by have := et.out; omega), eq.out, et.out, ec.out, List.append_assoc] at h1
        exact h1
      have hlt : t < v := by have := et.out; omega
      clear hS eq et HL z1
      have ht2 : (-(t : Int) == 0) = false := by simp; omega
      by_cases hq0 : q = 0
      · subst hq0
        go_wp2
        exact ⟨⟨_, t, by omega, rfl, rfl, hE, hB⟩, by simp [intOf]; omega⟩
      · have hq1 : -(q : Int) < 0 := by omega
        go_wp2
        exact ⟨⟨_, t, by omega, rfl, rfl, hE, hB⟩, by simp [intOf]; omega⟩

theorem ddec_any (n : Int) (w : World) (h1 : -9223372036854775808 ≤ n) (h2 : n ≤ 9223372036854775807) :
    Calls Tryz.prog 28 #[.int .i64 n] w fun e w' => e = .returned (.string ⟨(Lib.itoa n).toArray⟩) ∧ Below w.heap.size w w' := by
  have hl := Lib.itoa_length_le n h1 h2
  by_cases hn : n < 0
  · unfold Lib.itoa at hl ⊢
    rw [if_pos hn] at hl ⊢
    have h := ddec_neg n.natAbs w (by omega) (by omega) (by simp at hl; omega)
    rwa [show -((n.natAbs : Nat) : Int) = n by omega] at h
  · unfold Lib.itoa at hl ⊢
    rw [if_neg hn] at hl ⊢
    have h := ddec_pos n.toNat w (by omega) hl
    rwa [show ((n.toNat : Nat) : Int) = n by omega] at h

end Go.Proofs.YtedoahibceeklabGreatDoor

namespace Go.Proofs.YtedoahibceeklabGreatDoor
open Go.RowKit Go.Shelf
set_option linter.unusedVariables false

theorem step_append_own {P : Program} {ops : Array Oper} {o : Oper} {a : Act} {w : World} {K : Act → World → Prop} {Q : Exit → Act → World → Prop} {E : Prop}
    (hg : o.guard = none) (s x : Operand) (t : TypeId) (ho : o.op = Op.call { callee := Callee.builtin Builtin.append, args := #[s, x], argTypes := #[t, t] })
    (base : Nat) (e : TypeId) (i : TypeInfo) (z : Value) (size bytes : Nat) (ht : P.underlying t = some (.slice e)) (hi : P.info? e = some i) (hz : i.zero = some z) (hsize : i.size = size) (hby : i.bytes = bytes) (hzs : z.cells.size = size) (hsz : 0 < size)
    (v : Value) (n : Nat) (xs : List Value) (hs : a.eval s = v) (hown : w.ownsRow base e size v n xs)
    (ad : Addr) (m c : Nat) (news : List Value) (hx : a.eval x = .slice (some ad) m c) (hl : news.length = m * size) (hnews : ∀ j u, news[j]? = some u → w.cell? (ad.add j) = some u) (h1 : ∀ u ∈ news, u.oneCell' = true)
    (h63 : n + m ≤ maxLen) (hbytes : (n + m) * bytes ≤ 140737488355328) (hbase : base ≤ w.heap.size)
    (h : ∀ v' w', w'.ownsRow base e size v' (n + m) (xs ++ news) → w.grownBy w' v.ownBlock → K (a.put o.dst v') w') :
    if Region.wanted o (yielded ops a.tmps) = true then Oper.wp P o a w K Q else E := by
  have hw : Region.wanted o (yielded ops a.tmps) = true := by simp [Region.wanted, hg]
  rw [if_pos hw]
  exact wp_append_own w s x t ho base e i z size bytes ht hi hz hsize hby hzs hsz v n xs hs hown ad m c news hx hl hnews h1 h63 hbytes hbase fun v' w' h2 h3 _ => h v' w' h2 h3

/-- The bytes that a slice of the call's own holds. -/
def Own (B : Nat) (v : Value) (L : List UInt8) (w : World) : Prop := w.ownsRow B 5 1 v L.length (Lib.byteCells L)
theorem own_more {B : Nat} {v' : Value} {L M : List UInt8} {w' : World} {m : Nat} (h : w'.ownsRow B 5 1 v' (L.length + m) (Lib.byteCells L ++ Lib.byteCells M)) (hm : m = M.length) : Own B v' (L ++ M) w' := by
  unfold Own
  subst hm
  have e1 : Lib.byteCells (L ++ M) = Lib.byteCells L ++ Lib.byteCells M := by simp [Lib.byteCells]
  rw [e1, List.length_append]
  exact h
theorem one_cells (L : List UInt8) : ∀ u ∈ Lib.byteCells L, u.oneCell' = true := by
  intro u hu
  simp [Lib.byteCells] at hu
  obtain ⟨c, _, rfl⟩ := hu
  rfl

set_option maxHeartbeats 4000000 in
set_option maxRecDepth 100000 in
theorem dquote_any (s : ByteArray) (w : World) (hs : s.size ≤ 35184372088830) :
    Calls Tryz.prog 29 #[.string s] w fun e w' => e = .returned (.string ⟨(quoted s.data.toList).toArray⟩) ∧ Below w.heap.size w w' := by
  obtain ⟨i0, hi, hz0, hz1, hz2⟩ := info_parts inB
  go_enter Tryz.func29, Tryz.ntmps29
  go_wp2
  go_loopw [3, 4] (fun b i wr => ∃ k : Nat, k ≤ s.size ∧ i = .int .i64 k ∧ Hid (Own w.heap.size b (34 :: inside (s.data.toList.take k)) wr) ∧ Below w.heap.size w wr) (fun _ i _ => s.size - (intOf i).toNat)
  case atStart => exact ⟨0, by omega, rfl, World.ownsRow_lit w #[.int .u8 34] 1 (Nat.le_refl _) (by decide) rfl, by go_grown⟩
  case round =>
    obtain ⟨k, hk, rfl, hI, hB⟩ := hrel
    have hsz := hB.size
    have hbk : ∀ q, u3.ownBlock = some q → w.heap.size ≤ q := fun q hq => (World.ownsRow.lt hI.out q hq).1
    have HK : Hid (∀ q, u3.ownBlock = some q → w.heap.size ≤ q) := hbk
    clear hbk
    by_cases hke : k = s.size
    · subst hke
      have e0 : s.data.toList.take s.size = s.data.toList := List.take_of_length_le (by simp)
      rw [e0] at hI
      have hl := inside_len s.data.toList
      have hl2 : s.data.toList.length = s.size := by simp
      have hbd : (34 :: inside s.data.toList).length + 1 ≤ 140737488355328 := by simp; omega
      clear hl hl2
      go_wp2_with (at_builtin; refine wpList_append_own _ rfl (.tmp 47) (.tmp 48) 66 rfl w.heap.size 5 i0 (.int .u8 0) 1 1 Tryz.underlying66 hi hz0 hz1 hz2 rfl (by decide) _ _ _ rfl (World.ownsRow.alloc hI.out _) ⟨wr.heap.size, 0, none⟩ 1 1 [.int .u8 34] rfl rfl ?c1 ?c2 (by unfold maxLen; omega) (by omega) (by simp; omega) ?grow)
      case c1 => (intro j u hj; rw [Addr.add_lit]; (rcases j with _ | _ | _ | _ | j) <;> simp at hj <;> subst hj <;> simp (maxDischargeDepth := 12) [go_sem])
      case c2 => (intro u hu; simp at hu; (first | (rcases hu with rfl | rfl) | subst hu) <;> rfl)
      case grow =>
        intro v' w2 h2 h3 _
        have o2 : Own w.heap.size v' (quoted s.data.toList) w2 := own_more (M := [34]) h2 rfl
        have K2 : Below w.heap.size w w2 := Below.grown (hB.alloc hsz _) h3 (by simp; omega) HK.out
        clear h2 h3 hI
        obtain ⟨hl, hv | ⟨g, cap, cur, rfl, hg1, hg2, hg3, hg4, hg5, hg6⟩⟩ := o2
        · exfalso; have := hv.2; simp [quoted] at this
        have hown : w2.ownsRow w.heap.size 5 1 (.slice (some ⟨g, 0, none⟩) (quoted s.data.toList).length cap) (quoted s.data.toList).length (Lib.byteCells (quoted s.data.toList)) := ⟨hl, Or.inr ⟨g, cap, cur, rfl, hg1, hg2, hg3, hg4, hg5, hg6⟩⟩
        have cv : (convert 66 9 (.slice (some ⟨g, 0, none⟩) (quoted s.data.toList).length cap)).run Tryz.prog w2 = .ok (.string ⟨(quoted s.data.toList).toArray⟩) w2 := run_convert_bytes_back w2 66 9 5 ⟨g, 0, none⟩ cap (quoted s.data.toList) Tryz.underlying66 Tryz.underlying5 Tryz.underlying9 (fun j hj => by
          rw [Addr.add_lit, Nat.zero_add, hown.cellAt j (by omega)]
          simp [Lib.byteCells, List.getElem?_eq_getElem hj])
        clear hg1 hg2 hg3 hg4 hg5 hg6 hown hl
        go_wp2
        go_ret
        exact ⟨rfl, K2⟩
    · have hk' : (k : Int) < s.size := by omega
      have hkk : k < s.size := by omega
      have hstep := inside_take s k hkk
      have hl := inside_len (s.data.toList.take k)
      have hl2 : (s.data.toList.take k).length ≤ k := by simp; omega
      have hbd : (34 :: inside (s.data.toList.take k)).length + 4 ≤ 140737488355328 := by simp; omega
      have HS : Hid (inside (s.data.toList.take (k + 1)) = inside (s.data.toList.take k) ++ esc s[k]) := hstep
      clear hstep hl hl2
      have hu : s[k].toNat < 256 := s[k].toNat_lt
      obtain ⟨c, hc⟩ : ∃ c : UInt8, s[k] = c := ⟨_, rfl⟩
      rw [hc] at hu
      rw [hc] at HS
      by_cases a1 : (c.toNat : Int) = 34 ∨ (c.toNat : Int) = 92
      · have he : Hid (esc c = [92, c]) := by unfold Hid esc; rw [if_pos (by omega)]
        have a1' : c.toNat = 34 ∨ c.toNat = 92 := by omega
        clear a1
        have a2 : ((c.toNat : Int) == 34) = true ∨ (((c.toNat : Int) == 34) = false ∧ ((c.toNat : Int) == 92) = true) := by rcases a1' with h | h <;> simp [h]
        clear a1'
        rcases a2 with a2 | ⟨a2, a3⟩
        · go_wp2_with (at_builtin; refine wpList_append_own _ rfl (.tmp 32) (.tmp 34) 66 rfl w.heap.size 5 i0 (.int .u8 0) 1 1 Tryz.underlying66 hi hz0 hz1 hz2 rfl (by decide) _ _ _ rfl (World.ownsRow.alloc hI.out _) ⟨wr.heap.size, 0, none⟩ 2 2 [.int .u8 92, .int .u8 c.toNat] rfl rfl ?c1 ?c2 (by unfold maxLen; omega) (by omega) (by simp; omega) ?grow)
          case c1 => (intro j u hj; rw [Addr.add_lit]; (rcases j with _ | _ | _ | _ | j) <;> simp at hj <;> subst hj <;> simp (maxDischargeDepth := 12) [go_sem])
          case c2 => (intro u hu; simp at hu; (first | (rcases hu with rfl | rfl) | subst hu) <;> rfl)
          case grow =>
            intro v' w2 h2 h3 _
            have o2 : Hid (Own w.heap.size v' (34 :: inside (s.data.toList.take (k + 1))) w2) := by
              rw [HS.out, he.out, ← List.cons_append]
              exact own_more (M := [92, c]) h2 rfl
            have K2 : Below w.heap.size w w2 := Below.grown (hB.alloc hsz _) h3 (by simp; omega) HK.out
            clear h2 h3 hI HK he HS
            go_wp2
            exact ⟨⟨k + 1, by omega, by simp, o2, K2⟩, by simp [intOf]; omega⟩
        · go_wp2_with (at_builtin; refine wpList_append_own _ rfl (.tmp 32) (.tmp 34) 66 rfl w.heap.size 5 i0 (.int .u8 0) 1 1 Tryz.underlying66 hi hz0 hz1 hz2 rfl (by decide) _ _ _ rfl (World.ownsRow.alloc hI.out _) ⟨wr.heap.size, 0, none⟩ 2 2 [.int .u8 92, .int .u8 c.toNat] rfl rfl ?c1 ?c2 (by unfold maxLen; omega) (by omega) (by simp; omega) ?grow)
          case c1 => (intro j u hj; rw [Addr.add_lit]; (rcases j with _ | _ | _ | _ | j) <;> simp at hj <;> subst hj <;> simp (maxDischargeDepth := 12) [go_sem])
          case c2 => (intro u hu; simp at hu; (first | (rcases hu with rfl | rfl) | subst hu) <;> rfl)
          case grow =>
            intro v' w2 h2 h3 _
            have o2 : Hid (Own w.heap.size v' (34 :: inside (s.data.toList.take (k + 1))) w2) := by
              rw [HS.out, he.out, ← List.cons_append]
              exact own_more (M := [92, c]) h2 rfl
            have K2 : Below w.heap.size w w2 := Below.grown (hB.alloc hsz _) h3 (by simp; omega) HK.out
            clear h2 h3 hI HK he HS
            go_wp2
            exact ⟨⟨k + 1, by omega, by simp, o2, K2⟩, by simp [intOf]; omega⟩
      · have a2 : ((c.toNat : Int) == 34) = false := by simp; omega
        have a3 : ((c.toNat : Int) == 92) = false := by simp; omega
        by_cases a4 : 32 ≤ (c.toNat : Int) ∧ (c.toNat : Int) ≤ 126
        · have he : Hid (esc c = [c]) := by unfold Hid esc; rw [if_neg (by omega), if_pos (by omega)]
          obtain ⟨a5, a6⟩ := a4
          clear a1
          go_wp2_with (at_builtin; refine wpList_append_own _ rfl (.tmp 43) (.tmp 45) 66 rfl w.heap.size 5 i0 (.int .u8 0) 1 1 Tryz.underlying66 hi hz0 hz1 hz2 rfl (by decide) _ _ _ rfl (World.ownsRow.alloc hI.out _) ⟨wr.heap.size, 0, none⟩ 1 1 [.int .u8 c.toNat] rfl rfl ?c1 ?c2 (by unfold maxLen; omega) (by omega) (by simp; omega) ?grow)
          case c1 => (intro j u hj; rw [Addr.add_lit]; (rcases j with _ | _ | _ | _ | j) <;> simp at hj <;> subst hj <;> simp (maxDischargeDepth := 12) [go_sem])
          case c2 => (intro u hu; simp at hu; (first | (rcases hu with rfl | rfl) | subst hu) <;> rfl)
          case grow =>
            intro v' w2 h2 h3 _
            have o2 : Hid (Own w.heap.size v' (34 :: inside (s.data.toList.take (k + 1))) w2) := by
              rw [HS.out, he.out, ← List.cons_append]
              exact own_more (M := [c]) h2 rfl
            have K2 : Below w.heap.size w w2 := Below.grown (hB.alloc hsz _) h3 (by simp; omega) HK.out
            clear h2 h3 hI HK he HS
            go_wp2
            exact ⟨⟨k + 1, by omega, by simp, o2, K2⟩, by simp [intOf]; omega⟩
        · have he : Hid (esc c = [92, 120, hexd (c.toNat / 16), hexd (c.toNat % 16)]) := by unfold Hid esc; rw [if_neg (by omega), if_neg (by omega)]
          have a5 : (32 ≤ (c.toNat : Int)) = False ∨ ((32 ≤ (c.toNat : Int)) = True ∧ ((c.toNat : Int) ≤ 126) = False) := by
            by_cases h : 32 ≤ (c.toNat : Int)
            · right; refine ⟨by simp; omega, by simp; omega⟩
            · left; simp; omega
          clear a1 a4
          obtain ⟨p, ep⟩ : ∃ p : Nat, Hid (c.toNat / 16 = p) := ⟨_, rfl⟩
          obtain ⟨q, eq⟩ : ∃ q : Nat, Hid (c.toNat % 16 = q) := ⟨_, rfl⟩
          have hp : p < 16 := by have := ep.out; omega
          have hq : q < 16 := by have := eq.out; omega
          have xp : (c.toNat : Int) / 16 = (p : Int) := by have := ep.out; omega
          have xq : (c.toNat : Int) % 16 = (q : Int) := by have := eq.out; omega
          rw [ep.out, eq.out] at he
          rcases a5 with a5 | ⟨a5, a6⟩
          · skip
            have yp : IntKind.u8.wrap (p : Int) = (p : Int) := by simp [IntKind.wrap, IntKind.bits, IntKind.signed]; omega
            have yq : (c.toNat : Int).tmod 16 = (q : Int) := by rw [Int.tmod_eq_emod_of_nonneg (by omega)]; exact xq
            have hp2 : (p : Int) < 16 := by omega
            have hq2 : (q : Int) < 16 := by omega
            have tp := hex_tab p hp
            have tq := hex_tab q hq
            go_upto_region 6 with fail
            refine wp_region_held_drew (S := fun _ => True) (by kernel_rfl) trivial (fun hHeld => ?_)
            refine wpAnyH_take (i := 0) (oi := ({ dst := some 16, op := Op.move (Operand.tmp 3), type := 66, pos := "ref.go:191", after := #[], guard := none } : Oper)) (v := ?yvq0A) rfl (by kernel_rfl) (by kernel_rfl) (by kernel_rfl) (fun _ _ _ h => h) (Or.inl ⟨by rfl, ?yhq0A⟩) (by assumption) ?yrq0A
            case yhq0A => (intro wq hSw; (try dsimp only at hSw); go_simp; first | done | with_reducible rfl)
            try simp only [Act.put, List.setIfInBounds_toArray, List.set_cons_zero, List.set_cons_succ]
            refine wpAnyH_take (i := 1) (oi := ({ dst := some 17, op := Op.move (Operand.tmp 5), type := 5, pos := "ref.go:191", after := #[], guard := none } : Oper)) (v := ?yvq1A) rfl (by kernel_rfl) (by kernel_rfl) (by kernel_rfl) (fun _ _ _ h => h) (Or.inl ⟨by rfl, ?yhq1A⟩) (by assumption) ?yrq1A
            case yhq1A => (intro wq hSw; (try dsimp only at hSw); go_simp; first | done | with_reducible rfl)
            try simp only [Act.put, List.setIfInBounds_toArray, List.set_cons_zero, List.set_cons_succ]
            refine wpAnyH_take (i := 2) (oi := ({ dst := some 18, op := Op.binOp BinOp.quo 5 (Operand.tmp 17) (Operand.const (Value.int IntKind.u8 16)) 5, type := 5, pos := "ref.go:191", after := #[{ on := 1, ground := Ground.data }], guard := none } : Oper)) (v := ?yvq2A) rfl (by kernel_rfl) (by kernel_rfl) (by kernel_rfl) (fun _ _ _ h => h) (Or.inl ⟨by rfl, ?yhq2A⟩) (by assumption) ?yrq2A
            case yhq2A => (intro wq hSw; (try dsimp only at hSw); go_simp; first | done | with_reducible rfl)
            try simp only [Act.put, List.setIfInBounds_toArray, List.set_cons_zero, List.set_cons_succ]
            refine wpAnyH_take (i := 3) (oi := ({ dst := some 19, op := Op.index 9 (Operand.const (Value.string { data := #[48, 49, 50, 51, 52, 53, 54, 55, 56, 57, 97, 98, 99, 100, 101, 102] })) (Operand.tmp 18), type := 5, pos := "ref.go:191", after := #[{ on := 2, ground := Ground.data }], guard := none } : Oper)) (v := ?yvq3A) rfl (by kernel_rfl) (by kernel_rfl) (by kernel_rfl) (fun _ _ _ h => h) (Or.inl ⟨by rfl, ?yhq3A⟩) (by assumption) ?yrq3A
            case yhq3A => (intro wq hSw; (try dsimp only at hSw); go_simp; first | done | with_reducible rfl)
            try simp only [Act.put, List.setIfInBounds_toArray, List.set_cons_zero, List.set_cons_succ]
            refine wpAnyH_take (i := 4) (oi := ({ dst := some 20, op := Op.move (Operand.tmp 5), type := 5, pos := "ref.go:191", after := #[], guard := none } : Oper)) (v := ?yvq4A) rfl (by kernel_rfl) (by kernel_rfl) (by kernel_rfl) (fun _ _ _ h => h) (Or.inl ⟨by rfl, ?yhq4A⟩) (by assumption) ?yrq4A
            case yhq4A => (intro wq hSw; (try dsimp only at hSw); go_simp; first | done | with_reducible rfl)
            try simp only [Act.put, List.setIfInBounds_toArray, List.set_cons_zero, List.set_cons_succ]
            refine wpAnyH_take (i := 5) (oi := ({ dst := some 21, op := Op.binOp BinOp.rem 5 (Operand.tmp 20) (Operand.const (Value.int IntKind.u8 16)) 5, type := 5, pos := "ref.go:191", after := #[{ on := 4, ground := Ground.data }], guard := none } : Oper)) (v := ?yvq5A) rfl (by kernel_rfl) (by kernel_rfl) (by kernel_rfl) (fun _ _ _ h => h) (Or.inl ⟨by rfl, ?yhq5A⟩) (by assumption) ?yrq5A
            case yhq5A => (intro wq hSw; (try dsimp only at hSw); go_simp; first | done | with_reducible rfl)
            try simp only [Act.put, List.setIfInBounds_toArray, List.set_cons_zero, List.set_cons_succ]
            refine wpAnyH_take (i := 6) (oi := ({ dst := some 22, op := Op.index 9 (Operand.const (Value.string { data := #[48, 49, 50, 51, 52, 53, 54, 55, 56, 57, 97, 98, 99, 100, 101, 102] })) (Operand.tmp 21), type := 5, pos := "ref.go:191", after := #[{ on := 5, ground := Ground.data }], guard := none } : Oper)) (v := ?yvq6A) rfl (by kernel_rfl) (by kernel_rfl) (by kernel_rfl) (fun _ _ _ h => h) (Or.inl ⟨by rfl, ?yhq6A⟩) (by assumption) ?yrq6A
            case yhq6A => (intro wq hSw; (try dsimp only at hSw); go_simp; first | done | with_reducible rfl)
            try simp only [Act.put, List.setIfInBounds_toArray, List.set_cons_zero, List.set_cons_succ]
            refine wpAnyH_ready (rs := [7]) (by kernel_rfl) (by simp) ?_
            refine AllReadyH.cons (o := ({ dst := some 23, op := Op.buildSlice 66 4 #[(0, Operand.const (Value.int IntKind.u8 92)), (1, Operand.const (Value.int IntKind.u8 120)), (2, Operand.tmp 19), (3, Operand.tmp 22)], type := 66, pos := "ref.go:191", after := #[{ on := 3, ground := Ground.data }, { on := 6, ground := Ground.data }], guard := none } : Oper)) rfl (fun K hK => ?_) AllReadyH.nil
            go_simp
            refine hK.out _ _ trivial (fun hHeld => ?_)
            clear hK K
            try simp only [Act.put, List.setIfInBounds_toArray, List.set_cons_zero, List.set_cons_succ]
            refine wpAnyH_ready (rs := [8]) (by kernel_rfl) (by simp) ?_
            refine AllReadyH.cons (o := ({ dst := some 24, op := Op.call { callee := Callee.builtin Builtin.append, args := #[Operand.tmp 16, Operand.tmp 23], argTypes := #[66, 66] }, type := 66, pos := "ref.go:191", after := #[{ on := 0, ground := Ground.data }, { on := 7, ground := Ground.data }], guard := none } : Oper)) rfl (fun K hK => ?_) AllReadyH.nil
            refine step_append_own rfl (.tmp 16) (.tmp 23) 66 rfl w.heap.size 5 i0 (.int .u8 0) 1 1 Tryz.underlying66 hi hz0 hz1 hz2 rfl (by decide) u3 _ _ (by simp [Act.eval]) (World.ownsRow.alloc (World.ownsRow.drew hI.out) _) ⟨wr.heap.size, 0, none⟩ 4 4 [.int .u8 92, .int .u8 120, .int .u8 (hexd p).toNat, .int .u8 (hexd q).toNat] (by simp [Act.eval]) rfl ?c1A ?c2A (by unfold maxLen; omega) (by omega) (by simp; omega) (fun v' w2 h2 h3 => ?_)
            case c1A => (intro j u hj; rw [Addr.add_lit]; (rcases j with _ | _ | _ | _ | j) <;> simp at hj <;> subst hj <;> simp (maxDischargeDepth := 12) [go_sem])
            case c2A => (intro u hu; simp at hu; (rcases hu with rfl | rfl | rfl | rfl) <;> rfl)
            refine hK.out _ _ trivial (fun hHeld => ?_)
            clear hK K
            try simp only [Act.put, List.setIfInBounds_toArray, List.set_cons_zero, List.set_cons_succ]
            refine wpAnyH_take (i := 9) (oi := ({ dst := some 3, op := Op.assign (Operand.tmp 24), type := 66, pos := "ref.go:191", after := #[{ on := 8, ground := Ground.data }, { on := 8, ground := Ground.chain }, { on := 0, ground := Ground.phase }, { on := 1, ground := Ground.phase }, { on := 2, ground := Ground.phase }, { on := 3, ground := Ground.phase }, { on := 4, ground := Ground.phase }, { on := 5, ground := Ground.phase }, { on := 6, ground := Ground.phase }, { on := 7, ground := Ground.phase }, { on := 8, ground := Ground.phase }], guard := none } : Oper)) (v := ?yvq9A) rfl (by kernel_rfl) (by kernel_rfl) (by kernel_rfl) (fun _ _ _ h => h) (Or.inl ⟨by rfl, ?yhq9A⟩) (by assumption) ?yrq9A
            case yhq9A => (intro wq hSw; (try dsimp only at hSw); go_simp; first | done | with_reducible rfl)
            try simp only [Act.put, List.setIfInBounds_toArray, List.set_cons_zero, List.set_cons_succ]
            refine wpAnyH_done (by kernel_rfl) ?_ _
            have o2 : Hid (Own w.heap.size v' (34 :: inside (s.data.toList.take (k + 1))) w2) := by
              rw [HS.out, he.out, ← List.cons_append]
              exact own_more (M := [92, 120, hexd p, hexd q]) h2 rfl
            have K2 : Below w.heap.size w w2 := Below.grown (hB.drew.alloc (by simpa using hsz) _) h3 (by simp; omega) HK.out
            clear h2 h3 hI HK he HS
            (try go_wp2)
            exact ⟨⟨k + 1, by omega, by simp, o2, K2⟩, by simp [intOf]; omega⟩
          · skip
            have yp : IntKind.u8.wrap (p : Int) = (p : Int) := by simp [IntKind.wrap, IntKind.bits, IntKind.signed]; omega
            have yq : (c.toNat : Int).tmod 16 = (q : Int) := by rw [Int.tmod_eq_emod_of_nonneg (by omega)]; exact xq
            have hp2 : (p : Int) < 16 := by omega
            have hq2 : (q : Int) < 16 := by omega
            have tp := hex_tab p hp
            have tq := hex_tab q hq
            go_upto_region 6 with fail
            refine wp_region_held_drew (S := fun _ => True) (by kernel_rfl) trivial (fun hHeld => ?_)
            refine wpAnyH_take (i := 0) (oi := ({ dst := some 16, op := Op.move (Operand.tmp 3), type := 66, pos := "ref.go:191", after := #[], guard := none } : Oper)) (v := ?yvq0B) rfl (by kernel_rfl) (by kernel_rfl) (by kernel_rfl) (fun _ _ _ h => h) (Or.inl ⟨by rfl, ?yhq0B⟩) (by assumption) ?yrq0B
            case yhq0B => (intro wq hSw; (try dsimp only at hSw); go_simp; first | done | with_reducible rfl)
            try simp only [Act.put, List.setIfInBounds_toArray, List.set_cons_zero, List.set_cons_succ]
            refine wpAnyH_take (i := 1) (oi := ({ dst := some 17, op := Op.move (Operand.tmp 5), type := 5, pos := "ref.go:191", after := #[], guard := none } : Oper)) (v := ?yvq1B) rfl (by kernel_rfl) (by kernel_rfl) (by kernel_rfl) (fun _ _ _ h => h) (Or.inl ⟨by rfl, ?yhq1B⟩) (by assumption) ?yrq1B
            case yhq1B => (intro wq hSw; (try dsimp only at hSw); go_simp; first | done | with_reducible rfl)
            try simp only [Act.put, List.setIfInBounds_toArray, List.set_cons_zero, List.set_cons_succ]
            refine wpAnyH_take (i := 2) (oi := ({ dst := some 18, op := Op.binOp BinOp.quo 5 (Operand.tmp 17) (Operand.const (Value.int IntKind.u8 16)) 5, type := 5, pos := "ref.go:191", after := #[{ on := 1, ground := Ground.data }], guard := none } : Oper)) (v := ?yvq2B) rfl (by kernel_rfl) (by kernel_rfl) (by kernel_rfl) (fun _ _ _ h => h) (Or.inl ⟨by rfl, ?yhq2B⟩) (by assumption) ?yrq2B
            case yhq2B => (intro wq hSw; (try dsimp only at hSw); go_simp; first | done | with_reducible rfl)
            try simp only [Act.put, List.setIfInBounds_toArray, List.set_cons_zero, List.set_cons_succ]
            refine wpAnyH_take (i := 3) (oi := ({ dst := some 19, op := Op.index 9 (Operand.const (Value.string { data := #[48, 49, 50, 51, 52, 53, 54, 55, 56, 57, 97, 98, 99, 100, 101, 102] })) (Operand.tmp 18), type := 5, pos := "ref.go:191", after := #[{ on := 2, ground := Ground.data }], guard := none } : Oper)) (v := ?yvq3B) rfl (by kernel_rfl) (by kernel_rfl) (by kernel_rfl) (fun _ _ _ h => h) (Or.inl ⟨by rfl, ?yhq3B⟩) (by assumption) ?yrq3B
            case yhq3B => (intro wq hSw; (try dsimp only at hSw); go_simp; first | done | with_reducible rfl)
            try simp only [Act.put, List.setIfInBounds_toArray, List.set_cons_zero, List.set_cons_succ]
            refine wpAnyH_take (i := 4) (oi := ({ dst := some 20, op := Op.move (Operand.tmp 5), type := 5, pos := "ref.go:191", after := #[], guard := none } : Oper)) (v := ?yvq4B) rfl (by kernel_rfl) (by kernel_rfl) (by kernel_rfl) (fun _ _ _ h => h) (Or.inl ⟨by rfl, ?yhq4B⟩) (by assumption) ?yrq4B
            case yhq4B => (intro wq hSw; (try dsimp only at hSw); go_simp; first | done | with_reducible rfl)
            try simp only [Act.put, List.setIfInBounds_toArray, List.set_cons_zero, List.set_cons_succ]
            refine wpAnyH_take (i := 5) (oi := ({ dst := some 21, op := Op.binOp BinOp.rem 5 (Operand.tmp 20) (Operand.const (Value.int IntKind.u8 16)) 5, type := 5, pos := "ref.go:191", after := #[{ on := 4, ground := Ground.data }], guard := none } : Oper)) (v := ?yvq5B) rfl (by kernel_rfl) (by kernel_rfl) (by kernel_rfl) (fun _ _ _ h => h) (Or.inl ⟨by rfl, ?yhq5B⟩) (by assumption) ?yrq5B
            case yhq5B => (intro wq hSw; (try dsimp only at hSw); go_simp; first | done | with_reducible rfl)
            try simp only [Act.put, List.setIfInBounds_toArray, List.set_cons_zero, List.set_cons_succ]
            refine wpAnyH_take (i := 6) (oi := ({ dst := some 22, op := Op.index 9 (Operand.const (Value.string { data := #[48, 49, 50, 51, 52, 53, 54, 55, 56, 57, 97, 98, 99, 100, 101, 102] })) (Operand.tmp 21), type := 5, pos := "ref.go:191", after := #[{ on := 5, ground := Ground.data }], guard := none } : Oper)) (v := ?yvq6B) rfl (by kernel_rfl) (by kernel_rfl) (by kernel_rfl) (fun _ _ _ h => h) (Or.inl ⟨by rfl, ?yhq6B⟩) (by assumption) ?yrq6B
            case yhq6B => (intro wq hSw; (try dsimp only at hSw); go_simp; first | done | with_reducible rfl)
            try simp only [Act.put, List.setIfInBounds_toArray, List.set_cons_zero, List.set_cons_succ]
            refine wpAnyH_ready (rs := [7]) (by kernel_rfl) (by simp) ?_
            refine AllReadyH.cons (o := ({ dst := some 23, op := Op.buildSlice 66 4 #[(0, Operand.const (Value.int IntKind.u8 92)), (1, Operand.const (Value.int IntKind.u8 120)), (2, Operand.tmp 19), (3, Operand.tmp 22)], type := 66, pos := "ref.go:191", after := #[{ on := 3, ground := Ground.data }, { on := 6, ground := Ground.data }], guard := none } : Oper)) rfl (fun K hK => ?_) AllReadyH.nil
            go_simp
            refine hK.out _ _ trivial (fun hHeld => ?_)
            clear hK K
            try simp only [Act.put, List.setIfInBounds_toArray, List.set_cons_zero, List.set_cons_succ]
            refine wpAnyH_ready (rs := [8]) (by kernel_rfl) (by simp) ?_
            refine AllReadyH.cons (o := ({ dst := some 24, op := Op.call { callee := Callee.builtin Builtin.append, args := #[Operand.tmp 16, Operand.tmp 23], argTypes := #[66, 66] }, type := 66, pos := "ref.go:191", after := #[{ on := 0, ground := Ground.data }, { on := 7, ground := Ground.data }], guard := none } : Oper)) rfl (fun K hK => ?_) AllReadyH.nil
            refine step_append_own rfl (.tmp 16) (.tmp 23) 66 rfl w.heap.size 5 i0 (.int .u8 0) 1 1 Tryz.underlying66 hi hz0 hz1 hz2 rfl (by decide) u3 _ _ (by simp [Act.eval]) (World.ownsRow.alloc (World.ownsRow.drew hI.out) _) ⟨wr.heap.size, 0, none⟩ 4 4 [.int .u8 92, .int .u8 120, .int .u8 (hexd p).toNat, .int .u8 (hexd q).toNat] (by simp [Act.eval]) rfl ?c1B ?c2B (by unfold maxLen; omega) (by omega) (by simp; omega) (fun v' w2 h2 h3 => ?_)
            case c1B => (intro j u hj; rw [Addr.add_lit]; (rcases j with _ | _ | _ | _ | j) <;> simp at hj <;> subst hj <;> simp (maxDischargeDepth := 12) [go_sem])
            case c2B => (intro u hu; simp at hu; (rcases hu with rfl | rfl | rfl | rfl) <;> rfl)
            refine hK.out _ _ trivial (fun hHeld => ?_)
            clear hK K
            try simp only [Act.put, List.setIfInBounds_toArray, List.set_cons_zero, List.set_cons_succ]
            refine wpAnyH_take (i := 9) (oi := ({ dst := some 3, op := Op.assign (Operand.tmp 24), type := 66, pos := "ref.go:191", after := #[{ on := 8, ground := Ground.data }, { on := 8, ground := Ground.chain }, { on := 0, ground := Ground.phase }, { on := 1, ground := Ground.phase }, { on := 2, ground := Ground.phase }, { on := 3, ground := Ground.phase }, { on := 4, ground := Ground.phase }, { on := 5, ground := Ground.phase }, { on := 6, ground := Ground.phase }, { on := 7, ground := Ground.phase }, { on := 8, ground := Ground.phase }], guard := none } : Oper)) (v := ?yvq9B) rfl (by kernel_rfl) (by kernel_rfl) (by kernel_rfl) (fun _ _ _ h => h) (Or.inl ⟨by rfl, ?yhq9B⟩) (by assumption) ?yrq9B
            case yhq9B => (intro wq hSw; (try dsimp only at hSw); go_simp; first | done | with_reducible rfl)
            try simp only [Act.put, List.setIfInBounds_toArray, List.set_cons_zero, List.set_cons_succ]
            refine wpAnyH_done (by kernel_rfl) ?_ _
            have o2 : Hid (Own w.heap.size v' (34 :: inside (s.data.toList.take (k + 1))) w2) := by
              rw [HS.out, he.out, ← List.cons_append]
              exact own_more (M := [92, 120, hexd p, hexd q]) h2 rfl
            have K2 : Below w.heap.size w w2 := Below.grown (hB.drew.alloc (by simpa using hsz) _) h3 (by simp; omega) HK.out
            clear h2 h3 hI HK he HS
            (try go_wp2)
            exact ⟨⟨k + 1, by omega, by simp, o2, K2⟩, by simp [intOf]; omega⟩

end Go.Proofs.YtedoahibceeklabGreatDoor

namespace Go.Proofs.YtedoahibceeklabGreatDoor
open Go.RowKit Go.Shelf
set_option linter.unusedVariables false

set_option maxRecDepth 100000 in
set_option maxHeartbeats 2000000 in
theorem dprint_no (k n d : Int) (s : ByteArray) (w : World) (h1 : -9223372036854775808 ≤ n) (h2 : n ≤ 9223372036854775807) (g1 : -9223372036854775808 ≤ d) (g2 : d ≤ 9223372036854775807) (hc1 : (chk k n d s != 0) = true) :
    Calls Tryz.prog 15 #[.agg #[.int .i64 k, .int .i64 n, .int .i64 d, .string s]] w fun e w' => e = .returned (.tuple #[.string ⟨#[]⟩, .int .i64 (chk k n d s)]) ∧ Below w.heap.size w w' := by
  go_enter Tryz.func15, Tryz.ntmps15
  go_wp2_with fail
  refine (rcheck_any k n d s _ h1 h2 g1 g2).mono ?_
  rintro e w1 ⟨rfl, hb⟩
  obtain ⟨hc, hf, hz, hB⟩ := bf (w := w) (by go_grown) hb
  go_wp2
  go_ret2
  exact ⟨rfl, hB⟩

set_option maxRecDepth 100000 in
set_option maxHeartbeats 2000000 in
theorem dprint_1 (n d : Int) (s : ByteArray) (w : World) (h1 : -9223372036854775808 ≤ n) (h2 : n ≤ 9223372036854775807) (g1 : -9223372036854775808 ≤ d) (g2 : d ≤ 9223372036854775807) (c0 : chk 1 n d s = 0) :
    Calls Tryz.prog 15 #[.agg #[.int .i64 1, .int .i64 n, .int .i64 d, .string s]] w fun e w' => e = .returned (.tuple #[.string ⟨(Lib.itoa n).toArray⟩, .int .i64 0]) ∧ Below w.heap.size w w' := by
  go_enter Tryz.func15, Tryz.ntmps15
  go_wp2_with fail
  refine (rcheck_any 1 n d s _ h1 h2 g1 g2).mono ?_
  rintro e w1 ⟨rfl, hb⟩
  obtain ⟨hc, hf, hz, hB⟩ := bf (w := w) (by go_grown) hb
  rw [c0]
  have a1 : w1.cell? ⟨w.heap.size, 0, none⟩ = some (.int .i64 1) := by rw [hc _ _ (by simp)]; simp [go_sem]
  have a2 : w1.cell? ⟨w.heap.size, 1, none⟩ = some (.int .i64 n) := by rw [hc _ _ (by simp)]; simp [go_sem]
  clear hc hf hz hb
  go_wp2_with fail
  refine (ddec_any n _ h1 h2).mono ?_
  rintro e w2 ⟨rfl, hb2⟩
  go_wp2
  go_ret2
  exact ⟨rfl, hB.trans (hb2.mono hB.size)⟩

set_option maxRecDepth 100000 in
set_option maxHeartbeats 2000000 in
theorem dprint_3 (n d : Int) (s : ByteArray) (w : World) (h1 : -9223372036854775808 ≤ n) (h2 : n ≤ 9223372036854775807) (g1 : -9223372036854775808 ≤ d) (g2 : d ≤ 9223372036854775807) (c0 : chk 3 n d s = 0) :
    Calls Tryz.prog 15 #[.agg #[.int .i64 3, .int .i64 n, .int .i64 d, .string s]] w fun e w' => e = .returned (.tuple #[.string ⟨(quoted s.data.toList).toArray⟩, .int .i64 0]) ∧ Below w.heap.size w w' := by
  have hs := chk_size c0
  go_enter Tryz.func15, Tryz.ntmps15
  go_wp2_with fail
  refine (rcheck_any 3 n d s _ h1 h2 g1 g2).mono ?_
  rintro e w1 ⟨rfl, hb⟩
  obtain ⟨hc, hf, hz, hB⟩ := bf (w := w) (by go_grown) hb
  rw [c0]
  have a1 : w1.cell? ⟨w.heap.size, 0, none⟩ = some (.int .i64 3) := by rw [hc _ _ (by simp)]; simp [go_sem]
  have a2 : w1.cell? ⟨w.heap.size, 3, none⟩ = some (.string s) := by rw [hc _ _ (by simp)]; simp [go_sem]
  clear hc hf hz hb
  go_wp2_with fail
  refine (dquote_any s _ (by omega)).mono ?_
  rintro e w2 ⟨rfl, hb2⟩
  go_wp2
  go_ret2
  exact ⟨rfl, hB.trans (hb2.mono hB.size)⟩

set_option maxRecDepth 100000 in
set_option maxHeartbeats 2000000 in
theorem dprint_2 (n d : Int) (s : ByteArray) (w : World) (h1 : -9223372036854775808 ≤ n) (h2 : n ≤ 9223372036854775807) (g1 : -9223372036854775808 ≤ d) (g2 : d ≤ 9223372036854775807) (c0 : chk 2 n d s = 0) :
    Calls Tryz.prog 15 #[.agg #[.int .i64 2, .int .i64 n, .int .i64 d, .string s]] w fun e w' => e = .returned (.tuple #[.string ⟨(Lib.itoa n ++ 47 :: Lib.itoa d).toArray⟩, .int .i64 0]) ∧ Below w.heap.size w w' := by
  go_enter Tryz.func15, Tryz.ntmps15
  go_wp2_with fail
  refine (rcheck_any 2 n d s _ h1 h2 g1 g2).mono ?_
  rintro e W0 ⟨rfl, hb⟩
  obtain ⟨hc, hf, hz, hB⟩ := bf (w := w) (by go_grown) hb
  rw [c0]
  have c3 : W0.cell? ⟨w.heap.size, 0, none⟩ = some (.int .i64 2) := by rw [hc _ _ (by simp)]; simp [go_sem]
  have c1 : W0.cell? ⟨w.heap.size, 1, none⟩ = some (.int .i64 n) := by rw [hc _ _ (by simp)]; simp [go_sem]
  have c2 : W0.cell? ⟨w.heap.size, 2, none⟩ = some (.int .i64 d) := by rw [hc _ _ (by simp)]; simp [go_sem]
  have k1 : w.heap.size < W0.heap.size := by simp at hz; omega
  have k0 : Below w.heap.size w W0 := hB
  clear hc hf hz hb hB
  go_upto_region 8 with fail
  have lA := Lib.itoa_length_le n h1 h2
  have lB := Lib.itoa_length_le d g1 g2
  obtain ⟨A, eA⟩ : ∃ A : ByteArray, A = ⟨(Lib.itoa n).toArray⟩ := ⟨_, rfl⟩
  obtain ⟨B, eB⟩ : ∃ B : ByteArray, B = ⟨(Lib.itoa d).toArray⟩ := ⟨_, rfl⟩
  have sA : A.size ≤ 21 := by rw [eA]; show (Lib.itoa n).toArray.size ≤ 21; simpa using lA
  have sB : B.size ≤ 21 := by rw [eB]; show (Lib.itoa d).toArray.size ≤ 21; simpa using lB
  have DA := fun (W : World) => ddec_any n W h1 h2
  have DB := fun (W : World) => ddec_any d W g1 g2
  rw [← eA] at DA
  rw [← eB] at DB
  obtain ⟨C, eC⟩ : ∃ C : ByteArray, C = A ++ ⟨#[47]⟩ := ⟨_, rfl⟩
  have sC : C.size ≤ 22 := by rw [eC, ByteArray.size_append]; have : (⟨#[47]⟩ : ByteArray).size = 1 := rfl
                              omega
  have x1 : ∀ W : World, (Op.stringOp .add A ⟨#[47]⟩).run Tryz.prog W = .ok (.string C) W := fun W => by
    rw [run_string_add_sum W _ _ (by have : (⟨#[47]⟩ : ByteArray).size = 1 := rfl
                                     omega), eC]
  have x2 : ∀ W : World, (Op.stringOp .add C B).run Tryz.prog W = .ok (.string (C ++ B)) W := fun W => run_string_add_sum W _ _ (by omega)
  have eF : Hid (C ++ B = ⟨(Lib.itoa n ++ 47 :: Lib.itoa d).toArray⟩) := by
    rw [eC, eA, eB]
    apply ByteArray.ext
    simp
  have DA' : Hid (∀ W : World, Calls Tryz.prog 28 #[.int .i64 n] W fun e w' => e = .returned (.string A) ∧ Below W.heap.size W w') := DA
  have DB' : Hid (∀ W : World, Calls Tryz.prog 28 #[.int .i64 d] W fun e w' => e = .returned (.string B) ∧ Below W.heap.size W w') := DB
  clear DA DB eA eB eC sA sB sC lA lB
  go_region_held3 (fun w' => w'.cell? ⟨w.heap.size, 1, none⟩ = some (.int .i64 n) ∧ w'.cell? ⟨w.heap.size, 2, none⟩ = some (.int .i64 d)) (exact ⟨bcl (n := W0.heap.size) (by go_grown) c1 k1, bcl (n := W0.heap.size) (by go_grown) c2 k1⟩)
    (first
      | (go_at_call_of 28 (Value.int IntKind.i64 n); refine (DA'.out _).mono ?_; rintro e w1 ⟨rfl, hb1⟩; obtain ⟨hB1, hn1⟩ := bg0 (n := W0.heap.size) (W0 := W0) (by go_grown) (by go_size) hb1)
      | (go_at_call_of 28 (Value.int IntKind.i64 d); refine (DB'.out _).mono ?_; rintro e w2 ⟨rfl, hb2⟩; obtain ⟨hB2, hn2⟩ := bg0 (n := W0.heap.size) (W0 := W0) (by go_grown) (by go_size) hb2))
  all_goals
    go_wp2
    go_ret2
    exact ⟨by rw [eF.out]; rfl, k0.trans (Below.mono (B := W0.heap.size) (by go_grown) k0.size)⟩

theorem chk_kind0 {k n d : Int} {s : ByteArray} (h : chk k n d s = 0) : k = 1 ∨ k = 2 ∨ k = 3 := by
  by_cases k1 : k = 1
  · exact Or.inl k1
  · by_cases k2 : k = 2
    · exact Or.inr (Or.inl k2)
    · by_cases k3 : k = 3
      · exact Or.inr (Or.inr k3)
      · exfalso
        have e0 : chk k n d s = 20 := by simp [chk, pureB, k1, k2, k3]
        omega

theorem dprint_any (k n d : Int) (s : ByteArray) (w : World) (h1 : -9223372036854775808 ≤ n) (h2 : n ≤ 9223372036854775807) (g1 : -9223372036854775808 ≤ d) (g2 : d ≤ 9223372036854775807) :
    Calls Tryz.prog 15 #[.agg #[.int .i64 k, .int .i64 n, .int .i64 d, .string s]] w fun e w' => e = .returned (.tuple #[.string ⟨(if chk k n d s = 0 then vtext k n d s else []).toArray⟩, .int .i64 (chk k n d s)]) ∧ Below w.heap.size w w' := by
  by_cases hc0 : chk k n d s = 0
  · rw [if_pos hc0, hc0]
    rcases chk_kind0 hc0 with rfl | rfl | rfl
    · have h := dprint_1 n d s w h1 h2 g1 g2 hc0
      exact h
    · have h := dprint_2 n d s w h1 h2 g1 g2 hc0
      exact h
    · have h := dprint_3 n d s w h1 h2 g1 g2 hc0
      exact h
  · rw [if_neg hc0]
    exact dprint_no k n d s w h1 h2 g1 g2 (by simpa using hc0)

end Go.Proofs.YtedoahibceeklabGreatDoor
