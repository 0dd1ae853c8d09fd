/- The plain mathematics of texts of values: ParseInt of a number's digits, the cut at a slash; the walk of strings.Cut at a slash. -/
import Derived.Test.YtgmmhgbodddadaaGreatDoorZ03
import Derived.Test.YtgmmhgbodddadaaGreatDoorZ02
import Derived.OwnWalk
import Derived.Laws.OwnMore
import Derived.Laws.IdiomStrings
import Derived.Deep.RegionLaw
import Derived.Test.YtgmmhgbodddadaaGreatDoorZ01

namespace Go.Proofs.YtgmmhgbodddadaaGreatDoor
open Go.RowKit LX Go.Shelf
set_option linter.unusedVariables false

set_option maxRecDepth 100000 in
set_option maxHeartbeats 1000000 in
theorem rvals_any (V : Value) (vs : List Val) (w : World) (hV : RowAt w V vs) (fx : ∀ v ∈ vs, v.Fits) (lv : vs.length ≤ 9223372036854775807) :
    Calls Tryz.prog 39 #[V] w fun r w' => r = .returned (.int .i64 (valsE vs)) ∧ Below w.heap.size w w' := by
  obtain ⟨pv, cv, rfl, HY0⟩ := hV.formX
  have HY : Hid (∀ i (hi : i < vs.length), ∃ b off, pv = some ⟨b, off, none⟩ ∧ b < w.heap.size ∧ w.cell? ⟨b, off + i * 4, none⟩ = some (.int .i64 vs[i].k) ∧ w.cell? ⟨b, off + i * 4 + 1, none⟩ = some (.int .i64 vs[i].n) ∧ w.cell? ⟨b, off + i * 4 + 2, none⟩ = some (.int .i64 vs[i].d) ∧ w.cell? ⟨b, off + i * 4 + 3, none⟩ = some (.string vs[i].s)) := HY0
  clear hV HY0
  obtain ⟨m, em⟩ : ∃ m : Nat, Hid (vs.length = m) := ⟨_, rfl⟩
  obtain ⟨E, eE⟩ : ∃ E : Int, Hid (valsE vs = E) := ⟨_, rfl⟩
  rw [em.out] at lv
  rw [eE.out, em.out]
  go_enter Tryz.func39, Tryz.ntmps39
  go_wp2
  go_loopw [3] (fun i wr => ∃ k : Nat, k ≤ m ∧ i = .int .i64 k ∧ Hid (E = valsE (vs.drop k)) ∧ Below w.heap.size w wr) (fun i _ => m - (intOf i).toNat)
  case atStart => exact ⟨0, Nat.zero_le _, rfl, by rw [List.drop_zero]; exact eE.out.symm, Below.refl _ _⟩
  case round =>
    obtain ⟨k, hk, rfl, hr, hB⟩ := hrel
    by_cases hlt : k < m
    · have kx : k < vs.length := by have := em.out; omega
      obtain ⟨b, off, rfl, hb, r0, r1, r2, r3⟩ := HY.out k kx
      have a0 := (hB.cell (p := ⟨b, off + k * 4, none⟩) hb).trans r0
      have a1 := (hB.cell (p := ⟨b, off + k * 4 + 1, none⟩) hb).trans r1
      have a2 := (hB.cell (p := ⟨b, off + k * 4 + 2, none⟩) hb).trans r2
      have a3 := (hB.cell (p := ⟨b, off + k * 4 + 3, none⟩) hb).trans r3
      have hbr : b < wr.heap.size := Nat.lt_of_lt_of_le hb hB.size
      have f1 := fx vs[k] (List.getElem_mem kx)
      have hr2 : Hid (E = if vs[k].may = 0 then valsE (vs.drop (k + 1)) else vs[k].may) := by
        have h := hr.out
        rw [List.drop_eq_getElem_cons kx] at h
        exact h
      clear r0 r1 r2 r3 hr
      generalize vs[k] = Y at a0 a1 a2 a3 hr2 f1
      obtain ⟨C, eC⟩ : ∃ C : Int, Hid (Y.may = C) := ⟨_, rfl⟩
      rw [eC.out] at hr2
      have ct : Hid (∀ W : World, Calls Tryz.prog 57 #[.agg #[.int .i64 Y.k, .int .i64 Y.n, .int .i64 Y.d, .string Y.s]] W fun e w' => e = .returned (.int .i64 C) ∧ Below W.heap.size W w') := fun W => by
        have h := rcheck_any Y.k Y.n Y.d Y.s W f1.n1 f1.n2 f1.d1 f1.d2
        rw [show chk Y.k Y.n Y.d Y.s = C from eC.out] at h
        exact h
      clear eC
      by_cases hC : C = 0
      · have hr3 : Hid (E = valsE (vs.drop (k + 1))) := by have h := hr2.out; rwa [if_pos hC] at h
        subst hC
        clear hr2
        go_wp2_with fail
        refine (ct.out _).mono ?_
        rintro e' w1 ⟨rfl, hw1⟩
        obtain ⟨hw2, hn2⟩ := bgX (n := wr.heap.size) (W0 := wr) (by go_grown) (by go_size) hw1
        have hB2 : Below w.heap.size w w1 := hB.trans (hw2.mono hB.size)
        clear a0 a1 a2 a3 ct hw1 hw2 hn2
        go_wp2
        exact ⟨⟨k + 1, by omega, by go_num, hr3, hB2⟩, by simp [intOf]; omega⟩
      · have hr3 : Hid (E = C) := by have h := hr2.out; rwa [if_neg hC] at h
        have hC' : (C == 0) = false := by simpa using hC
        clear hr2
        go_wp2_with fail
        refine (ct.out _).mono ?_
        rintro e' w1 ⟨rfl, hw1⟩
        obtain ⟨hw2, hn2⟩ := bgX (n := wr.heap.size) (W0 := wr) (by go_grown) (by go_size) hw1
        have hB2 : Below w.heap.size w w1 := hB.trans (hw2.mono hB.size)
        clear a0 a1 a2 a3 ct hw1 hw2 hn2
        go_wp2
        go_ret
        exact ⟨reti hr3.out.symm, hB2⟩
    · have c2 : ¬ (k : Int) < m := by omega
      have hr3 : Hid (E = 0) := by
        have h := hr.out
        rw [List.drop_eq_nil_of_le (by have := em.out; omega)] at h
        exact h
      go_wp2
      go_ret
      exact ⟨reti hr3.out.symm, hB⟩

set_option maxRecDepth 100000 in
theorem rsizes_any (t : Int) (p : Option Addr) (n c : Nat) (w : World) :
    Calls Tryz.prog 38 #[.agg #[.int .i64 t, .slice p n c]] w fun e w' => e = .returned (.int .i64 (sizeE t n)) ∧ Below w.heap.size w w' := by
  obtain ⟨E, eE⟩ : ∃ E : Int, Hid (sizeE t n = E) := ⟨_, rfl⟩
  rw [eE.out]
  by_cases h1 : t < 0
  · have hE : Hid (E = 5) := by have h := eE.out; unfold sizeE at h; rw [if_pos (Or.inl h1)] at h; exact h.symm
    go_enter Tryz.func38, Tryz.ntmps38
    go_wp2
    go_ret
    exact ⟨reti hE.out.symm, by go_grown⟩
  · by_cases h2 : 1099511627776 < t
    · have hE : Hid (E = 5) := by have h := eE.out; unfold sizeE at h; rw [if_pos (Or.inr h2)] at h; exact h.symm
      go_enter Tryz.func38, Tryz.ntmps38
      go_wp2
      go_ret
      exact ⟨reti hE.out.symm, by go_grown⟩
    · by_cases h3 : 64 < n
      · have hE : Hid (E = 3) := by have h := eE.out; unfold sizeE at h; rw [if_neg (by omega), if_pos h3] at h; exact h.symm
        have h3' : (64 : Int) < n := by omega
        go_enter Tryz.func38, Tryz.ntmps38
        go_wp2
        go_ret
        exact ⟨reti hE.out.symm, by go_grown⟩
      · have hE : Hid (E = 0) := by have h := eE.out; unfold sizeE at h; rw [if_neg (by omega), if_neg h3] at h; exact h.symm
        have h3' : ¬ (64 : Int) < n := by omega
        go_enter Tryz.func38, Tryz.ntmps38
        go_wp2
        go_ret
        exact ⟨reti hE.out.symm, by go_grown⟩

end Go.Proofs.YtgmmhgbodddadaaGreatDoor

namespace Go.Proofs.YtgmmhgbodddadaaGreatDoor
open Go.RowKit LX Go.Shelf
set_option linter.unusedVariables false

end Go.Proofs.YtgmmhgbodddadaaGreatDoor

namespace Go.Proofs.YtgmmhgbodddadaaGreatDoor
open Go.RowKit LX Go.Shelf
set_option linter.unusedVariables false

end Go.Proofs.YtgmmhgbodddadaaGreatDoor

namespace Go.Proofs.YtgmmhgbodddadaaGreatDoor
open Go.RowKit LX Go.Shelf
set_option linter.unusedVariables false

end Go.Proofs.YtgmmhgbodddadaaGreatDoor

namespace Go.Proofs.YtgmmhgbodddadaaGreatDoor
open Go.RowKit Go.Shelf
set_option linter.unusedVariables false

abbrev hexS : ByteArray := { data := #[48, 49, 50, 51, 52, 53, 54, 55, 56, 57, 97, 98, 99, 100, 101, 102] }

theorem dig_ext (d : Nat) (h : d < 10) : hexS.extract d (d + 1) = ⟨#[UInt8.ofNat (48 + d)]⟩ := by
  match d, h with
  | 0, _ => rfl
  | 1, _ => rfl
  | 2, _ => rfl
  | 3, _ => rfl
  | 4, _ => rfl
  | 5, _ => rfl
  | 6, _ => rfl
  | 7, _ => rfl
  | 8, _ => rfl
  | 9, _ => rfl
theorem dec_last (v : Nat) (h : v < 10) : Lib.decDigits v = [UInt8.ofNat (48 + v % 10)] := by rw [Lib.decDigits_one h, Nat.mod_eq_of_lt h]
theorem dec_more (v : Nat) (h : ¬ v < 10) : Lib.decDigits v = Lib.decDigits (v / 10) ++ [UInt8.ofNat (48 + v % 10)] := by rw [Lib.decDigits, dif_neg h]

set_option maxRecDepth 100000 in
set_option maxHeartbeats 1000000 in
theorem ddec_pos (u : Nat) (w : World) (h2 : u ≤ 9223372036854775807) (hl : (Lib.decDigits u).length ≤ 21) :
    Calls Tryz.prog 45 #[.int .i64 u] w fun e w' => e = .returned (.string ⟨(Lib.decDigits u).toArray⟩) ∧ Below w.heap.size w w' := by
  have HL : Hid ((Lib.decDigits u).length ≤ 21) := hl
  clear hl
  go_enter Tryz.func45, Tryz.ntmps45
  go_wp2
  go_loopw [3, 4] (fun s r wr => ∃ (S : List UInt8) (v : Nat), v ≤ u ∧ s = .string ⟨S.toArray⟩ ∧ r = .int .i64 v ∧ Hid (Lib.decDigits v ++ S = Lib.decDigits u) ∧ Below w.heap.size w wr) (fun _ r _ => (intOf r).toNat)
  case atStart => exact ⟨[], u, Nat.le_refl _, rfl, rfl, (show Lib.decDigits u ++ [] = Lib.decDigits u by simp), Below.refl _ _⟩
  case round =>
    obtain ⟨S, v, hv, rfl, rfl, hS, hB⟩ := hrel
    obtain ⟨q, eq⟩ : ∃ q : Nat, Hid (v % 10 = q) := ⟨_, rfl⟩
    obtain ⟨t, et⟩ : ∃ t : Nat, Hid (v / 10 = t) := ⟨_, rfl⟩
    have hq : q < 10 := by have := eq.out; omega
    have hm : (v : Int) % 10 = (q : Int) := by have := eq.out; omega
    have hd : (v : Int) / 10 = (t : Int) := by have := et.out; omega
    have lS : S.length ≤ 21 := by
      have h1 := congrArg List.length hS.out
      have h2 := HL.out
      simp only [List.length_append] at h1
      omega
    obtain ⟨c, ec⟩ : ∃ c : UInt8, Hid (UInt8.ofNat (48 + q) = c) := ⟨_, rfl⟩
    have x1 : ∀ W : World, (Op.stringOp .add (hexS.extract q (q + 1)) ⟨S.toArray⟩).run Tryz.prog W = .ok (.string ⟨(c :: S).toArray⟩) W := fun W => by
      rw [run_string_add_sum W _ _ (by
        rw [dig_ext q hq]
        have e1 : (⟨#[UInt8.ofNat (48 + q)]⟩ : ByteArray).size = 1 := rfl
        have e2 : (⟨S.toArray⟩ : ByteArray).size = S.length := by show S.toArray.size = _; simp
        omega), dig_ext q hq, ec.out]
      first | rfl | (congr 2; apply ByteArray.ext; simp)
    by_cases ht : t = 0
    · have hE : Hid (c :: S = Lib.decDigits u) := by
        have h1 := hS.out
        rw [dec_last v (by have := et.out; omega), eq.out, ec.out] at h1
        exact h1
      clear hS eq et HL
      subst ht
      rw [hE.out] at x1
      go_wp2
      go_ret
      exact ⟨rfl, hB⟩
    · have ht' : ((t : Int) == 0) = false := by simp; omega
      have hE : Hid (Lib.decDigits t ++ (c :: S) = Lib.decDigits u) := by
        have h1 := hS.out
        rw [dec_more v (by have := et.out; omega), eq.out, et.out, ec.out, List.append_assoc] at h1
        exact h1
      have hlt : t < v := by have := et.out; omega
      clear hS eq et HL
      go_wp2
      exact ⟨⟨_, t, by omega, rfl, rfl, hE, hB⟩, by simp [intOf]; omega⟩

set_option maxRecDepth 100000 in
set_option maxHeartbeats 1000000 in
theorem ddec_neg (u : Nat) (w : World) (h2 : u ≤ 9223372036854775808) (h0 : 0 < u) (hl : (Lib.decDigits u).length ≤ 21) :
    Calls Tryz.prog 45 #[.int .i64 (-(u : Int))] w fun e w' => e = .returned (.string ⟨(45 :: Lib.decDigits u).toArray⟩) ∧ Below w.heap.size w w' := by
  have HL : Hid ((Lib.decDigits u).length ≤ 21) := hl
  clear hl
  go_enter Tryz.func45, Tryz.ntmps45
  go_wp2
  go_loopw [3, 4] (fun s r wr => ∃ (S : List UInt8) (v : Nat), v ≤ u ∧ s = .string ⟨S.toArray⟩ ∧ r = .int .i64 (-(v : Int)) ∧ Hid (Lib.decDigits v ++ S = Lib.decDigits u) ∧ Below w.heap.size w wr) (fun _ r _ => (intOf r).natAbs)
  case atStart => exact ⟨[], u, Nat.le_refl _, rfl, rfl, (show Lib.decDigits u ++ [] = Lib.decDigits u by simp), Below.refl _ _⟩
  case round =>
    obtain ⟨S, v, hv, rfl, rfl, hS, hB⟩ := hrel
    obtain ⟨q, eq⟩ : ∃ q : Nat, Hid (v % 10 = q) := ⟨_, rfl⟩
    obtain ⟨t, et⟩ : ∃ t : Nat, Hid (v / 10 = t) := ⟨_, rfl⟩
    have hq : q < 10 := by have := eq.out; omega
    have hm : (-(v : Int)).tmod 10 = -(q : Int) := by rw [Int.neg_tmod]; have := eq.out; rw [← this]; rfl
    have hd : (-(v : Int)).tdiv 10 = -(t : Int) := by rw [Int.neg_tdiv]; have := et.out; rw [← this]; rfl
    have lS : S.length ≤ 21 := by
      have h1 := congrArg List.length hS.out
      have h2 := HL.out
      simp only [List.length_append] at h1
      omega
    obtain ⟨c, ec⟩ : ∃ c : UInt8, Hid (UInt8.ofNat (48 + q) = c) := ⟨_, rfl⟩
    have x1 : ∀ W : World, (Op.stringOp .add (hexS.extract q (q + 1)) ⟨S.toArray⟩).run Tryz.prog W = .ok (.string ⟨(c :: S).toArray⟩) W := fun W => by
      rw [run_string_add_sum W _ _ (by
        rw [dig_ext q hq]
        have e1 : (⟨#[UInt8.ofNat (48 + q)]⟩ : ByteArray).size = 1 := rfl
        have e2 : (⟨S.toArray⟩ : ByteArray).size = S.length := by show S.toArray.size = _; simp
        omega), dig_ext q hq, ec.out]
      first | rfl | (congr 2; apply ByteArray.ext; simp)
    have z1 : ∀ W : World, (Op.stringOp .add ⟨#[45]⟩ ⟨(Lib.decDigits u).toArray⟩).run Tryz.prog W = .ok (.string ⟨(45 :: Lib.decDigits u).toArray⟩) W := fun W => by
      rw [run_string_add_sum W _ _ (by
        have e1 : (⟨#[45]⟩ : ByteArray).size = 1 := rfl
        have e2 : (⟨(Lib.decDigits u).toArray⟩ : ByteArray).size = (Lib.decDigits u).length := by show (Lib.decDigits u).toArray.size = _; simp
        have := HL.out
        omega)]
      first | rfl | (congr 2; apply ByteArray.ext; simp)
    by_cases ht : t = 0
    · have hE : Hid (c :: S = Lib.decDigits u) := by
        have h1 := hS.out
        rw [dec_last v (by have := et.out; omega), eq.out, ec.out] at h1
        exact h1
      clear hS eq et HL
      subst ht
      have hn : -(u : Int) < 0 := by omega
      rw [hE.out] at x1
      by_cases hq0 : q = 0
      · subst hq0
        go_wp2
        go_ret
        exact ⟨rfl, hB⟩
      · have hq1 : -(q : Int) < 0 := by omega
        go_wp2
        go_ret
        exact ⟨rfl, hB⟩
    · have ht' : ((t : Int) == 0) = false := by simp; omega
      have hE : Hid (Lib.decDigits t ++ (c :: S) = Lib.decDigits u) := by
        have h1 := hS.out
        rw [dec_more v (by have := et.out; omega), eq.out, et.out, ec.out, List.append_assoc] at h1
        exact h1
      have hlt : t < v := by have := et.out; omega
      clear hS eq et HL z1
      have ht2 : (-(t : Int) == 0) = false := by simp; omega
      by_cases hq0 : q = 0
      · subst hq0
        go_wp2
        exact ⟨⟨_, t, by omega, rfl, rfl, hE, hB⟩, by simp [intOf]; omega⟩
      · have hq1 : -(q : Int) < 0 := by omega
        go_wp2
        exact ⟨⟨_, t, by omega, rfl, rfl, hE, hB⟩, by simp [intOf]; omega⟩

theorem ddec_any (n : Int) (w : World) (h1 : -9223372036854775808 ≤ n) (h2 : n ≤ 9223372036854775807) :
    Calls Tryz.prog 45 #[.int .i64 n] w fun e w' => e = .returned (.string ⟨(Lib.itoa n).toArray⟩) ∧ Below w.heap.size w w' := by
  have hl := Lib.itoa_length_le n h1 h2
  by_cases hn : n < 0
  · unfold Lib.itoa at hl ⊢
    rw [if_pos hn] at hl ⊢
    have h := ddec_neg n.natAbs w (by omega) (by omega) (by simp at hl; omega)
    rwa [show -((n.natAbs : Nat) : Int) = n by omega] at h
  · unfold Lib.itoa at hl ⊢
    rw [if_neg hn] at hl ⊢
    have h := ddec_pos n.toNat w (by omega) hl
    rwa [show ((n.toNat : Nat) : Int) = n by omega] at h

end Go.Proofs.YtgmmhgbodddadaaGreatDoor

namespace Go.Proofs.YtgmmhgbodddadaaGreatDoor
open Go.RowKit Go.Shelf
set_option linter.unusedVariables false

theorem step_append_own {P : Program} {ops : Array Oper} {o : Oper} {a : Act} {w : World} {K : Act → World → Prop} {Q : Exit → Act → World → Prop} {E : Prop}
    (hg : o.guard = none) (s x : Operand) (t : TypeId) (ho : o.op = Op.call { callee := Callee.builtin Builtin.append, args := #[s, x], argTypes := #[t, t] })
    (base : Nat) (e : TypeId) (i : TypeInfo) (z : Value) (size bytes : Nat) (ht : P.underlying t = some (.slice e)) (hi : P.info? e = some i) (hz : i.zero = some z) (hsize : i.size = size) (hby : i.bytes = bytes) (hzs : z.cells.size = size) (hsz : 0 < size)
    (v : Value) (n : Nat) (xs : List Value) (hs : a.eval s = v) (hown : w.ownsRow base e size v n xs)
    (ad : Addr) (m c : Nat) (news : List Value) (hx : a.eval x = .slice (some ad) m c) (hl : news.length = m * size) (hnews : ∀ j u, news[j]? = some u → w.cell? (ad.add j) = some u) (h1 : ∀ u ∈ news, u.oneCell' = true)
    (h63 : n + m ≤ maxLen) (hbytes : (n + m) * bytes ≤ 140737488355328) (hbase : base ≤ w.heap.size)
    (h : ∀ v' w', w'.ownsRow base e size v' (n + m) (xs ++ news) → w.grownBy w' v.ownBlock → K (a.put o.dst v') w') :
    if Region.wanted o (yielded ops a.tmps) = true then Oper.wp P o a w K Q else E := by
  have hw : Region.wanted o (yielded ops a.tmps) = true := by simp [Region.wanted, hg]
  rw [if_pos hw]
  exact wp_append_own w s x t ho base e i z size bytes ht hi hz hsize hby hzs hsz v n xs hs hown ad m c news hx hl hnews h1 h63 hbytes hbase fun v' w' h2 h3 _ => h v' w' h2 h3

/-- The bytes that a slice of the call's own holds. -/
def Own (B : Nat) (v : Value) (L : List UInt8) (w : World) : Prop := w.ownsRow B 5 1 v L.length (Lib.byteCells L)
theorem own_more {B : Nat} {v' : Value} {L M : List UInt8} {w' : World} {m : Nat} (h : w'.ownsRow B 5 1 v' (L.length + m) (Lib.byteCells L ++ Lib.byteCells M)) (hm : m = M.length) : Own B v' (L ++ M) w' := by
  unfold Own
  subst hm
  have e1 : Lib.byteCells (L ++ M) = Lib.byteCells L ++ Lib.byteCells M := by simp [Lib.byteCells]
  rw [e1, List.length_append]
  exact h
set_option maxHeartbeats 4000000 in
set_option maxRecDepth 100000 in
theorem dquote_any (s : ByteArray) (w : World) (hs : s.size ≤ 35184372088830) :
    Calls Tryz.prog 63 #[.string s] w fun e w' => e = .returned (.string ⟨(quoted s.data.toList).toArray⟩) ∧ Below w.heap.size w w' := by
  obtain ⟨i0, hi, hz0, hz1, hz2⟩ := info_parts inB
  go_enter Tryz.func63, Tryz.ntmps63
  go_wp2
  go_loopw [3, 4] (fun b i wr => ∃ k : Nat, k ≤ s.size ∧ i = .int .i64 k ∧ Hid (Own w.heap.size b (34 :: inside (s.data.toList.take k)) wr) ∧ Below w.heap.size w wr) (fun _ i _ => s.size - (intOf i).toNat)
  case atStart => exact ⟨0, by omega, rfl, World.ownsRow_lit w #[.int .u8 34] 1 (Nat.le_refl _) (by decide) rfl, by go_grown⟩
  case round =>
    obtain ⟨k, hk, rfl, hI, hB⟩ := hrel
    have hsz := hB.size
    have hbk : ∀ q, u3.ownBlock = some q → w.heap.size ≤ q := fun q hq => (World.ownsRow.lt hI.out q hq).1
    have HK : Hid (∀ q, u3.ownBlock = some q → w.heap.size ≤ q) := hbk
    clear hbk
    by_cases hke : k = s.size
    · subst hke
      have e0 : s.data.toList.take s.size = s.data.toList := List.take_of_length_le (by simp)
      rw [e0] at hI
      have hl := inside_len s.data.toList
      have hl2 : s.data.toList.length = s.size := by simp
      have hbd : (34 :: inside s.data.toList).length + 1 ≤ 140737488355328 := by simp; omega
      clear hl hl2
      go_wp2_with (at_builtin; refine wpList_append_own _ rfl (.tmp 47) (.tmp 48) 60 rfl w.heap.size 5 i0 (.int .u8 0) 1 1 Tryz.underlying60 hi hz0 hz1 hz2 rfl (by decide) _ _ _ rfl (World.ownsRow.alloc hI.out _) ⟨wr.heap.size, 0, none⟩ 1 1 [.int .u8 34] rfl rfl ?c1 ?c2 (by unfold maxLen; omega) (by omega) (by simp; omega) ?grow)
      case c1 => (intro j u hj; rw [Addr.add_lit]; (rcases j with _ | _ | _ | _ | j) <;> simp at hj <;> subst hj <;> simp (maxDischargeDepth := 12) [go_sem])
      case c2 => (intro u hu; simp at hu; (first | (rcases hu with rfl | rfl) | subst hu) <;> rfl)
      case grow =>
        intro v' w2 h2 h3 _
        have o2 : Own w.heap.size v' (quoted s.data.toList) w2 := own_more (M := [34]) h2 rfl
        have K2 : Below w.heap.size w w2 := Below.grown (hB.alloc hsz _) h3 (by simp; omega) HK.out
        clear h2 h3 hI
        obtain ⟨hl, hv | ⟨g, cap, cur, rfl, hg1, hg2, hg3, hg4, hg5, hg6⟩⟩ := o2
        · exfalso; have := hv.2; simp [quoted] at this
        have hown : w2.ownsRow w.heap.size 5 1 (.slice (some ⟨g, 0, none⟩) (quoted s.data.toList).length cap) (quoted s.data.toList).length (Lib.byteCells (quoted s.data.toList)) := ⟨hl, Or.inr ⟨g, cap, cur, rfl, hg1, hg2, hg3, hg4, hg5, hg6⟩⟩
        have cv : (convert 60 9 (.slice (some ⟨g, 0, none⟩) (quoted s.data.toList).length cap)).run Tryz.prog w2 = .ok (.string ⟨(quoted s.data.toList).toArray⟩) w2 := run_convert_bytes_back w2 60 9 5 ⟨g, 0, none⟩ cap (quoted s.data.toList) Tryz.underlying60 Tryz.underlying5 Tryz.underlying9 (fun j hj => by
          rw [Addr.add_lit, Nat.zero_add, hown.cellAt j (by omega)]
          simp [Lib.byteCells, List.getElem?_eq_getElem hj])
        clear hg1 hg2 hg3 hg4 hg5 hg6 hown hl
        go_wp2
        go_ret
        exact ⟨rfl, K2⟩
    · have hk' : (k : Int) < s.size := by omega
      have hkk : k < s.size := by omega
      have hstep := inside_take s k hkk
      have hl := inside_len (s.data.toList.take k)
      have hl2 : (s.data.toList.take k).length ≤ k := by simp; omega
      have hbd : (34 :: inside (s.data.toList.take k)).length + 4 ≤ 140737488355328 := by simp; omega
      have HS : Hid (inside (s.data.toList.take (k + 1)) = inside (s.data.toList.take k) ++ esc s[k]) := hstep
      clear hstep hl hl2
      have hu : s[k].toNat < 256 := s[k].toNat_lt
      obtain ⟨c, hc⟩ : ∃ c : UInt8, s[k] = c := ⟨_, rfl⟩
      rw [hc] at hu
      rw [hc] at HS
      by_cases a1 : (c.toNat : Int) = 34 ∨ (c.toNat : Int) = 92
      · have he : Hid (esc c = [92, c]) := by unfold Hid esc; rw [if_pos (by omega)]
        have a1' : c.toNat = 34 ∨ c.toNat = 92 := by omega
        clear a1
        have a2 : ((c.toNat : Int) == 34) = true ∨ (((c.toNat : Int) == 34) = false ∧ ((c.toNat : Int) == 92) = true) := by rcases a1' with h | h <;> simp [h]
        clear a1'
        rcases a2 with a2 | ⟨a2, a3⟩
        · go_wp2_with (at_builtin; refine wpList_append_own _ rfl (.tmp 32) (.tmp 34) 60 rfl w.heap.size 5 i0 (.int .u8 0) 1 1 Tryz.underlying60 hi hz0 hz1 hz2 rfl (by decide) _ _ _ rfl (World.ownsRow.alloc hI.out _) ⟨wr.heap.size, 0, none⟩ 2 2 [.int .u8 92, .int .u8 c.toNat] rfl rfl ?c1 ?c2 (by unfold maxLen; omega) (by omega) (by simp; omega) ?grow)
          case c1 => (intro j u hj; rw [Addr.add_lit]; (rcases j with _ | _ | _ | _ | j) <;> simp at hj <;> subst hj <;> simp (maxDischargeDepth := 12) [go_sem])
          case c2 => (intro u hu; simp at hu; (first | (rcases hu with rfl | rfl) | subst hu) <;> rfl)
          case grow =>
            intro v' w2 h2 h3 _
            have o2 : Hid (Own w.heap.size v' (34 :: inside (s.data.toList.take (k + 1))) w2) := by
              rw [HS.out, he.out, ← List.cons_append]
              exact own_more (M := [92, c]) h2 rfl
            have K2 : Below w.heap.size w w2 := Below.grown (hB.alloc hsz _) h3 (by simp; omega) HK.out
            clear h2 h3 hI HK he HS
            go_wp2
            exact ⟨⟨k + 1, by omega, by simp, o2, K2⟩, by simp [intOf]; omega⟩
        · go_wp2_with (at_builtin; refine wpList_append_own _ rfl (.tmp 32) (.tmp 34) 60 rfl w.heap.size 5 i0 (.int .u8 0) 1 1 Tryz.underlying60 hi hz0 hz1 hz2 rfl (by decide) _ _ _ rfl (World.ownsRow.alloc hI.out _) ⟨wr.heap.size, 0, none⟩ 2 2 [.int .u8 92, .int .u8 c.toNat] rfl rfl ?c1 ?c2 (by unfold maxLen; omega) (by omega) (by simp; omega) ?grow)
          case c1 => (intro j u hj; rw [Addr.add_lit]; (rcases j with _ | _ | _ | _ | j) <;> simp at hj <;> subst hj <;> simp (maxDischargeDepth := 12) [go_sem])
          case c2 => (intro u hu; simp at hu; (first | (rcases hu with rfl | rfl) | subst hu) <;> rfl)
          case grow =>
            intro v' w2 h2 h3 _
            have o2 : Hid (Own w.heap.size v' (34 :: inside (s.data.toList.take (k + 1))) w2) := by
              rw [HS.out, he.out, ← List.cons_append]
              exact own_more (M := [92, c]) h2 rfl
            have K2 : Below w.heap.size w w2 := Below.grown (hB.alloc hsz _) h3 (by simp; omega) HK.out
            clear h2 h3 hI HK he HS
            go_wp2
            exact ⟨⟨k + 1, by omega, by simp, o2, K2⟩, by simp [intOf]; omega⟩
      · have a2 : ((c.toNat : Int) == 34) = false := by simp; omega
        have a3 : ((c.toNat : Int) == 92) = false := by simp; omega
        by_cases a4 : 32 ≤ (c.toNat : Int) ∧ (c.toNat : Int) ≤ 126
        · have he : Hid (esc c = [c]) := by unfold Hid esc; rw [if_neg (by omega), if_pos (by omega)]
          obtain ⟨a5, a6⟩ := a4
          clear a1
          go_wp2_with (at_builtin; refine wpList_append_own _ rfl (.tmp 43) (.tmp 45) 60 rfl w.heap.size 5 i0 (.int .u8 0) 1 1 Tryz.underlying60 hi hz0 hz1 hz2 rfl (by decide) _ _ _ rfl (World.ownsRow.alloc hI.out _) ⟨wr.heap.size, 0, none⟩ 1 1 [.int .u8 c.toNat] rfl rfl ?c1 ?c2 (by unfold maxLen; omega) (by omega) (by simp; omega) ?grow)
          case c1 => (intro j u hj; rw [Addr.add_lit]; (rcases j with _ | _ | _ | _ | j) <;> simp at hj <;> subst hj <;> simp (maxDischargeDepth := 12) [go_sem])
          case c2 => (intro u hu; simp at hu; (first | (rcases hu with rfl | rfl) | subst hu) <;> rfl)
          case grow =>
            intro v' w2 h2 h3 _
            have o2 : Hid (Own w.heap.size v' (34 :: inside (s.data.toList.take (k + 1))) w2) := by
              rw [HS.out, he.out, ← List.cons_append]
              exact own_more (M := [c]) h2 rfl
            have K2 : Below w.heap.size w w2 := Below.grown (hB.alloc hsz _) h3 (by simp; omega) HK.out
            clear h2 h3 hI HK he HS
            go_wp2
            exact ⟨⟨k + 1, by omega, by simp, o2, K2⟩, by simp [intOf]; omega⟩
        · have he : Hid (esc c = [92, 120, hexd (c.toNat / 16), hexd (c.toNat % 16)]) := by unfold Hid esc; rw [if_neg (by omega), if_neg (by omega)]
          have a5 : (32 ≤ (c.toNat : Int)) = False ∨ ((32 ≤ (c.toNat : Int)) = True ∧ ((c.toNat : Int) ≤ 126) = False) := by
            by_cases h : 32 ≤ (c.toNat : Int)
            · right; refine ⟨by simp; omega, by simp; omega⟩
            · left; simp; omega
          clear a1 a4
          obtain ⟨p, ep⟩ : ∃ p : Nat, Hid (c.toNat / 16 = p) := ⟨_, rfl⟩
          obtain ⟨q, eq⟩ : ∃ q : Nat, Hid (c.toNat % 16 = q) := ⟨_, rfl⟩
          have hp : p < 16 := by have := ep.out; omega
          have hq : q < 16 := by have := eq.out; omega
          have xp : (c.toNat : Int) / 16 = (p : Int) := by have := ep.out; omega
          have xq : (c.toNat : Int) % 16 = (q : Int) := by have := eq.out; omega
          rw [ep.out, eq.out] at he
          rcases a5 with a5 | ⟨a5, a6⟩
          · skip
            have yp : IntKind.u8.wrap (p : Int) = (p : Int) := by simp [IntKind.wrap, IntKind.bits, IntKind.signed]; omega
            have yq : (c.toNat : Int).tmod 16 = (q : Int) := by rw [Int.tmod_eq_emod_of_nonneg (by omega)]; exact xq
            have hp2 : (p : Int) < 16 := by omega
            have hq2 : (q : Int) < 16 := by omega
            have tp := hex_tab p hp
            have tq := hex_tab q hq
            go_upto_region 6 with fail
            refine wp_region_held_drew (S := fun _ => True) (by kernel_rfl) trivial (fun hHeld => ?_)
            refine wpAnyH_take (i := 0) (oi := ({ dst := some 16, op := Op.move (Operand.tmp 3), type := 60, pos := "ref.go:191", after := #[], guard := none } : Oper)) (v := ?yvq0A) rfl (by kernel_rfl) (by kernel_rfl) (by kernel_rfl) (fun _ _ _ h => h) (Or.inl ⟨by rfl, ?yhq0A⟩) (by assumption) ?yrq0A
            case yhq0A => (intro wq hSw; (try dsimp only at hSw); go_simp; first | done | with_reducible rfl)
            try simp only [Act.put, List.setIfInBounds_toArray, List.set_cons_zero, List.set_cons_succ]
            refine wpAnyH_take (i := 1) (oi := ({ dst := some 17, op := Op.move (Operand.tmp 5), type := 5, pos := "ref.go:191", after := #[], guard := none } : Oper)) (v := ?yvq1A) rfl (by kernel_rfl) (by kernel_rfl) (by kernel_rfl) (fun _ _ _ h => h) (Or.inl ⟨by rfl, ?yhq1A⟩) (by assumption) ?yrq1A
            case yhq1A => (intro wq hSw; (try dsimp only at hSw); go_simp; first | done | with_reducible rfl)
            try simp only [Act.put, List.setIfInBounds_toArray, List.set_cons_zero, List.set_cons_succ]
            refine wpAnyH_take (i := 2) (oi := ({ dst := some 18, op := Op.binOp BinOp.quo 5 (Operand.tmp 17) (Operand.const (Value.int IntKind.u8 16)) 5, type := 5, pos := "ref.go:191", after := #[{ on := 1, ground := Ground.data }], guard := none } : Oper)) (v := ?yvq2A) rfl (by kernel_rfl) (by kernel_rfl) (by kernel_rfl) (fun _ _ _ h => h) (Or.inl ⟨by rfl, ?yhq2A⟩) (by assumption) ?yrq2A
            case yhq2A => (intro wq hSw; (try dsimp only at hSw); go_simp; first | done | with_reducible rfl)
            try simp only [Act.put, List.setIfInBounds_toArray, List.set_cons_zero, List.set_cons_succ]
            refine wpAnyH_take (i := 3) (oi := ({ dst := some 19, op := Op.index 9 (Operand.const (Value.string { data := #[48, 49, 50, 51, 52, 53, 54, 55, 56, 57, 97, 98, 99, 100, 101, 102] })) (Operand.tmp 18), type := 5, pos := "ref.go:191", after := #[{ on := 2, ground := Ground.data }], guard := none } : Oper)) (v := ?yvq3A) rfl (by kernel_rfl) (by kernel_rfl) (by kernel_rfl) (fun _ _ _ h => h) (Or.inl ⟨by rfl, ?yhq3A⟩) (by assumption) ?yrq3A
            case yhq3A => (intro wq hSw; (try dsimp only at hSw); go_simp; first | done | with_reducible rfl)
            try simp only [Act.put, List.setIfInBounds_toArray, List.set_cons_zero, List.set_cons_succ]
            refine wpAnyH_take (i := 4) (oi := ({ dst := some 20, op := Op.move (Operand.tmp 5), type := 5, pos := "ref.go:191", after := #[], guard := none } : Oper)) (v := ?yvq4A) rfl (by kernel_rfl) (by kernel_rfl) (by kernel_rfl) (fun _ _ _ h => h) (Or.inl ⟨by rfl, ?yhq4A⟩) (by assumption) ?yrq4A
            case yhq4A => (intro wq hSw; (try dsimp only at hSw); go_simp; first | done | with_reducible rfl)
            try simp only [Act.put, List.setIfInBounds_toArray, List.set_cons_zero, List.set_cons_succ]
            refine wpAnyH_take (i := 5) (oi := ({ dst := some 21, op := Op.binOp BinOp.rem 5 (Operand.tmp 20) (Operand.const (Value.int IntKind.u8 16)) 5, type := 5, pos := "ref.go:191", after := #[{ on := 4, ground := Ground.data }], guard := none } : Oper)) (v := ?yvq5A) rfl (by kernel_rfl) (by kernel_rfl) (by kernel_rfl) (fun _ _ _ h => h) (Or.inl ⟨by rfl, ?yhq5A⟩) (by assumption) ?yrq5A
            case yhq5A => (intro wq hSw; (try dsimp only at hSw); go_simp; first | done | with_reducible rfl)
            try simp only [Act.put, List.setIfInBounds_toArray, List.set_cons_zero, List.set_cons_succ]
            refine wpAnyH_take (i := 6) (oi := ({ dst := some 22, op := Op.index 9 (Operand.const (Value.string { data := #[48, 49, 50, 51, 52, 53, 54, 55, 56, 57, 97, 98, 99, 100, 101, 102] })) (Operand.tmp 21), type := 5, pos := "ref.go:191", after := #[{ on := 5, ground := Ground.data }], guard := none } : Oper)) (v := ?yvq6A) rfl (by kernel_rfl) (by kernel_rfl) (by kernel_rfl) (fun _ _ _ h => h) (Or.inl ⟨by rfl, ?yhq6A⟩) (by assumption) ?yrq6A
            case yhq6A => (intro wq hSw; (try dsimp only at hSw); go_simp; first | done | with_reducible rfl)
            try simp only [Act.put, List.setIfInBounds_toArray, List.set_cons_zero, List.set_cons_succ]
            refine wpAnyH_ready (rs := [7]) (by kernel_rfl) (by simp) ?_
            refine AllReadyH.cons (o := ({ dst := some 23, op := Op.buildSlice 60 4 #[(0, Operand.const (Value.int IntKind.u8 92)), (1, Operand.const (Value.int IntKind.u8 120)), (2, Operand.tmp 19), (3, Operand.tmp 22)], type := 60, pos := "ref.go:191", after := #[{ on := 3, ground := Ground.data }, { on := 6, ground := Ground.data }], guard := none } : Oper)) rfl (fun K hK => ?_) AllReadyH.nil
            go_simp
            refine hK.out _ _ trivial (fun hHeld => ?_)
            clear hK K
            try simp only [Act.put, List.setIfInBounds_toArray, List.set_cons_zero, List.set_cons_succ]
            refine wpAnyH_ready (rs := [8]) (by kernel_rfl) (by simp) ?_
            refine AllReadyH.cons (o := ({ dst := some 24, op := Op.call { callee := Callee.builtin Builtin.append, args := #[Operand.tmp 16, Operand.tmp 23], argTypes := #[60, 60] }, type := 60, pos := "ref.go:191", after := #[{ on := 0, ground := Ground.data }, { on := 7, ground := Ground.data }], guard := none } : Oper)) rfl (fun K hK => ?_) AllReadyH.nil
            refine step_append_own rfl (.tmp 16) (.tmp 23) 60 rfl w.heap.size 5 i0 (.int .u8 0) 1 1 Tryz.underlying60 hi hz0 hz1 hz2 rfl (by decide) u3 _ _ (by simp [Act.eval]) (World.ownsRow.alloc (World.ownsRow.drew hI.out) _) ⟨wr.heap.size, 0, none⟩ 4 4 [.int .u8 92, .int .u8 120, .int .u8 (hexd p).toNat, .int .u8 (hexd q).toNat] (by simp [Act.eval]) rfl ?c1A ?c2A (by unfold maxLen; omega) (by omega) (by simp; omega) (fun v' w2 h2 h3 => ?_)
            case c1A => (intro j u hj; rw [Addr.add_lit]; (rcases j with _ | _ | _ | _ | j) <;> simp at hj <;> subst hj <;> simp (maxDischargeDepth := 12) [go_sem])
            case c2A => (intro u hu; simp at hu; (rcases hu with rfl | rfl | rfl | rfl) <;> rfl)
            refine hK.out _ _ trivial (fun hHeld => ?_)
            clear hK K
            try simp only [Act.put, List.setIfInBounds_toArray, List.set_cons_zero, List.set_cons_succ]
            refine wpAnyH_take (i := 9) (oi := ({ dst := some 3, op := Op.assign (Operand.tmp 24), type := 60, pos := "ref.go:191", after := #[{ on := 8, ground := Ground.data }, { on := 8, ground := Ground.chain }, { on := 0, ground := Ground.phase }, { on := 1, ground := Ground.phase }, { on := 2, ground := Ground.phase }, { on := 3, ground := Ground.phase }, { on := 4, ground := Ground.phase }, { on := 5, ground := Ground.phase }, { on := 6, ground := Ground.phase }, { on := 7, ground := Ground.phase }, { on := 8, ground := Ground.phase }], guard := none } : Oper)) (v := ?yvq9A) rfl (by kernel_rfl) (by kernel_rfl) (by kernel_rfl) (fun _ _ _ h => h) (Or.inl ⟨by rfl, ?yhq9A⟩) (by assumption) ?yrq9A
            case yhq9A => (intro wq hSw; (try dsimp only at hSw); go_simp; first | done | with_reducible rfl)
            try simp only [Act.put, List.setIfInBounds_toArray, List.set_cons_zero, List.set_cons_succ]
            refine wpAnyH_done (by kernel_rfl) ?_ _
            have o2 : Hid (Own w.heap.size v' (34 :: inside (s.data.toList.take (k + 1))) w2) := by
              rw [HS.out, he.out, ← List.cons_append]
              exact own_more (M := [92, 120, hexd p, hexd q]) h2 rfl
            have K2 : Below w.heap.size w w2 := Below.grown (hB.drew.alloc (by simpa using hsz) _) h3 (by simp; omega) HK.out
            clear h2 h3 hI HK he HS
            (try go_wp2)
            exact ⟨⟨k + 1, by omega, by simp, o2, K2⟩, by simp [intOf]; omega⟩
          · skip
            have yp : IntKind.u8.wrap (p : Int) = (p : Int) := by simp [IntKind.wrap, IntKind.bits, IntKind.signed]; omega
            have yq : (c.toNat : Int).tmod 16 = (q : Int) := by rw [Int.tmod_eq_emod_of_nonneg (by omega)]; exact xq
            have hp2 : (p : Int) < 16 := by omega
            have hq2 : (q : Int) < 16 := by omega
            have tp := hex_tab p hp
            have tq := hex_tab q hq
            go_upto_region 6 with fail
            refine wp_region_held_drew (S := fun _ => True) (by kernel_rfl) trivial (fun hHeld => ?_)
            refine wpAnyH_take (i := 0) (oi := ({ dst := some 16, op := Op.move (Operand.tmp 3), type := 60, pos := "ref.go:191", after := #[], guard := none } : Oper)) (v := ?yvq0B) rfl (by kernel_rfl) (by kernel_rfl) (by kernel_rfl) (fun _ _ _ h => h) (Or.inl ⟨by rfl, ?yhq0B⟩) (by assumption) ?yrq0B
            case yhq0B => (intro wq hSw; (try dsimp only at hSw); go_simp; first | done | with_reducible rfl)
            try simp only [Act.put, List.setIfInBounds_toArray, List.set_cons_zero, List.set_cons_succ]
            refine wpAnyH_take (i := 1) (oi := ({ dst := some 17, op := Op.move (Operand.tmp 5), type := 5, pos := "ref.go:191", after := #[], guard := none } : Oper)) (v := ?yvq1B) rfl (by kernel_rfl) (by kernel_rfl) (by kernel_rfl) (fun _ _ _ h => h) (Or.inl ⟨by rfl, ?yhq1B⟩) (by assumption) ?yrq1B
            case yhq1B => (intro wq hSw; (try dsimp only at hSw); go_simp; first | done | with_reducible rfl)
            try simp only [Act.put, List.setIfInBounds_toArray, List.set_cons_zero, List.set_cons_succ]
            refine wpAnyH_take (i := 2) (oi := ({ dst := some 18, op := Op.binOp BinOp.quo 5 (Operand.tmp 17) (Operand.const (Value.int IntKind.u8 16)) 5, type := 5, pos := "ref.go:191", after := #[{ on := 1, ground := Ground.data }], guard := none } : Oper)) (v := ?yvq2B) rfl (by kernel_rfl) (by kernel_rfl) (by kernel_rfl) (fun _ _ _ h => h) (Or.inl ⟨by rfl, ?yhq2B⟩) (by assumption) ?yrq2B
            case yhq2B => (intro wq hSw; (try dsimp only at hSw); go_simp; first | done | with_reducible rfl)
            try simp only [Act.put, List.setIfInBounds_toArray, List.set_cons_zero, List.set_cons_succ]
            refine wpAnyH_take (i := 3) (oi := ({ dst := some 19, op := Op.index 9 (Operand.const (Value.string { data := #[48, 49, 50, 51, 52, 53, 54, 55, 56, 57, 97, 98, 99, 100, 101, 102] })) (Operand.tmp 18), type := 5, pos := "ref.go:191", after := #[{ on := 2, ground := Ground.data }], guard := none } : Oper)) (v := ?yvq3B) rfl (by kernel_rfl) (by kernel_rfl) (by kernel_rfl) (fun _ _ _ h => h) (Or.inl ⟨by rfl, ?yhq3B⟩) (by assumption) ?yrq3B
            case yhq3B => (intro wq hSw; (try dsimp only at hSw); go_simp; first | done | with_reducible rfl)
            try simp only [Act.put, List.setIfInBounds_toArray, List.set_cons_zero, List.set_cons_succ]
            refine wpAnyH_take (i := 4) (oi := ({ dst := some 20, op := Op.move (Operand.tmp 5), type := 5, pos := "ref.go:191", after := #[], guard := none } : Oper)) (v := ?yvq4B) rfl (by kernel_rfl) (by kernel_rfl) (by kernel_rfl) (fun _ _ _ h => h) (Or.inl ⟨by rfl, ?yhq4B⟩) (by assumption) ?yrq4B
            case yhq4B => (intro wq hSw; (try dsimp only at hSw); go_simp; first | done | with_reducible rfl)
            try simp only [Act.put, List.setIfInBounds_toArray, List.set_cons_zero, List.set_cons_succ]
            refine wpAnyH_take (i := 5) (oi := ({ dst := some 21, op := Op.binOp BinOp.rem 5 (Operand.tmp 20) (Operand.const (Value.int IntKind.u8 16)) 5, type := 5, pos := "ref.go:191", after := #[{ on := 4, ground := Ground.data }], guard := none } : Oper)) (v := ?yvq5B) rfl (by kernel_rfl) (by kernel_rfl) (by kernel_rfl) (fun _ _ _ h => h) (Or.inl ⟨by rfl, ?yhq5B⟩) (by assumption) ?yrq5B
            case yhq5B => (intro wq hSw; (try dsimp only at hSw); go_simp; first | done | with_reducible rfl)
            try simp only [Act.put, List.setIfInBounds_toArray, List.set_cons_zero, List.set_cons_succ]
            refine wpAnyH_take (i := 6) (oi := ({ dst := some 22, op := Op.index 9 (Operand.const (Value.string { data := #[48, 49, 50, 51, 52, 53, 54, 55, 56, 57, 97, 98, 99, 100, 101, 102] })) (Operand.tmp 21), type := 5, pos := "ref.go:191", after := #[{ on := 5, ground := Ground.data }], guard := none } : Oper)) (v := ?yvq6B) rfl (by kernel_rfl) (by kernel_rfl) (by kernel_rfl) (fun _ _ _ h => h) (Or.inl ⟨by rfl, ?yhq6B⟩) (by assumption) ?yrq6B
            case yhq6B => (intro wq hSw; (try dsimp only at hSw); go_simp; first | done | with_reducible rfl)
            try simp only [Act.put, List.setIfInBounds_toArray, List.set_cons_zero, List.set_cons_succ]
            refine wpAnyH_ready (rs := [7]) (by kernel_rfl) (by simp) ?_
            refine AllReadyH.cons (o := ({ dst := some 23, op := Op.buildSlice 60 4 #[(0, Operand.const (Value.int IntKind.u8 92)), (1, Operand.const (Value.int IntKind.u8 120)), (2, Operand.tmp 19), (3, Operand.tmp 22)], type := 60, pos := "ref.go:191", after := #[{ on := 3, ground := Ground.data }, { on := 6, ground := Ground.data }], guard := none } : Oper)) rfl (fun K hK => ?_) AllReadyH.nil
            go_simp
            refine hK.out _ _ trivial (fun hHeld => ?_)
            clear hK K
            try simp only [Act.put, List.setIfInBounds_toArray, List.set_cons_zero, List.set_cons_succ]
            refine wpAnyH_ready (rs := [8]) (by kernel_rfl) (by simp) ?_
            refine AllReadyH.cons (o := ({ dst := some 24, op := Op.call { callee := Callee.builtin Builtin.append, args := #[Operand.tmp 16, Operand.tmp 23], argTypes := #[60, 60] }, type := 60, pos := "ref.go:191", after := #[{ on := 0, ground := Ground.data }, { on := 7, ground := Ground.data }], guard := none } : Oper)) rfl (fun K hK => ?_) AllReadyH.nil
            refine step_append_own rfl (.tmp 16) (.tmp 23) 60 rfl w.heap.size 5 i0 (.int .u8 0) 1 1 Tryz.underlying60 hi hz0 hz1 hz2 rfl (by decide) u3 _ _ (by simp [Act.eval]) (World.ownsRow.alloc (World.ownsRow.drew hI.out) _) ⟨wr.heap.size, 0, none⟩ 4 4 [.int .u8 92, .int .u8 120, .int .u8 (hexd p).toNat, .int .u8 (hexd q).toNat] (by simp [Act.eval]) rfl ?c1B ?c2B (by unfold maxLen; omega) (by omega) (by simp; omega) (fun v' w2 h2 h3 => ?_)
            case c1B => (intro j u hj; rw [Addr.add_lit]; (rcases j with _ | _ | _ | _ | j) <;> simp at hj <;> subst hj <;> simp (maxDischargeDepth := 12) [go_sem])
            case c2B => (intro u hu; simp at hu; (rcases hu with rfl | rfl | rfl | rfl) <;> rfl)
            refine hK.out _ _ trivial (fun hHeld => ?_)
            clear hK K
            try simp only [Act.put, List.setIfInBounds_toArray, List.set_cons_zero, List.set_cons_succ]
            refine wpAnyH_take (i := 9) (oi := ({ dst := some 3, op := Op.assign (Operand.tmp 24), type := 60, pos := "ref.go:191", after := #[{ on := 8, ground := Ground.data }, { on := 8, ground := Ground.chain }, { on := 0, ground := Ground.phase }, { on := 1, ground := Ground.phase }, { on := 2, ground := Ground.phase }, { on := 3, ground := Ground.phase }, { on := 4, ground := Ground.phase }, { on := 5, ground := Ground.phase }, { on := 6, ground := Ground.phase }, { on := 7, ground := Ground.phase }, { on := 8, ground := Ground.phase }], guard := none } : Oper)) (v := ?yvq9B) rfl (by kernel_rfl) (by kernel_rfl) (by kernel_rfl) (fun _ _ _ h => h) (Or.inl ⟨by rfl, ?yhq9B⟩) (by assumption) ?yrq9B
            case yhq9B => (intro wq hSw; (try dsimp only at hSw); go_simp; first | done | with_reducible rfl)
            try simp only [Act.put, List.setIfInBounds_toArray, List.set_cons_zero, List.set_cons_succ]
            refine wpAnyH_done (by kernel_rfl) ?_ _
            have o2 : Hid (Own w.heap.size v' (34 :: inside (s.data.toList.take (k + 1))) w2) := by
              rw [HS.out, he.out, ← List.cons_append]
              exact own_more (M := [92, 120, hexd p, hexd q]) h2 rfl
            have K2 : Below w.heap.size w w2 := Below.grown (hB.drew.alloc (by simpa using hsz) _) h3 (by simp; omega) HK.out
            clear h2 h3 hI HK he HS
            (try go_wp2)
            exact ⟨⟨k + 1, by omega, by simp, o2, K2⟩, by simp [intOf]; omega⟩

end Go.Proofs.YtgmmhgbodddadaaGreatDoor

namespace Go.Proofs.YtgmmhgbodddadaaGreatDoor
open Go.RowKit Go.Shelf
set_option linter.unusedVariables false

set_option maxRecDepth 100000 in
set_option maxHeartbeats 2000000 in
theorem dprint_no (k n d : Int) (s : ByteArray) (w : World) (h1 : -9223372036854775808 ≤ n) (h2 : n ≤ 9223372036854775807) (g1 : -9223372036854775808 ≤ d) (g2 : d ≤ 9223372036854775807) (hc1 : (chk k n d s != 0) = true) :
    Calls Tryz.prog 46 #[.agg #[.int .i64 k, .int .i64 n, .int .i64 d, .string s]] w fun e w' => e = .returned (.tuple #[.string ⟨#[]⟩, .int .i64 (chk k n d s)]) ∧ Below w.heap.size w w' := by
  go_enter Tryz.func46, Tryz.ntmps46
  go_wp2_with fail
  refine (rcheck_any k n d s _ h1 h2 g1 g2).mono ?_
  rintro e w1 ⟨rfl, hb⟩
  obtain ⟨hc, hf, hz, hB⟩ := bf (w := w) (by go_grown) hb
  go_wp2
  go_ret2
  exact ⟨rfl, hB⟩

set_option maxRecDepth 100000 in
set_option maxHeartbeats 2000000 in
theorem dprint_1 (n d : Int) (s : ByteArray) (w : World) (h1 : -9223372036854775808 ≤ n) (h2 : n ≤ 9223372036854775807) (g1 : -9223372036854775808 ≤ d) (g2 : d ≤ 9223372036854775807) (c0 : chk 1 n d s = 0) :
    Calls Tryz.prog 46 #[.agg #[.int .i64 1, .int .i64 n, .int .i64 d, .string s]] w fun e w' => e = .returned (.tuple #[.string ⟨(Lib.itoa n).toArray⟩, .int .i64 0]) ∧ Below w.heap.size w w' := by
  go_enter Tryz.func46, Tryz.ntmps46
  go_wp2_with fail
  refine (rcheck_any 1 n d s _ h1 h2 g1 g2).mono ?_
  rintro e w1 ⟨rfl, hb⟩
  obtain ⟨hc, hf, hz, hB⟩ := bf (w := w) (by go_grown) hb
  rw [c0]
  have a1 : w1.cell? ⟨w.heap.size, 0, none⟩ = some (.int .i64 1) := by rw [hc _ _ (by simp)]; simp [go_sem]
  have a2 : w1.cell? ⟨w.heap.size, 1, none⟩ = some (.int .i64 n) := by rw [hc _ _ (by simp)]; simp [go_sem]
  clear hc hf hz hb
  go_wp2_with fail
  refine (ddec_any n _ h1 h2).mono ?_
  rintro e w2 ⟨rfl, hb2⟩
  go_wp2
  go_ret2
  exact ⟨rfl, hB.trans (hb2.mono hB.size)⟩

set_option maxRecDepth 100000 in
set_option maxHeartbeats 2000000 in
theorem dprint_3 (n d : Int) (s : ByteArray) (w : World) (h1 : -9223372036854775808 ≤ n) (h2 : n ≤ 9223372036854775807) (g1 : -9223372036854775808 ≤ d) (g2 : d ≤ 9223372036854775807) (c0 : chk 3 n d s = 0) :
    Calls Tryz.prog 46 #[.agg #[.int .i64 3, .int .i64 n, .int .i64 d, .string s]] w fun e w' => e = .returned (.tuple #[.string ⟨(quoted s.data.toList).toArray⟩, .int .i64 0]) ∧ Below w.heap.size w w' := by
  have hs := chk_size c0
  go_enter Tryz.func46, Tryz.ntmps46
  go_wp2_with fail
  refine (rcheck_any 3 n d s _ h1 h2 g1 g2).mono ?_
  rintro e w1 ⟨rfl, hb⟩
  obtain ⟨hc, hf, hz, hB⟩ := bf (w := w) (by go_grown) hb
  rw [c0]
  have a1 : w1.cell? ⟨w.heap.size, 0, none⟩ = some (.int .i64 3) := by rw [hc _ _ (by simp)]; simp [go_sem]
  have a2 : w1.cell? ⟨w.heap.size, 3, none⟩ = some (.string s) := by rw [hc _ _ (by simp)]; simp [go_sem]
  clear hc hf hz hb
  go_wp2_with fail
  refine (dquote_any s _ (by omega)).mono ?_
  rintro e w2 ⟨rfl, hb2⟩
  go_wp2
  go_ret2
  exact ⟨rfl, hB.trans (hb2.mono hB.size)⟩

set_option maxRecDepth 100000 in
set_option maxHeartbeats 2000000 in
theorem dprint_2 (n d : Int) (s : ByteArray) (w : World) (h1 : -9223372036854775808 ≤ n) (h2 : n ≤ 9223372036854775807) (g1 : -9223372036854775808 ≤ d) (g2 : d ≤ 9223372036854775807) (c0 : chk 2 n d s = 0) :
    Calls Tryz.prog 46 #[.agg #[.int .i64 2, .int .i64 n, .int .i64 d, .string s]] w fun e w' => e = .returned (.tuple #[.string ⟨(Lib.itoa n ++ 47 :: Lib.itoa d).toArray⟩, .int .i64 0]) ∧ Below w.heap.size w w' := by
  go_enter Tryz.func46, Tryz.ntmps46
  go_wp2_with fail
  refine (rcheck_any 2 n d s _ h1 h2 g1 g2).mono ?_
  rintro e W0 ⟨rfl, hb⟩
  obtain ⟨hc, hf, hz, hB⟩ := bf (w := w) (by go_grown) hb
  rw [c0]
  have c3 : W0.cell? ⟨w.heap.size, 0, none⟩ = some (.int .i64 2) := by rw [hc _ _ (by simp)]; simp [go_sem]
  have c1 : W0.cell? ⟨w.heap.size, 1, none⟩ = some (.int .i64 n) := by rw [hc _ _ (by simp)]; simp [go_sem]
  have c2 : W0.cell? ⟨w.heap.size, 2, none⟩ = some (.int .i64 d) := by rw [hc _ _ (by simp)]; simp [go_sem]
  have k1 : w.heap.size < W0.heap.size := by simp at hz; omega
  have k0 : Below w.heap.size w W0 := hB
  clear hc hf hz hb hB
  go_upto_region 8 with fail
  have lA := Lib.itoa_length_le n h1 h2
  have lB := Lib.itoa_length_le d g1 g2
  obtain ⟨A, eA⟩ : ∃ A : ByteArray, A = ⟨(Lib.itoa n).toArray⟩ := ⟨_, rfl⟩
  obtain ⟨B, eB⟩ : ∃ B : ByteArray, B = ⟨(Lib.itoa d).toArray⟩ := ⟨_, rfl⟩
  have sA : A.size ≤ 21 := by rw [eA]; show (Lib.itoa n).toArray.size ≤ 21; simpa using lA
  have sB : B.size ≤ 21 := by rw [eB]; show (Lib.itoa d).toArray.size ≤ 21; simpa using lB
  have DA := fun (W : World) => ddec_any n W h1 h2
  have DB := fun (W : World) => ddec_any d W g1 g2
  rw [← eA] at DA
  rw [← eB] at DB
  obtain ⟨C, eC⟩ : ∃ C : ByteArray, C = A ++ ⟨#[47]⟩ := ⟨_, rfl⟩
  have sC : C.size ≤ 22 := by rw [eC, ByteArray.size_append]; have : (⟨#[47]⟩ : ByteArray).size = 1 := rfl
                              omega
  have x1 : ∀ W : World, (Op.stringOp .add A ⟨#[47]⟩).run Tryz.prog W = .ok (.string C) W := fun W => by
    rw [run_string_add_sum W _ _ (by have : (⟨#[47]⟩ : ByteArray).size = 1 := rfl
                                     omega), eC]
  have x2 : ∀ W : World, (Op.stringOp .add C B).run Tryz.prog W = .ok (.string (C ++ B)) W := fun W => run_string_add_sum W _ _ (by omega)
  have eF : Hid (C ++ B = ⟨(Lib.itoa n ++ 47 :: Lib.itoa d).toArray⟩) := by
    rw [eC, eA, eB]
    apply ByteArray.ext
    simp
  have DA' : Hid (∀ W : World, Calls Tryz.prog 45 #[.int .i64 n] W fun e w' => e = .returned (.string A) ∧ Below W.heap.size W w') := DA
  have DB' : Hid (∀ W : World, Calls Tryz.prog 45 #[.int .i64 d] W fun e w' => e = .returned (.string B) ∧ Below W.heap.size W w') := DB
  clear DA DB eA eB eC sA sB sC lA lB
  go_region_held3 (fun w' => w'.cell? ⟨w.heap.size, 1, none⟩ = some (.int .i64 n) ∧ w'.cell? ⟨w.heap.size, 2, none⟩ = some (.int .i64 d)) (exact ⟨bcl (n := W0.heap.size) (by go_grown) c1 k1, bcl (n := W0.heap.size) (by go_grown) c2 k1⟩)
    (first
      | (go_at_call_of 45 (Value.int IntKind.i64 n); refine (DA'.out _).mono ?_; rintro e w1 ⟨rfl, hb1⟩; obtain ⟨hB1, hn1⟩ := bg0 (n := W0.heap.size) (W0 := W0) (by go_grown) (by go_size) hb1)
      | (go_at_call_of 45 (Value.int IntKind.i64 d); refine (DB'.out _).mono ?_; rintro e w2 ⟨rfl, hb2⟩; obtain ⟨hB2, hn2⟩ := bg0 (n := W0.heap.size) (W0 := W0) (by go_grown) (by go_size) hb2))
  all_goals
    go_wp2
    go_ret2
    exact ⟨by rw [eF.out]; rfl, k0.trans (Below.mono (B := W0.heap.size) (by go_grown) k0.size)⟩

theorem chk_kind0 {k n d : Int} {s : ByteArray} (h : chk k n d s = 0) : k = 1 ∨ k = 2 ∨ k = 3 := by
  by_cases k1 : k = 1
  · exact Or.inl k1
  · by_cases k2 : k = 2
    · exact Or.inr (Or.inl k2)
    · by_cases k3 : k = 3
      · exact Or.inr (Or.inr k3)
      · exfalso
        have e0 : chk k n d s = 20 := by simp [chk, pureB, k1, k2, k3]
        omega

theorem dprint_any (k n d : Int) (s : ByteArray) (w : World) (h1 : -9223372036854775808 ≤ n) (h2 : n ≤ 9223372036854775807) (g1 : -9223372036854775808 ≤ d) (g2 : d ≤ 9223372036854775807) :
    Calls Tryz.prog 46 #[.agg #[.int .i64 k, .int .i64 n, .int .i64 d, .string s]] w fun e w' => e = .returned (.tuple #[.string ⟨(if chk k n d s = 0 then vtext k n d s else []).toArray⟩, .int .i64 (chk k n d s)]) ∧ Below w.heap.size w w' := by
  by_cases hc0 : chk k n d s = 0
  · rw [if_pos hc0, hc0]
    rcases chk_kind0 hc0 with rfl | rfl | rfl
    · have h := dprint_1 n d s w h1 h2 g1 g2 hc0
      exact h
    · have h := dprint_2 n d s w h1 h2 g1 g2 hc0
      exact h
    · have h := dprint_3 n d s w h1 h2 g1 g2 hc0
      exact h
  · rw [if_neg hc0]
    exact dprint_no k n d s w h1 h2 g1 g2 (by simpa using hc0)

end Go.Proofs.YtgmmhgbodddadaaGreatDoor

namespace Go.Proofs.YtgmmhgbodddadaaGreatDoor
open Go.RowKit LX Go.Shelf
set_option linter.unusedVariables false

theorem run_addB (a b : List UInt8) (h : a.length + b.length ≤ 140737488355328) (W : World) : (Op.stringOp .add ⟨a.toArray⟩ ⟨b.toArray⟩).run Tryz.prog W = .ok (.string ⟨(a ++ b).toArray⟩) W := by
  have sa : (⟨a.toArray⟩ : ByteArray).size = a.length := by show a.toArray.size = _; simp
  have sb : (⟨b.toArray⟩ : ByteArray).size = b.length := by show b.toArray.size = _; simp
  rw [run_string_add_sum W _ _ (by omega)]
  have e : (⟨a.toArray⟩ : ByteArray) ++ ⟨b.toArray⟩ = ⟨(a ++ b).toArray⟩ := by
    apply ByteArray.ext
    rw [ByteArray.data_append]
    simp
  rw [e]
theorem dprint_ok (v : Val) (f : v.Fits) (h : v.may = 0) (W : World) :
    Calls Tryz.prog 46 #[.agg #[.int .i64 v.k, .int .i64 v.n, .int .i64 v.d, .string v.s]] W fun e w' => e = .returned (.tuple #[.string ⟨v.text.toArray⟩, .int .i64 0]) ∧ Below W.heap.size W w' := by
  have e := dprint_any v.k v.n v.d v.s W f.n1 f.n2 f.d1 f.d2
  have h' : chk v.k v.n v.d v.s = 0 := h
  rw [if_pos h', h'] at e
  exact e

set_option maxRecDepth 100000 in
set_option maxHeartbeats 4000000 in
theorem rppoint_any (V : Value) (t : Int) (es : List Evt) (w : World) (t1 : -9223372036854775808 ≤ t) (t2 : t ≤ 9223372036854775807) (hV : EvsAt w V es) (fx : ∀ e ∈ es, ∀ v ∈ e.args, v.Fits) (lv : ∀ e ∈ es, e.args.length ≤ 9223372036854775807) (le : es.length ≤ 9223372036854775807) (hl : evsW es + 1000 ≤ 140737488355328) :
    Calls Tryz.prog 23 #[.agg #[.int .i64 t, V]] w fun r w' => r = .returned (.tuple #[.string ⟨(ppT t es).toArray⟩, .int .i64 (ppE t es)]) ∧ Below w.heap.size w w' := by
  have cV : Hid (∀ (W : World) (U : Value) (e : Evt), e ∈ es → RowAt W U e.args → Calls Tryz.prog 39 #[U] W fun r w' => r = .returned (.int .i64 (valsE e.args)) ∧ Below W.heap.size W w') := fun W U e he hU => rvals_any U e.args W hU (fx e he) (lv e he)
  have FX : Hid (∀ e ∈ es, ∀ v ∈ e.args, v.Fits) := fx
  have cD : Hid (∀ W : World, Calls Tryz.prog 45 #[.int .i64 t] W fun e w' => e = .returned (.string ⟨(Lib.itoa t).toArray⟩) ∧ Below W.heap.size W w') := fun W => ddec_any t W t1 t2
  have lD := Lib.itoa_length_le t t1 t2
  obtain ⟨pv, cv, rfl, HY0⟩ := hV.form
  have HY : Hid (∀ i (hi : i < es.length), ∃ b off u, pv = some ⟨b, off, none⟩ ∧ b < w.heap.size ∧ w.cell? ⟨b, off + i * 2, none⟩ = some (.string es[i].name) ∧ w.cell? ⟨b, off + i * 2 + 1, none⟩ = some u ∧ RowAt w u es[i].args) := HY0
  have hp : Hid (ppE t es = if sizeE t es.length = 0 then (if wevsE es = 0 then (if 4096 < (lineT t es).length then 2 else 0) else wevsE es) else sizeE t es.length) := rfl
  have hq : Hid (ppT t es = if ppE t es = 0 then lineT t es else []) := rfl
  clear hV HY0 fx lv
  obtain ⟨m, em⟩ : ∃ m : Nat, Hid (es.length = m) := ⟨_, rfl⟩
  obtain ⟨E, eE⟩ : ∃ E : Int, Hid (ppE t es = E) := ⟨_, rfl⟩
  obtain ⟨Q, eQ⟩ : ∃ Q : List UInt8, Hid (ppT t es = Q) := ⟨_, rfl⟩
  obtain ⟨Z, eZ⟩ : ∃ Z : Int, Hid (sizeE t m = Z) := ⟨_, rfl⟩
  rw [eE.out, em.out, eZ.out] at hp
  rw [eE.out, eQ.out] at hq
  rw [em.out] at le
  rw [eE.out, eQ.out, em.out]
  have cZ : Hid (∀ W : World, Calls Tryz.prog 38 #[.agg #[.int .i64 t, .slice pv m cv]] W fun e w' => e = .returned (.int .i64 Z) ∧ Below W.heap.size W w') := fun W => by
    have h := rsizes_any t pv m cv W
    rw [eZ.out] at h
    exact h
  have hQ0 : Hid (E ≠ 0 → (⟨Q.toArray⟩ : ByteArray) = ⟨#[]⟩) := fun h => by have h' := hq.out; rw [if_neg h] at h'; rw [h']
  go_enter Tryz.func23, Tryz.ntmps23
  go_wp2_with fail
  refine (cZ.out _).mono ?_
  rintro e w1 ⟨rfl, hb1⟩
  have b0 : w1.cell? ⟨w.heap.size, 0, none⟩ = some (.int .i64 t) := (hb1.cell (p := ⟨w.heap.size, 0, none⟩) (by simp)).trans (by simp [go_sem])
  have b1 : w1.cell? ⟨w.heap.size, 1, none⟩ = some (.slice pv m cv) := (hb1.cell (p := ⟨w.heap.size, 1, none⟩) (by simp)).trans (by simp [go_sem])
  have hs1 : w.heap.size < w1.heap.size := by have := hb1.size; simp at this; omega
  obtain ⟨hB1, -⟩ := bgX (n := w.heap.size) (W0 := w) (by go_grown) (by go_size) hb1
  clear hb1 cZ
  by_cases hZ : Z = 0
  · have hp1 : Hid (E = if wevsE es = 0 then (if 4096 < (lineT t es).length then 2 else 0) else wevsE es) := by have h := hp.out; rwa [if_pos hZ] at h
    subst hZ
    have x0 := run_addB [64] (Lib.itoa t) (by simp; omega)
    have hG0 : Hid ((⟨([64] ++ Lib.itoa t).toArray⟩ : ByteArray) = ⟨(lineT t (es.take 0)).toArray⟩) := by unfold Hid lineT; simp [evsT]
    rw [hG0.out] at x0
    generalize hg0 : (⟨(lineT t (es.take 0)).toArray⟩ : ByteArray) = G0 at x0 hG0
    have HG0 : Hid (G0 = ⟨(lineT t (es.take 0)).toArray⟩) := hg0.symm
    generalize (⟨(Lib.itoa t).toArray⟩ : ByteArray) = DD at cD x0
    clear hp hg0 hG0
    go_wp2_with fail
    refine (cD.out _).mono ?_
    rintro e w2 ⟨rfl, hb2⟩
    have c1 : w2.cell? ⟨w.heap.size, 1, none⟩ = some (.slice pv m cv) := (hb2.cell (p := ⟨w.heap.size, 1, none⟩) hs1).trans b1
    have hs2 : w.heap.size < w2.heap.size := Nat.lt_of_lt_of_le hs1 hb2.size
    have hB2 : Below w.heap.size w w2 := hB1.trans (hb2.mono hB1.size)
    clear b0 b1 cD hb2 hB1
    go_wp2
    clear x0
    go_loopw [5, 6] (fun v5 v6 wr => ∃ k : Nat, k ≤ m ∧ v6 = .int .i64 k ∧ v5 = .string ⟨(lineT t (es.take k)).toArray⟩ ∧ Hid (wevsE es = wevsE (es.drop k)) ∧ Hid (∀ e ∈ es.take k, wevE e = 0) ∧ Below w2.heap.size w2 wr) (fun _ v6 _ => m - (intOf v6).toNat)
    case atStart => exact ⟨0, Nat.zero_le _, rfl, by rw [HG0.out], (show _ = _ by rw [List.drop_zero]), fun e h => by simp at h, Below.refl _ _⟩
    case round =>
      obtain ⟨k, hk, rfl, rfl, hr, hz, hB0⟩ := hrel
      have hBw : Below w.heap.size w wr := hB2.trans (hB0.mono hB2.size)
      have y1 : wr.cell? ⟨w.heap.size, 1, none⟩ = some (.slice pv m cv) := (hB0.cell (p := ⟨w.heap.size, 1, none⟩) hs2).trans c1
      have ys : w.heap.size < wr.heap.size := Nat.lt_of_lt_of_le hs2 hB0.size
      have lT : (lineT t (es.take k)).length ≤ 40 + evsW (es.take k) := by
        have h := evsT_len (l := es.take k) hz.out (fun e he => FX.out e (List.mem_of_mem_take he))
        unfold lineT
        simp only [List.length_append, List.length_cons]
        omega
      by_cases hlt : k < m
      · have kx : k < es.length := by have := em.out; omega
        obtain ⟨b, off, u, rfl, hb, r0, r1, r2⟩ := HY.out k kx
        have a0 := (hBw.cell (p := ⟨b, off + k * 2, none⟩) hb).trans r0
        have a1 := (hBw.cell (p := ⟨b, off + k * 2 + 1, none⟩) hb).trans r1
        have hlt' : (k : Int) < m := by omega
        have hr2 : Hid (wevsE es = if wevE es[k] = 0 then wevsE (es.drop (k + 1)) else wevE es[k]) := by
          have h := hr.out
          rw [List.drop_eq_getElem_cons kx] at h
          exact h
        have hwe : Hid (wevE es[k] = if nameB es[k].name = true then valsE es[k].args else 1) := rfl
        have hsn : Hid (lineT t (es.take (k + 1)) = lineT t (es.take k) ++ evtT es[k]) := by
          unfold Hid lineT
          rw [List.take_succ_eq_append_getElem kx, evsT_snoc]
          simp
        have hz2 : Hid (wevE es[k] = 0 → ∀ e ∈ es.take (k + 1), wevE e = 0) := fun h e he => by
          rw [List.take_succ_eq_append_getElem kx] at he
          rcases List.mem_append.1 he with h1 | h1
          · exact hz.out e h1
          · rw [List.mem_singleton.1 h1]; exact h
        have hev : Hid (evtT es[k] = (32 :: 40 :: es[k].name.data.toList) ++ (argsT es[k].args ++ [41])) := rfl
        have hW := evsW_take es k kx
        have hWk : evW es[k] = 301 * es[k].args.length + es[k].name.size + 500 := rfl
        have cN : Hid (∀ W : World, Calls Tryz.prog 27 #[.string es[k].name] W fun e w' => e = .returned (.bool (nameB es[k].name)) ∧ Below W.heap.size W w') := fun W => rname_any _ W
        have ct : Hid (∀ W : World, Below wr.heap.size wr W → Calls Tryz.prog 39 #[u] W fun r w' => r = .returned (.int .i64 (valsE es[k].args)) ∧ Below W.heap.size W w') := fun W hW => cV.out W u es[k] (List.getElem_mem kx) (r2.below (hBw.trans (hW.mono hBw.size)))
        obtain ⟨pu, cu, hu, HA0⟩ := r2.formX
        subst hu
        have HA : Hid (∀ i (hi : i < es[k].args.length), ∃ b off, pu = some ⟨b, off, none⟩ ∧ b < w.heap.size ∧ w.cell? ⟨b, off + i * 4, none⟩ = some (.int .i64 es[k].args[i].k) ∧ w.cell? ⟨b, off + i * 4 + 1, none⟩ = some (.int .i64 es[k].args[i].n) ∧ w.cell? ⟨b, off + i * 4 + 2, none⟩ = some (.int .i64 es[k].args[i].d) ∧ w.cell? ⟨b, off + i * 4 + 3, none⟩ = some (.string es[k].args[i].s)) := HA0
        have hfx : Hid (∀ v ∈ es[k].args, v.Fits) := FX.out _ (List.getElem_mem kx)
        have hbr : b < wr.heap.size := Nat.lt_of_lt_of_le hb hBw.size
        clear r0 r1 r2 hr hz HA0
        obtain ⟨LN, eLN⟩ : ∃ LN : List UInt8, Hid (lineT t (es.take (k + 1)) = LN) := ⟨_, rfl⟩
        rw [eLN.out] at hsn
        rw [hev.out] at hsn
        rw [hWk] at hW
        generalize lineT t (es.take k) = G at lT hsn ⊢
        generalize wevE es[k] = EE at hr2 hwe hz2
        generalize es[k].args = vs at ct HA hfx hwe hsn hW a1
        have sX : es[k].name.size = es[k].name.data.toList.length := by simp
        rw [sX] at hW
        obtain ⟨X, eX⟩ : ∃ X : List UInt8, Hid (es[k].name = ⟨X.toArray⟩ ∧ es[k].name.data.toList = X) := ⟨es[k].name.data.toList, (show _ ∧ _ from ⟨by simp, rfl⟩)⟩
        rw [eX.out.2] at hW hsn
        rw [eX.out.1] at a0 cN hwe
        have y2 := run_addB G [32, 40] (by simp; omega)
        have y3 := run_addB (G ++ [32, 40]) X (by simp; omega)
        obtain ⟨n, en⟩ : ∃ n : Nat, Hid (vs.length = n) := ⟨_, rfl⟩
        rw [en.out] at a1 ct hW
        generalize nameB ⟨X.toArray⟩ = NB at cN hwe
        obtain ⟨C, eC⟩ : ∃ C : Int, Hid (valsE vs = C) := ⟨_, rfl⟩
        rw [eC.out] at ct hwe
        clear sX hWk hev
        obtain ⟨XA, eXA⟩ : ∃ XA : ByteArray, Hid (XA = ⟨X.toArray⟩) := ⟨⟨X.toArray⟩, (show _ = _ from rfl)⟩
        obtain ⟨GA, eGA⟩ : ∃ GA : ByteArray, Hid (GA = ⟨G.toArray⟩) := ⟨⟨G.toArray⟩, (show _ = _ from rfl)⟩
        obtain ⟨GB, eGB⟩ : ∃ GB : ByteArray, Hid (GB = ⟨(G ++ [32, 40]).toArray⟩) := ⟨⟨(G ++ [32, 40]).toArray⟩, (show _ = _ from rfl)⟩
        obtain ⟨GC, eGC⟩ : ∃ GC : ByteArray, Hid (GC = ⟨(G ++ [32, 40] ++ X).toArray⟩) := ⟨⟨(G ++ [32, 40] ++ X).toArray⟩, (show _ = _ from rfl)⟩
        rw [← eGA.out, ← eGB.out] at y2
        rw [← eGB.out, ← eXA.out, ← eGC.out] at y3
        rw [← eXA.out] at a0 cN
        rw [← eGA.out]
        go_wp2_with fail
        refine (cN.out _).mono ?_
        rintro e w3 ⟨rfl, hb3⟩
        have z0 : w3.cell? ⟨wr.heap.size, 0, none⟩ = some (.string XA) := (hb3.cell (p := ⟨wr.heap.size, 0, none⟩) (by simp)).trans (by simp [go_sem])
        have z1 : w3.cell? ⟨wr.heap.size, 1, none⟩ = some (.slice pu n cu) := (hb3.cell (p := ⟨wr.heap.size, 1, none⟩) (by simp)).trans (by simp [go_sem])
        have zs : wr.heap.size < w3.heap.size := by have := hb3.size; simp at this; omega
        obtain ⟨hB3, -⟩ := bgX (n := wr.heap.size) (W0 := wr) (by go_grown) (by go_size) hb3
        clear hb3 cN a0 a1 y1
        cases hNB : NB with
        | false =>
          have hE3 : Hid (E = 1) := by
            have h1 := hwe.out
            rw [hNB] at h1
            have h2 : EE = 1 := h1
            have h3 := hr2.out
            rw [h2, if_neg (by decide)] at h3
            have h4 := hp1.out
            rw [h3, if_neg (by decide)] at h4
            exact h4
          have hQ1 : Hid ((⟨Q.toArray⟩ : ByteArray) = ⟨#[]⟩) := hQ0.out (by have := hE3.out; omega)
          clear hq eQ hQ0 hwe hr2 hp1
          go_wp2
          go_ret2
          exact ⟨by rw [hQ1.out, hE3.out]; try rfl, hBw.trans (hB3.mono hBw.size)⟩
        | true =>
          have hwe2 : Hid (EE = C) := by have h1 := hwe.out; rw [hNB] at h1; exact h1
          clear hwe
          go_wp2_with fail
          refine (ct.out _ hB3).mono ?_
          rintro e w4 ⟨rfl, hb4⟩
          have q0 := (hb4.cell (p := ⟨wr.heap.size, 0, none⟩) zs).trans z0
          have q1 := (hb4.cell (p := ⟨wr.heap.size, 1, none⟩) zs).trans z1
          have zs4 : wr.heap.size < w4.heap.size := Nat.lt_of_lt_of_le zs hb4.size
          have hB4 : Below wr.heap.size wr w4 := hB3.trans (hb4.mono hB3.size)
          clear hb4 hB3 ct z0 z1 zs
          by_cases hC : C = 0
          · have hVM : Hid (∀ v ∈ vs, v.may = 0) := valsE_all (eC.out.trans hC)
            have hr3 : Hid (wevsE es = wevsE (es.drop (k + 1))) := by have h3 := hr2.out; rwa [hwe2.out, if_pos hC] at h3
            have hz3 : Hid (∀ e ∈ es.take (k + 1), wevE e = 0) := hz2.out (hwe2.out.trans hC)
            subst hC
            clear hr2 hwe2 hz2 eC hNB
            go_wp2
            clear q0 y2 y3
            have hBX : Below w.heap.size w w4 := hBw.trans (hB4.mono hBw.size)
            have hBY : Below w2.heap.size w2 w4 := hB0.trans (hB4.mono hB0.size)
            obtain ⟨N0, eN0⟩ : ∃ N0 : Nat, Hid (wr.heap.size = N0) := ⟨_, rfl⟩
            rw [eN0.out] at q1 zs4 ⊢
            clear hbr hB4 eN0
            go_loopw [5, 10] (fun v5 v10 wr => ∃ j : Nat, j ≤ n ∧ v10 = .int .i64 j ∧ v5 = .string ⟨(G ++ [32, 40] ++ X ++ argsT (vs.take j)).toArray⟩ ∧ Below w4.heap.size w4 wr) (fun _ v10 _ => n - (intOf v10).toNat)
            case atStart => exact ⟨0, Nat.zero_le _, rfl, by rw [eGC.out]; simp [argsT], Below.refl _ _⟩
            case round =>
              obtain ⟨j, hj, rfl, rfl, hBq⟩ := hrel
              have hBz : Below w.heap.size w wr := hBX.trans (hBq.mono hBX.size)
              have p1 := (hBq.cell (p := ⟨N0, 1, none⟩) zs4).trans q1
              have lA : (argsT (vs.take j)).length ≤ 301 * j := by
                have h := argsT_len (vs.take j) (fun v hv => ⟨hVM.out v (List.mem_of_mem_take hv), hfx.out v (List.mem_of_mem_take hv)⟩)
                rw [List.length_take, Nat.min_eq_left (by have := en.out; omega)] at h
                exact h
              have lH : (G ++ [32, 40] ++ X ++ argsT (vs.take j)).length ≤ G.length + 2 + X.length + 301 * j := by
                rw [List.length_append, List.length_append, List.length_append]
                simp only [List.length_cons, List.length_nil]
                omega
              by_cases hlj : j < n
              · have jx : j < vs.length := by have := en.out; omega
                obtain ⟨b9, off9, rfl, hb9, s0, s1, s2, s3⟩ := HA.out j jx
                have g0 := (hBz.cell (p := ⟨b9, off9 + j * 4, none⟩) hb9).trans s0
                have g1 := (hBz.cell (p := ⟨b9, off9 + j * 4 + 1, none⟩) hb9).trans s1
                have g2 := (hBz.cell (p := ⟨b9, off9 + j * 4 + 2, none⟩) hb9).trans s2
                have g3 := (hBz.cell (p := ⟨b9, off9 + j * 4 + 3, none⟩) hb9).trans s3
                have hb9q : b9 < wr.heap.size := Nat.lt_of_lt_of_le hb9 hBz.size
                have hlj' : (j : Int) < n := by omega
                have vm := hVM.out _ (List.getElem_mem jx)
                have vf := hfx.out _ (List.getElem_mem jx)
                have cP : Hid (∀ W : World, Calls Tryz.prog 46 #[.agg #[.int .i64 vs[j].k, .int .i64 vs[j].n, .int .i64 vs[j].d, .string vs[j].s]] W fun e w' => e = .returned (.tuple #[.string ⟨vs[j].text.toArray⟩, .int .i64 0]) ∧ Below W.heap.size W w') := fun W => dprint_ok vs[j] vf vm W
                have lV := Val.text_len vm vf
                have hks : Hid (G ++ [32, 40] ++ X ++ argsT (vs.take (j + 1)) = (G ++ [32, 40] ++ X ++ argsT (vs.take j) ++ [32]) ++ vs[j].text) := by
                  unfold Hid
                  rw [List.take_succ_eq_append_getElem jx, argsT_snoc]
                  simp
                clear s0 s1 s2 s3 vm vf
                generalize vs[j].text = TX at cP lV hks
                generalize vs[j] = Y at g0 g1 g2 g3 cP
                obtain ⟨GN, eGN⟩ : ∃ GN : List UInt8, Hid (G ++ [32, 40] ++ X ++ argsT (vs.take (j + 1)) = GN) := ⟨G ++ [32, 40] ++ X ++ argsT (vs.take (j + 1)), (show _ = _ from rfl)⟩
                rw [eGN.out] at hks
                generalize G ++ [32, 40] ++ X ++ argsT (vs.take j) = G2 at lH hks ⊢
                have x2 := run_addB G2 [32] (by simp; omega)
                have x3 := run_addB (G2 ++ [32]) TX (by simp; omega)
                rw [← hks.out] at x3
                generalize (⟨TX.toArray⟩ : ByteArray) = KW at cP x3
                generalize (⟨(G2 ++ [32]).toArray⟩ : ByteArray) = G3 at x2 x3
                generalize (⟨G2.toArray⟩ : ByteArray) = G4 at x2 ⊢
                generalize hGN : (⟨GN.toArray⟩ : ByteArray) = G5 at x3
                have HG5 : Hid (G5 = ⟨GN.toArray⟩) := hGN.symm
                clear hGN hks
                go_wp2_with fail
                refine (cP.out _).mono ?_
                rintro e w5 ⟨rfl, hb5⟩
                obtain ⟨hB5, -⟩ := bgX (n := wr.heap.size) (W0 := wr) (by go_grown) (by go_size) hb5
                have hBn : Below w4.heap.size w4 w5 := hBq.trans (hB5.mono hBq.size)
                clear hb5 hB5 cP g0 g1 g2 g3 p1
                go_wp2
                exact ⟨⟨j + 1, by omega, by go_num, by rw [HG5.out, eGN.out], hBn⟩, by simp [intOf]; omega⟩
              · have c9 : ¬ (j : Int) < n := by omega
                have hal : vs.take j = vs := List.take_of_length_le (by have := en.out; omega)
                rw [hal] at lH ⊢
                have x4 := run_addB (G ++ [32, 40] ++ X ++ argsT vs) [41] (by rw [List.length_singleton]; omega)
                have hfin : Hid ((⟨(G ++ [32, 40] ++ X ++ argsT vs ++ [41]).toArray⟩ : ByteArray) = ⟨LN.toArray⟩) := by
                  unfold Hid
                  rw [hsn.out]
                  simp
                rw [hfin.out] at x4
                generalize (⟨(G ++ [32, 40] ++ X ++ argsT vs).toArray⟩ : ByteArray) = G6 at x4 ⊢
                have hBn : Below w2.heap.size w2 wr := hBY.trans (hBq.mono hBY.size)
                clear hal lA
                go_wp2
                exact ⟨⟨k + 1, by omega, by go_num, by rw [eLN.out], hr3, hz3, hBn⟩, by simp [intOf]; omega⟩
          · have hE3 : Hid (E = C) := by
              have h3 := hr2.out
              rw [hwe2.out, if_neg hC] at h3
              have h4 := hp1.out
              rw [h3, if_neg hC] at h4
              exact h4
            have hQ1 : Hid ((⟨Q.toArray⟩ : ByteArray) = ⟨#[]⟩) := hQ0.out (by have := hE3.out; omega)
            have hC' : (C == 0) = false := by simpa using hC
            clear hq eQ hQ0 hwe2 hr2 hp1
            go_wp2
            go_ret2
            exact ⟨by rw [hQ1.out, hE3.out]; try rfl, hBw.trans (hB4.mono hBw.size)⟩
      · have c2 : ¬ (k : Int) < m := by omega
        have hal : es.take k = es := List.take_of_length_le (by have := em.out; omega)
        have hE2 : Hid (E = if 4096 < (lineT t es).length then 2 else 0) := by
          have h := hp1.out
          have h1 := hr.out
          rw [List.drop_eq_nil_of_le (by have := em.out; omega)] at h1
          have h' : wevsE es = 0 := h1
          rw [if_pos h'] at h
          exact h
        rw [hal] at lT ⊢
        have sz : (⟨(lineT t es).toArray⟩ : ByteArray).size = (lineT t es).length := by show (lineT t es).toArray.size = _; simp
        clear hr hz hp1 hal
        by_cases h4 : 4096 < (lineT t es).length
        · have hE3 : Hid (E = 2) := by have h := hE2.out; rwa [if_pos h4] at h
          have hQ1 : Hid ((⟨Q.toArray⟩ : ByteArray) = ⟨#[]⟩) := hQ0.out (by have := hE3.out; omega)
          have h4' : 4096 < (⟨(lineT t es).toArray⟩ : ByteArray).size := by omega
          have h5' : (4096 : Int) < (⟨(lineT t es).toArray⟩ : ByteArray).size := by omega
          clear hE2 hq eQ hQ0
          generalize (⟨(lineT t es).toArray⟩ : ByteArray) = GG at h4' h5' sz ⊢
          go_wp2
          go_ret2
          exact ⟨by rw [hQ1.out, hE3.out]; try rfl, hBw⟩
        · have hE3 : Hid (E = 0) := by have h := hE2.out; rwa [if_neg h4] at h
          have hQ1 : Hid ((⟨Q.toArray⟩ : ByteArray) = ⟨(lineT t es).toArray⟩) := by have h := hq.out; rw [if_pos hE3.out] at h; rw [h]; exact (show _ = _ from rfl)
          have h5' : ¬ (4096 : Int) < (⟨(lineT t es).toArray⟩ : ByteArray).size := by omega
          clear hE2 hq eQ hQ0
          generalize (⟨(lineT t es).toArray⟩ : ByteArray) = GG at h5' sz hQ1 ⊢
          go_wp2
          go_ret2
          exact ⟨by rw [hQ1.out, hE3.out]; try rfl, hBw⟩
  · have hE : Hid (E = Z) := by have h := hp.out; rwa [if_neg hZ] at h
    have hZ' : (Z == 0) = false := by simpa using hZ
    have hQ1 : Hid ((⟨Q.toArray⟩ : ByteArray) = ⟨#[]⟩) := hQ0.out (by have := hE.out; omega)
    clear hp hq eQ hQ0
    go_wp2
    go_ret2
    exact ⟨by rw [hQ1.out, hE.out]; try rfl, hB1⟩

end Go.Proofs.YtgmmhgbodddadaaGreatDoor



namespace Go.Proofs.YtgmmhgbodddadaaGreatDoor
open Go.RowKit Go.Shelf
set_option linter.unusedVariables false

/-- A digit to the base 16, capital or not; 16: it is none. -/
def hexv (c : UInt8) : Nat := if 48 ≤ c.toNat ∧ c.toNat ≤ 57 then c.toNat - 48 else if 97 ≤ c.toNat ∧ c.toNat ≤ 102 then c.toNat - 87 else if 65 ≤ c.toNat ∧ c.toNat ≤ 70 then c.toNat - 55 else 16
/-- A byte made small. -/
def low8 (c : UInt8) : Int := bits .or .u8 c.toNat 32
theorem low_all : ∀ n : Fin 256, 0 ≤ bits .or .u8 (n.1 : Int) 32 ∧ bits .or .u8 (n.1 : Int) 32 ≤ 255 ∧ (if 48 ≤ n.1 ∧ n.1 ≤ 57 then True else if 97 ≤ bits .or .u8 (n.1 : Int) 32 ∧ bits .or .u8 (n.1 : Int) 32 ≤ 122 then (if bits .or .u8 (n.1 : Int) 32 ≤ 102 then ((hexv (UInt8.ofNat n.1) : Nat) : Int) = bits .or .u8 (n.1 : Int) 32 - 87 else hexv (UInt8.ofNat n.1) = 16) else hexv (UInt8.ofNat n.1) = 16) := by decide +kernel

/-- What class a byte is of. -/
inductive Cls (c : UInt8) : Prop where
  | dig (h1 : 48 ≤ (c.toNat : Int)) (h2 : (c.toNat : Int) ≤ 57) (h3 : ((hexv c : Nat) : Int) = c.toNat - 48) (h9 : ((c.toNat : Int) == 95) = false)
  | hex (h1 : ¬ (48 ≤ (c.toNat : Int) ∧ (c.toNat : Int) ≤ 57)) (h2 : 97 ≤ low8 c) (h3 : low8 c ≤ 102) (h4 : ((hexv c : Nat) : Int) = low8 c - 87) (h9 : ((c.toNat : Int) == 95) = false)
  | let (h1 : ¬ (48 ≤ (c.toNat : Int) ∧ (c.toNat : Int) ≤ 57)) (h2 : 102 < low8 c) (h3 : low8 c ≤ 122) (h4 : hexv c = 16) (h9 : ((c.toNat : Int) == 95) = false)
  | lss (h1 : ¬ (48 ≤ (c.toNat : Int) ∧ (c.toNat : Int) ≤ 57)) (h2 : low8 c < 97) (h3 : 0 ≤ low8 c) (h4 : hexv c = 16) (h9 : ((c.toNat : Int) == 95) = false)
  | gtr (h1 : ¬ (48 ≤ (c.toNat : Int) ∧ (c.toNat : Int) ≤ 57)) (h2 : 122 < low8 c) (h3 : low8 c ≤ 255) (h4 : hexv c = 16)
theorem cls (c : UInt8) : Cls c := by
  have hc : c.toNat < 256 := c.toNat_lt
  obtain ⟨a1, a2, a3⟩ := low_all ⟨c.toNat, hc⟩
  rw [show (⟨c.toNat, hc⟩ : Fin 256).1 = c.toNat from rfl, UInt8.ofNat_toNat] at a3
  have a4 : c.toNat = 95 → bits .or .u8 (c.toNat : Int) 32 = 127 := by intro h; rw [h]; decide
  by_cases h : 48 ≤ c.toNat ∧ c.toNat ≤ 57
  · exact .dig (by omega) (by omega) (by unfold hexv; rw [if_pos h]; omega) (by simp; omega)
  · rw [if_neg h] at a3
    by_cases g : 97 ≤ bits .or .u8 (c.toNat : Int) 32 ∧ bits .or .u8 (c.toNat : Int) 32 ≤ 122
    · rw [if_pos g] at a3
      by_cases f : bits .or .u8 (c.toNat : Int) 32 ≤ 102
      · rw [if_pos f] at a3
        exact .hex (by omega) g.1 f a3 (by simp; omega)
      · rw [if_neg f] at a3
        exact .let (by omega) (by unfold low8; omega) g.2 a3 (by simp; omega)
    · rw [if_neg g] at a3
      by_cases f : bits .or .u8 (c.toNat : Int) 32 < 97
      · exact .lss (by omega) f a1 a3 (by simp; omega)
      · exact .gtr (by omega) (by unfold low8; omega) a2 a3

set_option maxRecDepth 100000 in
set_option maxHeartbeats 4000000 in
theorem pu_let (a b : UInt8) (w : World) (h0 : ¬ (48 ≤ (a.toNat : Int) ∧ (a.toNat : Int) ≤ 57)) (h2 : 102 < low8 a) (h3 : low8 a ≤ 122) (h9 : ((a.toNat : Int) == 95) = false) :
    Calls Tryz.prog 174 #[.string ⟨#[a, b]⟩, .int .i64 16, .int .i64 8] w fun e w' => e = .returned (.tuple #[.int .u64 0, .iface 244 (.int .i64 2)]) ∧ Below w.heap.size w w' := by
  have hcv := Lib.run_convert_string_bytes (P := Tryz.prog) w 9 60 5 ⟨#[a, b]⟩ Tryz.underlying9 Tryz.underlying60 Tryz.underlying5
  have hB0 : (Lib.bytesWorld w 5 ⟨#[a, b]⟩).cell? ⟨w.heap.size, 0, none⟩ = some (.int .u8 a.toNat) := Lib.bytesWorld_cell w 5 ⟨#[a, b]⟩ 0 (by show 0 < 2; decide)
  have hB1 : (Lib.bytesWorld w 5 ⟨#[a, b]⟩).cell? ⟨w.heap.size, 1, none⟩ = some (.int .u8 b.toNat) := Lib.bytesWorld_cell w 5 ⟨#[a, b]⟩ 1 (by show 1 < 2; decide)
  have hbb := Lib.bytesWorld_below w 5 ⟨#[a, b]⟩
  have ua : a.toNat < 256 := a.toNat_lt
  have ub : b.toNat < 256 := b.toNat_lt
  have LA : Hid (∀ W : World, Calls Tryz.prog 180 #[.int .u8 a.toNat] W fun e w' => e = .returned (.int .u8 (low8 a)) ∧ w' = W) := fun W => Tryz.internal_strconv_lower a.toNat W
  have LB : Hid (∀ W : World, Calls Tryz.prog 180 #[.int .u8 b.toNat] W fun e w' => e = .returned (.int .u8 (low8 b)) ∧ w' = W) := fun W => Tryz.internal_strconv_lower b.toNat W
  generalize Lib.bytesWorld w 5 ⟨#[a, b]⟩ = W1 at *
  have hn : (48 ≤ (a.toNat : Int)) = False ∨ ((48 ≤ (a.toNat : Int)) = True ∧ ((a.toNat : Int) ≤ 57) = False) := by
    by_cases q : 48 ≤ (a.toNat : Int)
    · right; refine ⟨by simpa using q, by simp; omega⟩
    · left; simpa using q

  rcases hn with hx | ⟨hx, hy⟩
  all_goals clear h0
  all_goals
    go_enter Tryz.func174, Tryz.ntmps174
    go_wp2
    refine wp_loop_rounds 4 ?_
    rw [rounds_succ]
    go_wp2_with (first | (go_at_call_of 180 (Value.int IntKind.u8 a.toNat); refine (LA.out _).mono ?_; rintro e w' ⟨rfl, rfl⟩) | (go_at_call_of 180 (Value.int IntKind.u8 b.toNat); refine (LB.out _).mono ?_; rintro e w' ⟨rfl, rfl⟩))
    go_ret2
    exact ⟨rfl, hbb⟩

set_option maxRecDepth 100000 in
set_option maxHeartbeats 4000000 in
theorem pu_lss (a b : UInt8) (w : World) (h0 : ¬ (48 ≤ (a.toNat : Int) ∧ (a.toNat : Int) ≤ 57)) (h2 : low8 a < 97) (h3 : 0 ≤ low8 a) (h9 : ((a.toNat : Int) == 95) = false) :
    Calls Tryz.prog 174 #[.string ⟨#[a, b]⟩, .int .i64 16, .int .i64 8] w fun e w' => e = .returned (.tuple #[.int .u64 0, .iface 244 (.int .i64 2)]) ∧ Below w.heap.size w w' := by
  have hcv := Lib.run_convert_string_bytes (P := Tryz.prog) w 9 60 5 ⟨#[a, b]⟩ Tryz.underlying9 Tryz.underlying60 Tryz.underlying5
  have hB0 : (Lib.bytesWorld w 5 ⟨#[a, b]⟩).cell? ⟨w.heap.size, 0, none⟩ = some (.int .u8 a.toNat) := Lib.bytesWorld_cell w 5 ⟨#[a, b]⟩ 0 (by show 0 < 2; decide)
  have hB1 : (Lib.bytesWorld w 5 ⟨#[a, b]⟩).cell? ⟨w.heap.size, 1, none⟩ = some (.int .u8 b.toNat) := Lib.bytesWorld_cell w 5 ⟨#[a, b]⟩ 1 (by show 1 < 2; decide)
  have hbb := Lib.bytesWorld_below w 5 ⟨#[a, b]⟩
  have ua : a.toNat < 256 := a.toNat_lt
  have ub : b.toNat < 256 := b.toNat_lt
  have LA : Hid (∀ W : World, Calls Tryz.prog 180 #[.int .u8 a.toNat] W fun e w' => e = .returned (.int .u8 (low8 a)) ∧ w' = W) := fun W => Tryz.internal_strconv_lower a.toNat W
  have LB : Hid (∀ W : World, Calls Tryz.prog 180 #[.int .u8 b.toNat] W fun e w' => e = .returned (.int .u8 (low8 b)) ∧ w' = W) := fun W => Tryz.internal_strconv_lower b.toNat W
  generalize Lib.bytesWorld w 5 ⟨#[a, b]⟩ = W1 at *
  have hn : (48 ≤ (a.toNat : Int)) = False ∨ ((48 ≤ (a.toNat : Int)) = True ∧ ((a.toNat : Int) ≤ 57) = False) := by
    by_cases q : 48 ≤ (a.toNat : Int)
    · right; refine ⟨by simpa using q, by simp; omega⟩
    · left; simpa using q

  rcases hn with hx | ⟨hx, hy⟩
  all_goals clear h0
  all_goals
    go_enter Tryz.func174, Tryz.ntmps174
    go_wp2
    refine wp_loop_rounds 4 ?_
    rw [rounds_succ]
    go_wp2_with (first | (go_at_call_of 180 (Value.int IntKind.u8 a.toNat); refine (LA.out _).mono ?_; rintro e w' ⟨rfl, rfl⟩) | (go_at_call_of 180 (Value.int IntKind.u8 b.toNat); refine (LB.out _).mono ?_; rintro e w' ⟨rfl, rfl⟩))
    go_ret2
    exact ⟨rfl, hbb⟩

set_option maxRecDepth 100000 in
set_option maxHeartbeats 4000000 in
theorem pu_gtr (a b : UInt8) (w : World) (h0 : ¬ (48 ≤ (a.toNat : Int) ∧ (a.toNat : Int) ≤ 57)) (h2 : 122 < low8 a) (h3 : low8 a ≤ 255) :
    Calls Tryz.prog 174 #[.string ⟨#[a, b]⟩, .int .i64 16, .int .i64 8] w fun e w' => e = .returned (.tuple #[.int .u64 0, .iface 244 (.int .i64 2)]) ∧ Below w.heap.size w w' := by
  have hcv := Lib.run_convert_string_bytes (P := Tryz.prog) w 9 60 5 ⟨#[a, b]⟩ Tryz.underlying9 Tryz.underlying60 Tryz.underlying5
  have hB0 : (Lib.bytesWorld w 5 ⟨#[a, b]⟩).cell? ⟨w.heap.size, 0, none⟩ = some (.int .u8 a.toNat) := Lib.bytesWorld_cell w 5 ⟨#[a, b]⟩ 0 (by show 0 < 2; decide)
  have hB1 : (Lib.bytesWorld w 5 ⟨#[a, b]⟩).cell? ⟨w.heap.size, 1, none⟩ = some (.int .u8 b.toNat) := Lib.bytesWorld_cell w 5 ⟨#[a, b]⟩ 1 (by show 1 < 2; decide)
  have hbb := Lib.bytesWorld_below w 5 ⟨#[a, b]⟩
  have ua : a.toNat < 256 := a.toNat_lt
  have ub : b.toNat < 256 := b.toNat_lt
  have LA : Hid (∀ W : World, Calls Tryz.prog 180 #[.int .u8 a.toNat] W fun e w' => e = .returned (.int .u8 (low8 a)) ∧ w' = W) := fun W => Tryz.internal_strconv_lower a.toNat W
  have LB : Hid (∀ W : World, Calls Tryz.prog 180 #[.int .u8 b.toNat] W fun e w' => e = .returned (.int .u8 (low8 b)) ∧ w' = W) := fun W => Tryz.internal_strconv_lower b.toNat W
  generalize Lib.bytesWorld w 5 ⟨#[a, b]⟩ = W1 at *
  have hm : ((a.toNat : Int) == 95) = false ∨ ((a.toNat : Int) == 95) = true := by cases ((a.toNat : Int) == 95) <;> simp
  have hn : (48 ≤ (a.toNat : Int)) = False ∨ ((48 ≤ (a.toNat : Int)) = True ∧ ((a.toNat : Int) ≤ 57) = False) := by
    by_cases q : 48 ≤ (a.toNat : Int)
    · right; refine ⟨by simpa using q, by simp; omega⟩
    · left; simpa using q

  rcases hm with h9 | h9 <;> rcases hn with hx | ⟨hx, hy⟩
  all_goals clear h0
  all_goals
    go_enter Tryz.func174, Tryz.ntmps174
    go_wp2
    refine wp_loop_rounds 4 ?_
    rw [rounds_succ]
    go_wp2_with (first | (go_at_call_of 180 (Value.int IntKind.u8 a.toNat); refine (LA.out _).mono ?_; rintro e w' ⟨rfl, rfl⟩) | (go_at_call_of 180 (Value.int IntKind.u8 b.toNat); refine (LB.out _).mono ?_; rintro e w' ⟨rfl, rfl⟩))
    go_ret2
    exact ⟨rfl, hbb⟩

set_option maxRecDepth 100000 in
set_option maxHeartbeats 4000000 in
theorem pu_dig_dig (a b : UInt8) (w : World) (h1 : 48 ≤ (a.toNat : Int)) (h2 : (a.toNat : Int) ≤ 57) (h9 : ((a.toNat : Int) == 95) = false) (g1 : 48 ≤ (b.toNat : Int)) (g2 : (b.toNat : Int) ≤ 57) (g9 : ((b.toNat : Int) == 95) = false) :
    Calls Tryz.prog 174 #[.string ⟨#[a, b]⟩, .int .i64 16, .int .i64 8] w fun e w' => e = .returned (.tuple #[.int .u64 ((a.toNat - 48 : Int) * 16 + (b.toNat - 48 : Int)), .nilIface]) ∧ Below w.heap.size w w' := by
  have hcv := Lib.run_convert_string_bytes (P := Tryz.prog) w 9 60 5 ⟨#[a, b]⟩ Tryz.underlying9 Tryz.underlying60 Tryz.underlying5
  have hB0 : (Lib.bytesWorld w 5 ⟨#[a, b]⟩).cell? ⟨w.heap.size, 0, none⟩ = some (.int .u8 a.toNat) := Lib.bytesWorld_cell w 5 ⟨#[a, b]⟩ 0 (by show 0 < 2; decide)
  have hB1 : (Lib.bytesWorld w 5 ⟨#[a, b]⟩).cell? ⟨w.heap.size, 1, none⟩ = some (.int .u8 b.toNat) := Lib.bytesWorld_cell w 5 ⟨#[a, b]⟩ 1 (by show 1 < 2; decide)
  have hbb := Lib.bytesWorld_below w 5 ⟨#[a, b]⟩
  have ua : a.toNat < 256 := a.toNat_lt
  have ub : b.toNat < 256 := b.toNat_lt
  have LA : Hid (∀ W : World, Calls Tryz.prog 180 #[.int .u8 a.toNat] W fun e w' => e = .returned (.int .u8 (low8 a)) ∧ w' = W) := fun W => Tryz.internal_strconv_lower a.toNat W
  have LB : Hid (∀ W : World, Calls Tryz.prog 180 #[.int .u8 b.toNat] W fun e w' => e = .returned (.int .u8 (low8 b)) ∧ w' = W) := fun W => Tryz.internal_strconv_lower b.toNat W
  generalize Lib.bytesWorld w 5 ⟨#[a, b]⟩ = W1 at *

  go_enter Tryz.func174, Tryz.ntmps174
  go_wp2
  refine wp_loop_rounds 4 ?_
  rw [rounds_succ]
  go_wp2_with (first | (go_at_call_of 180 (Value.int IntKind.u8 a.toNat); refine (LA.out _).mono ?_; rintro e w' ⟨rfl, rfl⟩) | (go_at_call_of 180 (Value.int IntKind.u8 b.toNat); refine (LB.out _).mono ?_; rintro e w' ⟨rfl, rfl⟩))
  rw [rounds_succ]
  go_wp2_with (first | (go_at_call_of 180 (Value.int IntKind.u8 a.toNat); refine (LA.out _).mono ?_; rintro e w' ⟨rfl, rfl⟩) | (go_at_call_of 180 (Value.int IntKind.u8 b.toNat); refine (LB.out _).mono ?_; rintro e w' ⟨rfl, rfl⟩))
  rw [rounds_succ]
  go_wp2
  go_ret2
  exact ⟨rfl, hbb⟩

set_option maxRecDepth 100000 in
set_option maxHeartbeats 4000000 in
theorem pu_dig_hex (a b : UInt8) (w : World) (h1 : 48 ≤ (a.toNat : Int)) (h2 : (a.toNat : Int) ≤ 57) (h9 : ((a.toNat : Int) == 95) = false) (g0 : ¬ (48 ≤ (b.toNat : Int) ∧ (b.toNat : Int) ≤ 57)) (g2 : 97 ≤ low8 b) (g3 : low8 b ≤ 102) (g9 : ((b.toNat : Int) == 95) = false) :
    Calls Tryz.prog 174 #[.string ⟨#[a, b]⟩, .int .i64 16, .int .i64 8] w fun e w' => e = .returned (.tuple #[.int .u64 ((a.toNat - 48 : Int) * 16 + (low8 b - 97 + 10)), .nilIface]) ∧ Below w.heap.size w w' := by
  have hcv := Lib.run_convert_string_bytes (P := Tryz.prog) w 9 60 5 ⟨#[a, b]⟩ Tryz.underlying9 Tryz.underlying60 Tryz.underlying5
  have hB0 : (Lib.bytesWorld w 5 ⟨#[a, b]⟩).cell? ⟨w.heap.size, 0, none⟩ = some (.int .u8 a.toNat) := Lib.bytesWorld_cell w 5 ⟨#[a, b]⟩ 0 (by show 0 < 2; decide)
  have hB1 : (Lib.bytesWorld w 5 ⟨#[a, b]⟩).cell? ⟨w.heap.size, 1, none⟩ = some (.int .u8 b.toNat) := Lib.bytesWorld_cell w 5 ⟨#[a, b]⟩ 1 (by show 1 < 2; decide)
  have hbb := Lib.bytesWorld_below w 5 ⟨#[a, b]⟩
  have ua : a.toNat < 256 := a.toNat_lt
  have ub : b.toNat < 256 := b.toNat_lt
  have LA : Hid (∀ W : World, Calls Tryz.prog 180 #[.int .u8 a.toNat] W fun e w' => e = .returned (.int .u8 (low8 a)) ∧ w' = W) := fun W => Tryz.internal_strconv_lower a.toNat W
  have LB : Hid (∀ W : World, Calls Tryz.prog 180 #[.int .u8 b.toNat] W fun e w' => e = .returned (.int .u8 (low8 b)) ∧ w' = W) := fun W => Tryz.internal_strconv_lower b.toNat W
  generalize Lib.bytesWorld w 5 ⟨#[a, b]⟩ = W1 at *
  have gn : (48 ≤ (b.toNat : Int)) = False ∨ ((48 ≤ (b.toNat : Int)) = True ∧ ((b.toNat : Int) ≤ 57) = False) := by
    by_cases q : 48 ≤ (b.toNat : Int)
    · right; refine ⟨by simpa using q, by simp; omega⟩
    · left; simpa using q

  rcases gn with gx | ⟨gx, gy⟩
  all_goals clear g0
  all_goals
    go_enter Tryz.func174, Tryz.ntmps174
    go_wp2
    refine wp_loop_rounds 4 ?_
    rw [rounds_succ]
    go_wp2_with (first | (go_at_call_of 180 (Value.int IntKind.u8 a.toNat); refine (LA.out _).mono ?_; rintro e w' ⟨rfl, rfl⟩) | (go_at_call_of 180 (Value.int IntKind.u8 b.toNat); refine (LB.out _).mono ?_; rintro e w' ⟨rfl, rfl⟩))
    rw [rounds_succ]
    go_wp2_with (first | (go_at_call_of 180 (Value.int IntKind.u8 a.toNat); refine (LA.out _).mono ?_; rintro e w' ⟨rfl, rfl⟩) | (go_at_call_of 180 (Value.int IntKind.u8 b.toNat); refine (LB.out _).mono ?_; rintro e w' ⟨rfl, rfl⟩))
    rw [rounds_succ]
    go_wp2
    go_ret2
    exact ⟨rfl, hbb⟩

set_option maxRecDepth 100000 in
set_option maxHeartbeats 4000000 in
theorem pu_dig_let (a b : UInt8) (w : World) (h1 : 48 ≤ (a.toNat : Int)) (h2 : (a.toNat : Int) ≤ 57) (h9 : ((a.toNat : Int) == 95) = false) (g0 : ¬ (48 ≤ (b.toNat : Int) ∧ (b.toNat : Int) ≤ 57)) (g2 : 102 < low8 b) (g3 : low8 b ≤ 122) (g9 : ((b.toNat : Int) == 95) = false) :
    Calls Tryz.prog 174 #[.string ⟨#[a, b]⟩, .int .i64 16, .int .i64 8] w fun e w' => e = .returned (.tuple #[.int .u64 0, .iface 244 (.int .i64 2)]) ∧ Below w.heap.size w w' := by
  have hcv := Lib.run_convert_string_bytes (P := Tryz.prog) w 9 60 5 ⟨#[a, b]⟩ Tryz.underlying9 Tryz.underlying60 Tryz.underlying5
  have hB0 : (Lib.bytesWorld w 5 ⟨#[a, b]⟩).cell? ⟨w.heap.size, 0, none⟩ = some (.int .u8 a.toNat) := Lib.bytesWorld_cell w 5 ⟨#[a, b]⟩ 0 (by show 0 < 2; decide)
  have hB1 : (Lib.bytesWorld w 5 ⟨#[a, b]⟩).cell? ⟨w.heap.size, 1, none⟩ = some (.int .u8 b.toNat) := Lib.bytesWorld_cell w 5 ⟨#[a, b]⟩ 1 (by show 1 < 2; decide)
  have hbb := Lib.bytesWorld_below w 5 ⟨#[a, b]⟩
  have ua : a.toNat < 256 := a.toNat_lt
  have ub : b.toNat < 256 := b.toNat_lt
  have LA : Hid (∀ W : World, Calls Tryz.prog 180 #[.int .u8 a.toNat] W fun e w' => e = .returned (.int .u8 (low8 a)) ∧ w' = W) := fun W => Tryz.internal_strconv_lower a.toNat W
  have LB : Hid (∀ W : World, Calls Tryz.prog 180 #[.int .u8 b.toNat] W fun e w' => e = .returned (.int .u8 (low8 b)) ∧ w' = W) := fun W => Tryz.internal_strconv_lower b.toNat W
  generalize Lib.bytesWorld w 5 ⟨#[a, b]⟩ = W1 at *
  have gn : (48 ≤ (b.toNat : Int)) = False ∨ ((48 ≤ (b.toNat : Int)) = True ∧ ((b.toNat : Int) ≤ 57) = False) := by
    by_cases q : 48 ≤ (b.toNat : Int)
    · right; refine ⟨by simpa using q, by simp; omega⟩
    · left; simpa using q

  rcases gn with gx | ⟨gx, gy⟩
  all_goals clear g0
  all_goals
    go_enter Tryz.func174, Tryz.ntmps174
    go_wp2
    refine wp_loop_rounds 4 ?_
    rw [rounds_succ]
    go_wp2_with (first | (go_at_call_of 180 (Value.int IntKind.u8 a.toNat); refine (LA.out _).mono ?_; rintro e w' ⟨rfl, rfl⟩) | (go_at_call_of 180 (Value.int IntKind.u8 b.toNat); refine (LB.out _).mono ?_; rintro e w' ⟨rfl, rfl⟩))
    rw [rounds_succ]
    go_wp2_with (first | (go_at_call_of 180 (Value.int IntKind.u8 a.toNat); refine (LA.out _).mono ?_; rintro e w' ⟨rfl, rfl⟩) | (go_at_call_of 180 (Value.int IntKind.u8 b.toNat); refine (LB.out _).mono ?_; rintro e w' ⟨rfl, rfl⟩))
    go_ret2
    exact ⟨rfl, hbb⟩

set_option maxRecDepth 100000 in
set_option maxHeartbeats 4000000 in
theorem pu_dig_lss (a b : UInt8) (w : World) (h1 : 48 ≤ (a.toNat : Int)) (h2 : (a.toNat : Int) ≤ 57) (h9 : ((a.toNat : Int) == 95) = false) (g0 : ¬ (48 ≤ (b.toNat : Int) ∧ (b.toNat : Int) ≤ 57)) (g2 : low8 b < 97) (g3 : 0 ≤ low8 b) (g9 : ((b.toNat : Int) == 95) = false) :
    Calls Tryz.prog 174 #[.string ⟨#[a, b]⟩, .int .i64 16, .int .i64 8] w fun e w' => e = .returned (.tuple #[.int .u64 0, .iface 244 (.int .i64 2)]) ∧ Below w.heap.size w w' := by
  have hcv := Lib.run_convert_string_bytes (P := Tryz.prog) w 9 60 5 ⟨#[a, b]⟩ Tryz.underlying9 Tryz.underlying60 Tryz.underlying5
  have hB0 : (Lib.bytesWorld w 5 ⟨#[a, b]⟩).cell? ⟨w.heap.size, 0, none⟩ = some (.int .u8 a.toNat) := Lib.bytesWorld_cell w 5 ⟨#[a, b]⟩ 0 (by show 0 < 2; decide)
  have hB1 : (Lib.bytesWorld w 5 ⟨#[a, b]⟩).cell? ⟨w.heap.size, 1, none⟩ = some (.int .u8 b.toNat) := Lib.bytesWorld_cell w 5 ⟨#[a, b]⟩ 1 (by show 1 < 2; decide)
  have hbb := Lib.bytesWorld_below w 5 ⟨#[a, b]⟩
  have ua : a.toNat < 256 := a.toNat_lt
  have ub : b.toNat < 256 := b.toNat_lt
  have LA : Hid (∀ W : World, Calls Tryz.prog 180 #[.int .u8 a.toNat] W fun e w' => e = .returned (.int .u8 (low8 a)) ∧ w' = W) := fun W => Tryz.internal_strconv_lower a.toNat W
  have LB : Hid (∀ W : World, Calls Tryz.prog 180 #[.int .u8 b.toNat] W fun e w' => e = .returned (.int .u8 (low8 b)) ∧ w' = W) := fun W => Tryz.internal_strconv_lower b.toNat W
  generalize Lib.bytesWorld w 5 ⟨#[a, b]⟩ = W1 at *
  have gn : (48 ≤ (b.toNat : Int)) = False ∨ ((48 ≤ (b.toNat : Int)) = True ∧ ((b.toNat : Int) ≤ 57) = False) := by
    by_cases q : 48 ≤ (b.toNat : Int)
    · right; refine ⟨by simpa using q, by simp; omega⟩
    · left; simpa using q

  rcases gn with gx | ⟨gx, gy⟩
  all_goals clear g0
  all_goals
    go_enter Tryz.func174, Tryz.ntmps174
    go_wp2
    refine wp_loop_rounds 4 ?_
    rw [rounds_succ]
    go_wp2_with (first | (go_at_call_of 180 (Value.int IntKind.u8 a.toNat); refine (LA.out _).mono ?_; rintro e w' ⟨rfl, rfl⟩) | (go_at_call_of 180 (Value.int IntKind.u8 b.toNat); refine (LB.out _).mono ?_; rintro e w' ⟨rfl, rfl⟩))
    rw [rounds_succ]
    go_wp2_with (first | (go_at_call_of 180 (Value.int IntKind.u8 a.toNat); refine (LA.out _).mono ?_; rintro e w' ⟨rfl, rfl⟩) | (go_at_call_of 180 (Value.int IntKind.u8 b.toNat); refine (LB.out _).mono ?_; rintro e w' ⟨rfl, rfl⟩))
    go_ret2
    exact ⟨rfl, hbb⟩

set_option maxRecDepth 100000 in
set_option maxHeartbeats 4000000 in
theorem pu_dig_gtr (a b : UInt8) (w : World) (h1 : 48 ≤ (a.toNat : Int)) (h2 : (a.toNat : Int) ≤ 57) (h9 : ((a.toNat : Int) == 95) = false) (g0 : ¬ (48 ≤ (b.toNat : Int) ∧ (b.toNat : Int) ≤ 57)) (g2 : 122 < low8 b) (g3 : low8 b ≤ 255) :
    Calls Tryz.prog 174 #[.string ⟨#[a, b]⟩, .int .i64 16, .int .i64 8] w fun e w' => e = .returned (.tuple #[.int .u64 0, .iface 244 (.int .i64 2)]) ∧ Below w.heap.size w w' := by
  have hcv := Lib.run_convert_string_bytes (P := Tryz.prog) w 9 60 5 ⟨#[a, b]⟩ Tryz.underlying9 Tryz.underlying60 Tryz.underlying5
  have hB0 : (Lib.bytesWorld w 5 ⟨#[a, b]⟩).cell? ⟨w.heap.size, 0, none⟩ = some (.int .u8 a.toNat) := Lib.bytesWorld_cell w 5 ⟨#[a, b]⟩ 0 (by show 0 < 2; decide)
  have hB1 : (Lib.bytesWorld w 5 ⟨#[a, b]⟩).cell? ⟨w.heap.size, 1, none⟩ = some (.int .u8 b.toNat) := Lib.bytesWorld_cell w 5 ⟨#[a, b]⟩ 1 (by show 1 < 2; decide)
  have hbb := Lib.bytesWorld_below w 5 ⟨#[a, b]⟩
  have ua : a.toNat < 256 := a.toNat_lt
  have ub : b.toNat < 256 := b.toNat_lt
  have LA : Hid (∀ W : World, Calls Tryz.prog 180 #[.int .u8 a.toNat] W fun e w' => e = .returned (.int .u8 (low8 a)) ∧ w' = W) := fun W => Tryz.internal_strconv_lower a.toNat W
  have LB : Hid (∀ W : World, Calls Tryz.prog 180 #[.int .u8 b.toNat] W fun e w' => e = .returned (.int .u8 (low8 b)) ∧ w' = W) := fun W => Tryz.internal_strconv_lower b.toNat W
  generalize Lib.bytesWorld w 5 ⟨#[a, b]⟩ = W1 at *
  have gm : ((b.toNat : Int) == 95) = false ∨ ((b.toNat : Int) == 95) = true := by cases ((b.toNat : Int) == 95) <;> simp
  have gn : (48 ≤ (b.toNat : Int)) = False ∨ ((48 ≤ (b.toNat : Int)) = True ∧ ((b.toNat : Int) ≤ 57) = False) := by
    by_cases q : 48 ≤ (b.toNat : Int)
    · right; refine ⟨by simpa using q, by simp; omega⟩
    · left; simpa using q

  rcases gm with g9 | g9 <;> rcases gn with gx | ⟨gx, gy⟩
  all_goals clear g0
  all_goals
    go_enter Tryz.func174, Tryz.ntmps174
    go_wp2
    refine wp_loop_rounds 4 ?_
    rw [rounds_succ]
    go_wp2_with (first | (go_at_call_of 180 (Value.int IntKind.u8 a.toNat); refine (LA.out _).mono ?_; rintro e w' ⟨rfl, rfl⟩) | (go_at_call_of 180 (Value.int IntKind.u8 b.toNat); refine (LB.out _).mono ?_; rintro e w' ⟨rfl, rfl⟩))
    rw [rounds_succ]
    go_wp2_with (first | (go_at_call_of 180 (Value.int IntKind.u8 a.toNat); refine (LA.out _).mono ?_; rintro e w' ⟨rfl, rfl⟩) | (go_at_call_of 180 (Value.int IntKind.u8 b.toNat); refine (LB.out _).mono ?_; rintro e w' ⟨rfl, rfl⟩))
    go_ret2
    exact ⟨rfl, hbb⟩

set_option maxRecDepth 100000 in
set_option maxHeartbeats 4000000 in
theorem pu_hex_dig (a b : UInt8) (w : World) (h0 : ¬ (48 ≤ (a.toNat : Int) ∧ (a.toNat : Int) ≤ 57)) (h2 : 97 ≤ low8 a) (h3 : low8 a ≤ 102) (h9 : ((a.toNat : Int) == 95) = false) (g1 : 48 ≤ (b.toNat : Int)) (g2 : (b.toNat : Int) ≤ 57) (g9 : ((b.toNat : Int) == 95) = false) :
    Calls Tryz.prog 174 #[.string ⟨#[a, b]⟩, .int .i64 16, .int .i64 8] w fun e w' => e = .returned (.tuple #[.int .u64 ((low8 a - 97 + 10) * 16 + (b.toNat - 48 : Int)), .nilIface]) ∧ Below w.heap.size w w' := by
  have hcv := Lib.run_convert_string_bytes (P := Tryz.prog) w 9 60 5 ⟨#[a, b]⟩ Tryz.underlying9 Tryz.underlying60 Tryz.underlying5
  have hB0 : (Lib.bytesWorld w 5 ⟨#[a, b]⟩).cell? ⟨w.heap.size, 0, none⟩ = some (.int .u8 a.toNat) := Lib.bytesWorld_cell w 5 ⟨#[a, b]⟩ 0 (by show 0 < 2; decide)
  have hB1 : (Lib.bytesWorld w 5 ⟨#[a, b]⟩).cell? ⟨w.heap.size, 1, none⟩ = some (.int .u8 b.toNat) := Lib.bytesWorld_cell w 5 ⟨#[a, b]⟩ 1 (by show 1 < 2; decide)
  have hbb := Lib.bytesWorld_below w 5 ⟨#[a, b]⟩
  have ua : a.toNat < 256 := a.toNat_lt
  have ub : b.toNat < 256 := b.toNat_lt
  have LA : Hid (∀ W : World, Calls Tryz.prog 180 #[.int .u8 a.toNat] W fun e w' => e = .returned (.int .u8 (low8 a)) ∧ w' = W) := fun W => Tryz.internal_strconv_lower a.toNat W
  have LB : Hid (∀ W : World, Calls Tryz.prog 180 #[.int .u8 b.toNat] W fun e w' => e = .returned (.int .u8 (low8 b)) ∧ w' = W) := fun W => Tryz.internal_strconv_lower b.toNat W
  generalize Lib.bytesWorld w 5 ⟨#[a, b]⟩ = W1 at *
  have hn : (48 ≤ (a.toNat : Int)) = False ∨ ((48 ≤ (a.toNat : Int)) = True ∧ ((a.toNat : Int) ≤ 57) = False) := by
    by_cases q : 48 ≤ (a.toNat : Int)
    · right; refine ⟨by simpa using q, by simp; omega⟩
    · left; simpa using q

  rcases hn with hx | ⟨hx, hy⟩
  all_goals clear h0
  all_goals
    go_enter Tryz.func174, Tryz.ntmps174
    go_wp2
    refine wp_loop_rounds 4 ?_
    rw [rounds_succ]
    go_wp2_with (first | (go_at_call_of 180 (Value.int IntKind.u8 a.toNat); refine (LA.out _).mono ?_; rintro e w' ⟨rfl, rfl⟩) | (go_at_call_of 180 (Value.int IntKind.u8 b.toNat); refine (LB.out _).mono ?_; rintro e w' ⟨rfl, rfl⟩))
    rw [rounds_succ]
    go_wp2_with (first | (go_at_call_of 180 (Value.int IntKind.u8 a.toNat); refine (LA.out _).mono ?_; rintro e w' ⟨rfl, rfl⟩) | (go_at_call_of 180 (Value.int IntKind.u8 b.toNat); refine (LB.out _).mono ?_; rintro e w' ⟨rfl, rfl⟩))
    rw [rounds_succ]
    go_wp2
    go_ret2
    exact ⟨rfl, hbb⟩

set_option maxRecDepth 100000 in
set_option maxHeartbeats 4000000 in
theorem pu_hex_hex (a b : UInt8) (w : World) (h0 : ¬ (48 ≤ (a.toNat : Int) ∧ (a.toNat : Int) ≤ 57)) (h2 : 97 ≤ low8 a) (h3 : low8 a ≤ 102) (h9 : ((a.toNat : Int) == 95) = false) (g0 : ¬ (48 ≤ (b.toNat : Int) ∧ (b.toNat : Int) ≤ 57)) (g2 : 97 ≤ low8 b) (g3 : low8 b ≤ 102) (g9 : ((b.toNat : Int) == 95) = false) :
    Calls Tryz.prog 174 #[.string ⟨#[a, b]⟩, .int .i64 16, .int .i64 8] w fun e w' => e = .returned (.tuple #[.int .u64 ((low8 a - 97 + 10) * 16 + (low8 b - 97 + 10)), .nilIface]) ∧ Below w.heap.size w w' := by
  have hcv := Lib.run_convert_string_bytes (P := Tryz.prog) w 9 60 5 ⟨#[a, b]⟩ Tryz.underlying9 Tryz.underlying60 Tryz.underlying5
  have hB0 : (Lib.bytesWorld w 5 ⟨#[a, b]⟩).cell? ⟨w.heap.size, 0, none⟩ = some (.int .u8 a.toNat) := Lib.bytesWorld_cell w 5 ⟨#[a, b]⟩ 0 (by show 0 < 2; decide)
  have hB1 : (Lib.bytesWorld w 5 ⟨#[a, b]⟩).cell? ⟨w.heap.size, 1, none⟩ = some (.int .u8 b.toNat) := Lib.bytesWorld_cell w 5 ⟨#[a, b]⟩ 1 (by show 1 < 2; decide)
  have hbb := Lib.bytesWorld_below w 5 ⟨#[a, b]⟩
  have ua : a.toNat < 256 := a.toNat_lt
  have ub : b.toNat < 256 := b.toNat_lt
  have LA : Hid (∀ W : World, Calls Tryz.prog 180 #[.int .u8 a.toNat] W fun e w' => e = .returned (.int .u8 (low8 a)) ∧ w' = W) := fun W => Tryz.internal_strconv_lower a.toNat W
  have LB : Hid (∀ W : World, Calls Tryz.prog 180 #[.int .u8 b.toNat] W fun e w' => e = .returned (.int .u8 (low8 b)) ∧ w' = W) := fun W => Tryz.internal_strconv_lower b.toNat W
  generalize Lib.bytesWorld w 5 ⟨#[a, b]⟩ = W1 at *
  have hn : (48 ≤ (a.toNat : Int)) = False ∨ ((48 ≤ (a.toNat : Int)) = True ∧ ((a.toNat : Int) ≤ 57) = False) := by
    by_cases q : 48 ≤ (a.toNat : Int)
    · right; refine ⟨by simpa using q, by simp; omega⟩
    · left; simpa using q
  have gn : (48 ≤ (b.toNat : Int)) = False ∨ ((48 ≤ (b.toNat : Int)) = True ∧ ((b.toNat : Int) ≤ 57) = False) := by
    by_cases q : 48 ≤ (b.toNat : Int)
    · right; refine ⟨by simpa using q, by simp; omega⟩
    · left; simpa using q

  rcases hn with hx | ⟨hx, hy⟩ <;> rcases gn with gx | ⟨gx, gy⟩
  all_goals clear h0
  all_goals clear g0
  all_goals
    go_enter Tryz.func174, Tryz.ntmps174
    go_wp2
    refine wp_loop_rounds 4 ?_
    rw [rounds_succ]
    go_wp2_with (first | (go_at_call_of 180 (Value.int IntKind.u8 a.toNat); refine (LA.out _).mono ?_; rintro e w' ⟨rfl, rfl⟩) | (go_at_call_of 180 (Value.int IntKind.u8 b.toNat); refine (LB.out _).mono ?_; rintro e w' ⟨rfl, rfl⟩))
    rw [rounds_succ]
    go_wp2_with (first | (go_at_call_of 180 (Value.int IntKind.u8 a.toNat); refine (LA.out _).mono ?_; rintro e w' ⟨rfl, rfl⟩) | (go_at_call_of 180 (Value.int IntKind.u8 b.toNat); refine (LB.out _).mono ?_; rintro e w' ⟨rfl, rfl⟩))
    rw [rounds_succ]
    go_wp2
    go_ret2
    exact ⟨rfl, hbb⟩

set_option maxRecDepth 100000 in
set_option maxHeartbeats 4000000 in
theorem pu_hex_let (a b : UInt8) (w : World) (h0 : ¬ (48 ≤ (a.toNat : Int) ∧ (a.toNat : Int) ≤ 57)) (h2 : 97 ≤ low8 a) (h3 : low8 a ≤ 102) (h9 : ((a.toNat : Int) == 95) = false) (g0 : ¬ (48 ≤ (b.toNat : Int) ∧ (b.toNat : Int) ≤ 57)) (g2 : 102 < low8 b) (g3 : low8 b ≤ 122) (g9 : ((b.toNat : Int) == 95) = false) :
    Calls Tryz.prog 174 #[.string ⟨#[a, b]⟩, .int .i64 16, .int .i64 8] w fun e w' => e = .returned (.tuple #[.int .u64 0, .iface 244 (.int .i64 2)]) ∧ Below w.heap.size w w' := by
  have hcv := Lib.run_convert_string_bytes (P := Tryz.prog) w 9 60 5 ⟨#[a, b]⟩ Tryz.underlying9 Tryz.underlying60 Tryz.underlying5
  have hB0 : (Lib.bytesWorld w 5 ⟨#[a, b]⟩).cell? ⟨w.heap.size, 0, none⟩ = some (.int .u8 a.toNat) := Lib.bytesWorld_cell w 5 ⟨#[a, b]⟩ 0 (by show 0 < 2; decide)
  have hB1 : (Lib.bytesWorld w 5 ⟨#[a, b]⟩).cell? ⟨w.heap.size, 1, none⟩ = some (.int .u8 b.toNat) := Lib.bytesWorld_cell w 5 ⟨#[a, b]⟩ 1 (by show 1 < 2; decide)
  have hbb := Lib.bytesWorld_below w 5 ⟨#[a, b]⟩
  have ua : a.toNat < 256 := a.toNat_lt
  have ub : b.toNat < 256 := b.toNat_lt
  have LA : Hid (∀ W : World, Calls Tryz.prog 180 #[.int .u8 a.toNat] W fun e w' => e = .returned (.int .u8 (low8 a)) ∧ w' = W) := fun W => Tryz.internal_strconv_lower a.toNat W
  have LB : Hid (∀ W : World, Calls Tryz.prog 180 #[.int .u8 b.toNat] W fun e w' => e = .returned (.int .u8 (low8 b)) ∧ w' = W) := fun W => Tryz.internal_strconv_lower b.toNat W
  generalize Lib.bytesWorld w 5 ⟨#[a, b]⟩ = W1 at *
  have hn : (48 ≤ (a.toNat : Int)) = False ∨ ((48 ≤ (a.toNat : Int)) = True ∧ ((a.toNat : Int) ≤ 57) = False) := by
    by_cases q : 48 ≤ (a.toNat : Int)
    · right; refine ⟨by simpa using q, by simp; omega⟩
    · left; simpa using q
  have gn : (48 ≤ (b.toNat : Int)) = False ∨ ((48 ≤ (b.toNat : Int)) = True ∧ ((b.toNat : Int) ≤ 57) = False) := by
    by_cases q : 48 ≤ (b.toNat : Int)
    · right; refine ⟨by simpa using q, by simp; omega⟩
    · left; simpa using q

  rcases hn with hx | ⟨hx, hy⟩ <;> rcases gn with gx | ⟨gx, gy⟩
  all_goals clear h0
  all_goals clear g0
  all_goals
    go_enter Tryz.func174, Tryz.ntmps174
    go_wp2
    refine wp_loop_rounds 4 ?_
    rw [rounds_succ]
    go_wp2_with (first | (go_at_call_of 180 (Value.int IntKind.u8 a.toNat); refine (LA.out _).mono ?_; rintro e w' ⟨rfl, rfl⟩) | (go_at_call_of 180 (Value.int IntKind.u8 b.toNat); refine (LB.out _).mono ?_; rintro e w' ⟨rfl, rfl⟩))
    rw [rounds_succ]
    go_wp2_with (first | (go_at_call_of 180 (Value.int IntKind.u8 a.toNat); refine (LA.out _).mono ?_; rintro e w' ⟨rfl, rfl⟩) | (go_at_call_of 180 (Value.int IntKind.u8 b.toNat); refine (LB.out _).mono ?_; rintro e w' ⟨rfl, rfl⟩))
    go_ret2
    exact ⟨rfl, hbb⟩

set_option maxRecDepth 100000 in
set_option maxHeartbeats 4000000 in
theorem pu_hex_lss (a b : UInt8) (w : World) (h0 : ¬ (48 ≤ (a.toNat : Int) ∧ (a.toNat : Int) ≤ 57)) (h2 : 97 ≤ low8 a) (h3 : low8 a ≤ 102) (h9 : ((a.toNat : Int) == 95) = false) (g0 : ¬ (48 ≤ (b.toNat : Int) ∧ (b.toNat : Int) ≤ 57)) (g2 : low8 b < 97) (g3 : 0 ≤ low8 b) (g9 : ((b.toNat : Int) == 95) = false) :
    Calls Tryz.prog 174 #[.string ⟨#[a, b]⟩, .int .i64 16, .int .i64 8] w fun e w' => e = .returned (.tuple #[.int .u64 0, .iface 244 (.int .i64 2)]) ∧ Below w.heap.size w w' := by
  have hcv := Lib.run_convert_string_bytes (P := Tryz.prog) w 9 60 5 ⟨#[a, b]⟩ Tryz.underlying9 Tryz.underlying60 Tryz.underlying5
  have hB0 : (Lib.bytesWorld w 5 ⟨#[a, b]⟩).cell? ⟨w.heap.size, 0, none⟩ = some (.int .u8 a.toNat) := Lib.bytesWorld_cell w 5 ⟨#[a, b]⟩ 0 (by show 0 < 2; decide)
  have hB1 : (Lib.bytesWorld w 5 ⟨#[a, b]⟩).cell? ⟨w.heap.size, 1, none⟩ = some (.int .u8 b.toNat) := Lib.bytesWorld_cell w 5 ⟨#[a, b]⟩ 1 (by show 1 < 2; decide)
  have hbb := Lib.bytesWorld_below w 5 ⟨#[a, b]⟩
  have ua : a.toNat < 256 := a.toNat_lt
  have ub : b.toNat < 256 := b.toNat_lt
  have LA : Hid (∀ W : World, Calls Tryz.prog 180 #[.int .u8 a.toNat] W fun e w' => e = .returned (.int .u8 (low8 a)) ∧ w' = W) := fun W => Tryz.internal_strconv_lower a.toNat W
  have LB : Hid (∀ W : World, Calls Tryz.prog 180 #[.int .u8 b.toNat] W fun e w' => e = .returned (.int .u8 (low8 b)) ∧ w' = W) := fun W => Tryz.internal_strconv_lower b.toNat W
  generalize Lib.bytesWorld w 5 ⟨#[a, b]⟩ = W1 at *
  have hn : (48 ≤ (a.toNat : Int)) = False ∨ ((48 ≤ (a.toNat : Int)) = True ∧ ((a.toNat : Int) ≤ 57) = False) := by
    by_cases q : 48 ≤ (a.toNat : Int)
    · right; refine ⟨by simpa using q, by simp; omega⟩
    · left; simpa using q
  have gn : (48 ≤ (b.toNat : Int)) = False ∨ ((48 ≤ (b.toNat : Int)) = True ∧ ((b.toNat : Int) ≤ 57) = False) := by
    by_cases q : 48 ≤ (b.toNat : Int)
    · right; refine ⟨by simpa using q, by simp; omega⟩
    · left; simpa using q

  rcases hn with hx | ⟨hx, hy⟩ <;> rcases gn with gx | ⟨gx, gy⟩
  all_goals clear h0
  all_goals clear g0
  all_goals
    go_enter Tryz.func174, Tryz.ntmps174
    go_wp2
    refine wp_loop_rounds 4 ?_
    rw [rounds_succ]
    go_wp2_with (first | (go_at_call_of 180 (Value.int IntKind.u8 a.toNat); refine (LA.out _).mono ?_; rintro e w' ⟨rfl, rfl⟩) | (go_at_call_of 180 (Value.int IntKind.u8 b.toNat); refine (LB.out _).mono ?_; rintro e w' ⟨rfl, rfl⟩))
    rw [rounds_succ]
    go_wp2_with (first | (go_at_call_of 180 (Value.int IntKind.u8 a.toNat); refine (LA.out _).mono ?_; rintro e w' ⟨rfl, rfl⟩) | (go_at_call_of 180 (Value.int IntKind.u8 b.toNat); refine (LB.out _).mono ?_; rintro e w' ⟨rfl, rfl⟩))
    go_ret2
    exact ⟨rfl, hbb⟩

set_option maxRecDepth 100000 in
set_option maxHeartbeats 4000000 in
theorem pu_hex_gtr (a b : UInt8) (w : World) (h0 : ¬ (48 ≤ (a.toNat : Int) ∧ (a.toNat : Int) ≤ 57)) (h2 : 97 ≤ low8 a) (h3 : low8 a ≤ 102) (h9 : ((a.toNat : Int) == 95) = false) (g0 : ¬ (48 ≤ (b.toNat : Int) ∧ (b.toNat : Int) ≤ 57)) (g2 : 122 < low8 b) (g3 : low8 b ≤ 255) :
    Calls Tryz.prog 174 #[.string ⟨#[a, b]⟩, .int .i64 16, .int .i64 8] w fun e w' => e = .returned (.tuple #[.int .u64 0, .iface 244 (.int .i64 2)]) ∧ Below w.heap.size w w' := by
  have hcv := Lib.run_convert_string_bytes (P := Tryz.prog) w 9 60 5 ⟨#[a, b]⟩ Tryz.underlying9 Tryz.underlying60 Tryz.underlying5
  have hB0 : (Lib.bytesWorld w 5 ⟨#[a, b]⟩).cell? ⟨w.heap.size, 0, none⟩ = some (.int .u8 a.toNat) := Lib.bytesWorld_cell w 5 ⟨#[a, b]⟩ 0 (by show 0 < 2; decide)
  have hB1 : (Lib.bytesWorld w 5 ⟨#[a, b]⟩).cell? ⟨w.heap.size, 1, none⟩ = some (.int .u8 b.toNat) := Lib.bytesWorld_cell w 5 ⟨#[a, b]⟩ 1 (by show 1 < 2; decide)
  have hbb := Lib.bytesWorld_below w 5 ⟨#[a, b]⟩
  have ua : a.toNat < 256 := a.toNat_lt
  have ub : b.toNat < 256 := b.toNat_lt
  have LA : Hid (∀ W : World, Calls Tryz.prog 180 #[.int .u8 a.toNat] W fun e w' => e = .returned (.int .u8 (low8 a)) ∧ w' = W) := fun W => Tryz.internal_strconv_lower a.toNat W
  have LB : Hid (∀ W : World, Calls Tryz.prog 180 #[.int .u8 b.toNat] W fun e w' => e = .returned (.int .u8 (low8 b)) ∧ w' = W) := fun W => Tryz.internal_strconv_lower b.toNat W
  generalize Lib.bytesWorld w 5 ⟨#[a, b]⟩ = W1 at *
  have hn : (48 ≤ (a.toNat : Int)) = False ∨ ((48 ≤ (a.toNat : Int)) = True ∧ ((a.toNat : Int) ≤ 57) = False) := by
    by_cases q : 48 ≤ (a.toNat : Int)
    · right; refine ⟨by simpa using q, by simp; omega⟩
    · left; simpa using q
  have gm : ((b.toNat : Int) == 95) = false ∨ ((b.toNat : Int) == 95) = true := by cases ((b.toNat : Int) == 95) <;> simp
  have gn : (48 ≤ (b.toNat : Int)) = False ∨ ((48 ≤ (b.toNat : Int)) = True ∧ ((b.toNat : Int) ≤ 57) = False) := by
    by_cases q : 48 ≤ (b.toNat : Int)
    · right; refine ⟨by simpa using q, by simp; omega⟩
    · left; simpa using q

  rcases gm with g9 | g9 <;> rcases hn with hx | ⟨hx, hy⟩ <;> rcases gn with gx | ⟨gx, gy⟩
  all_goals clear h0
  all_goals clear g0
  all_goals
    go_enter Tryz.func174, Tryz.ntmps174
    go_wp2
    refine wp_loop_rounds 4 ?_
    rw [rounds_succ]
    go_wp2_with (first | (go_at_call_of 180 (Value.int IntKind.u8 a.toNat); refine (LA.out _).mono ?_; rintro e w' ⟨rfl, rfl⟩) | (go_at_call_of 180 (Value.int IntKind.u8 b.toNat); refine (LB.out _).mono ?_; rintro e w' ⟨rfl, rfl⟩))
    rw [rounds_succ]
    go_wp2_with (first | (go_at_call_of 180 (Value.int IntKind.u8 a.toNat); refine (LA.out _).mono ?_; rintro e w' ⟨rfl, rfl⟩) | (go_at_call_of 180 (Value.int IntKind.u8 b.toNat); refine (LB.out _).mono ?_; rintro e w' ⟨rfl, rfl⟩))
    go_ret2
    exact ⟨rfl, hbb⟩

end Go.Proofs.YtgmmhgbodddadaaGreatDoor

namespace Go.Proofs.YtgmmhgbodddadaaGreatDoor
open Go.RowKit Go.Shelf
set_option linter.unusedVariables false

/-- What two bytes say to the base 16. -/
def hex2 (a b : UInt8) : Option UInt8 := if hexv a < 16 ∧ hexv b < 16 then some (UInt8.ofNat (16 * hexv a + hexv b)) else none


/-- Internal ParseUint of two bytes. -/
theorem ipu_yes (a b : UInt8) (w : World) (hh : (hexv a < 16 ∧ hexv b < 16)) :
    Calls Tryz.prog 174 #[.string ⟨#[a, b]⟩, .int .i64 16, .int .i64 8] w fun e w' => e = .returned (.tuple #[.int .u64 ((16 * hexv a + hexv b : Nat) : Int), .nilIface]) ∧ Below w.heap.size w w' := by
  rcases cls a with ⟨h1, h2, h3, h9⟩ | ⟨h1, h2, h3, h4, h9⟩ | ⟨h1, h2, h3, h4, h9⟩ | ⟨h1, h2, h3, h4, h9⟩ | ⟨h1, h2, h3, h4⟩
  · rcases cls b with ⟨g1, g2, g3, g9⟩ | ⟨g1, g2, g3, g4, g9⟩ | ⟨g1, g2, g3, g4, g9⟩ | ⟨g1, g2, g3, g4, g9⟩ | ⟨g1, g2, g3, g4⟩
    · have h := pu_dig_dig a b w h1 h2 h9 g1 g2 g9
      rw [show (a.toNat - 48 : Int) * 16 + (b.toNat - 48 : Int) = ((16 * hexv a + hexv b : Nat) : Int) by omega] at h
      exact h
    · have h := pu_dig_hex a b w h1 h2 h9 g1 g2 g3 g9
      rw [show (a.toNat - 48 : Int) * 16 + (low8 b - 97 + 10) = ((16 * hexv a + hexv b : Nat) : Int) by omega] at h
      exact h
    · exfalso; omega
    · exfalso; omega
    · exfalso; omega
  · rcases cls b with ⟨g1, g2, g3, g9⟩ | ⟨g1, g2, g3, g4, g9⟩ | ⟨g1, g2, g3, g4, g9⟩ | ⟨g1, g2, g3, g4, g9⟩ | ⟨g1, g2, g3, g4⟩
    · have h := pu_hex_dig a b w h1 h2 h3 h9 g1 g2 g9
      rw [show (low8 a - 97 + 10) * 16 + (b.toNat - 48 : Int) = ((16 * hexv a + hexv b : Nat) : Int) by omega] at h
      exact h
    · have h := pu_hex_hex a b w h1 h2 h3 h9 g1 g2 g3 g9
      rw [show (low8 a - 97 + 10) * 16 + (low8 b - 97 + 10) = ((16 * hexv a + hexv b : Nat) : Int) by omega] at h
      exact h
    · exfalso; omega
    · exfalso; omega
    · exfalso; omega
  · exfalso; omega
  · exfalso; omega
  · exfalso; omega
/-- Internal ParseUint of two bytes. -/
theorem ipu_no (a b : UInt8) (w : World) (hh : ¬ (hexv a < 16 ∧ hexv b < 16)) :
    Calls Tryz.prog 174 #[.string ⟨#[a, b]⟩, .int .i64 16, .int .i64 8] w fun e w' => e = .returned (.tuple #[.int .u64 0, .iface 244 (.int .i64 2)]) ∧ Below w.heap.size w w' := by
  rcases cls a with ⟨h1, h2, h3, h9⟩ | ⟨h1, h2, h3, h4, h9⟩ | ⟨h1, h2, h3, h4, h9⟩ | ⟨h1, h2, h3, h4, h9⟩ | ⟨h1, h2, h3, h4⟩
  · rcases cls b with ⟨g1, g2, g3, g9⟩ | ⟨g1, g2, g3, g4, g9⟩ | ⟨g1, g2, g3, g4, g9⟩ | ⟨g1, g2, g3, g4, g9⟩ | ⟨g1, g2, g3, g4⟩
    · exact absurd ⟨by omega, by omega⟩ hh
    · exact absurd ⟨by omega, by omega⟩ hh
    · exact pu_dig_let a b w h1 h2 h9 g1 g2 g3 g9
    · exact pu_dig_lss a b w h1 h2 h9 g1 g2 g3 g9
    · exact pu_dig_gtr a b w h1 h2 h9 g1 g2 g3
  · rcases cls b with ⟨g1, g2, g3, g9⟩ | ⟨g1, g2, g3, g4, g9⟩ | ⟨g1, g2, g3, g4, g9⟩ | ⟨g1, g2, g3, g4, g9⟩ | ⟨g1, g2, g3, g4⟩
    · exact absurd ⟨by omega, by omega⟩ hh
    · exact absurd ⟨by omega, by omega⟩ hh
    · exact pu_hex_let a b w h1 h2 h3 h9 g1 g2 g3 g9
    · exact pu_hex_lss a b w h1 h2 h3 h9 g1 g2 g3 g9
    · exact pu_hex_gtr a b w h1 h2 h3 h9 g1 g2 g3
  · exact pu_let a b w h1 h2 h3 h9
  · exact pu_lss a b w h1 h2 h3 h9
  · exact pu_gtr a b w h1 h2 h3

/-- The two errors of strconv lie as interface values. -/
structure Errs (w : World) : Prop where
  syn : ∃ ev, w.cell? ⟨7, 0, none⟩ = some ev ∧ (ev = .nilIface ∨ ∃ te pe, ev = .iface te pe)
  rng : ∃ ev, w.cell? ⟨8, 0, none⟩ = some ev ∧ (ev = .nilIface ∨ ∃ te pe, ev = .iface te pe)
theorem Errs.below {w W : World} (h : Errs w) (hb : Below w.heap.size w W) (hs : 9 ≤ w.heap.size) : Errs W := by
  obtain ⟨⟨e1, c1, d1⟩, ⟨e2, c2, d2⟩⟩ := h
  exact ⟨⟨e1, (hb.cell (p := ⟨_, 0, none⟩) (by show 7 < w.heap.size; omega)).trans c1, d1⟩, ⟨e2, (hb.cell (p := ⟨_, 0, none⟩) (by show 8 < w.heap.size; omega)).trans c2, d2⟩⟩

set_option maxRecDepth 100000 in
set_option maxHeartbeats 2000000 in
theorem pu_yes (a b : UInt8) (w : World) (h : hexv a < 16 ∧ hexv b < 16) :
    Calls Tryz.prog 173 #[.string ⟨#[a, b]⟩, .int .i64 16, .int .i64 8] w fun e w' => e = .returned (.tuple #[.int .u64 ((16 * hexv a + hexv b : Nat) : Int), .nilIface]) ∧ Below w.heap.size w w' := by
  obtain ⟨v, ev⟩ : ∃ v : Int, Hid (((16 * hexv a + hexv b : Nat) : Int) = v) := ⟨_, rfl⟩
  have H : Hid (∀ W : World, Calls Tryz.prog 174 #[.string ⟨#[a, b]⟩, .int .i64 16, .int .i64 8] W fun e w' => e = .returned (.tuple #[.int .u64 v, .nilIface]) ∧ Below W.heap.size W w') := fun W => by
    have q := ipu_yes a b W h
    rw [ev.out] at q
    exact q
  rw [ev.out]
  clear h ev
  go_enter Tryz.func173, Tryz.ntmps173
  go_wp2_with fail
  refine (H.out _).mono ?_
  rintro e w1 ⟨rfl, hb⟩
  go_wp2
  go_ret2
  exact ⟨rfl, hb⟩

set_option maxRecDepth 100000 in
set_option maxHeartbeats 2000000 in
theorem pu_no (a b : UInt8) (w : World) (h : ¬ (hexv a < 16 ∧ hexv b < 16)) (he : Errs w) (hs : 9 ≤ w.heap.size) :
    Calls Tryz.prog 173 #[.string ⟨#[a, b]⟩, .int .i64 16, .int .i64 8] w fun e w' => ∃ p, e = .returned (.tuple #[.int .u64 0, .iface 245 p]) ∧ Below w.heap.size w w' := by
  have H : Hid (∀ W : World, Calls Tryz.prog 174 #[.string ⟨#[a, b]⟩, .int .i64 16, .int .i64 8] W fun e w' => e = .returned (.tuple #[.int .u64 0, .iface 244 (.int .i64 2)]) ∧ Below W.heap.size W w') := fun W => by
    exact ipu_no a b W h
  clear h
  go_enter Tryz.func173, Tryz.ntmps173
  go_wp2_with fail
  refine (H.out _).mono ?_
  rintro e w1 ⟨rfl, hb⟩
  obtain ⟨⟨ev, hv, hev⟩, -⟩ := he.below hb hs
  have hsz : (⟨#[a, b]⟩ : ByteArray).size ≤ 281474976710656 := by show 2 ≤ _; decide
  go_wp2_with fail
  refine (Tryz.strconv_toError_syntax _ _ 16 8 ev _ hsz hv hev).mono ?_
  rintro e w2 ⟨N, rfl, -, -, hb2⟩
  go_wp2
  go_ret2
  exact ⟨_, rfl, hb.trans (hb2.mono hb.size)⟩

end Go.Proofs.YtgmmhgbodddadaaGreatDoor

namespace Go.Proofs.YtgmmhgbodddadaaGreatDoor
open Go.RowKit Go.Shelf
set_option linter.unusedVariables false

/-- What stands behind a backslash: the byte, and how many bytes say so. -/
def une : List UInt8 → Option (UInt8 × Nat)
  | [] => none
  | c :: r => if c.toNat = 120 then (match r with
      | a :: b :: _ => (hex2 a b).map fun x => (x, 3)
      | _ => none) else some (c, 1)
/-- What a text between quotes says. -/
def unq (l : List UInt8) : Option (List UInt8) :=
  match l with
  | [] => some []
  | c :: r => if c.toNat = 92 then (match une r with
      | none => none
      | some (x, k) => (unq (r.drop k)).map fun y => x :: y) else (unq r).map fun y => c :: y
termination_by l.length
decreasing_by all_goals simp; try omega

theorem unq_nil : unq [] = some [] := by rw [unq]
theorem unq_plain {c : UInt8} (r : List UInt8) (h : c.toNat ≠ 92) : unq (c :: r) = (unq r).map fun y => c :: y := by rw [unq]; simp [h]
theorem unq_esc {c : UInt8} (r : List UInt8) (h : c.toNat = 92) : unq (c :: r) = (match une r with
      | none => none
      | some (x, k) => (unq (r.drop k)).map fun y => x :: y) := by rw [unq]; simp [h]
theorem une_len {l : List UInt8} {x : UInt8} {k : Nat} (h : une l = some (x, k)) : k ≤ l.length ∧ k ≤ 3 := by
  unfold une at h
  split at h
  · cases h
  · split at h
    · split at h
      · simp only [Option.map_eq_some_iff, Prod.mk.injEq] at h
        obtain ⟨y, _, _, rfl⟩ := h
        simp
      · cases h
    · simp only [Option.some.injEq, Prod.mk.injEq] at h
      simp [← h.2]
set_option maxRecDepth 100000 in
set_option maxHeartbeats 2000000 in
theorem unesc_nil (w : World) :
    Calls Tryz.prog 169 #[.string ⟨#[]⟩] w fun e w' => e = .returned (.tuple #[.int .u8 0, .int .i64 0, .bool false]) ∧ Below w.heap.size w w' := by
  go_enter Tryz.func169, Tryz.ntmps169
  go_wp2
  refine bodyPost_ret (by simp [results, Tryz.results169, go_sem]; try rfl) rfl ?_
  exact ⟨rfl, Below.refl _ _⟩

set_option maxRecDepth 100000 in
set_option maxHeartbeats 2000000 in
theorem unesc_one (u : ByteArray) (c : UInt8) (w : World) (h0 : 0 < u.size) (hc : u[0] = c) (h1 : ((c.toNat : Int) != 120) = true) (hne : (u.toList == []) = false) :
    Calls Tryz.prog 169 #[.string u] w fun e w' => e = .returned (.tuple #[.int .u8 c.toNat, .int .i64 1, .bool true]) ∧ Below w.heap.size w w' := by
  have h0' : (0 : Int) < u.size := by omega
  have hb : ByteArray.toList u ≠ [] := by simpa using hne
  go_enter Tryz.func169, Tryz.ntmps169
  go_wp2
  refine bodyPost_ret (by simp [results, Tryz.results169, go_sem]; try rfl) rfl ?_
  exact ⟨rfl, Below.refl _ _⟩

set_option maxRecDepth 100000 in
set_option maxHeartbeats 2000000 in
theorem unesc_short (u : ByteArray) (c : UInt8) (w : World) (h0 : 0 < u.size) (hc : u[0] = c) (h1 : ((c.toNat : Int) != 120) = false) (hne : (u.toList == []) = false) (h3 : u.size < 3) :
    Calls Tryz.prog 169 #[.string u] w fun e w' => e = .returned (.tuple #[.int .u8 0, .int .i64 0, .bool false]) ∧ Below w.heap.size w w' := by
  have h0' : (0 : Int) < u.size := by omega
  have h3' : (u.size : Int) < 3 := by omega
  have hb : ByteArray.toList u ≠ [] := by simpa using hne
  go_enter Tryz.func169, Tryz.ntmps169
  go_wp2
  refine bodyPost_ret (by simp [results, Tryz.results169, go_sem]; try rfl) rfl ?_
  exact ⟨rfl, Below.refl _ _⟩

set_option maxRecDepth 100000 in
set_option maxHeartbeats 2000000 in
theorem unesc_yes (u : ByteArray) (c a b : UInt8) (w : World) (h0 : 0 < u.size) (hc : u[0] = c) (h1 : ((c.toNat : Int) != 120) = false) (hne : (u.toList == []) = false) (h3 : 3 ≤ u.size) (hx : u.extract 1 3 = ⟨#[a, b]⟩) (hh : hexv a < 16 ∧ hexv b < 16) :
    Calls Tryz.prog 169 #[.string u] w fun e w' => e = .returned (.tuple #[.int .u8 ((16 * hexv a + hexv b : Nat) : Int), .int .i64 3, .bool true]) ∧ Below w.heap.size w w' := by
  obtain ⟨v, ev⟩ : ∃ v : Nat, Hid (16 * hexv a + hexv b = v) := ⟨_, rfl⟩
  have hv : v < 256 := by have := ev.out; omega
  have H : Hid (∀ W : World, Calls Tryz.prog 173 #[.string ⟨#[a, b]⟩, .int .i64 16, .int .i64 8] W fun e w' => e = .returned (.tuple #[.int .u64 (v : Int), .nilIface]) ∧ Below W.heap.size W w') := fun W => by
    have q := pu_yes a b W hh
    rw [ev.out] at q
    exact q
  have hw : IntKind.u8.wrap (v : Int) = (v : Int) := by simp [IntKind.wrap, IntKind.bits, IntKind.signed]; omega
  rw [ev.out]
  clear ev hh
  have h0' : (0 : Int) < u.size := by omega
  have h3' : (3 : Int) ≤ u.size := by omega
  have hb : ByteArray.toList u ≠ [] := by simpa using hne
  go_enter Tryz.func169, Tryz.ntmps169
  go_wp2_with fail
  refine (H.out _).mono ?_
  rintro e w1 ⟨rfl, hb1⟩
  go_wp2
  go_region
  go_wp2
  refine bodyPost_ret (by simp [results, Tryz.results169, go_sem]; try rfl) rfl ?_
  exact ⟨rfl, hb1.drew⟩

set_option maxRecDepth 100000 in
set_option maxHeartbeats 2000000 in
theorem unesc_no (u : ByteArray) (c a b : UInt8) (w : World) (h0 : 0 < u.size) (hc : u[0] = c) (h1 : ((c.toNat : Int) != 120) = false) (hne : (u.toList == []) = false) (h3 : 3 ≤ u.size) (hx : u.extract 1 3 = ⟨#[a, b]⟩) (hh : ¬ (hexv a < 16 ∧ hexv b < 16)) (he : Errs w) (h8 : 9 ≤ w.heap.size) :
    Calls Tryz.prog 169 #[.string u] w fun e w' => e = .returned (.tuple #[.int .u8 0, .int .i64 3, .bool false]) ∧ Below w.heap.size w w' := by
  have H : Hid (∀ W : World, Errs W → 9 ≤ W.heap.size → Calls Tryz.prog 173 #[.string ⟨#[a, b]⟩, .int .i64 16, .int .i64 8] W fun e w' => ∃ p, e = .returned (.tuple #[.int .u64 0, .iface 245 p]) ∧ Below W.heap.size W w') := fun W h g => pu_no a b W hh h g
  clear hh
  have h0' : (0 : Int) < u.size := by omega
  have h3' : (3 : Int) ≤ u.size := by omega
  have hb : ByteArray.toList u ≠ [] := by simpa using hne
  go_enter Tryz.func169, Tryz.ntmps169
  go_wp2_with fail
  refine (H.out _ he h8).mono ?_
  rintro e w1 ⟨p, rfl, hb1⟩
  go_wp2
  go_region
  go_wp2
  refine bodyPost_ret (by simp [results, Tryz.results169, go_sem]; try rfl) rfl ?_
  exact ⟨rfl, hb1.drew⟩

/-- unescape at every text. -/
theorem unesc_any (u : ByteArray) (w : World) (he : Errs w) (h8 : 9 ≤ w.heap.size) :
    Calls Tryz.prog 169 #[.string u] w fun e w' => (match une u.data.toList with
      | some (x, k) => e = .returned (.tuple #[.int .u8 x.toNat, .int .i64 k, .bool true])
      | none => ∃ p q, e = .returned (.tuple #[.int .u8 p, .int .i64 q, .bool false])) ∧ Below w.heap.size w w' := by
  obtain ⟨⟨l⟩⟩ := u
  match l with
  | [] =>
    refine (unesc_nil w).mono ?_
    rintro e w' ⟨rfl, hb⟩
    exact ⟨⟨_, _, rfl⟩, hb⟩
  | c :: r =>
    have h0 : 0 < (⟨⟨c :: r⟩⟩ : ByteArray).size := by show 0 < (c :: r).length; simp
    have hc : (⟨⟨c :: r⟩⟩ : ByteArray)[0] = c := rfl
    have hne : ((⟨⟨c :: r⟩⟩ : ByteArray).toList == []) = false := by simp [ByteArray.toList_eq]
    have el : (⟨⟨c :: r⟩⟩ : ByteArray).data.toList = c :: r := rfl
    rw [el]
    by_cases h1 : c.toNat = 120
    · have h1' : ((c.toNat : Int) != 120) = false := by simp [h1]
      match r with
      | [] =>
        refine (unesc_short _ c w h0 hc h1' hne (by show 1 < 3; omega)).mono ?_
        rintro e w' ⟨rfl, hb⟩
        refine ⟨?_, hb⟩
        simp only [une, h1, if_true]
        exact ⟨_, _, rfl⟩
      | [a] =>
        refine (unesc_short _ c w h0 hc h1' hne (by show 2 < 3; omega)).mono ?_
        rintro e w' ⟨rfl, hb⟩
        refine ⟨?_, hb⟩
        simp only [une, h1, if_true]
        exact ⟨_, _, rfl⟩
      | a :: b :: r' =>
        have h3 : 3 ≤ (⟨⟨c :: a :: b :: r'⟩⟩ : ByteArray).size := by show 3 ≤ (c :: a :: b :: r').length; simp
        have hx : (⟨⟨c :: a :: b :: r'⟩⟩ : ByteArray).extract 1 3 = ⟨#[a, b]⟩ := by apply ByteArray.ext; simp [ByteArray.data_extract]
        by_cases hh : hexv a < 16 ∧ hexv b < 16
        · refine (unesc_yes _ c a b w h0 hc h1' hne h3 hx hh).mono ?_
          rintro e w' ⟨rfl, hb⟩
          refine ⟨?_, hb⟩
          have e1 : (UInt8.ofNat (16 * hexv a + hexv b)).toNat = 16 * hexv a + hexv b := by simp [UInt8.toNat_ofNat]; omega
          simp only [une, h1, if_true, hex2, if_pos hh, Option.map_some, e1]
          rfl
        · refine (unesc_no _ c a b w h0 hc h1' hne h3 hx hh he h8).mono ?_
          rintro e w' ⟨rfl, hb⟩
          refine ⟨?_, hb⟩
          simp only [une, h1, if_true, hex2, if_neg hh, Option.map_none]
          exact ⟨_, _, rfl⟩
    · have h1' : ((c.toNat : Int) != 120) = true := by simp; omega
      refine (unesc_one _ c w h0 hc h1' hne).mono ?_
      rintro e w' ⟨rfl, hb⟩
      refine ⟨?_, hb⟩
      simp only [une, if_neg h1]
      rfl

theorem unq_len : ∀ (n : Nat) (l x : List UInt8), l.length ≤ n → unq l = some x → x.length ≤ l.length
  | n, [], x, _, h => by rw [unq_nil] at h; cases h; simp
  | 0, c :: r, x, hn, h => by simp at hn
  | n + 1, c :: r, x, hn, h => by
    by_cases hc : c.toNat = 92
    · rw [unq_esc _ hc] at h
      split at h
      · cases h
      · rename_i y k hu
        simp only [Option.map_eq_some_iff] at h
        obtain ⟨z, hz, rfl⟩ := h
        have := unq_len n (r.drop k) z (by simp at hn ⊢; omega) hz
        simp at this ⊢
        omega
    · rw [unq_plain _ hc] at h
      simp only [Option.map_eq_some_iff] at h
      obtain ⟨z, hz, rfl⟩ := h
      have := unq_len n r z (by simp at hn; omega) hz
      simp
      omega

/-- What is told of what a text may say. -/
def outS (o : Option (List UInt8)) : ByteArray := ⟨(o.getD []).toArray⟩
def outB (o : Option (List UInt8)) : Bool := o.isSome
/-- What stands behind a first quote. -/
def unqS (l : List UInt8) : Option (List UInt8) := if Lib.hasSuffix l [34] then unq (Lib.trimSuffix l [34]) else none

theorem ext_from (s : ByteArray) (k : Nat) : (s.extract k s.size).data.toList = s.data.toList.drop k := by
  have e : s.data.size = s.size := rfl
  simp [ByteArray.data_extract, List.take_of_length_le, e]

set_option maxRecDepth 100000 in
set_option maxHeartbeats 4000000 in
theorem unquote_no (t : ByteArray) (w : World) (hs : t.size ≤ 9223372036854775807) (h : Lib.hasSuffix t.data.toList [34] = false) :
    Calls Tryz.prog 165 #[.string t] w fun e w' => e = .returned (.tuple #[.string ⟨#[]⟩, .bool false]) ∧ Below w.heap.size w w' := by
  have CS : Hid (∀ W : World, Calls Tryz.prog 168 #[.string t, .string ⟨#[34]⟩] W fun e w' => ∃ I, e = .returned (.tuple #[.string I, .bool false]) ∧ w' = W) := fun W => by
    have q := Tryz.strings_CutSuffix t ⟨#[34]⟩ W hs
    rw [show (⟨#[34]⟩ : ByteArray).data.toList = [34] from rfl, h] at q
    refine q.mono ?_
    rintro e w' ⟨rfl, rfl⟩
    exact ⟨_, rfl, rfl⟩
  clear h
  go_enter Tryz.func165, Tryz.ntmps165
  go_wp2_with fail
  refine (CS.out _).mono ?_
  rintro e w1 ⟨I, rfl, rfl⟩
  go_wp2
  go_ret2
  exact ⟨rfl, Below.refl _ _⟩

set_option maxRecDepth 100000 in
set_option maxHeartbeats 8000000 in
theorem unquote_yes (t I : ByteArray) (w : World) (hs : t.size ≤ 9223372036854775807) (h : Lib.hasSuffix t.data.toList [34] = true) (hI : (⟨(Lib.trimSuffix t.data.toList [34]).toArray⟩ : ByteArray) = I) (hz : I.size ≤ 140737488355000) (he : Errs w) (h8 : 9 ≤ w.heap.size) :
    Calls Tryz.prog 165 #[.string t] w fun e w' => e = .returned (.tuple #[.string (outS (unq I.data.toList)), .bool (outB (unq I.data.toList))]) ∧ Below w.heap.size w w' := by
  have CS : Hid (∀ W : World, Calls Tryz.prog 168 #[.string t, .string ⟨#[34]⟩] W fun e w' => e = .returned (.tuple #[.string I, .bool true]) ∧ w' = W) := fun W => by
    have q := Tryz.strings_CutSuffix t ⟨#[34]⟩ W hs
    rw [show (⟨#[34]⟩ : ByteArray).data.toList = [34] from rfl, h, hI] at q
    exact q
  clear h hI
  have HE : Hid (Errs w) := he
  clear he
  go_enter Tryz.func165, Tryz.ntmps165
  go_wp2_with fail
  refine (CS.out _).mono ?_
  rintro e w' ⟨rfl, rfl⟩
  go_wp2
  have h0 : Hid (Lib.IsBuilder 62 5 w'.heap.size w'.heap.size (Lib.byteCells []) (w'.alloc (.cells #[.pointer none, .slice none 0 0] 62))) := Lib.fresh_isBuilder _ _ w'
  have k0 : Below w'.heap.size w' (w'.alloc (.cells #[.pointer none, .slice none 0 0] 62)) := (Below.refl _ _).alloc (Nat.le_refl _) _
  generalize w'.alloc (.cells #[.pointer none, .slice none 0 0] 62) = W0 at *
  go_loopw [7] (fun i wr => ∃ (k : Nat) (acc : List UInt8), k ≤ I.size ∧ acc.length ≤ k ∧ i = .int .i64 k ∧ Hid (unq I.data.toList = (unq (I.data.toList.drop k)).map fun y => acc ++ y) ∧ Hid (Lib.IsBuilder 62 5 w'.heap.size w'.heap.size (Lib.byteCells acc) wr) ∧ Below w'.heap.size w' wr) (fun i _ => I.size - (intOf i).toNat)
  case atStart => exact ⟨0, [], by omega, by simp, rfl, (show unq I.data.toList = (unq (I.data.toList.drop 0)).map fun y => [] ++ y by simp), h0, k0⟩
  case round =>
    obtain ⟨k, acc, hk, ha, rfl, hU, hI, hB⟩ := hrel
    have hsz := hB.size
    by_cases hke : k = I.size
    · subst hke
      have e0 : Hid (unq I.data.toList = some acc) := by
        have q := hU.out
        rw [List.drop_of_length_le (by simp), unq_nil] at q
        exact q.trans (by simp)
      clear hU
      go_wp2_with fail
      refine (Tryz.Builder_String_any w'.heap.size w'.heap.size _ _ hI.out hsz).mono ?_
      rintro e w3 ⟨rfl, hb3⟩
      go_wp2
      go_ret2
      refine ⟨?_, hB.trans hb3⟩
      rw [e0.out]
      rfl
    · have hk' : (k : Int) < I.size := by omega
      have hkk : k < I.size := by omega
      have hd : I.data.toList.drop k = I[k] :: I.data.toList.drop (k + 1) := by
        rw [List.drop_eq_getElem_cons (by simpa using hkk)]
        rfl
      rw [hd] at hU
      have hu : I[k].toNat < 256 := I[k].toNat_lt
      clear hd
      obtain ⟨c, hc⟩ : ∃ c : UInt8, I[k] = c := ⟨_, rfl⟩
      rw [hc] at hu
      rw [hc] at hU
      by_cases a1 : c.toNat = 92
      · have a1' : ((c.toNat : Int) == 92) = true := by simp; omega
        have EB : Errs wr := HE.out.below hB h8
        have h8' : 9 ≤ wr.heap.size := by omega
        have UE : Hid (∀ W : World, Errs W → 9 ≤ W.heap.size → Calls Tryz.prog 169 #[.string (I.extract (k + 1) I.size)] W fun e w' => (match une (I.data.toList.drop (k + 1)) with
            | some (x, k) => e = .returned (.tuple #[.int .u8 x.toNat, .int .i64 k, .bool true])
            | none => ∃ p q, e = .returned (.tuple #[.int .u8 p, .int .i64 q, .bool false])) ∧ Below W.heap.size W w') := fun W g1 g2 => by
          have q := unesc_any (I.extract (k + 1) I.size) W g1 g2
          rw [ext_from] at q
          exact q
        have hU2 := hU.out
        rw [unq_esc _ a1] at hU2
        have hk1 : (k : Int) + 1 ≤ I.size := by omega
        cases hun : une (I.data.toList.drop (k + 1)) with
        | none =>
          rw [hun] at hU2 UE
          have e0 : Hid (unq I.data.toList = none) := hU2.trans (by simp)
          clear hU hU2 hun a1
          go_wp2_with fail
          refine (UE.out _ EB h8').mono ?_
          rintro e w2 ⟨⟨p, q, rfl⟩, hb2⟩
          go_wp2
          go_ret2
          refine ⟨?_, hB.trans (hb2.mono hB.size)⟩
          rw [e0.out]
          rfl
        | some y =>
          obtain ⟨x, j⟩ := y
          rw [hun] at hU2 UE
          obtain ⟨j1, j2⟩ := une_len hun
          have j3 : k + 1 + j ≤ I.size := by simp at j1; omega
          have e0 : Hid (unq I.data.toList = (unq (I.data.toList.drop (k + j + 1))).map fun y => (acc ++ [x]) ++ y) := by
            simp only [Option.map_map, List.drop_drop] at hU2
            rw [show k + j + 1 = k + 1 + j by omega]
            refine Eq.trans hU2 ?_
            congr 1
            funext y
            simp
          clear hU hU2 hun a1 j1
          go_wp2_with fail
          refine (UE.out _ EB h8').mono ?_
          rintro e w2 ⟨rfl, hb2⟩
          have h2' : Hid (Lib.IsBuilder 62 5 w'.heap.size w'.heap.size (Lib.byteCells acc) w2) := isB_below hI.out hb2
          have k2 : Below w'.heap.size w' w2 := hB.trans (hb2.mono hB.size)
          have hx : x.toNat < 256 := x.toNat_lt
          have hj : (j : Int) ≤ 3 := by omega
          clear hI hb2 UE
          go_wp2_with fail
          refine (wbyte w'.heap.size w'.heap.size _ _ _ h2'.out (by rw [Lib.byteCells_length]; omega) k2.size).mono ?_
          rintro e w3 ⟨rfl, h3, hb3⟩
          have h3' : Hid (Lib.IsBuilder 62 5 w'.heap.size w'.heap.size (Lib.byteCells (acc ++ [x])) w3) := by
            have := cells_snoc acc x
            rw [← this]
            exact Or.inr h3
          clear h3
          go_wp2
          exact ⟨⟨k + j + 1, acc ++ [x], by omega, by simp; omega, by simp, e0, h3', k2.trans hb3⟩, by simp [intOf]; omega⟩
      · have a1' : ((c.toNat : Int) == 92) = false := by simp; omega
        have e0 : Hid (unq I.data.toList = (unq (I.data.toList.drop (k + 1))).map fun y => (acc ++ [c]) ++ y) := by
          have q := hU.out
          rw [unq_plain _ a1, Option.map_map] at q
          refine Eq.trans q ?_
          congr 1
          funext y
          simp
        clear hU a1
        go_wp2_with fail
        refine (wbyte w'.heap.size w'.heap.size _ _ _ hI.out (by rw [Lib.byteCells_length]; omega) hsz).mono ?_
        rintro e w3 ⟨rfl, h3, hb3⟩
        have h3' : Hid (Lib.IsBuilder 62 5 w'.heap.size w'.heap.size (Lib.byteCells (acc ++ [c])) w3) := by
          have := cells_snoc acc c
          rw [← this]
          exact Or.inr h3
        clear h3
        go_wp2
        exact ⟨⟨k + 1, acc ++ [c], by omega, by simp; omega, by simp, e0, h3', hB.trans hb3⟩, by simp [intOf]; omega⟩

end Go.Proofs.YtgmmhgbodddadaaGreatDoor

namespace Go.Proofs.YtgmmhgbodddadaaGreatDoor
open Go.RowKit Go.Shelf
set_option linter.unusedVariables false

/-- A text cut at its first slash. -/
def cutL : List UInt8 → List UInt8 × List UInt8 × Bool
  | [] => ([], [], false)
  | c :: r => if c.toNat = 47 then ([], r, true) else (c :: (cutL r).1, (cutL r).2.1, (cutL r).2.2)
/-- What ParseInt tells: the number, and whether there is no error. -/
def pint (l : List UInt8) : Int × Bool := match Lib.parseIntB 64 l with
  | .ok v => (v, true)
  | .«syntax» => (0, false)
  | .range => (Lib.intSat 64 l, false)
theorem pint_fits (l : List UInt8) : -9223372036854775808 ≤ (pint l).1 ∧ (pint l).1 ≤ 9223372036854775807 := by
  unfold pint
  split
  · rename_i v h
    have p63 : (2 : Nat) ^ (64 - 1) = 9223372036854775808 := by decide
    unfold Lib.parseIntB at h
    split at h
    · cases h
    · simp only [] at h
      split at h
      · cases h
      · cases h
      · rw [p63] at h
        split at h
        · cases h
        · split at h
          · cases h
          · simp only [Lib.NumEnd.ok.injEq] at h
            rw [← h]
            split <;> simp only [] <;> omega
  · simp
  · unfold Lib.intSat
    have p63 : (2 : Nat) ^ (64 - 1) = 9223372036854775808 := by decide
    rw [p63]
    split <;> simp

theorem cutL_no : ∀ (l : List UInt8), (cutL l).2.2 = false → cutL l = (l, [], false) ∧ Lib.indexByte l 47 = -1
  | [], _ => ⟨rfl, rfl⟩
  | c :: r, h => by
    unfold cutL at h ⊢
    by_cases hc : c.toNat = 47
    · rw [if_pos hc] at h; cases h
    · rw [if_neg hc] at h ⊢
      obtain ⟨h1, h2⟩ := cutL_no r h
      have h3 : (c == 47) = false := by simp; intro e; exact hc (by rw [e]; rfl)
      refine ⟨by rw [h1], ?_⟩
      unfold Lib.indexByte
      rw [h3, h2]
      rfl
theorem cutL_yes : ∀ (l : List UInt8), (cutL l).2.2 = true → l = (cutL l).1 ++ 47 :: (cutL l).2.1 ∧ Lib.indexByte l 47 = ((cutL l).1.length : Int)
  | [], h => by cases h
  | c :: r, h => by
    unfold cutL at h ⊢
    by_cases hc : c.toNat = 47
    · rw [if_pos hc]
      have e : c = 47 := UInt8.toNat_inj.1 hc
      subst e
      exact ⟨rfl, rfl⟩
    · rw [if_neg hc] at h ⊢
      obtain ⟨h1, h2⟩ := cutL_yes r h
      have h3 : (c == 47) = false := by simp; intro e; exact hc (by rw [e]; rfl)
      refine ⟨by simp only [List.cons_append]; rw [← h1], ?_⟩
      unfold Lib.indexByte
      rw [h3, h2]
      have h4 : (((cutL r).1.length : Int) == -1) = false := by simp
      simp [h4]

theorem ext_take (s : ByteArray) (k : Nat) (h : k ≤ s.size) : (s.extract 0 k).data.toList = s.data.toList.take k := by
  simp [ByteArray.data_extract]
theorem ext_drop (s : ByteArray) (k : Nat) (h : k ≤ s.size) : (s.extract k s.size).data.toList = s.data.toList.drop k := by
  have e : s.data.size = s.size := rfl
  simp [ByteArray.data_extract, List.take_of_length_le, e]
theorem ba_eq {a : ByteArray} {l : List UInt8} (h : a.data.toList = l) : a = ⟨l.toArray⟩ := by
  apply ByteArray.ext
  rw [← h]

set_option maxRecDepth 100000 in
set_option maxHeartbeats 2000000 in
theorem cut_no (s : ByteArray) (w : World) (h : (cutL s.data.toList).2.2 = false) :
    Calls Tryz.prog 159 #[.string s, .string ⟨#[47]⟩] w fun e w' => e = .returned (.tuple #[.string s, .string ⟨#[]⟩, .bool false]) ∧ ∃ k, w' = w.drewN k := by
  have H : Hid (∀ W : World, Calls Tryz.prog 163 #[.string s, .string ⟨#[47]⟩] W fun e w' => e = .returned (.tuple #[.string s, .string ⟨#[]⟩, .bool false]) ∧ ∃ k, w' = W.drewN k) := fun W => by
    have I : Hid (∀ W : World, Calls Tryz.prog 117 #[.string s, .string ⟨#[47]⟩] W fun e w' => e = .returned (.int .i64 (-1)) ∧ w' = W) := fun W => by
      have q := Tryz.stringslite_Index_one s 47 W
      rw [(cutL_no _ h).2] at q
      exact q
    clear h
    go_enter Tryz.func163, Tryz.ntmps163
    go_wp2_with fail
    refine (I.out _).mono ?_
    rintro e w1 ⟨rfl, rfl⟩
    go_wp2
    refine bodyPost_ret (by simp [results, Tryz.results163, go_sem]; try rfl) rfl ?_
    exact ⟨rfl, 0, rfl⟩
  clear h
  go_enter Tryz.func159, Tryz.ntmps159
  go_wp2_with fail
  refine (H.out _).mono ?_
  rintro e w1 ⟨rfl, k, rfl⟩
  go_wp2
  refine bodyPost_ret (by simp [results, Tryz.results159, go_sem]; try rfl) rfl ?_
  exact ⟨rfl, k, rfl⟩

set_option maxRecDepth 100000 in
set_option maxHeartbeats 2000000 in
theorem cut_yes (s : ByteArray) (w : World) (h : (cutL s.data.toList).2.2 = true) (hs : s.size ≤ 140737488355328) :
    Calls Tryz.prog 159 #[.string s, .string ⟨#[47]⟩] w fun e w' => e = .returned (.tuple #[.string ⟨(cutL s.data.toList).1.toArray⟩, .string ⟨(cutL s.data.toList).2.1.toArray⟩, .bool true]) ∧ ∃ k, w' = w.drewN k := by
  obtain ⟨h1, h2⟩ := cutL_yes _ h
  obtain ⟨A, eA⟩ : ∃ A : ByteArray, Hid ((⟨(cutL s.data.toList).1.toArray⟩ : ByteArray) = A) := ⟨_, rfl⟩
  obtain ⟨B, eB⟩ : ∃ B : ByteArray, Hid ((⟨(cutL s.data.toList).2.1.toArray⟩ : ByteArray) = B) := ⟨_, rfl⟩
  obtain ⟨n, en⟩ : ∃ n : Nat, Hid ((cutL s.data.toList).1.length = n) := ⟨_, rfl⟩
  have hl : s.data.toList.length = n + 1 + (cutL s.data.toList).2.1.length := by
    have := congrArg List.length h1
    rw [List.length_append, List.length_cons, en.out] at this
    omega
  have hsz : s.data.toList.length = s.size := by simp
  have hn : n + 1 ≤ s.size := by omega
  have x1 : s.extract 0 n = A := by
    rw [← eA.out]
    refine ba_eq ?_
    rw [ext_take s n (by omega)]
    generalize cutL s.data.toList = c at h1 en
    rw [h1, ← en.out]
    simp
  have x2 : s.extract (n + 1) s.size = B := by
    rw [← eB.out]
    refine ba_eq ?_
    rw [ext_drop s (n + 1) hn]
    generalize cutL s.data.toList = c at h1 en
    rw [h1, ← en.out, List.drop_append]
    simp
  rw [eA.out, eB.out]
  have H : Hid (∀ W : World, Calls Tryz.prog 163 #[.string s, .string ⟨#[47]⟩] W fun e w' => e = .returned (.tuple #[.string A, .string B, .bool true]) ∧ ∃ k, w' = W.drewN k) := fun W => by
    have I : Hid (∀ W : World, Calls Tryz.prog 117 #[.string s, .string ⟨#[47]⟩] W fun e w' => e = .returned (.int .i64 n) ∧ w' = W) := fun W => by
      have q := Tryz.stringslite_Index_one s 47 W
      rw [h2, en.out] at q
      exact q
    clear h h1 h2 eA eB en hl hsz
    have z1 : (⟨#[47]⟩ : ByteArray).size = 1 := rfl
    have hn0 : (n : Int) ≤ s.size := by omega
    have hn1 : (n : Int) + 1 ≤ s.size := by omega
    go_enter Tryz.func163, Tryz.ntmps163
    go_wp2_with fail
    refine (I.out _).mono ?_
    rintro e w1 ⟨rfl, rfl⟩
    go_wp2
    go_quiet (fail)
    go_wp2
    refine bodyPost_ret (by simp [results, Tryz.results163, go_sem]; try rfl) rfl ?_
    exact ⟨rfl, nq, rfl⟩
  clear h h1 h2 eA eB en x1 x2 hl hsz
  go_enter Tryz.func159, Tryz.ntmps159
  go_wp2_with fail
  refine (H.out _).mono ?_
  rintro e w1 ⟨rfl, k, rfl⟩
  go_wp2
  refine bodyPost_ret (by simp [results, Tryz.results159, go_sem]; try rfl) rfl ?_
  exact ⟨rfl, k, rfl⟩

end Go.Proofs.YtgmmhgbodddadaaGreatDoor
