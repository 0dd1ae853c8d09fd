/- The document's SamePoint, at two points that tell the same. -/
import Derived.Test.YticmebamclacaaaGreatDoorZ01
import Derived.Test.YticmebamclacaaaGreatDoorZ06
import Derived.Test.YticmebamclacaaaGreatDoorZ08
import Derived.Laws.StructEq

namespace Go.Proofs.YticmebamclacaaaGreatDoor
open Go.RowKit LX Go.Shelf
set_option linter.unusedVariables false

/-- What one line says behind others: an error's number, or the declarations. -/
def lineD (L : List Dec) (x : ByteArray) : Int × List Dec := if cutE x = 0 then rdT L (tks x) else (cutE x, [])
theorem rdS_cons (A : List Dec) (i : Nat) (x : ByteArray) (ls : List ByteArray) : rdS A i (x :: ls) = if (lineD A x).1 = 0 then rdS (lineD A x).2 (i + 1) ls else ((lineD A x).1, (i : Int) + 1, []) := by
  unfold lineD
  by_cases h : cutE x = 0
  · rw [if_pos h]; show (if cutE x = 0 then _ else _) = _; rw [if_pos h]
  · rw [if_neg h, if_neg h]; show (if cutE x = 0 then _ else _) = _; rw [if_neg h]
/-- What declared answers. -/
def DcOut (N : Nat) (w : World) (L : List Dec) (x : ByteArray) (r : Ending) (w' : World) : Prop := Below N w w' ∧
  ((∃ E : Int, E ≠ 0 ∧ (lineD L x).1 = E ∧ r = .returned (.tuple #[.agg #[.string ⟨#[]⟩, .slice none 0 0], .int .i64 0, .int .i64 E])) ∨
   (lineD L x = (0, L) ∧ r = .returned (.tuple #[.agg #[.string ⟨#[]⟩, .slice none 0 0], .int .i64 0, .int .i64 0])) ∨
   (∃ (nm : ByteArray) (ks : List Int) (n m : Nat) (p : Option Addr) (c : Nat), 0 < n ∧ n ≤ 4096 ∧ L.length < 32 ∧ lineD L x = (0, L ++ [⟨nm, ks⟩]) ∧ m = ks.length ∧ r = .returned (.tuple #[.agg #[.string nm, .slice p m c], .int .i64 (n : Nat), .int .i64 0]) ∧ OwnK N (.slice p m c) ks w'))
theorem DcOut.err {N : Nat} {w w' : World} {L : List Dec} {x : ByteArray} {r : Ending} {E : Int} (hb : Below N w w') (h : lineD L x = (E, [])) (hE : E ≠ 0) (hr : r = .returned (.tuple #[.agg #[.string ⟨#[]⟩, .slice none 0 0], .int .i64 0, .int .i64 E])) : DcOut N w L x r w' := ⟨hb, Or.inl ⟨E, hE, by rw [h], hr⟩⟩
theorem DcOut.nil {N : Nat} {w w' : World} {L : List Dec} {x : ByteArray} {r : Ending} (hb : Below N w w') (h : lineD L x = (0, L)) (hr : r = .returned (.tuple #[.agg #[.string ⟨#[]⟩, .slice none 0 0], .int .i64 0, .int .i64 0])) : DcOut N w L x r w' := ⟨hb, Or.inr (Or.inl ⟨h, hr⟩)⟩
theorem DcOut.yes {N : Nat} {w w' : World} {L : List Dec} {x : ByteArray} {r : Ending} {nm : ByteArray} {ks : List Int} {n m : Nat} {p : Option Addr} {c : Nat} (hb : Below N w w') (hn : 0 < n) (hn2 : n ≤ 4096) (h32 : L.length < 32) (h : lineD L x = (0, L ++ [⟨nm, ks⟩])) (ho : OwnK N (.slice p m c) ks w') (hr : r = .returned (.tuple #[.agg #[.string nm, .slice p m c], .int .i64 (n : Nat), .int .i64 0])) : DcOut N w L x r w' := ⟨hb, Or.inr (Or.inr ⟨nm, ks, n, m, p, c, hn, hn2, h32, h, ho.len, hr, ho⟩)⟩
theorem koL_le (x : List UInt8) : 0 ≤ koL x ∧ koL x ≤ 3 := by
  unfold koL
  split
  · omega
  split
  · omega
  split <;> omega
theorem koL_eq (x : List UInt8) (j : Nat) (h1 : 1 ≤ j) (h4 : j < kwords.length) : (((⟨x.toArray⟩ : ByteArray).toList == (⟨(kwords[j]).toArray⟩ : ByteArray).toList) = true ↔ koL x = (j : Int)) := by
  rw [ByteArray.toList_eq, ByteArray.toList_eq, beq_iff_eq]
  show x = kwords[j] ↔ koL x = (j : Int)
  have h4' : j < 4 := h4
  unfold koL
  have : j = 1 ∨ j = 2 ∨ j = 3 := by omega
  rcases this with rfl | rfl | rfl
  · show x = [105, 110, 116] ↔ _
    by_cases e : x = [105, 110, 116]
    · simp [e]
    · rw [if_neg e]
      refine ⟨fun h => absurd h e, fun h => ?_⟩
      split at h
      · omega
      split at h <;> omega
  · show x = [114, 97, 116] ↔ _
    by_cases e : x = [114, 97, 116]
    · subst e; simp
    · refine ⟨fun h => absurd h e, fun h => ?_⟩
      rw [if_neg e] at h
      split at h
      · omega
      split at h <;> omega
  · show x = [115, 116, 114] ↔ _
    by_cases e : x = [115, 116, 114]
    · subst e; simp
    · refine ⟨fun h => absurd h e, fun h => ?_⟩
      rw [if_neg e] at h
      split at h
      · omega
      split at h <;> omega
/-- A kind's word is a word. -/
theorem ko_word {t : Tok Val} (h : LX.Good sdB t) (hk : koL t.x ≠ 0) : t.k = 3 := by
  have hb := h.b
  unfold koL at hk
  have w1 : beh [105, 110, 116] = (3, 3) := by decide
  have w2 : beh [114, 97, 116] = (3, 3) := by decide
  have w3 : beh [115, 116, 114] = (3, 3) := by decide
  by_cases h1 : t.x = [105, 110, 116]
  · rw [h1, w1] at hb; injection hb with q _; exact q.symm
  by_cases h2 : t.x = [114, 97, 116]
  · rw [h2, w2] at hb; injection hb with q _; exact q.symm
  by_cases h3 : t.x = [115, 116, 114]
  · rw [h3, w3] at hb; injection hb with q _; exact q.symm
  rw [if_neg h1, if_neg h2, if_neg h3] at hk
  exact absurd rfl hk

set_option maxRecDepth 100000 in
set_option maxHeartbeats 16000000 in
theorem rdecl_any (A : Value) (L : List Dec) (x : ByteArray) (w : World) (hA : SigAt w A L) (lA : L.length ≤ 32) :
    Calls Tryz.prog 37 #[A, .string x] w fun r w' => DcOut w.heap.size w L x r w' := by
  obtain ⟨i0, hi, hz0, hz1, hz2⟩ := info_parts inI
  have HA : Hid (SigAt w A L) := hA
  obtain ⟨pA, cA, rfl, -⟩ := hA.form
  clear hA
  by_cases h : 4096 < x.size
  · have hE : Hid (lineD L x = (2, [])) := by unfold Hid lineD; rw [show cutE x = 2 from if_pos h, if_neg (by decide)]
    have h' : (4096 : Int) < x.size := by omega
    generalize L.length = nL at *
    go_enter Tryz.func37, Tryz.ntmps37
    go_wp2
    refine bodyPost_ret (by simp [results, Tryz.results37, go_sem]; try rfl) rfl ?_
    exact DcOut.err (by go_grown) hE.out (by decide) rfl
  have h' : ¬ (4096 : Int) < x.size := by omega
  have ct : Hid (∀ W : World, Calls Tryz.prog 42 #[.string x] W fun e w' => Below W.heap.size W w' ∧ ((∃ p : Nat, (T sdB x.data.toList 0).2 = some p ∧ e = .returned (.tuple #[.slice none 0 0, .int .i64 50, .int .i64 p])) ∨ ((T sdB x.data.toList 0).2 = none ∧ ∃ v, e = .returned (.tuple #[v, .int .i64 0, .int .i64 0]) ∧ OwnR7 W.heap.size v (T sdB x.data.toList 0).1 w'))) := fun W => rtokens_run x W (by omega)
  have hE : Hid (cutE x = if (T sdB x.data.toList 0).2 = none then 0 else 50) := if_neg h
  have hTl : Hid ((tks x).length ≤ 4096) := by
    have h2 := T_lenX x.data.toList.length x.data.toList (Nat.le_refl _) 0
    have h3 : x.data.toList.length = x.size := by simp
    unfold Hid tks
    omega
  have hGd : Hid (∀ t ∈ tks x, LX.Good sdB t) := T_good sdB x.data.toList.length x.data.toList (Nat.le_refl _) 0
  obtain ⟨nL, enL⟩ : ∃ n : Nat, Hid (L.length = n) := ⟨_, rfl⟩
  rw [enL.out] at lA HA ⊢
  go_enter Tryz.func37, Tryz.ntmps37
  go_wp2_with fail
  refine (ct.out _).mono ?_
  rintro e w1 ⟨hb1, hor⟩
  have q0 : w1.cell? ⟨w.heap.size, 0, none⟩ = some (.string ⟨#[]⟩) := (hb1.cell (p := ⟨w.heap.size, 0, none⟩) (by simp)).trans (by simp [go_sem])
  have q1 : w1.cell? ⟨w.heap.size, 1, none⟩ = some (.slice none 0 0) := (hb1.cell (p := ⟨w.heap.size, 1, none⟩) (by simp)).trans (by simp [go_sem])
  have f0 : w1.frozen? ⟨w.heap.size, 0, none⟩ = false := (hb1.frozen (p := ⟨w.heap.size, 0, none⟩) (by simp)).trans (by simp [go_sem])
  have f1 : w1.frozen? ⟨w.heap.size, 1, none⟩ = false := (hb1.frozen (p := ⟨w.heap.size, 1, none⟩) (by simp)).trans (by simp [go_sem])
  have hs1 : w.heap.size < w1.heap.size := by have := hb1.size; simp at this; omega
  obtain ⟨hB1, -⟩ := bgX (n := w.heap.size) (W0 := w) (by go_grown) (by go_size) hb1
  clear hb1 ct
  rcases hor with ⟨q, hq, rfl⟩ | ⟨hq, v, rfl, hO⟩
  · have hE2 : Hid (lineD L x = (50, [])) := by unfold Hid lineD; rw [show cutE x = 50 from hE.out.trans (if_neg (by rw [hq]; simp)), if_neg (by decide)]
    clear hE hq hTl hGd
    have g0 : ((w1.setCell ⟨w.heap.size, 0, none⟩ (.string ⟨#[]⟩)).setCell ⟨w.heap.size, 1, none⟩ (.slice none 0 0)).cell? ⟨w.heap.size, 0, none⟩ = some (.string ⟨#[]⟩) := by simp (maxDischargeDepth := 8) [go_sem, q0]
    have g1 : ((w1.setCell ⟨w.heap.size, 0, none⟩ (.string ⟨#[]⟩)).setCell ⟨w.heap.size, 1, none⟩ (.slice none 0 0)).cell? ⟨w.heap.size, 1, none⟩ = some (.slice none 0 0) := by simp (maxDischargeDepth := 8) [go_sem, q1]
    have K9 : Below w.heap.size w ((w1.setCell ⟨w.heap.size, 0, none⟩ (.string ⟨#[]⟩)).setCell ⟨w.heap.size, 1, none⟩ (.slice none 0 0)) := (hB1.setCell (p := ⟨w.heap.size, 0, none⟩) (Nat.le_refl _) _).setCell (p := ⟨w.heap.size, 1, none⟩) (Nat.le_refl _) _
    go_wp2
    generalize (w1.setCell ⟨w.heap.size, 0, none⟩ (.string ⟨#[]⟩)).setCell ⟨w.heap.size, 1, none⟩ (.slice none 0 0) = W9 at g0 g1 K9 ⊢
    refine bodyPost_ret (by simp [results, Tryz.results37, go_sem, g0, g1]; try rfl) rfl ?_
    exact DcOut.err K9 hE2.out (by decide) rfl
  have hD : Hid (lineD L x = rdT L (tks x)) := by unfold Hid lineD; rw [if_pos (hE.out.trans (if_pos hq))]
  have hT : Hid (ToksAt w1 v (tks x)) := OwnR7.at hO
  clear hE hq hO
  generalize tks x = TL at *
  obtain ⟨p, c, rfl, hc, HX⟩ := hT.out.form
  cases TL with
  | nil =>
    have hE : Hid (lineD L x = (0, L)) := hD.out
    simp only [List.length_nil]
    have g0 : ((w1.setCell ⟨w.heap.size, 0, none⟩ (.string ⟨#[]⟩)).setCell ⟨w.heap.size, 1, none⟩ (.slice none 0 0)).cell? ⟨w.heap.size, 0, none⟩ = some (.string ⟨#[]⟩) := by simp (maxDischargeDepth := 8) [go_sem, q0]
    have g1 : ((w1.setCell ⟨w.heap.size, 0, none⟩ (.string ⟨#[]⟩)).setCell ⟨w.heap.size, 1, none⟩ (.slice none 0 0)).cell? ⟨w.heap.size, 1, none⟩ = some (.slice none 0 0) := by simp (maxDischargeDepth := 8) [go_sem, q1]
    have K9 : Below w.heap.size w ((w1.setCell ⟨w.heap.size, 0, none⟩ (.string ⟨#[]⟩)).setCell ⟨w.heap.size, 1, none⟩ (.slice none 0 0)) := (hB1.setCell (p := ⟨w.heap.size, 0, none⟩) (Nat.le_refl _) _).setCell (p := ⟨w.heap.size, 1, none⟩) (Nat.le_refl _) _
    go_wp2
    generalize (w1.setCell ⟨w.heap.size, 0, none⟩ (.string ⟨#[]⟩)).setCell ⟨w.heap.size, 1, none⟩ (.slice none 0 0) = W9 at g0 g1 K9 ⊢
    refine bodyPost_ret (by simp [results, Tryz.results37, go_sem, g0, g1]; try rfl) rfl ?_
    exact DcOut.nil K9 hE.out rfl
  | cons t l =>
  have hD2 : Hid (lineD L x = wdD L (rdD (t :: l))) := hD.out
  clear hD
  obtain ⟨b, off, rfl, hb, TK⟩ := HX 0 (by simp)
  simp only [Nat.zero_mul, Nat.add_zero, List.getElem_cons_zero] at TK
  obtain ⟨a0, a1, a2, a3, a4, a5, a6⟩ := TK
  have HX2 : Hid (∀ i (hi : i < (t :: l).length), TokC w1 b (off + i * 7) (t :: l)[i]) := fun i hi => by
    obtain ⟨b', off', e9, -, h9⟩ := HX i hi
    injection e9 with e9
    injection e9 with e1 e2 e3
    subst e1 e2
    exact h9
  clear HX
  obtain ⟨n, en⟩ : ∃ n : Nat, Hid ((t :: l).length = n) := ⟨_, rfl⟩
  have l4 : n ≤ 4096 := by have := en.out; have := hTl.out; omega
  have hn1 : 1 ≤ n := by have := en.out; simp at this; omega
  rw [en.out] at hc ⊢
  clear hT hTl
  have hn0 : ((n : Int) == 0) = false := by simp; omega
  have hn' : (0 : Int) < n := by omega
  have Gt := hGd.out t List.mem_cons_self
  have hrd : Hid (rdD (t :: l) = if nameL t.x = true then (rdK [] l).map (fun ks => ⟨⟨t.x.toArray⟩, ks⟩) else none) := rfl
  have cN : Hid (∀ W : World, Calls Tryz.prog 27 #[.string ⟨t.x.toArray⟩] W fun e' w' => e' = .returned (.bool (nameL t.x)) ∧ Below W.heap.size W w') := fun W => rname_any ⟨t.x.toArray⟩ W
  have RES : Hid (∀ W : World, Below w1.heap.size w1 W → W.cell? ⟨w.heap.size, 0, none⟩ = some (.string ⟨#[]⟩) ∧ W.cell? ⟨w.heap.size, 1, none⟩ = some (.slice none 0 0) ∧ W.frozen? ⟨w.heap.size, 0, none⟩ = false ∧ W.frozen? ⟨w.heap.size, 1, none⟩ = false ∧ Below w.heap.size w W) := fun W hW =>
    ⟨(hW.cell (p := ⟨w.heap.size, 0, none⟩) hs1).trans q0, (hW.cell (p := ⟨w.heap.size, 1, none⟩) hs1).trans q1, (hW.frozen (p := ⟨w.heap.size, 0, none⟩) hs1).trans f0, (hW.frozen (p := ⟨w.heap.size, 1, none⟩) hs1).trans f1, hB1.trans (hW.mono hB1.size)⟩
  obtain ⟨X0, eX0⟩ : ∃ X : ByteArray, Hid ((⟨t.x.toArray⟩ : ByteArray) = X) := ⟨_, rfl⟩
  rw [eX0.out] at a2 cN hrd
  obtain ⟨tk, etk⟩ : ∃ kk : Nat, Hid (t.k = kk) := ⟨_, rfl⟩
  rw [etk.out] at a0
  clear a1 a3 a4 a5 a6 q0 q1 f0 f1
  go_wp2_with fail
  refine (cN.out _).mono ?_
  rintro e' w2 ⟨rfl, hb2⟩
  have HP2 : Hid (w2.heap[w1.heap.size]? = some (.cells #[.string X0, .slice none 0 0] 40 (0, 0))) := (hb2.block _ (by simp)).trans (by show (w1.heap.push _)[w1.heap.size]? = _; rw [Array.getElem?_push, if_pos rfl])
  have z2 : w1.heap.size + 1 ≤ w2.heap.size := by have := hb2.size; simp at this; omega
  obtain ⟨hB2, -⟩ := bgX (n := w1.heap.size) (W0 := w1) (by go_grown) (by go_size) hb2
  clear hb2 cN
  have b0 : w2.cell? ⟨b, off, none⟩ = some (.int .i64 tk) := (hB2.cell (p := ⟨b, off, none⟩) hb).trans a0
  cases hN : nameL t.x with
  | false =>
    have hE : Hid (lineD L x = (70, [])) := by
      have h := hD2.out
      rw [hrd.out, if_neg (by rw [hN]; simp)] at h
      exact h
    obtain ⟨q0, q1, f0, f1, hBN⟩ := RES.out w2 hB2
    by_cases h3 : tk = 3
    · have h3' : (tk : Int) = 3 := by omega
      have h3'' : ((tk : Int) != 3) = false := by simp; omega
      have g0 : ((w2.setCell ⟨w.heap.size, 0, none⟩ (.string ⟨#[]⟩)).setCell ⟨w.heap.size, 1, none⟩ (.slice none 0 0)).cell? ⟨w.heap.size, 0, none⟩ = some (.string ⟨#[]⟩) := by simp (maxDischargeDepth := 8) [go_sem, q0]
      have g1 : ((w2.setCell ⟨w.heap.size, 0, none⟩ (.string ⟨#[]⟩)).setCell ⟨w.heap.size, 1, none⟩ (.slice none 0 0)).cell? ⟨w.heap.size, 1, none⟩ = some (.slice none 0 0) := by simp (maxDischargeDepth := 8) [go_sem, q1]
      have K9 : Below w.heap.size w ((w2.setCell ⟨w.heap.size, 0, none⟩ (.string ⟨#[]⟩)).setCell ⟨w.heap.size, 1, none⟩ (.slice none 0 0)) := (hBN.setCell (p := ⟨w.heap.size, 0, none⟩) (Nat.le_refl _) _).setCell (p := ⟨w.heap.size, 1, none⟩) (Nat.le_refl _) _
      go_wp2
      generalize (w2.setCell ⟨w.heap.size, 0, none⟩ (.string ⟨#[]⟩)).setCell ⟨w.heap.size, 1, none⟩ (.slice none 0 0) = W9 at g0 g1 K9 ⊢
      refine bodyPost_ret (by simp [results, Tryz.results37, go_sem, g0, g1]; try rfl) rfl ?_
      exact DcOut.err K9 hE.out (by decide) rfl
    · have h3' : ¬ (tk : Int) = 3 := by omega
      have h3'' : ((tk : Int) != 3) = true := by simp; omega
      have g0 : ((w2.setCell ⟨w.heap.size, 0, none⟩ (.string ⟨#[]⟩)).setCell ⟨w.heap.size, 1, none⟩ (.slice none 0 0)).cell? ⟨w.heap.size, 0, none⟩ = some (.string ⟨#[]⟩) := by simp (maxDischargeDepth := 8) [go_sem, q0]
      have g1 : ((w2.setCell ⟨w.heap.size, 0, none⟩ (.string ⟨#[]⟩)).setCell ⟨w.heap.size, 1, none⟩ (.slice none 0 0)).cell? ⟨w.heap.size, 1, none⟩ = some (.slice none 0 0) := by simp (maxDischargeDepth := 8) [go_sem, q1]
      have K9 : Below w.heap.size w ((w2.setCell ⟨w.heap.size, 0, none⟩ (.string ⟨#[]⟩)).setCell ⟨w.heap.size, 1, none⟩ (.slice none 0 0)) := (hBN.setCell (p := ⟨w.heap.size, 0, none⟩) (Nat.le_refl _) _).setCell (p := ⟨w.heap.size, 1, none⟩) (Nat.le_refl _) _
      go_wp2
      generalize (w2.setCell ⟨w.heap.size, 0, none⟩ (.string ⟨#[]⟩)).setCell ⟨w.heap.size, 1, none⟩ (.slice none 0 0) = W9 at g0 g1 K9 ⊢
      refine bodyPost_ret (by simp [results, Tryz.results37, go_sem, g0, g1]; try rfl) rfl ?_
      exact DcOut.err K9 hE.out (by decide) rfl
  | true =>
  have h3 : tk = 3 := by have := (good_kt Gt).w hN; have := etk.out; omega
  have h3' : (tk : Int) = 3 := by omega
  have h3'' : ((tk : Int) != 3) = false := by simp; omega
  have hrd2 : Hid (rdD (t :: l) = (rdK [] l).map (fun ks => ⟨X0, ks⟩)) := by have h := hrd.out; rwa [if_pos hN] at h
  clear hrd
  have cK : Hid (∀ W : World, Calls Tryz.prog 33 #[] W fun e w' => e = .returned (.slice (some ⟨W.heap.size, 0, none⟩) 4 4) ∧ Below W.heap.size W w' ∧ StrAt w' (.slice (some ⟨W.heap.size, 0, none⟩) 4 4) kwords) := fun W => kinds_any W
  go_wp2_with fail
  refine (cK.out _).mono ?_
  rintro e' w3 ⟨rfl, hB3, hS3⟩
  have KW : Hid (w2.heap.size < w3.heap.size ∧ ∀ j (hj : j < kwords.length), w3.cell? ⟨w2.heap.size, j, none⟩ = some (.string ⟨(kwords[j]).toArray⟩)) := by
    obtain ⟨b9, c9, e9, l9, h9⟩ := hS3
    injection e9 with e9 _ _
    injection e9 with e9
    injection e9 with e9 _ _
    subst e9
    exact ⟨l9, h9⟩
  have HP3 : Hid (w3.heap[w1.heap.size]? = some (.cells #[.string X0, .slice none 0 0] 40 (0, 0))) := (hB3.block _ (by omega)).trans HP2.out
  have hB13 : Below w1.heap.size w1 w3 := hB2.trans (hB3.mono hB2.size)
  have z3 : w2.heap.size ≤ w3.heap.size := hB3.size
  have z4 : w2.heap.size < w3.heap.size := KW.out.1
  clear cK hS3 HP2 hB2 hB3 b0 a0
  go_wp2
  go_loopw [13] (fun i wr => ∃ (k : Nat) (acc : List Int) (V : Value), 1 ≤ k ∧ k ≤ n ∧ acc.length ≤ k ∧ i = .int .i64 k ∧ Hid (rdK [] l = rdK acc ((t :: l).drop k)) ∧ Hid (wr.heap[w1.heap.size]? = some (.cells #[.string X0, V] 40 (0, 0))) ∧ Hid (OwnK w3.heap.size V acc wr) ∧ Below w1.heap.size w1 wr ∧ w3.heap.size ≤ wr.heap.size ∧ Hid (∀ q, q < w3.heap.size → q ≠ w1.heap.size → wr.heap[q]? = w3.heap[q]?)) (fun i _ => n - (intOf i).toNat)
  case atStart => exact ⟨1, [], .slice none 0 0, Nat.le_refl _, hn1, by simp, rfl, (show rdK [] l = rdK [] l from rfl), HP3, ⟨rfl, .inl ⟨rfl, rfl⟩⟩, hB13, Nat.le_refl _, fun q _ _ => rfl⟩
  case round =>
    obtain ⟨k, acc, V, hk1, hk, hac, rfl, hr, hp, hO, hBw, hsz, hkeep⟩ := hrel
    obtain ⟨pV, nV, cV, rfl⟩ := hO.out.form
    have hnV : Hid (nV = acc.length) := hO.out.len
    obtain ⟨q0, q1, f0, f1, hBN⟩ := RES.out wr hBw
    have p0 : wr.cell? ⟨w1.heap.size, 0, none⟩ = some (.string X0) := by rw [Lib.cell_of_heap hp.out]; rfl
    have p1 : wr.cell? ⟨w1.heap.size, 1, none⟩ = some (.slice pV nV cV) := by rw [Lib.cell_of_heap hp.out]; rfl
    by_cases hlt : k < n
    case neg =>
      have c2 : ¬ (k : Int) < n := by omega
      have hD3 : Hid (lineD L x = if 6 < acc.length ∨ L.length = 32 then (3, []) else if 0 ≤ findI X0 L 0 then (1, []) else (0, L ++ [⟨X0, acc⟩])) := by
        have h := hD2.out
        rw [hrd2.out, hr.out, List.drop_eq_nil_of_le (by have := en.out; omega)] at h
        exact h
      by_cases h6 : 6 < nV
      · have h6' : (6 : Int) < nV := by omega
        have hE : Hid (lineD L x = (3, [])) := by have h := hD3.out; rwa [if_pos (Or.inl (by have := hnV.out; omega))] at h
        have g0 : ((wr.setCell ⟨w.heap.size, 0, none⟩ (.string ⟨#[]⟩)).setCell ⟨w.heap.size, 1, none⟩ (.slice none 0 0)).cell? ⟨w.heap.size, 0, none⟩ = some (.string ⟨#[]⟩) := by simp (maxDischargeDepth := 8) [go_sem, q0]
        have g1 : ((wr.setCell ⟨w.heap.size, 0, none⟩ (.string ⟨#[]⟩)).setCell ⟨w.heap.size, 1, none⟩ (.slice none 0 0)).cell? ⟨w.heap.size, 1, none⟩ = some (.slice none 0 0) := by simp (maxDischargeDepth := 8) [go_sem, q1]
        have K9 : Below w.heap.size w ((wr.setCell ⟨w.heap.size, 0, none⟩ (.string ⟨#[]⟩)).setCell ⟨w.heap.size, 1, none⟩ (.slice none 0 0)) := (hBN.setCell (p := ⟨w.heap.size, 0, none⟩) (Nat.le_refl _) _).setCell (p := ⟨w.heap.size, 1, none⟩) (Nat.le_refl _) _
        go_wp2
        generalize (wr.setCell ⟨w.heap.size, 0, none⟩ (.string ⟨#[]⟩)).setCell ⟨w.heap.size, 1, none⟩ (.slice none 0 0) = W9 at g0 g1 K9 ⊢
        refine bodyPost_ret (by simp [results, Tryz.results37, go_sem, g0, g1]; try rfl) rfl ?_
        exact DcOut.err K9 hE.out (by decide) rfl
      have h6' : ¬ (6 : Int) < nV := by omega
      by_cases h32 : 32 ≤ nL
      · have h32' : (32 : Int) ≤ nL := by omega
        have hE : Hid (lineD L x = (3, [])) := by have h := hD3.out; rwa [if_pos (Or.inr (by have := enL.out; omega))] at h
        have g0 : ((wr.setCell ⟨w.heap.size, 0, none⟩ (.string ⟨#[]⟩)).setCell ⟨w.heap.size, 1, none⟩ (.slice none 0 0)).cell? ⟨w.heap.size, 0, none⟩ = some (.string ⟨#[]⟩) := by simp (maxDischargeDepth := 8) [go_sem, q0]
        have g1 : ((wr.setCell ⟨w.heap.size, 0, none⟩ (.string ⟨#[]⟩)).setCell ⟨w.heap.size, 1, none⟩ (.slice none 0 0)).cell? ⟨w.heap.size, 1, none⟩ = some (.slice none 0 0) := by simp (maxDischargeDepth := 8) [go_sem, q1]
        have K9 : Below w.heap.size w ((wr.setCell ⟨w.heap.size, 0, none⟩ (.string ⟨#[]⟩)).setCell ⟨w.heap.size, 1, none⟩ (.slice none 0 0)) := (hBN.setCell (p := ⟨w.heap.size, 0, none⟩) (Nat.le_refl _) _).setCell (p := ⟨w.heap.size, 1, none⟩) (Nat.le_refl _) _
        go_wp2
        generalize (wr.setCell ⟨w.heap.size, 0, none⟩ (.string ⟨#[]⟩)).setCell ⟨w.heap.size, 1, none⟩ (.slice none 0 0) = W9 at g0 g1 K9 ⊢
        refine bodyPost_ret (by simp [results, Tryz.results37, go_sem, g0, g1]; try rfl) rfl ?_
        exact DcOut.err K9 hE.out (by decide) rfl
      have h32' : ¬ (32 : Int) ≤ nL := by omega
      have cF : Hid (∀ W : World, Below w.heap.size w W → Calls Tryz.prog 28 #[.slice pA nL cA, .string X0] W fun e w' => e = .returned (.int .i64 (findI X0 L 0)) ∧ w' = W) := fun W hW => rfind_any _ L X0 W (HA.out.below hW) (by have := enL.out; omega)
      have hD4 : Hid (lineD L x = if 0 ≤ findI X0 L 0 then (1, []) else (0, L ++ [⟨X0, acc⟩])) := by have h := hD3.out; rwa [if_neg (by have := enL.out; have := hnV.out; omega)] at h
      generalize findI X0 L 0 = FI at *
      go_wp2_with fail
      refine (cF.out _ hBN).mono ?_
      rintro e' w5 ⟨rfl, rfl⟩
      clear cF
      by_cases hF : 0 ≤ FI
      · have hE : Hid (lineD L x = (1, [])) := by have h := hD4.out; rwa [if_pos hF] at h
        have g0 : ((w5.setCell ⟨w.heap.size, 0, none⟩ (.string ⟨#[]⟩)).setCell ⟨w.heap.size, 1, none⟩ (.slice none 0 0)).cell? ⟨w.heap.size, 0, none⟩ = some (.string ⟨#[]⟩) := by simp (maxDischargeDepth := 8) [go_sem, q0]
        have g1 : ((w5.setCell ⟨w.heap.size, 0, none⟩ (.string ⟨#[]⟩)).setCell ⟨w.heap.size, 1, none⟩ (.slice none 0 0)).cell? ⟨w.heap.size, 1, none⟩ = some (.slice none 0 0) := by simp (maxDischargeDepth := 8) [go_sem, q1]
        have K9 : Below w.heap.size w ((w5.setCell ⟨w.heap.size, 0, none⟩ (.string ⟨#[]⟩)).setCell ⟨w.heap.size, 1, none⟩ (.slice none 0 0)) := (hBN.setCell (p := ⟨w.heap.size, 0, none⟩) (Nat.le_refl _) _).setCell (p := ⟨w.heap.size, 1, none⟩) (Nat.le_refl _) _
        go_wp2
        generalize (w5.setCell ⟨w.heap.size, 0, none⟩ (.string ⟨#[]⟩)).setCell ⟨w.heap.size, 1, none⟩ (.slice none 0 0) = W9 at g0 g1 K9 ⊢
        refine bodyPost_ret (by simp [results, Tryz.results37, go_sem, g0, g1]; try rfl) rfl ?_
        exact DcOut.err K9 hE.out (by decide) rfl
      · have hE : Hid (lineD L x = (0, L ++ [⟨X0, acc⟩])) := by have h := hD4.out; rwa [if_neg hF] at h
        have hF' : FI < 0 := by omega
        have O9 : Hid (OwnK w.heap.size (.slice pV nV cV) acc ((w5.setCell ⟨w.heap.size, 0, none⟩ (.string X0)).setCell ⟨w.heap.size, 1, none⟩ (.slice pV nV cV))) := own_baseX (ownsRow_setCell_below (ownsRow_setCell_below hO.out (a := ⟨w.heap.size, 0, none⟩) (by show w.heap.size < w3.heap.size; omega) _) (a := ⟨w.heap.size, 1, none⟩) (by show w.heap.size < w3.heap.size; omega) _) (by omega)
        have g0 : ((w5.setCell ⟨w.heap.size, 0, none⟩ (.string X0)).setCell ⟨w.heap.size, 1, none⟩ (.slice pV nV cV)).cell? ⟨w.heap.size, 0, none⟩ = some (.string X0) := by simp (maxDischargeDepth := 8) [go_sem, q0]
        have g1 : ((w5.setCell ⟨w.heap.size, 0, none⟩ (.string X0)).setCell ⟨w.heap.size, 1, none⟩ (.slice pV nV cV)).cell? ⟨w.heap.size, 1, none⟩ = some (.slice pV nV cV) := by simp (maxDischargeDepth := 8) [go_sem, q1]
        have K9 : Below w.heap.size w ((w5.setCell ⟨w.heap.size, 0, none⟩ (.string X0)).setCell ⟨w.heap.size, 1, none⟩ (.slice pV nV cV)) := (hBN.setCell (p := ⟨w.heap.size, 0, none⟩) (Nat.le_refl _) _).setCell (p := ⟨w.heap.size, 1, none⟩) (Nat.le_refl _) _
        go_wp2
        generalize (w5.setCell ⟨w.heap.size, 0, none⟩ (.string X0)).setCell ⟨w.heap.size, 1, none⟩ (.slice pV nV cV) = W9 at g0 g1 K9 O9 ⊢
        refine bodyPost_ret (by simp [results, Tryz.results37, go_sem, g0, g1]; try rfl) rfl ?_
        exact DcOut.yes K9 (by omega) l4 (by have := enL.out; omega) hE.out O9.out rfl
    have hlt' : (k : Int) < n := by omega
    have kx : k < (t :: l).length := by have := en.out; omega
    have Gk := hGd.out _ (List.getElem_mem kx)
    have TKw : Hid (TokC w1 b (off + k * 7) (t :: l)[k]) := HX2.out k kx
    have hr2 : Hid (rdK [] l = if koL (t :: l)[k].x = 0 then none else rdK (acc ++ [koL (t :: l)[k].x]) ((t :: l).drop (k + 1))) := by
      have h := hr.out
      rw [List.drop_eq_getElem_cons kx] at h
      exact h
    have hw3 : koL (t :: l)[k].x ≠ 0 → (t :: l)[k].k = 3 := ko_word Gk
    clear hr Gk
    generalize (t :: l)[k] = T0 at TKw hr2 hw3
    have KE := koL_eq T0.x
    have KL := koL_le T0.x
    obtain ⟨kk, ekk⟩ : ∃ q : Nat, Hid (T0.k = q) := ⟨_, rfl⟩
    obtain ⟨XT, eXT⟩ : ∃ q : ByteArray, Hid ((⟨T0.x.toArray⟩ : ByteArray) = q) := ⟨_, rfl⟩
    obtain ⟨KO, eKO⟩ : ∃ q : Int, Hid (koL T0.x = q) := ⟨_, rfl⟩
    rw [eXT.out, eKO.out] at KE
    rw [eKO.out] at KL hr2 hw3
    rw [ekk.out] at hw3
    have TB : Hid (∀ W, Below wr.heap.size wr W → W.cell? ⟨b, off + k * 7, none⟩ = some (.int .i64 kk) ∧ W.cell? ⟨b, off + k * 7 + 2, none⟩ = some (.string XT)) := fun W hW => by
      have h9 := TokC.below TKw.out (hBw.trans (hW.mono hBw.size)) hb
      exact ⟨by rw [← ekk.out]; exact h9.1, by rw [← eXT.out]; exact h9.2.2.1⟩
    have KWr : Hid (∀ (W : World) (j : Nat) (hj : j < kwords.length), Below wr.heap.size wr W → W.cell? ⟨w2.heap.size, j, none⟩ = some (.string ⟨(kwords[j]).toArray⟩)) := fun W j hj hW => by
      have h1 := hW.cell (p := ⟨w2.heap.size, j, none⟩) (by show w2.heap.size < wr.heap.size; omega)
      rw [h1, World.cell?_of_block (w := w3) (hkeep.out w2.heap.size z4 (by omega))]
      exact KW.out.2 j hj
    clear TKw
    go_wp2
    go_loopw [14, 15] (fun v14 v15 W => ∃ j : Nat, 1 ≤ j ∧ j ≤ 4 ∧ v15 = .int .i64 j ∧ v14 = .int .i64 (if KO < (j : Int) then KO else 0) ∧ Below wr.heap.size wr W) (fun _ v15 _ => 4 - (intOf v15).toNat)
    case atStart => exact ⟨1, Nat.le_refl _, by omega, rfl, by rw [show (if KO < ((1 : Nat) : Int) then KO else 0) = 0 by split <;> omega], Below.refl _ _⟩
    case round =>
      obtain ⟨j, hj1, hj4, rfl, rfl, hBj⟩ := hrel
      by_cases hj : j < 4
      · have hj' : (j : Int) < 4 := by omega
        obtain ⟨x0, x2⟩ := TB.out _ hBj
        have y0 := KWr.out _ j hj hBj
        have hKE := KE j hj1 hj
        generalize (⟨(kwords[j]).toArray⟩ : ByteArray) = YW at y0 hKE
        by_cases hk3 : kk = 3
        · have hk3' : (kk : Int) = 3 := by omega
          have hk3'' : ((kk : Int) == 3) = true := by simp; omega
          by_cases hm : KO = (j : Int)
          · have hEq : (XT.toList == YW.toList) = true := hKE.2 hm
            clear hKE KE hr2 hw3
            have HV : Hid ((j : Int) = if KO < ((j + 1 : Nat) : Int) then KO else 0) := by unfold Hid; rw [if_pos (by omega)]; exact hm.symm
            clear hm
            generalize (if KO < (j : Int) then KO else 0) = KV
            go_upto_region 18 with fail
            go_quiet (fail)
            have K8 := bdrewX nq hBj
            clear x0 x2 y0 TB KWr
            go_wp2
            exact ⟨⟨j + 1, by omega, by omega, by go_num, by rw [← HV.out], K8⟩, by simp [intOf]; omega⟩
          · have hEq : (XT.toList == YW.toList) = false := by
              cases h : (XT.toList == YW.toList) with
              | false => rfl
              | true => exact absurd (hKE.1 h) hm
            have HV : Hid ((if KO < (j : Int) then KO else 0) = if KO < ((j + 1 : Nat) : Int) then KO else 0) := by
              unfold Hid
              by_cases h : KO < (j : Int)
              · rw [if_pos h, if_pos (by omega)]
              · rw [if_neg h, if_neg (by omega)]
            clear hKE KE hr2 hw3 hm
            rw [HV.out]
            clear HV
            obtain ⟨KV, eKV⟩ : ∃ q : Int, Hid ((if KO < ((j + 1 : Nat) : Int) then KO else 0) = q) := ⟨_, rfl⟩
            rw [eKV.out]
            go_upto_region 18 with fail
            go_quiet (fail)
            have K8 := bdrewX nq hBj
            clear x0 x2 y0 TB KWr
            go_wp2
            exact ⟨⟨j + 1, by omega, by omega, by go_num, by rw [eKV.out], K8⟩, by simp [intOf]; omega⟩
        · have hk3' : ¬ (kk : Int) = 3 := by omega
          have hk3'' : ((kk : Int) == 3) = false := by simp; omega
          have hKO0 : KO = 0 := by
            by_cases h : KO = 0
            · exact h
            · exact absurd (hw3 h) hk3
          subst hKO0
          have e1 : (if (0 : Int) < (j : Int) then (0 : Int) else 0) = 0 := by split <;> rfl
          have e2 : (if (0 : Int) < ((j + 1 : Nat) : Int) then (0 : Int) else 0) = 0 := by split <;> rfl
          rw [e1]
          clear hKE KE hr2 hw3 e1
          go_upto_region 18 with fail
          go_quiet (fail)
          have K8 := bdrewX nq hBj
          clear x0 x2 y0 TB KWr
          go_wp2
          exact ⟨⟨j + 1, by omega, by omega, by go_num, by rw [e2], K8⟩, by simp [intOf]; omega⟩
      have hj' : ¬ (j : Int) < 4 := by omega
      have eKV : (if KO < (j : Int) then KO else 0) = KO := if_pos (by omega)
      rw [eKV]
      have hp5 : Hid (wr.heap[w1.heap.size]? = some (.cells #[.string X0, .slice pV nV cV] 40 (0, 0))) := (hBj.block _ (by omega)).trans hp.out
      have hBw5 : Below w1.heap.size w1 wr := hBw.trans (hBj.mono hBw.size)
      have HO5 : Hid (wr.ownsRow w3.heap.size 3 1 (.slice pV nV cV) acc.length (kcells acc)) := own_belX hO.out hBj
      have hsz5 : w3.heap.size ≤ wr.heap.size := Nat.le_trans hsz hBj.size
      have hkeep5 : Hid (∀ q, q < w3.heap.size → q ≠ w1.heap.size → wr.heap[q]? = w3.heap[q]?) := fun q hq hne => (hBj.block q (by omega)).trans (hkeep.out q hq hne)
      clear TB KWr KE hw3 hp hBw hO hsz hkeep q0 q1 f0 f1 hBN p0 p1 hBj eKV
      obtain ⟨q0, q1, f0, f1, hBN⟩ := RES.out wr hBw5
      have p1 : wr.cell? ⟨w1.heap.size, 1, none⟩ = some (.slice pV nV cV) := by rw [Lib.cell_of_heap hp5.out]; rfl
      by_cases hKO : KO = 0
      · have hE : Hid (lineD L x = (70, [])) := by
          have h := hD2.out
          rw [hrd2.out, hr2.out, if_pos hKO] at h
          exact h
        subst hKO
        clear hr2
        have g0 : ((wr.setCell ⟨w.heap.size, 0, none⟩ (.string ⟨#[]⟩)).setCell ⟨w.heap.size, 1, none⟩ (.slice none 0 0)).cell? ⟨w.heap.size, 0, none⟩ = some (.string ⟨#[]⟩) := by simp (maxDischargeDepth := 8) [go_sem, q0]
        have g1 : ((wr.setCell ⟨w.heap.size, 0, none⟩ (.string ⟨#[]⟩)).setCell ⟨w.heap.size, 1, none⟩ (.slice none 0 0)).cell? ⟨w.heap.size, 1, none⟩ = some (.slice none 0 0) := by simp (maxDischargeDepth := 8) [go_sem, q1]
        have K9 : Below w.heap.size w ((wr.setCell ⟨w.heap.size, 0, none⟩ (.string ⟨#[]⟩)).setCell ⟨w.heap.size, 1, none⟩ (.slice none 0 0)) := (hBN.setCell (p := ⟨w.heap.size, 0, none⟩) (Nat.le_refl _) _).setCell (p := ⟨w.heap.size, 1, none⟩) (Nat.le_refl _) _
        go_wp2
        generalize (wr.setCell ⟨w.heap.size, 0, none⟩ (.string ⟨#[]⟩)).setCell ⟨w.heap.size, 1, none⟩ (.slice none 0 0) = W9 at g0 g1 K9 ⊢
        refine bodyPost_ret (by simp [results, Tryz.results37, go_sem, g0, g1]; try rfl) rfl ?_
        exact DcOut.err K9 hE.out (by decide) rfl
      have hr3 : Hid (rdK [] l = rdK (acc ++ [KO]) ((t :: l).drop (k + 1))) := by have h := hr2.out; rwa [if_neg hKO] at h
      have hKO' : (KO == 0) = false := by simp; omega
      clear hr2
      go_wp2_with (at_builtin; refine wpList_append_own _ rfl _ _ 38 rfl w3.heap.size 3 i0 (.int .i64 0) 1 8 Tryz.underlying38 hi hz0 hz1 hz2 rfl (by decide) _ _ _ rfl (World.ownsRow.alloc HO5.out _) ⟨wr.heap.size, 0, none⟩ 1 1 [.int .i64 KO] rfl rfl ?cc1 ?cc2 ?cc3 ?cc4 ?cc5 ?_)
      case cc2 => first | rfl | (intro u hu; simp at hu; subst hu; rfl)
      case cc3 => unfold maxLen; omega
      case cc4 => omega
      case cc5 => first | omega | (simp; omega)
      intro v' w6 h2 h3 _
      obtain ⟨pv2, mv2, cv2, rfl, y1, y2, y3, y4, y5, y6, y7⟩ := dk_step (w := w1) (n := w1.heap.size) (W := wr) (ev := w1.heap.size) (nm := X0) (acc := acc) (K := KO) hp5.out (by omega) hsz5 hBw5 (Nat.le_refl _) HO5.out h2 h3
      have Y3 : Hid _ := y3
      have Y4 : Hid _ := y4
      have Y7 : Hid (∀ q, q < w3.heap.size → q ≠ w1.heap.size → (w6.setCell ⟨w1.heap.size, 1, none⟩ (.slice pv2 mv2 cv2)).heap[q]? = w3.heap[q]?) := fun q hq hne => (y7 q hq hne).trans (hkeep5.out q hq hne)
      clear h2 h3 y3 y4 y7 q0 q1 f0 f1 p1
      go_wp2
      exact ⟨⟨k + 1, acc ++ [KO], .slice pv2 mv2 cv2, by omega, by omega, by simp; omega, by go_num, hr3, Y3, Y4, y5, y6, Y7⟩, by simp [intOf]; omega⟩

end Go.Proofs.YticmebamclacaaaGreatDoor

namespace Go.Proofs.YticmebamclacaaaGreatDoor
open Go.RowKit LX Go.Shelf Go.Extern.Stop Go.Stop Go.Extern
set_option linter.unusedVariables false

set_option maxRecDepth 100000 in
set_option maxHeartbeats 2000000 in
theorem wrong_any (E l : Int) (w : World) (hg : ErrT w) (hl : E = 0 → l = 0) :
    Calls Tryz.prog 35 #[sgV E l] w fun r w' => r = .returned (.agg #[.int .i64 E, .int .i64 l]) ∧ Below w.heap.size w w' := by
  by_cases hE : E = 0
  · have hl0 := hl hE
    subst hE hl0
    have hv : sgV 0 0 = .nilIface := rfl
    rw [hv]
    have cn : Hid (∀ W : World, ErrT W → Calls Tryz.prog 24 #[.nilIface] W fun r w' => r = .returned (.int .i64 0) ∧ Below W.heap.size W w') := fun W hW => tnumber_any 0 W hW
    clear hv hl
    go_enter Tryz.func35, Tryz.ntmps35
    go_wp2_with (first | (go_at_call 47; refine (as_nil _ _).mono ?_; rintro e w' ⟨rfl, rfl⟩) | fail)
    refine (cn.out _ (hg.below (by go_grown))).mono ?_
    rintro e w1 ⟨rfl, hb1⟩
    have q0 : w1.cell? ⟨w.heap.size, 0, none⟩ = some (.int .i64 0) := (hb1.cell (p := ⟨w.heap.size, 0, none⟩) (by first | (simp; done) | (simp; omega))).trans (by simp [go_sem])
    have q1 : w1.cell? ⟨w.heap.size, 1, none⟩ = some (.int .i64 0) := (hb1.cell (p := ⟨w.heap.size, 1, none⟩) (by first | (simp; done) | (simp; omega))).trans (by simp [go_sem])
    have f0 : w1.frozen? ⟨w.heap.size, 0, none⟩ = false := (hb1.frozen (p := ⟨w.heap.size, 0, none⟩) (by first | (simp; done) | (simp; omega))).trans (by simp [go_sem])
    have f1 : w1.frozen? ⟨w.heap.size, 1, none⟩ = false := (hb1.frozen (p := ⟨w.heap.size, 1, none⟩) (by first | (simp; done) | (simp; omega))).trans (by simp [go_sem])
    obtain ⟨hB1, -⟩ := bgX (n := w.heap.size) (W0 := w) (by go_grown) (by go_size) hb1
    clear hb1 cn
    have g0 : ((w1.setCell ⟨w.heap.size, 0, none⟩ (.int .i64 0)).setCell ⟨w.heap.size, 1, none⟩ (.int .i64 0)).cell? ⟨w.heap.size, 0, none⟩ = some (.int .i64 0) := by simp (maxDischargeDepth := 8) [go_sem, q0]
    have g1 : ((w1.setCell ⟨w.heap.size, 0, none⟩ (.int .i64 0)).setCell ⟨w.heap.size, 1, none⟩ (.int .i64 0)).cell? ⟨w.heap.size, 1, none⟩ = some (.int .i64 0) := by simp (maxDischargeDepth := 8) [go_sem, q1]
    have K9 : Below w.heap.size w ((w1.setCell ⟨w.heap.size, 0, none⟩ (.int .i64 0)).setCell ⟨w.heap.size, 1, none⟩ (.int .i64 0)) := (hB1.setCell (p := ⟨w.heap.size, 0, none⟩) (Nat.le_refl _) _).setCell (p := ⟨w.heap.size, 1, none⟩) (Nat.le_refl _) _
    go_wp2
    generalize (w1.setCell ⟨w.heap.size, 0, none⟩ (.int .i64 0)).setCell ⟨w.heap.size, 1, none⟩ (.int .i64 0) = W9 at g0 g1 K9 ⊢
    refine bodyPost_ret (by simp [results, Tryz.results35, go_sem, g0, g1]; try rfl) rfl ?_
    exact ⟨rfl, K9⟩
  · by_cases hl0 : l = 0
    · subst hl0
      have hv : sgV E 0 = errV E := by unfold sgV errV; rw [if_neg hE, if_neg hE, if_pos rfl]
      have cn : Hid (∀ W : World, ErrT W → Calls Tryz.prog 24 #[errV E] W fun r w' => r = .returned (.int .i64 E) ∧ Below W.heap.size W w') := fun W hW => tnumber_any E W hW
      rw [hv]
      rw [errV_ne hE] at cn ⊢
      clear hv hl hE
      go_enter Tryz.func35, Tryz.ntmps35
      go_wp2_with (first | (go_at_call 47; refine (as_missF E _ _ (hg.below (by go_grown))).mono ?_; rintro e w' ⟨rfl, rfl⟩) | fail)
      refine (cn.out _ (hg.below (by go_grown))).mono ?_
      rintro e w1 ⟨rfl, hb1⟩
      have q0 : w1.cell? ⟨w.heap.size, 0, none⟩ = some (.int .i64 0) := (hb1.cell (p := ⟨w.heap.size, 0, none⟩) (by first | (simp; done) | (simp; omega))).trans (by simp [go_sem])
      have q1 : w1.cell? ⟨w.heap.size, 1, none⟩ = some (.int .i64 0) := (hb1.cell (p := ⟨w.heap.size, 1, none⟩) (by first | (simp; done) | (simp; omega))).trans (by simp [go_sem])
      have f0 : w1.frozen? ⟨w.heap.size, 0, none⟩ = false := (hb1.frozen (p := ⟨w.heap.size, 0, none⟩) (by first | (simp; done) | (simp; omega))).trans (by simp [go_sem])
      have f1 : w1.frozen? ⟨w.heap.size, 1, none⟩ = false := (hb1.frozen (p := ⟨w.heap.size, 1, none⟩) (by first | (simp; done) | (simp; omega))).trans (by simp [go_sem])
      obtain ⟨hB1, -⟩ := bgX (n := w.heap.size) (W0 := w) (by go_grown) (by go_size) hb1
      clear hb1 cn
      have g0 : ((w1.setCell ⟨w.heap.size, 0, none⟩ (.int .i64 E)).setCell ⟨w.heap.size, 1, none⟩ (.int .i64 0)).cell? ⟨w.heap.size, 0, none⟩ = some (.int .i64 E) := by simp (maxDischargeDepth := 8) [go_sem, q0]
      have g1 : ((w1.setCell ⟨w.heap.size, 0, none⟩ (.int .i64 E)).setCell ⟨w.heap.size, 1, none⟩ (.int .i64 0)).cell? ⟨w.heap.size, 1, none⟩ = some (.int .i64 0) := by simp (maxDischargeDepth := 8) [go_sem, q1]
      have K9 : Below w.heap.size w ((w1.setCell ⟨w.heap.size, 0, none⟩ (.int .i64 E)).setCell ⟨w.heap.size, 1, none⟩ (.int .i64 0)) := (hB1.setCell (p := ⟨w.heap.size, 0, none⟩) (Nat.le_refl _) _).setCell (p := ⟨w.heap.size, 1, none⟩) (Nat.le_refl _) _
      go_wp2
      generalize (w1.setCell ⟨w.heap.size, 0, none⟩ (.int .i64 E)).setCell ⟨w.heap.size, 1, none⟩ (.int .i64 0) = W9 at g0 g1 K9 ⊢
      refine bodyPost_ret (by simp [results, Tryz.results35, go_sem, g0, g1]; try rfl) rfl ?_
      exact ⟨rfl, K9⟩
    · have hv : sgV E l = lineV l E := by unfold sgV; rw [if_neg hE, if_neg hl0]
      have cn : Hid (∀ W : World, ErrT W → Calls Tryz.prog 24 #[lineV l E] W fun r w' => r = .returned (.int .i64 E) ∧ Below W.heap.size W w') := fun W hW => tnumber_line l E W hW
      rw [hv]
      clear hv hl hE hl0
      go_enter Tryz.func35, Tryz.ntmps35
      go_upto_region 4 with (first | (go_at_call 47; refine (as_hitL l 0 (.iface 92 (.agg #[.int .i64 E])) .nilIface (w.heap.size + 1) _ (hg.below (by go_grown)) (by simp) (by simp) (by simp) (by simp) ⟨_, _, rfl⟩).mono ?_; rintro e w' ⟨rfl, rfl⟩))
      refine wpX_world ?_
      intro W0 hW0
      have d0 : W0.cell? ⟨w.heap.size + 1, 0, none⟩ = some (.int .i64 l) := by rw [hW0]; simp (maxDischargeDepth := 12) [go_sem]
      have q0 : W0.cell? ⟨w.heap.size, 0, none⟩ = some (.int .i64 0) := by rw [hW0]; simp (maxDischargeDepth := 12) [go_sem]
      have q1 : W0.cell? ⟨w.heap.size, 1, none⟩ = some (.int .i64 0) := by rw [hW0]; simp (maxDischargeDepth := 12) [go_sem]
      have f0 : W0.frozen? ⟨w.heap.size, 0, none⟩ = false := by rw [hW0]; simp (maxDischargeDepth := 12) [go_sem]
      have f1 : W0.frozen? ⟨w.heap.size, 1, none⟩ = false := by rw [hW0]; simp (maxDischargeDepth := 12) [go_sem]
      have k0 : Below w.heap.size w W0 := by rw [hW0]; go_grown
      have k1 : w.heap.size + 1 < W0.heap.size := by rw [hW0]; first | (simp; done) | (simp; omega)
      clear hW0
      have HG : Hid (ErrT W0) := hg.below k0
      have Q0 : Hid (∀ W, Below W0.heap.size W0 W → W.cell? ⟨w.heap.size, 0, none⟩ = some (.int .i64 0) ∧ W.cell? ⟨w.heap.size, 1, none⟩ = some (.int .i64 0) ∧ W.frozen? ⟨w.heap.size, 0, none⟩ = false ∧ W.frozen? ⟨w.heap.size, 1, none⟩ = false ∧ W.cell? ⟨w.heap.size + 1, 0, none⟩ = some (.int .i64 l) ∧ Below w.heap.size w W) := fun W hW =>
        ⟨(hW.cell (p := ⟨w.heap.size, 0, none⟩) (by first | (simp; done) | (simp; omega))).trans q0, (hW.cell (p := ⟨w.heap.size, 1, none⟩) (by first | (simp; done) | (simp; omega))).trans q1, (hW.frozen (p := ⟨w.heap.size, 0, none⟩) (by first | (simp; done) | (simp; omega))).trans f0, (hW.frozen (p := ⟨w.heap.size, 1, none⟩) (by first | (simp; done) | (simp; omega))).trans f1, (hW.cell (p := ⟨w.heap.size + 1, 0, none⟩) k1).trans d0, k0.trans (hW.mono k0.size)⟩
      go_region_with (go_at_call 24; refine (cn.out _ (HG.out.below (by go_grown))).mono ?_; rintro e w1 ⟨rfl, hb1⟩; obtain ⟨hB1, -⟩ := bgX (n := W0.heap.size) (W0 := W0) (by go_grown) (by go_size) hb1; clear hb1; obtain ⟨x0, x1, x2, x3, x4, x5⟩ := Q0.out w1 hB1)
      all_goals
        have g0 : ((w1.setCell ⟨w.heap.size, 0, none⟩ (.int .i64 E)).setCell ⟨w.heap.size, 1, none⟩ (.int .i64 l)).cell? ⟨w.heap.size, 0, none⟩ = some (.int .i64 E) := by simp (maxDischargeDepth := 8) [go_sem, x0]
        have g1 : ((w1.setCell ⟨w.heap.size, 0, none⟩ (.int .i64 E)).setCell ⟨w.heap.size, 1, none⟩ (.int .i64 l)).cell? ⟨w.heap.size, 1, none⟩ = some (.int .i64 l) := by simp (maxDischargeDepth := 8) [go_sem, x1]
        have K9 : Below w.heap.size w ((w1.setCell ⟨w.heap.size, 0, none⟩ (.int .i64 E)).setCell ⟨w.heap.size, 1, none⟩ (.int .i64 l)) := (x5.setCell (p := ⟨w.heap.size, 0, none⟩) (Nat.le_refl _) _).setCell (p := ⟨w.heap.size, 1, none⟩) (Nat.le_refl _) _
        go_wp2
        generalize (w1.setCell ⟨w.heap.size, 0, none⟩ (.int .i64 E)).setCell ⟨w.heap.size, 1, none⟩ (.int .i64 l) = W9 at g0 g1 K9 ⊢
        refine bodyPost_ret (by simp [results, Tryz.results35, go_sem, g0, g1]; try rfl) rfl ?_
        exact ⟨rfl, K9⟩

theorem own_setG {w : World} {N : Nat} {v : Value} {es : List Dec} (h : OwnG N v es w) {a : Addr} (ha : a.block < N) (u : Value) : OwnG N v es (w.setCell a u) := by
  obtain ⟨zs, h1, h2⟩ := h
  exact ⟨zs, ownsRow_setCell_below h1 ha u, h2.mono fun b xs k => ownsRow_setCell_below k ha u⟩
/-- What ParseSignature answers. -/
def PsOut (N : Nat) (w : World) (D : Int × Int × List Dec) (r : Ending) (w' : World) : Prop := Below N w w' ∧ ∃ p c, r = .returned (.tuple #[.slice p D.2.2.length c, .agg #[.int .i64 D.1, .int .i64 D.2.1]]) ∧ OwnG N (.slice p D.2.2.length c) D.2.2 w'
theorem PsOut.mk {N : Nat} {w w' : World} {D1 D2 : Int} {D3 : List Dec} {r : Ending} {p : Option Addr} {m c : Nat} (hb : Below N w w') (hm : m = D3.length) (ho : OwnG N (.slice p m c) D3 w') (hr : r = .returned (.tuple #[.slice p m c, .agg #[.int .i64 D1, .int .i64 D2]])) : PsOut N w (D1, D2, D3) r w' := by
  subst hm
  exact ⟨hb, p, c, hr, ho⟩
theorem rdS_zero (A : List Dec) (i : Nat) (L : List ByteArray) (h : (rdS A i L).1 = 0) : (rdS A i L).2.1 = 0 := by
  induction L generalizing A i with
  | nil => rfl
  | cons x ls ih =>
    unfold rdS at h ⊢
    by_cases h1 : cutE x = 0
    · rw [if_pos h1] at h ⊢
      by_cases h2 : (rdT A (tks x)).1 = 0
      · rw [if_pos h2] at h ⊢; exact ih _ _ h
      · rw [if_neg h2] at h; exact absurd h h2
    · rw [if_neg h1] at h; exact absurd h h1
theorem rsg_zero (s : ByteArray) (h : (rsg s).1 = 0) : (rsg s).2.1 = 0 := by
  unfold rsg at h ⊢
  by_cases h1 : 16384 < s.size
  · rw [if_pos h1] at h; cases h
  · rw [if_neg h1] at h ⊢; exact rdS_zero _ _ _ h

set_option maxRecDepth 100000 in
set_option maxHeartbeats 2000000 in
theorem parsesig_any (s : ByteArray) (w : World) (ht : Pow w) (he : Errs w) (h8 : 9 ≤ w.heap.size) (hg : ErrT w) :
    Calls Tryz.prog 15 #[.string s] w fun r w' => PsOut w.heap.size w (rsg s) r w' := by
  have ct : Hid (∀ W : World, Below w.heap.size w W → Calls Tryz.prog 34 #[.string s] W fun r w' => SgOut W.heap.size W (rsg s) r w') := fun W hW => rdsig_any s W (ht.below hW) (he.below hW h8) (Nat.le_trans h8 hW.size)
  have hz := rsg_zero s
  generalize rsg s = D at *
  obtain ⟨D1, D2, D3⟩ := D
  dsimp only at hz
  have cn : Hid (∀ W : World, ErrT W → Calls Tryz.prog 35 #[sgV D1 D2] W fun r w' => r = .returned (.agg #[.int .i64 D1, .int .i64 D2]) ∧ Below W.heap.size W w') := fun W hW => wrong_any D1 D2 W hW hz
  clear ht he h8
  go_enter Tryz.func15, Tryz.ntmps15
  go_wp2_with fail
  refine (ct.out _ (by go_grown)).mono ?_
  rintro r w1 ⟨hb1, p, c, rfl, ho⟩
  dsimp only
  have q0 : w1.cell? ⟨w.heap.size, 0, none⟩ = some (.int .i64 0) := (hb1.cell (p := ⟨w.heap.size, 0, none⟩) (by first | (simp; done) | (simp; omega))).trans (by simp [go_sem])
  have q1 : w1.cell? ⟨w.heap.size, 1, none⟩ = some (.int .i64 0) := (hb1.cell (p := ⟨w.heap.size, 1, none⟩) (by first | (simp; done) | (simp; omega))).trans (by simp [go_sem])
  have f0 : w1.frozen? ⟨w.heap.size, 0, none⟩ = false := (hb1.frozen (p := ⟨w.heap.size, 0, none⟩) (by first | (simp; done) | (simp; omega))).trans (by simp [go_sem])
  have f1 : w1.frozen? ⟨w.heap.size, 1, none⟩ = false := (hb1.frozen (p := ⟨w.heap.size, 1, none⟩) (by first | (simp; done) | (simp; omega))).trans (by simp [go_sem])
  have hs1 : w.heap.size < w1.heap.size := by have := hb1.size; simp at this; omega
  obtain ⟨hB1, -⟩ := bgX (n := w.heap.size) (W0 := w) (by go_grown) (by go_size) hb1
  have HO : Hid (OwnG (w.heap.size + 1) (.slice p D3.length c) D3 w1) := ho.base (by simp)
  clear hb1 ct ho
  obtain ⟨m, em⟩ : ∃ m : Nat, Hid (D3.length = m) := ⟨_, rfl⟩
  rw [em.out] at HO ⊢
  have cn2 : Hid (Calls Tryz.prog 35 #[sgV D1 D2] w1 fun r w' => r = .returned (.agg #[.int .i64 D1, .int .i64 D2]) ∧ Below w1.heap.size w1 w') := cn.out w1 (hg.below hB1)
  clear cn
  generalize sgV D1 D2 = EV at *
  go_wp2_with fail
  refine cn2.out.mono ?_
  rintro r w2 ⟨rfl, hb2⟩
  have p0 : w2.cell? ⟨w.heap.size, 0, none⟩ = some (.int .i64 0) := (hb2.cell (p := ⟨w.heap.size, 0, none⟩) hs1).trans q0
  have p1 : w2.cell? ⟨w.heap.size, 1, none⟩ = some (.int .i64 0) := (hb2.cell (p := ⟨w.heap.size, 1, none⟩) hs1).trans q1
  have h0 : w2.frozen? ⟨w.heap.size, 0, none⟩ = false := (hb2.frozen (p := ⟨w.heap.size, 0, none⟩) hs1).trans f0
  have h1 : w2.frozen? ⟨w.heap.size, 1, none⟩ = false := (hb2.frozen (p := ⟨w.heap.size, 1, none⟩) hs1).trans f1
  have K2 : Below w.heap.size w w2 := hB1.trans (hb2.mono hB1.size)
  have HO2 : Hid (OwnG (w.heap.size + 1) (.slice p m c) D3 w2) := HO.out.below hb2
  clear cn2 q0 q1 f0 f1 HO hb2
  have g0 : ((w2.setCell ⟨w.heap.size, 0, none⟩ (.int .i64 D1)).setCell ⟨w.heap.size, 1, none⟩ (.int .i64 D2)).cell? ⟨w.heap.size, 0, none⟩ = some (.int .i64 D1) := by simp (maxDischargeDepth := 8) [go_sem, p0]
  have g1 : ((w2.setCell ⟨w.heap.size, 0, none⟩ (.int .i64 D1)).setCell ⟨w.heap.size, 1, none⟩ (.int .i64 D2)).cell? ⟨w.heap.size, 1, none⟩ = some (.int .i64 D2) := by simp (maxDischargeDepth := 8) [go_sem, p1]
  have K9 : Below w.heap.size w ((w2.setCell ⟨w.heap.size, 0, none⟩ (.int .i64 D1)).setCell ⟨w.heap.size, 1, none⟩ (.int .i64 D2)) := (K2.setCell (p := ⟨w.heap.size, 0, none⟩) (Nat.le_refl _) _).setCell (p := ⟨w.heap.size, 1, none⟩) (Nat.le_refl _) _
  have O9 : Hid (OwnG w.heap.size (.slice p m c) D3 ((w2.setCell ⟨w.heap.size, 0, none⟩ (.int .i64 D1)).setCell ⟨w.heap.size, 1, none⟩ (.int .i64 D2))) := (own_setG (own_setG HO2.out (a := ⟨w.heap.size, 0, none⟩) (by simp) _) (a := ⟨w.heap.size, 1, none⟩) (by simp) _).base (by omega)
  go_wp2
  generalize (w2.setCell ⟨w.heap.size, 0, none⟩ (.int .i64 D1)).setCell ⟨w.heap.size, 1, none⟩ (.int .i64 D2) = W9 at g0 g1 K9 O9 ⊢
  refine bodyPost_ret (by simp [results, Tryz.results15, go_sem, g0, g1]; try rfl) rfl ?_
  exact PsOut.mk K9 em.out.symm O9.out rfl

end Go.Proofs.YticmebamclacaaaGreatDoor

namespace Go.Proofs.YticmebamclacaaaGreatDoor
open Go.RowKit LX Go.Shelf
set_option linter.unusedVariables false

theorem PsOut.mk2 {N : Nat} {w w' : World} {D : Int × Int × List Dec} {E l : Int} {es : List Dec} {r : Ending} {p : Option Addr} {m c : Nat} (hb : Below N w w') (h : D = (E, l, es)) (hm : m = es.length) (ho : OwnG N (.slice p m c) es w') (hr : r = .returned (.tuple #[.slice p m c, .agg #[.int .i64 E, .int .i64 l]])) : PsOut N w D r w' := by
  subst h hm
  exact ⟨hb, p, c, hr, ho⟩
theorem ownG_nil (N : Nat) (w : World) : OwnG N (.slice none 0 0) [] w := ⟨[], ⟨rfl, .inl ⟨rfl, rfl⟩⟩, trivial⟩

set_option maxRecDepth 100000 in
set_option maxHeartbeats 8000000 in
theorem rparsesig_any (s : ByteArray) (w : World) :
    Calls Tryz.prog 16 #[.string s] w fun r w' => PsOut w.heap.size w (rsg s) r w' := by
  obtain ⟨i0, hi, hz0, hz1, hz2⟩ := info_parts inD
  by_cases h : 16384 < s.size
  · have hE : Hid (rsg s = (2, 0, [])) := if_pos h
    have h' : (16384 : Int) < s.size := by omega
    generalize rsg s = D at *
    go_enter Tryz.func16, Tryz.ntmps16
    go_wp2
    refine bodyPost_ret (by simp [results, Tryz.results16, go_sem]; try rfl) rfl ?_
    exact PsOut.mk2 (by go_grown) hE.out rfl (ownG_nil _ _) rfl
  have h' : ¬ (16384 : Int) < s.size := by omega
  have hE : Hid (rsg s = rdS [] 0 (linesB s)) := if_neg h
  have ct : Hid (∀ W : World, Calls Tryz.prog 36 #[.string s] W fun r w' => LnOut W.heap.size W s r w') := fun W => rlines_any s W (by omega)
  generalize rsg s = D at *
  go_enter Tryz.func16, Tryz.ntmps16
  go_wp2_with fail
  refine (ct.out _).mono ?_
  rintro r w1 ⟨hb1, v, L, rfl, hO1, hor, hlen⟩
  have q0 : w1.cell? ⟨w.heap.size, 0, none⟩ = some (.int .i64 0) := (hb1.cell (p := ⟨w.heap.size, 0, none⟩) (by simp)).trans (by simp [go_sem])
  have q1 : w1.cell? ⟨w.heap.size, 1, none⟩ = some (.int .i64 0) := (hb1.cell (p := ⟨w.heap.size, 1, none⟩) (by simp)).trans (by simp [go_sem])
  have f0 : w1.frozen? ⟨w.heap.size, 0, none⟩ = false := (hb1.frozen (p := ⟨w.heap.size, 0, none⟩) (by simp)).trans (by simp [go_sem])
  have f1 : w1.frozen? ⟨w.heap.size, 1, none⟩ = false := (hb1.frozen (p := ⟨w.heap.size, 1, none⟩) (by simp)).trans (by simp [go_sem])
  have hs1 : w.heap.size < w1.heap.size := by have := hb1.size; simp at this; omega
  obtain ⟨hB1, -⟩ := bgX (n := w.heap.size) (W0 := w) (by go_grown) (by go_size) hb1
  have hD : Hid (D = rdS [] 0 L) := by
    have h := hE.out
    rcases hor with h9 | h9
    · rwa [h9] at h
    · rwa [h9, rdS_empty] at h
  clear hb1 ct hor hE
  obtain ⟨p, c, rfl, HX0⟩ := hO1.form
  have HX : Hid (∀ i (hi : i < L.length), ∃ b, p = some ⟨b, 0, none⟩ ∧ b < w1.heap.size ∧ w1.cell? ⟨b, i, none⟩ = some (.string L[i])) := HX0
  clear hO1 HX0
  obtain ⟨n, en⟩ : ∃ n : Nat, Hid (L.length = n) := ⟨_, rfl⟩
  rw [en.out] at hlen ⊢
  have RES : Hid (∀ W : World, Below w1.heap.size w1 W → W.cell? ⟨w.heap.size, 0, none⟩ = some (.int .i64 0) ∧ W.cell? ⟨w.heap.size, 1, none⟩ = some (.int .i64 0) ∧ W.frozen? ⟨w.heap.size, 0, none⟩ = false ∧ W.frozen? ⟨w.heap.size, 1, none⟩ = false ∧ Below w.heap.size w W) := fun W hW =>
    ⟨(hW.cell (p := ⟨w.heap.size, 0, none⟩) hs1).trans q0, (hW.cell (p := ⟨w.heap.size, 1, none⟩) hs1).trans q1, (hW.frozen (p := ⟨w.heap.size, 0, none⟩) hs1).trans f0, (hW.frozen (p := ⟨w.heap.size, 1, none⟩) hs1).trans f1, hB1.trans (hW.mono hB1.size)⟩
  clear q0 q1 f0 f1
  go_wp2
  go_loopw [4, 6] (fun v4 v6 wr => ∃ (i : Nat) (A : List Dec), v6 = .int .i64 i ∧ i ≤ n ∧ A.length ≤ 32 ∧ Hid (OwnG w1.heap.size v4 A wr) ∧ Hid (D = rdS A i (L.drop i)) ∧ Below w1.heap.size w1 wr) (fun _ v6 _ => n - (intOf v6).toNat)
  case atStart => exact ⟨0, [], rfl, Nat.zero_le _, by simp, ownG_nil _ _, by rw [List.drop_zero]; exact hD, Below.refl _ _⟩
  case round =>
    obtain ⟨i, A, rfl, hin, lA, hO, hR, hBw⟩ := hrel
    obtain ⟨pa, ca, rfl⟩ := hO.out.form
    obtain ⟨m, em⟩ : ∃ m : Nat, Hid (A.length = m) := ⟨_, rfl⟩
    have HO : Hid (OwnG w1.heap.size (.slice pa m ca) A wr) := by have h := hO.out; rwa [em.out] at h
    rw [em.out] at lA ⊢
    clear hO
    by_cases hlt : i < n
    · have hlt' : (i : Int) < n := by omega
      have ix : i < L.length := by have := en.out; omega
      obtain ⟨b, rfl, hb, r0⟩ := HX.out i ix
      have a0 := (hBw.cell (p := ⟨b, i, none⟩) hb).trans r0
      have hR2 : Hid (D = if (lineD A L[i]).1 = 0 then rdS (lineD A L[i]).2 (i + 1) (L.drop (i + 1)) else ((lineD A L[i]).1, (i : Int) + 1, [])) := by
        have h := hR.out
        rw [List.drop_eq_getElem_cons ix, rdS_cons] at h
        exact h
      clear r0 hR
      generalize L[i] = x at a0 hR2
      have cD : Hid (Calls Tryz.prog 37 #[.slice pa m ca, .string x] wr fun r w' => DcOut wr.heap.size wr A x r w') := rdecl_any _ A x wr HO.out.at (by have := em.out; omega)
      go_wp2_with fail
      refine cD.out.mono ?_
      rintro r w2 ⟨hB2, ⟨E, hE0, hE, rfl⟩ | ⟨hE, rfl⟩ | ⟨nm, ks, nt, mk, pk, ck, hn1, hn2, h32, hE, hmk, rfl, hok⟩⟩
      · have hR3 : Hid (D = (E, (i : Int) + 1, [])) := by have h := hR2.out; rwa [hE, if_neg hE0] at h
        have hE0' : (E != 0) = true := by simp [hE0]
        have hE0'' : ¬ E = 0 := hE0
        have hBw2 : Below w1.heap.size w1 w2 := hBw.trans (hB2.mono hBw.size)
        obtain ⟨W4, eW4⟩ : ∃ W4, Hid (w2.alloc (.cells #[.string ⟨#[]⟩, .slice none 0 0] 40) = W4) := ⟨_, rfl⟩
        have hBw4 : Below w1.heap.size w1 W4 := by rw [← eW4.out]; exact hBw2.alloc hBw2.size _
        obtain ⟨q0, q1, f0, f1, hBN⟩ := RES.out W4 hBw4
        clear cD hE hR2 HO hB2 hE0 a0
        have g0 : ((W4.setCell ⟨w.heap.size, 0, none⟩ (.int .i64 E)).setCell ⟨w.heap.size, 1, none⟩ (.int .i64 ((i : Int) + 1))).cell? ⟨w.heap.size, 0, none⟩ = some (.int .i64 E) := by simp (maxDischargeDepth := 8) [go_sem, q0]
        have g1 : ((W4.setCell ⟨w.heap.size, 0, none⟩ (.int .i64 E)).setCell ⟨w.heap.size, 1, none⟩ (.int .i64 ((i : Int) + 1))).cell? ⟨w.heap.size, 1, none⟩ = some (.int .i64 ((i : Int) + 1)) := by simp (maxDischargeDepth := 8) [go_sem, q1]
        have K9 : Below w.heap.size w ((W4.setCell ⟨w.heap.size, 0, none⟩ (.int .i64 E)).setCell ⟨w.heap.size, 1, none⟩ (.int .i64 ((i : Int) + 1))) := (hBN.setCell (p := ⟨w.heap.size, 0, none⟩) (Nat.le_refl _) _).setCell (p := ⟨w.heap.size, 1, none⟩) (Nat.le_refl _) _
        go_upto_region 9 with fail
        rw [eW4.out]
        go_wp2
        generalize (W4.setCell ⟨w.heap.size, 0, none⟩ (.int .i64 E)).setCell ⟨w.heap.size, 1, none⟩ (.int .i64 ((i : Int) + 1)) = W9 at g0 g1 K9 ⊢
        refine bodyPost_ret (by simp [results, Tryz.results16, go_sem, g0, g1]; try rfl) rfl ?_
        exact PsOut.mk2 K9 hR3.out rfl (ownG_nil _ _) rfl
      · have hR3 : Hid (D = rdS A (i + 1) (L.drop (i + 1))) := by have h := hR2.out; rw [hE] at h; exact h
        have hBw2 : Below w1.heap.size w1 w2 := hBw.trans (hB2.mono hBw.size)
        have hBw4 : Below w1.heap.size w1 (w2.alloc (.cells #[.string ⟨#[]⟩, .slice none 0 0] 40)) := hBw2.alloc hBw2.size _
        have HO4 : Hid (OwnG w1.heap.size (.slice pa m ca) A (w2.alloc (.cells #[.string ⟨#[]⟩, .slice none 0 0] 40))) := (HO.out.below hB2).below ((Below.refl _ _).alloc (Nat.le_refl _) _)
        clear cD hE hR2 HO hB2 a0
        go_wp2
        exact ⟨⟨i + 1, A, by go_num, by omega, by have := em.out; omega, HO4, hR3, hBw4⟩, by simp [intOf]; omega⟩
      · clear hmk
        have hR3 : Hid (D = rdS (A ++ [⟨nm, ks⟩]) (i + 1) (L.drop (i + 1))) := by have h := hR2.out; rw [hE] at h; exact h
        have hnt' : (0 : Int) < nt := by omega
        have hBw2 : Below w1.heap.size w1 w2 := hBw.trans (hB2.mono hBw.size)
        have hsz2 := hBw2.size
        have HV2 : Hid (OwnK w1.heap.size (.slice pk mk ck) ks w2) := own_baseX hok hBw.size
        obtain ⟨zs, ho, hcc⟩ := HO.out.below hB2
        have HC : Hid (DcC w1.heap.size w2 A zs) := hcc
        have HC2 : Hid (w2.ownsRow w1.heap.size 40 2 (.slice pa m ca) m zs) := by have h := ho; rwa [em.out] at h
        clear cD hE hR2 HO hB2 a0 hok ho hcc
        go_wp2_with (at_builtin; refine wpList_append_own _ rfl _ _ 28 rfl w1.heap.size 40 i0 (.agg #[.string ⟨#[]⟩, .slice none 0 0]) 2 40 Tryz.underlying28 hi hz0 hz1 hz2 rfl (by decide) _ _ _ rfl (World.ownsRow.alloc (World.ownsRow.alloc HC2.out _) _) ⟨w2.heap.size + 1, 0, none⟩ 1 1 [.string nm, .slice pk mk ck] rfl rfl ?cc1 ?cc2 ?cc3 ?cc4 ?cc5 ?_)
        case cc1 => (intro j u hj; rw [Addr.add_lit]; (rcases j with _ | _ | j) <;> simp at hj <;> subst hj <;> simp (maxDischargeDepth := 12) [go_sem])
        case cc2 => (intro u hu; simp at hu; rcases hu with rfl | rfl <;> rfl)
        case cc3 => unfold maxLen; omega
        case cc4 => omega
        case cc5 => simp; omega
        intro v' w4 hown' hgrow _
        have hA1 : Below w1.heap.size w1 ((w2.alloc (.cells #[.string nm, .slice pk mk ck] 40)).alloc (.cells #[.string nm, .slice pk mk ck] 40)) := (hBw2.alloc hsz2 _).alloc (by simp; omega) _
        have K4 : Below w1.heap.size w1 w4 := Below.grown hA1 hgrow (by simp; omega) (fun q hq => (World.ownsRow.lt HC2.out q hq).1)
        have HO4 : Hid (OwnG w1.heap.size v' (A ++ [⟨nm, ks⟩]) w4) := by
          refine sig_step (e := ⟨nm, ks⟩) (zs := zs) (u := .slice pk mk ck) hA1.size (World.ownsRow.alloc (World.ownsRow.alloc (by rw [em.out]; exact HC2.out) _) _) (HC.out.mono fun b xs k => World.ownsRow.alloc (World.ownsRow.alloc k _) _) (World.ownsRow.alloc (World.ownsRow.alloc HV2.out _) _) ?_ hgrow
          rw [em.out]
          exact hown'
        clear hown' hgrow hA1 HC HC2 HV2
        go_wp2
        exact ⟨⟨i + 1, A ++ [⟨nm, ks⟩], by go_num, by omega, by rw [List.length_append]; simp; omega, HO4, hR3, K4⟩, by simp [intOf]; omega⟩
    · have c2 : ¬ (i : Int) < n := by omega
      have hR3 : Hid (D = (0, 0, A)) := by
        have h := hR.out
        rw [List.drop_eq_nil_of_le (by have := en.out; omega)] at h
        exact h
      obtain ⟨q0, q1, f0, f1, hBN⟩ := RES.out wr hBw
      have g0 : ((wr.setCell ⟨w.heap.size, 0, none⟩ (.int .i64 0)).setCell ⟨w.heap.size, 1, none⟩ (.int .i64 0)).cell? ⟨w.heap.size, 0, none⟩ = some (.int .i64 0) := by simp (maxDischargeDepth := 8) [go_sem, q0]
      have g1 : ((wr.setCell ⟨w.heap.size, 0, none⟩ (.int .i64 0)).setCell ⟨w.heap.size, 1, none⟩ (.int .i64 0)).cell? ⟨w.heap.size, 1, none⟩ = some (.int .i64 0) := by simp (maxDischargeDepth := 8) [go_sem, q1]
      have K9 : Below w.heap.size w ((wr.setCell ⟨w.heap.size, 0, none⟩ (.int .i64 0)).setCell ⟨w.heap.size, 1, none⟩ (.int .i64 0)) := (hBN.setCell (p := ⟨w.heap.size, 0, none⟩) (Nat.le_refl _) _).setCell (p := ⟨w.heap.size, 1, none⟩) (Nat.le_refl _) _
      have O9 : Hid (OwnG w.heap.size (.slice pa m ca) A ((wr.setCell ⟨w.heap.size, 0, none⟩ (.int .i64 0)).setCell ⟨w.heap.size, 1, none⟩ (.int .i64 0))) := (own_setG (own_setG HO.out (a := ⟨w.heap.size, 0, none⟩) hs1 _) (a := ⟨w.heap.size, 1, none⟩) hs1 _).base (Nat.le_of_lt hs1)
      clear hR HO
      go_wp2
      generalize (wr.setCell ⟨w.heap.size, 0, none⟩ (.int .i64 0)).setCell ⟨w.heap.size, 1, none⟩ (.int .i64 0) = W9 at g0 g1 K9 O9 ⊢
      refine bodyPost_ret (by simp [results, Tryz.results16, go_sem, g0, g1]; try rfl) rfl ?_
      exact PsOut.mk2 K9 hR3.out em.out.symm O9.out rfl

end Go.Proofs.YticmebamclacaaaGreatDoor

namespace Go.Proofs.YticmebamclacaaaGreatDoor
open Go.RowKit LX Go.Shelf
set_option linter.unusedVariables false

theorem set_heapX {W : World} {b o e : Nat} {u : Value} {cur : Array Value} {fz : Nat × Nat} (hb : W.heap[b]? = some (.cells cur e fz)) : (W.setCell ⟨b, o, none⟩ u).heap[b]? = some (.cells (cur.setIfInBounds o u) e fz) := by
  show (W.heap.modify b _)[b]? = _
  rw [Array.getElem?_modify, if_pos rfl, hb]
  rfl
/-- Rows of type eT in block g, and rows of type aT, are written over: up to the cell c0 of g; all other blocks stay. -/
def Spl (N M g eT aT c0 : Nat) (w W : World) : Prop :=
  Below N w W ∧ W.heap.size = w.heap.size ∧ (∀ k : Nat, M ≤ k → W.heap[k]? = w.heap[k]?) ∧ (∀ (k : Nat) (cur : Array Value), w.heap[k]? = some (Obj.cells cur aT (0, 0)) → ∃ cur' : Array Value, W.heap[k]? = some (.cells cur' aT (0, 0)) ∧ cur'.size = cur.size) ∧ (∀ cur : Array Value, w.heap[g]? = some (Obj.cells cur eT (0, 0)) → ∃ cur' : Array Value, W.heap[g]? = some (.cells cur' eT (0, 0)) ∧ cur'.size = cur.size ∧ ∀ c, c0 ≤ c → cur'[c]? = cur[c]?)
theorem Spl.refl (N M g eT aT : Nat) (w : World) : Spl N M g eT aT 0 w w := ⟨Below.refl _ _, rfl, fun _ _ => rfl, fun _ cur h => ⟨cur, h, rfl⟩, fun cur h => ⟨cur, h, rfl, fun _ _ => rfl⟩⟩
theorem Spl.arg {N M g eT aT c0 : Nat} {w W : World} (h : Spl N M g eT aT c0 w W) {b o : Nat} {u : Value} {cur : Array Value} (hb : w.heap[b]? = some (.cells cur aT (0, 0))) (hN : N ≤ b) (hM : b < M) (hne : aT ≠ eT) : Spl N M g eT aT c0 w (W.setCell ⟨b, o, none⟩ u) := by
  obtain ⟨h1, h2, h3, h4, h5⟩ := h
  refine ⟨h1.setCell (p := ⟨b, o, none⟩) hN _, by simp [World.setCell, h2], fun k hk => (Below.heap_setCell _ _ _ _ (by show k ≠ b; omega)).trans (h3 k hk), fun k cu hk => ?_, fun cu hk => ?_⟩
  · obtain ⟨c2, q1, q2⟩ := h4 k cu hk
    by_cases e : k = b
    · subst e
      exact ⟨_, set_heapX q1, by simpa using q2⟩
    · exact ⟨c2, (Below.heap_setCell _ _ _ _ e).trans q1, q2⟩
  · obtain ⟨c2, q1, q2, q3⟩ := h5 cu hk
    refine ⟨c2, (Below.heap_setCell _ _ _ _ ?_).trans q1, q2, q3⟩
    intro e
    have e : g = b := e
    subst e
    rw [hb] at hk
    injection hk with hk
    injection hk with _ hk _
    exact hne hk
theorem Spl.out {N M g eT aT c0 : Nat} {w W : World} (h : Spl N M g eT aT c0 w W) {o c1 : Nat} {u : Value} {cur : Array Value} (hg : w.heap[g]? = some (.cells cur eT (0, 0))) (hN : N ≤ g) (hM : g < M) (hne : aT ≠ eT) (hc : c0 ≤ c1) (ho : o < c1) : Spl N M g eT aT c1 w (W.setCell ⟨g, o, none⟩ u) := by
  obtain ⟨h1, h2, h3, h4, h5⟩ := h
  refine ⟨h1.setCell (p := ⟨g, o, none⟩) hN _, by simp [World.setCell, h2], fun k hk => (Below.heap_setCell _ _ _ _ (by show k ≠ g; omega)).trans (h3 k hk), fun k cu hk => ?_, fun cu hk => ?_⟩
  · obtain ⟨c2, q1, q2⟩ := h4 k cu hk
    refine ⟨c2, (Below.heap_setCell _ _ _ _ ?_).trans q1, q2⟩
    intro e
    have e : k = g := e
    subst e
    rw [hk] at hg
    injection hg with hg
    injection hg with _ hg _
    exact hne hg
  · obtain ⟨c2, q1, q2, q3⟩ := h5 cu hk
    refine ⟨_, set_heapX q1, by simpa using q2, fun c hc' => ?_⟩
    rw [Array.getElem?_setIfInBounds_ne (by omega)]
    exact q3 c (by omega)
theorem Spl.mono {N M g eT aT c0 c1 : Nat} {w W : World} (h : Spl N M g eT aT c0 w W) (hc : c0 ≤ c1) : Spl N M g eT aT c1 w W := by
  obtain ⟨h1, h2, h3, h4, h5⟩ := h
  refine ⟨h1, h2, h3, h4, fun cu hk => ?_⟩
  obtain ⟨c2, q1, q2, q3⟩ := h5 cu hk
  exact ⟨c2, q1, q2, fun c h => q3 c (by omega)⟩
/-- A row of the call's own stays where its blocks stay. -/
theorem own_above {B e size n : Nat} {v : Value} {xs : List Value} {w W : World} (h : w.ownsRow B e size v n xs) (hk : ∀ k, B ≤ k → W.heap[k]? = w.heap[k]?) : W.ownsRow B e size v n xs := by
  obtain ⟨hl, hv | ⟨g, cap, cur, e1, h1, h2, h3⟩⟩ := h
  · exact ⟨hl, Or.inl hv⟩
  · exact ⟨hl, Or.inr ⟨g, cap, cur, e1, h1, (hk g h1).trans h2, h3⟩⟩
theorem OwnE.above {B : Nat} {v : Value} {es : List Evt} {w W : World} (h : OwnE B v es w) (hk : ∀ k, B ≤ k → W.heap[k]? = w.heap[k]?) : OwnE B v es W := by
  obtain ⟨zs, h1, h2⟩ := h
  exact ⟨zs, own_above h1 hk, h2.mono fun b xs k => own_above k hk⟩
theorem OwnG.above {B : Nat} {v : Value} {es : List Dec} {w W : World} (h : OwnG B v es w) (hk : ∀ k, B ≤ k → W.heap[k]? = w.heap[k]?) : OwnG B v es W := by
  obtain ⟨zs, h1, h2⟩ := h
  exact ⟨zs, own_above h1 hk, h2.mono fun b xs k => own_above k hk⟩
/-- Where events lie, and their values. -/
theorem OwnE.parts {N : Nat} {pe : Option Addr} {m ce : Nat} {es : List Evt} {w : World} (h : OwnE N (.slice pe m ce) es w) (i : Nat) (hi : i < es.length) :
    ∃ g cur pu cu, pe = some ⟨g, 0, none⟩ ∧ N ≤ g ∧ g < w.heap.size ∧ w.heap[g]? = some (.cells cur 48 (0, 0)) ∧ i * 2 + 1 < cur.size ∧ cur[i * 2 + 1]? = some (.slice pu es[i].args.length cu) ∧ (es[i].args.length = 0 ∨ ∃ b cb, pu = some ⟨b, 0, none⟩ ∧ N ≤ b ∧ b < w.heap.size ∧ w.heap[b]? = some (.cells cb 50 (0, 0)) ∧ es[i].args.length * 4 ≤ cb.size) := by
  obtain ⟨zs, h1, hc⟩ := h
  obtain ⟨c0, u, c1, ho⟩ := hc.get i hi
  have h1' := h1
  obtain ⟨hl, ⟨e, hn⟩ | ⟨g, cap, cur, e, hg1, hg2, hg3, hg4, hg5, hg6⟩⟩ := h1
  · omega
  injection e with e1 e2 e3
  subst e1 e2 e3
  obtain ⟨hlu, ⟨eu, hnu⟩ | ⟨b, capu, cb, eu, hb1, hb2, hb3, hb4, hb5, hb6⟩⟩ := ho
  · refine ⟨g, cur, none, 0, rfl, hg1, (Array.getElem?_eq_some_iff.1 hg2).1, hg2, by rw [hg5]; omega, ?_, Or.inl hnu⟩
    have h9 : w.cell? ⟨g, i * 2 + 1, none⟩ = some u := by rw [h1'.cellAt _ (by omega)]; exact c1
    rw [Lib.cell_of_heap hg2] at h9
    rw [h9, eu, hnu]
  · refine ⟨g, cur, some ⟨b, 0, none⟩, capu, rfl, hg1, (Array.getElem?_eq_some_iff.1 hg2).1, hg2, by rw [hg5]; omega, ?_, Or.inr ⟨b, cb, rfl, hb1, (Array.getElem?_eq_some_iff.1 hb2).1, hb2, by rw [hb5]; omega⟩⟩
    have h9 : w.cell? ⟨g, i * 2 + 1, none⟩ = some u := by rw [h1'.cellAt _ (by omega)]; exact c1
    rw [Lib.cell_of_heap hg2] at h9
    rw [h9, eu]
/-- Where declarations lie, and their kinds. -/
theorem OwnG.parts {N : Nat} {pe : Option Addr} {m ce : Nat} {es : List Dec} {w : World} (h : OwnG N (.slice pe m ce) es w) (i : Nat) (hi : i < es.length) :
    ∃ g cur pu cu, pe = some ⟨g, 0, none⟩ ∧ N ≤ g ∧ g < w.heap.size ∧ w.heap[g]? = some (.cells cur 40 (0, 0)) ∧ i * 2 + 1 < cur.size ∧ cur[i * 2 + 1]? = some (.slice pu es[i].kinds.length cu) ∧ (es[i].kinds.length = 0 ∨ ∃ b cb, pu = some ⟨b, 0, none⟩ ∧ N ≤ b ∧ b < w.heap.size ∧ w.heap[b]? = some (.cells cb 3 (0, 0)) ∧ es[i].kinds.length ≤ cb.size) := by
  obtain ⟨zs, h1, hc⟩ := h
  obtain ⟨c0, u, c1, ho⟩ := hc.get i hi
  have h1' := h1
  obtain ⟨hl, ⟨e, hn⟩ | ⟨g, cap, cur, e, hg1, hg2, hg3, hg4, hg5, hg6⟩⟩ := h1
  · omega
  injection e with e1 e2 e3
  subst e1 e2 e3
  obtain ⟨hlu, ⟨eu, hnu⟩ | ⟨b, capu, cb, eu, hb1, hb2, hb3, hb4, hb5, hb6⟩⟩ := ho
  · refine ⟨g, cur, none, 0, rfl, hg1, (Array.getElem?_eq_some_iff.1 hg2).1, hg2, by rw [hg5]; omega, ?_, Or.inl hnu⟩
    have h9 : w.cell? ⟨g, i * 2 + 1, none⟩ = some u := by rw [h1'.cellAt _ (by omega)]; exact c1
    rw [Lib.cell_of_heap hg2] at h9
    rw [h9, eu, hnu]
  · refine ⟨g, cur, some ⟨b, 0, none⟩, capu, rfl, hg1, (Array.getElem?_eq_some_iff.1 hg2).1, hg2, by rw [hg5]; omega, ?_, Or.inr ⟨b, cb, rfl, hb1, (Array.getElem?_eq_some_iff.1 hb2).1, hb2, by rw [hb5]; omega⟩⟩
    have h9 : w.cell? ⟨g, i * 2 + 1, none⟩ = some u := by rw [h1'.cellAt _ (by omega)]; exact c1
    rw [Lib.cell_of_heap hg2] at h9
    rw [h9, eu]

end Go.Proofs.YticmebamclacaaaGreatDoor

namespace Go.Proofs.YticmebamclacaaaGreatDoor
open Go.RowKit LX Go.Shelf
set_option linter.unusedVariables false

set_option maxRecDepth 100000 in
set_option maxHeartbeats 4000000 in
theorem rssame_yes (A B : Value) (L : List Dec) (w : World) (hA : SigAt w A L) (hB : SigAt w B L) (lL : L.length ≤ 9223372036854775807) (lk : ∀ d ∈ L, d.kinds.length ≤ 9223372036854775807) :
    Calls Tryz.prog 17 #[A, B] w fun r w' => r = .returned (.bool true) ∧ Below w.heap.size w w' := by
  obtain ⟨p, c, rfl, -, HX0⟩ := hA.form
  obtain ⟨q, c', rfl, -, HY0⟩ := hB.form
  have HX : Hid (∀ i (hi : i < L.length), ∃ b off u, p = some ⟨b, off, none⟩ ∧ b < w.heap.size ∧ w.cell? ⟨b, off + i * 2, none⟩ = some (.string L[i].name) ∧ w.cell? ⟨b, off + i * 2 + 1, none⟩ = some u ∧ KAt w u L[i].kinds) := HX0
  have HY : Hid (∀ i (hi : i < L.length), ∃ b off u, q = some ⟨b, off, none⟩ ∧ b < w.heap.size ∧ w.cell? ⟨b, off + i * 2, none⟩ = some (.string L[i].name) ∧ w.cell? ⟨b, off + i * 2 + 1, none⟩ = some u ∧ KAt w u L[i].kinds) := HY0
  have LK : Hid (∀ d ∈ L, d.kinds.length ≤ 9223372036854775807) := lk
  clear hA hB HX0 HY0 lk
  obtain ⟨n, en⟩ : ∃ n : Nat, Hid (L.length = n) := ⟨_, rfl⟩
  rw [en.out] at lL ⊢
  go_enter Tryz.func17, Tryz.ntmps17
  go_wp2
  go_loopw [5] (fun i wr => ∃ k : Nat, k ≤ n ∧ i = .int .i64 k ∧ Below w.heap.size w wr) (fun i _ => n - (intOf i).toNat)
  case atStart => exact ⟨0, Nat.zero_le _, rfl, Below.refl _ _⟩
  case round =>
    obtain ⟨k, hk, rfl, hBw⟩ := hrel
    by_cases hlt : k < n
    · have kx : k < L.length := by have := en.out; omega
      obtain ⟨b, off, u, rfl, hb, r0, r1, r2⟩ := HX.out k kx
      obtain ⟨b', off', u', rfl, hb', s0, s1, s2⟩ := HY.out k kx
      have a0 := (hBw.cell (p := ⟨b, off + k * 2, none⟩) hb).trans r0
      have a1 := (hBw.cell (p := ⟨b, off + k * 2 + 1, none⟩) hb).trans r1
      have d0 := (hBw.cell (p := ⟨b', off' + k * 2, none⟩) hb').trans s0
      have d1 := (hBw.cell (p := ⟨b', off' + k * 2 + 1, none⟩) hb').trans s1
      have hlt' : (k : Int) < n := by omega
      have lkk := LK.out _ (List.getElem_mem kx)
      obtain ⟨pu, cu, hu, HK0⟩ := r2.form
      obtain ⟨pu', cu', hu', HJ0⟩ := s2.form
      subst hu hu'
      have HK : Hid (∀ i (hi : i < L[k].kinds.length), ∃ b off, pu = some ⟨b, off, none⟩ ∧ b < w.heap.size ∧ w.cell? ⟨b, off + i, none⟩ = some (.int .i64 L[k].kinds[i])) := HK0
      have HJ : Hid (∀ i (hi : i < L[k].kinds.length), ∃ b off, pu' = some ⟨b, off, none⟩ ∧ b < w.heap.size ∧ w.cell? ⟨b, off + i, none⟩ = some (.int .i64 L[k].kinds[i])) := HJ0
      have hbr : b < wr.heap.size := Nat.lt_of_lt_of_le hb hBw.size
      have hbr' : b' < wr.heap.size := Nat.lt_of_lt_of_le hb' hBw.size
      clear r0 r1 r2 s0 s1 s2 HK0 HJ0
      generalize L[k].name = X at a0 d0
      generalize L[k].kinds = ks at a1 d1 HK HJ lkk
      obtain ⟨m, em⟩ : ∃ m : Nat, Hid (ks.length = m) := ⟨_, rfl⟩
      rw [em.out] at a1 d1 lkk
      have hq : (X.toList == X.toList) = true := by simp
      have hq2 : (X.toList != X.toList) = false := by simp
      have hm2 : ((m : Int) != m) = false := by simp
      go_upto_region 6 with fail
      go_quiet (fail)
      have a1' : Hid (wr.cell? ⟨b, off + k * 2 + 1, none⟩ = some (.slice pu m cu)) := a1
      have d1' : Hid (wr.cell? ⟨b', off' + k * 2 + 1, none⟩ = some (.slice pu' m cu')) := d1
      have hZ : Hid (Below wr.heap.size wr (wr.drewN nq)) := bdrewX _ (Below.refl _ _)
      have hBO : Hid (Below w.heap.size w wr) := hBw
      obtain ⟨w5, ew5⟩ : ∃ w5, Hid (wr = w5) := ⟨wr, (show wr = wr from rfl)⟩
      rw [ew5.out] at a1' d1' hZ hBO hbr hbr' ⊢
      clear a0 a1 d0 d1 hBw ew5
      go_wp2
      go_loopw [6] (fun i wr => ∃ j : Nat, j ≤ m ∧ i = .int .i64 j ∧ Below w5.heap.size w5 wr) (fun i _ => m - (intOf i).toNat)
      case atStart => exact ⟨0, Nat.zero_le _, rfl, hZ.out⟩
      case round =>
        obtain ⟨j, hj, rfl, hB5⟩ := hrel
        have hB9 : Below w.heap.size w wr := hBO.out.trans (hB5.mono hBO.out.size)
        have x1 := (hB5.cell (p := ⟨b, off + k * 2 + 1, none⟩) hbr).trans a1'.out
        have x2 := (hB5.cell (p := ⟨b', off' + k * 2 + 1, none⟩) hbr').trans d1'.out
        by_cases hjm : j < m
        · have jx : j < ks.length := by have := em.out; omega
          obtain ⟨b1, off1, rfl, hb1, q0⟩ := HK.out j jx
          obtain ⟨b2, off2, rfl, hb2, q1⟩ := HJ.out j jx
          have g0 := (hB9.cell (p := ⟨b1, off1 + j, none⟩) hb1).trans q0
          have g1 := (hB9.cell (p := ⟨b2, off2 + j, none⟩) hb2).trans q1
          have hjm' : (j : Int) < m := by omega
          clear q0 q1
          generalize ks[j] = K at g0 g1
          have hK2 : (K != K) = false := by simp
          go_upto_region 11 with fail
          go_quiet (fail)
          have K8 : Below w5.heap.size w5 (wr.drewN nq) := bdrewX _ hB5
          clear g0 g1 x1 x2
          go_wp2
          exact ⟨⟨j + 1, by omega, by go_num, K8⟩, by simp [intOf]; omega⟩
        · have c2 : ¬ (j : Int) < m := by omega
          go_wp2
          exact ⟨⟨k + 1, by omega, by go_num, hB9⟩, by simp [intOf]; omega⟩
    · have c2 : ¬ (k : Int) < n := by omega
      go_wp2
      go_ret
      exact ⟨rfl, hBw⟩

end Go.Proofs.YticmebamclacaaaGreatDoor

namespace Go.Proofs.YticmebamclacaaaGreatDoor
open Go.RowKit LX Go.Shelf
set_option maxRecDepth 100000

abbrev s1 : ByteArray := ⟨#[112, 32, 105, 110, 116, 10, 10, 113, 32, 105, 110, 116, 32, 115, 116, 114]⟩
abbrev s2 : ByteArray := ⟨#[112, 32, 105, 110, 116, 10, 112]⟩
abbrev s3 : ByteArray := ⟨#[64, 53, 32, 40, 112, 32, 49, 41, 32, 40, 113, 32, 50, 32, 34, 120, 34, 41]⟩
abbrev s4 : ByteArray := ⟨#[53]⟩
def lvL : List Dec := [⟨⟨#[112]⟩, [1]⟩, ⟨⟨#[113]⟩, [1, 3]⟩]
def lvE : List Evt := [⟨⟨#[112]⟩, [⟨1, 1, 0, ⟨#[]⟩⟩]⟩, ⟨⟨#[113]⟩, [⟨1, 2, 0, ⟨#[]⟩⟩, ⟨3, 0, 0, ⟨#[120]⟩⟩]⟩]
theorem lv1 : rsg s1 = (0, 0, lvL) := by kernel_rfl
theorem lv2 : rsg s2 = (1, 2, []) := by kernel_rfl
theorem lv3 : rdP s3 = (0, 5, lvE) := by kernel_rfl
theorem lv4 : rdP s4 = (70, 0, []) := by kernel_rfl
theorem lv5 : ppT 5 lvE = s3.data.toList := by kernel_rfl
theorem lv6 : ppE 5 lvE = 0 := by kernel_rfl
theorem lv7 : pointE lvL 5 lvE = 0 := by kernel_rfl
theorem lv8 : pointE (lvL.take 1) 5 lvE = 90 := by kernel_rfl
end Go.Proofs.YticmebamclacaaaGreatDoor

namespace Go.Proofs.YticmebamclacaaaGreatDoor
open Go.RowKit LX Go.Shelf
set_option linter.unusedVariables false

/-- What the library's variables hold. -/
structure Env (w : World) : Prop where
  pow : Pow w
  errs : Errs w
  size : 9 ≤ w.heap.size
  err : ErrT w
theorem Env.below {w W : World} (h : Env w) (hb : Below w.heap.size w W) : Env W := ⟨h.pow.below hb, h.errs.below hb h.size, Nat.le_trans h.size hb.size, h.err.below hb⟩

set_option maxRecDepth 100000 in
set_option maxHeartbeats 2000000 in
theorem trlive_any (w : World) (he : Env w) :
    Calls Tryz.prog 10 #[] w fun r w' => r = .returned (.bool true) ∧ Below w.heap.size w w' := by
  have c1 : Hid (∀ W : World, Below w.heap.size w W → Calls Tryz.prog 15 #[.string s1] W fun r w' => Below W.heap.size W w' ∧ ∃ p c, r = .returned (.tuple #[.slice p 2 c, .agg #[.int .i64 0, .int .i64 0]]) ∧ OwnG W.heap.size (.slice p 2 c) lvL w') := fun W hW => by
    have e := he.below hW
    have h := parsesig_any s1 W e.pow e.errs e.size e.err
    rw [lv1] at h
    exact h
  have c2 : Hid (∀ W : World, Below w.heap.size w W → Calls Tryz.prog 15 #[.string s2] W fun r w' => Below W.heap.size W w' ∧ ∃ p c, r = .returned (.tuple #[.slice p 0 c, .agg #[.int .i64 1, .int .i64 2]])) := fun W hW => by
    have e := he.below hW
    have h := parsesig_any s2 W e.pow e.errs e.size e.err
    rw [lv2] at h
    exact h.mono fun r w' ⟨k1, p, c, k2, _⟩ => ⟨k1, p, c, k2⟩
  have c3 : Hid (∀ W : World, Below w.heap.size w W → Calls Tryz.prog 19 #[.string s3] W fun r w' => Below W.heap.size W w' ∧ ∃ p c, r = .returned (.tuple #[.agg #[.int .i64 5, .slice p 2 c], .int .i64 0]) ∧ OwnE W.heap.size (.slice p 2 c) lvE w') := fun W hW => by
    have e := he.below hW
    have h := parsept_any s3 W e.pow e.errs e.size e.err
    rw [lv3] at h
    exact h
  have c4 : Hid (∀ W : World, Below w.heap.size w W → Calls Tryz.prog 19 #[.string s4] W fun r w' => Below W.heap.size W w' ∧ ∃ p c, r = .returned (.tuple #[.agg #[.int .i64 0, .slice p 0 c], .int .i64 70])) := fun W hW => by
    have e := he.below hW
    have h := parsept_any s4 W e.pow e.errs e.size e.err
    rw [lv4] at h
    exact h.mono fun r w' ⟨k1, p, c, k2, _⟩ => ⟨k1, p, c, k2⟩
  have fx : ∀ e ∈ lvE, ∀ v ∈ e.args, v.Fits := by
    intro e he v hv
    simp only [lvE, List.mem_cons, List.not_mem_nil, or_false] at he
    rcases he with rfl | rfl
    · simp only [List.mem_cons, List.not_mem_nil, or_false] at hv
      subst hv
      exact ⟨by decide, by decide, by decide, by decide⟩
    · simp only [List.mem_cons, List.not_mem_nil, or_false] at hv
      rcases hv with rfl | rfl
      · exact ⟨by decide, by decide, by decide, by decide⟩
      · exact ⟨by decide, by decide, by decide, by decide⟩
  have lv : ∀ e ∈ lvE, e.args.length ≤ 9223372036854775807 := by
    intro e he
    simp only [lvE, List.mem_cons, List.not_mem_nil, or_false] at he
    rcases he with rfl | rfl <;> decide
  have lk : ∀ d ∈ lvL, d.kinds.length ≤ 9223372036854775807 := by
    intro e he
    simp only [lvL, List.mem_cons, List.not_mem_nil, or_false] at he
    rcases he with rfl | rfl <;> decide
  have c5 : Hid (∀ (W : World) (p : Option Addr) (c : Nat), Below w.heap.size w W → EvsAt W (.slice p 2 c) lvE → Calls Tryz.prog 22 #[.agg #[.int .i64 5, .slice p 2 c]] W fun r w' => r = .returned (.tuple #[.string s3, .int .i64 0]) ∧ Below W.heap.size W w') := fun W p c hW hE => by
    have e := he.below hW
    have h := ppoint_any (.slice p 2 c) 5 lvE W e.err (by decide) (by decide) hE e.pow fx lv (by decide) (by decide)
    rw [lv5, lv6] at h
    exact h
  have c6 : Hid (∀ (W : World) (p q : Option Addr) (c d : Nat), Below w.heap.size w W → SigAt W (.slice q 2 d) lvL → EvsAt W (.slice p 2 c) lvE → Calls Tryz.prog 9 #[.slice q 2 d, .agg #[.int .i64 5, .slice p 2 c]] W fun r w' => r = .returned (.int .i64 0) ∧ Below W.heap.size W w') := fun W p q c d hW hS hE => by
    have e := he.below hW
    have h := checkpoint_any (.slice q 2 d) (.slice p 2 c) lvL 5 lvE W e.err hS hE fx (by decide) lk lv (by decide)
    rw [lv7] at h
    exact h
  have c7 : Hid (∀ (W : World) (p q : Option Addr) (c d : Nat), Below w.heap.size w W → SigAt W (.slice q 2 d) lvL → EvsAt W (.slice p 2 c) lvE → Calls Tryz.prog 9 #[.slice q 1 d, .agg #[.int .i64 5, .slice p 2 c]] W fun r w' => r = .returned (.int .i64 90) ∧ Below W.heap.size W w') := fun W p q c d hW hS hE => by
    have e := he.below hW
    have h := checkpoint_any (.slice q 1 d) (.slice p 2 c) (lvL.take 1) 5 lvE W e.err (hS.take 1 (by decide)) hE fx (by decide) (fun x hx => lk x (List.mem_of_mem_take hx)) lv (by decide)
    rw [lv8] at h
    exact h
  clear he fx lv lk
  go_enter Tryz.func10, Tryz.ntmps10
  go_wp2_with fail
  refine (c1.out _ (Below.refl _ _)).mono ?_
  rintro r w1 ⟨hB1, p1, d1, rfl, hO1⟩
  have HO1 : Hid (SigAt w1 (.slice p1 2 d1) lvL) := hO1.at
  have hd2 : 2 ≤ d1 := by
    obtain ⟨p1', d1', e1, hd1, -⟩ := HO1.out.form
    injection e1 with _ _ e1
    subst e1
    exact hd1
  have hd3 : (1 : Int) ≤ d1 := by omega
  clear hO1 c1
  go_wp2_with fail
  refine (c2.out _ (hB1.trans (Below.mono (B := w1.heap.size) (by go_grown) hB1.size))).mono ?_
  rintro r w2 ⟨hb2, p2, d2, rfl⟩
  have w0 : w2.cell? ⟨w1.heap.size, 0, none⟩ = some (.int .i64 0) := (hb2.cell (p := ⟨w1.heap.size, 0, none⟩) (by simp)).trans (by simp [go_sem])
  have w0' : w2.cell? ⟨w1.heap.size, 1, none⟩ = some (.int .i64 0) := (hb2.cell (p := ⟨w1.heap.size, 1, none⟩) (by simp)).trans (by simp [go_sem])
  have hs2 : w1.heap.size < w2.heap.size := by have := hb2.size; simp at this; omega
  obtain ⟨hB2, -⟩ := bgX (n := w1.heap.size) (W0 := w1) (by go_grown) (by go_size) hb2
  have K2 : Below w.heap.size w w2 := hB1.trans (hB2.mono hB1.size)
  have HO2 : Hid (SigAt w2 (.slice p1 2 d1) lvL) := HO1.out.below hB2
  clear hb2 c2 HO1 hB1
  go_wp2_with fail
  refine (c3.out _ (K2.trans (Below.mono (B := w2.heap.size) (by go_grown) K2.size))).mono ?_
  rintro r w3 ⟨hb3, p3, d3, rfl, hE3⟩
  have v0 : w3.cell? ⟨w2.heap.size, 0, none⟩ = some (.int .i64 1) := (hb3.cell (p := ⟨w2.heap.size, 0, none⟩) (by simp)).trans (by simp [go_sem])
  have v0' : w3.cell? ⟨w2.heap.size, 1, none⟩ = some (.int .i64 2) := (hb3.cell (p := ⟨w2.heap.size, 1, none⟩) (by simp)).trans (by simp [go_sem])
  have hs3 : w2.heap.size < w3.heap.size := by have := hb3.size; simp at this; omega
  obtain ⟨hB3, -⟩ := bgX (n := w2.heap.size) (W0 := w2) (by go_grown) (by go_size) hb3
  have K3 : Below w.heap.size w w3 := K2.trans (hB3.mono K2.size)
  have HO3 : Hid (SigAt w3 (.slice p1 2 d1) lvL) := HO2.out.below hB3
  have HE3 : Hid (EvsAt w3 (.slice p3 2 d3) lvE) := hE3.at
  have u0 := (hB3.cell (p := ⟨w1.heap.size, 0, none⟩) hs2).trans w0
  have u0' := (hB3.cell (p := ⟨w1.heap.size, 1, none⟩) hs2).trans w0'
  clear hb3 c3 HO2 hE3 w0 w0' hB2 K2
  go_wp2_with fail
  refine (c5.out _ _ _ (K3.trans (Below.mono (B := w3.heap.size) (by go_grown) K3.size)) (HE3.out.below (by go_grown))).mono ?_
  rintro r w4 ⟨rfl, hb4⟩
  have t0 : w4.cell? ⟨w3.heap.size, 0, none⟩ = some (.int .i64 5) := (hb4.cell (p := ⟨w3.heap.size, 0, none⟩) (by simp)).trans (by simp [go_sem])
  have t1 : w4.cell? ⟨w3.heap.size, 1, none⟩ = some (.slice p3 2 d3) := (hb4.cell (p := ⟨w3.heap.size, 1, none⟩) (by simp)).trans (by simp [go_sem])
  have hs4 : w3.heap.size < w4.heap.size := by have := hb4.size; simp at this; omega
  obtain ⟨hB4, -⟩ := bgX (n := w3.heap.size) (W0 := w3) (by go_grown) (by go_size) hb4
  have K4 : Below w.heap.size w w4 := K3.trans (hB4.mono K3.size)
  have hs13 : w1.heap.size < w3.heap.size := Nat.lt_of_lt_of_le hs2 hB3.size
  clear hb4 c5
  go_wp2_with fail
  refine (c4.out _ K4).mono ?_
  rintro r w5 ⟨hB5, p5, d5, rfl⟩
  have KB : Below w3.heap.size w3 w5 := hB4.trans (hB5.mono hB4.size)
  have K5 : Below w.heap.size w w5 := K4.trans (hB5.mono K4.size)
  have y0 := (KB.cell (p := ⟨w1.heap.size, 0, none⟩) hs13).trans u0
  have y0' := (KB.cell (p := ⟨w1.heap.size, 1, none⟩) hs13).trans u0'
  have x0 := (KB.cell (p := ⟨w2.heap.size, 0, none⟩) hs3).trans v0
  have x0' := (KB.cell (p := ⟨w2.heap.size, 1, none⟩) hs3).trans v0'
  have z0 := (hB5.cell (p := ⟨w3.heap.size, 0, none⟩) hs4).trans t0
  have z1 := (hB5.cell (p := ⟨w3.heap.size, 1, none⟩) hs4).trans t1
  have HO5 : Hid (SigAt w5 (.slice p1 2 d1) lvL) := HO3.out.below KB
  have HE5 : Hid (EvsAt w5 (.slice p3 2 d3) lvE) := HE3.out.below KB
  have hs15 : w1.heap.size < w5.heap.size := Nat.lt_of_lt_of_le hs13 KB.size
  have hs25 : w2.heap.size < w5.heap.size := Nat.lt_of_lt_of_le hs3 KB.size
  have hs35 : w3.heap.size < w5.heap.size := Nat.lt_of_lt_of_le hs4 hB5.size
  clear c4 HO3 HE3 u0 u0' v0 v0' t0 t1 hB4 hB5 KB K4 K3 hB3 hs13 hs4 hs3 hs2
  go_upto_region 7 with fail
  refine wpX_world ?_
  intro W0 hW0
  have kA : Below w5.heap.size w5 W0 := by rw [hW0]; go_grown
  clear hW0
  have d0 := (kA.cell (p := ⟨w3.heap.size, 0, none⟩) hs35).trans z0
  have d1' := (kA.cell (p := ⟨w3.heap.size, 1, none⟩) hs35).trans z1
  have k1 : w3.heap.size < W0.heap.size := Nat.lt_of_lt_of_le hs35 kA.size
  have K0 : Below w.heap.size w W0 := K5.trans (kA.mono K5.size)
  have C6 : Hid (∀ W : World, Below W0.heap.size W0 W → Calls Tryz.prog 9 #[.slice p1 2 d1, .agg #[.int .i64 5, .slice p3 2 d3]] W fun r w' => r = .returned (.int .i64 0) ∧ Below W.heap.size W w') := fun W hW => c6.out W _ _ _ _ (K0.trans (hW.mono K0.size)) ((HO5.out.below kA).below hW) ((HE5.out.below kA).below hW)
  have C7 : Hid (∀ W : World, Below W0.heap.size W0 W → Calls Tryz.prog 9 #[.slice p1 1 d1, .agg #[.int .i64 5, .slice p3 2 d3]] W fun r w' => r = .returned (.int .i64 90) ∧ Below W.heap.size W w') := fun W hW => c7.out W _ _ _ _ (K0.trans (hW.mono K0.size)) ((HO5.out.below kA).below hW) ((HE5.out.below kA).below hW)
  clear c6 c7 HO5 HE5 kA z0 z1 y0 y0' x0 x0' hs15 hs25 hs35 K5
  go_region_held3 (fun w' => w'.cell? ⟨w3.heap.size, 0, none⟩ = some (.int .i64 5) ∧ w'.cell? ⟨w3.heap.size, 1, none⟩ = some (.slice p3 2 d3)) (exact ⟨bclX (n := W0.heap.size) (by go_grown) d0 k1, bclX (n := W0.heap.size) (by go_grown) d1' k1⟩)
    (first
      | (go_at_call_of 9 (Value.slice p1 2 d1); refine (C6.out _ (by go_grown)).mono ?_; rintro e v1 ⟨rfl, hb1⟩; obtain ⟨hX1, hn1⟩ := bgX (n := W0.heap.size) (W0 := W0) (by go_grown) (by go_size) hb1)
      | (go_at_call_of 9 (Value.slice p1 1 d1); refine (C7.out _ (by go_grown)).mono ?_; rintro e v2 ⟨rfl, hb2⟩; obtain ⟨hX2, hn2⟩ := bgX (n := W0.heap.size) (W0 := W0) (by go_grown) (by go_size) hb2))
  all_goals
    go_wp2
    go_ret
    exact ⟨rfl, K0.trans (Below.mono (B := W0.heap.size) (by go_grown) K0.size)⟩

end Go.Proofs.YticmebamclacaaaGreatDoor

namespace Go.Proofs.YticmebamclacaaaGreatDoor
open Go.RowKit LX Go.Shelf
set_option linter.unusedVariables false

theorem wdD_small {A : List Dec} {o : Option Dec} (h : A.length ≤ 32 ∧ ∀ d ∈ A, d.kinds.length ≤ 6) : (wdD A o).2.length ≤ 32 ∧ ∀ d ∈ (wdD A o).2, d.kinds.length ≤ 6 := by
  cases o with
  | none => exact ⟨by simp [wdD], by simp [wdD]⟩
  | some d =>
    have e : wdD A (some d) = if 6 < d.kinds.length ∨ A.length = 32 then (3, []) else if 0 ≤ findI d.name A 0 then (1, []) else (0, A ++ [d]) := rfl
    rw [e]
    by_cases h1 : 6 < d.kinds.length ∨ A.length = 32
    · rw [if_pos h1]; exact ⟨by simp, by simp⟩
    rw [if_neg h1]
    by_cases h2 : 0 ≤ findI d.name A 0
    · rw [if_pos h2]; exact ⟨by simp, by simp⟩
    rw [if_neg h2]
    refine ⟨?_, fun e he => ?_⟩
    · show (A ++ [d]).length ≤ 32
      rw [List.length_append]
      have := h.1
      simp
      omega
    · have he : e ∈ A ++ [d] := he
      rcases List.mem_append.1 he with he | he
      · exact h.2 e he
      · rw [List.mem_singleton.1 he]; omega
theorem rdS_small (L : List ByteArray) : ∀ (A : List Dec) (i : Nat), (A.length ≤ 32 ∧ ∀ d ∈ A, d.kinds.length ≤ 6) → (rdS A i L).2.2.length ≤ 32 ∧ ∀ d ∈ (rdS A i L).2.2, d.kinds.length ≤ 6 := by
  induction L with
  | nil => intro A i h; exact h
  | cons x l ih =>
    intro A i h
    unfold rdS
    by_cases h1 : cutE x = 0
    case neg => rw [if_neg h1]; exact ⟨by simp, by simp⟩
    rw [if_pos h1]
    by_cases h2 : (rdT A (tks x)).1 = 0
    case neg => rw [if_neg h2]; exact ⟨by simp, by simp⟩
    rw [if_pos h2]
    refine ih _ _ ?_
    cases tks x with
    | nil => exact h
    | cons t m => exact wdD_small h
theorem rsg_small (s : ByteArray) : (rsg s).2.2.length ≤ 32 ∧ ∀ d ∈ (rsg s).2.2, d.kinds.length ≤ 6 := by
  unfold rsg
  by_cases h : 16384 < s.size
  · rw [if_pos h]; exact ⟨by simp, by simp⟩
  · rw [if_neg h]; exact rdS_small _ _ _ ⟨by simp, by simp⟩

set_option maxRecDepth 100000 in
set_option maxHeartbeats 8000000 in
theorem trreads_walk (s : ByteArray) (w : World) (he : Env w) :
    Calls Tryz.prog 5 #[.string s] w fun r w' => r = .returned (.bool true) ∧ Below w.heap.size w w' := by
  have c1 : Hid (∀ W : World, Below w.heap.size w W → Calls Tryz.prog 15 #[.string s] W fun r w' => PsOut W.heap.size W (rsg s) r w') := fun W hW => parsesig_any s W (he.below hW).pow (he.below hW).errs (he.below hW).size (he.below hW).err
  have c2 : Hid (∀ W : World, Calls Tryz.prog 16 #[.string s] W fun r w' => PsOut W.heap.size W (rsg s) r w') := fun W => rparsesig_any s W
  have c5 : Hid (∀ W : World, Below w.heap.size w W → Calls Tryz.prog 10 #[] W fun r w' => r = .returned (.bool true) ∧ Below W.heap.size W w') := fun W hW => trlive_any W (he.below hW)
  obtain ⟨hs1, hs2⟩ := rsg_small s
  generalize rsg s = D at *
  obtain ⟨D1, D2, D3⟩ := D
  dsimp only at hs1 hs2
  have c3 : Hid (∀ (W : World) (A B : Value), SigAt W A D3 → SigAt W B D3 → Calls Tryz.prog 17 #[A, B] W fun r w' => r = .returned (.bool true) ∧ Below W.heap.size W w') := fun W A B hA hB => rssame_yes A B D3 W hA hB (by omega) (fun e he => by have := hs2 e he; omega)
  have HA : Hid (∀ i (hi : i < D3.length), D3[i].kinds.length ≤ 6) := fun i hi => hs2 _ (List.getElem_mem hi)
  clear he hs2
  have eq1 : (D1 == D1) = true := by simp
  have eq2 : (D2 == D2) = true := by simp
  go_enter Tryz.func5, Tryz.ntmps5
  go_wp2_with fail
  refine (c1.out _ (by go_grown)).mono ?_
  rintro r w1 ⟨hb1, pe, ce, rfl, ho1⟩
  dsimp only at ho1 ⊢
  obtain ⟨m, em⟩ : ∃ m : Nat, Hid (D3.length = m) := ⟨_, rfl⟩
  have HO1 : Hid (OwnG w.heap.size (.slice pe m ce) D3 w1) := by have h := ho1; rwa [em.out] at h
  rw [em.out] at hs1 ⊢
  clear ho1
  have hB1 : Below w.heap.size w w1 := hb1
  clear hb1
  go_wp2_with fail
  refine (c2.out _).mono ?_
  rintro r w2 ⟨hb2, pq, cq, rfl, ho2⟩
  dsimp only at ho2 ⊢
  have HP1 : Hid (w2.heap[w1.heap.size]? = some (.cells #[.int .i64 D1, .int .i64 D2] 34 (0, 0))) := (hb2.block _ (by simp)).trans (by show (w1.heap.push _)[w1.heap.size]? = _; rw [Array.getElem?_push, if_pos rfl])
  have z2 : w1.heap.size + 1 ≤ w2.heap.size := by have := hb2.size; simp at this; omega
  have HO2 : Hid (OwnG (w1.heap.size + 1) (.slice pq m cq) D3 w2) := by have h := ho2; rw [em.out] at h; exact h.base (by simp)
  obtain ⟨hB2, -⟩ := bgX (n := w1.heap.size) (W0 := w1) (by go_grown) (by go_size) hb2
  rw [em.out]
  clear hb2 ho2 c2
  have z2' : w1.heap.size < w2.heap.size := by omega
  have HO1b : Hid (OwnG w.heap.size (.slice pe m ce) D3 w2) := HO1.out.below hB2
  have p1 : w2.cell? ⟨w1.heap.size, 0, none⟩ = some (.int .i64 D1) := by rw [Lib.cell_of_heap HP1.out]; rfl
  have p2 : w2.cell? ⟨w1.heap.size, 1, none⟩ = some (.int .i64 D2) := by rw [Lib.cell_of_heap HP1.out]; rfl
  have ct3 : Hid (Calls Tryz.prog 17 #[.slice pe m ce, .slice pq m cq] (w2.alloc (.cells #[.int .i64 D1, .int .i64 D2] 34)) fun r w' => r = .returned (.bool true) ∧ Below (w2.alloc (.cells #[.int .i64 D1, .int .i64 D2] 34)).heap.size (w2.alloc (.cells #[.int .i64 D1, .int .i64 D2] 34)) w') := c3.out _ _ _ ((HO1b.out.below ((Below.refl _ _).alloc (Nat.le_refl _) _)).at) ((HO2.out.below ((Below.refl _ _).alloc (Nat.le_refl _) _)).at)
  go_wp2_with fail
  refine ct3.out.mono ?_
  rintro r w3 ⟨rfl, hb3⟩
  clear ct3 p1 p2
  have z3 : w2.heap.size + 1 ≤ w3.heap.size := by have := hb3.size; simp at this; omega
  have HP2 : Hid (w3.heap[w2.heap.size]? = some (.cells #[.int .i64 D1, .int .i64 D2] 34 (0, 0))) := (hb3.block _ (by simp)).trans (by show (w2.heap.push _)[w2.heap.size]? = _; rw [Array.getElem?_push, if_pos rfl])
  obtain ⟨hB3, -⟩ := bgX (n := w2.heap.size) (W0 := w2) (by go_grown) (by go_size) hb3
  clear hb3
  have hB13 : Below w1.heap.size w1 w3 := hB2.trans (hB3.mono hB2.size)
  have HO2c : Hid (OwnG (w1.heap.size + 1) (.slice pq m cq) D3 w3) := HO2.out.below hB3
  have hB03 : Below w.heap.size w w3 := hB1.trans (hB13.mono hB1.size)
  have zN : w.heap.size ≤ w1.heap.size := hB1.size
  have PA : Hid (∀ i, i < m → ∃ g cur pu nu cu, pe = some ⟨g, 0, none⟩ ∧ w.heap.size ≤ g ∧ g < w1.heap.size ∧ w3.heap[g]? = some (.cells cur 40 (0, 0)) ∧ i * 2 + 1 < cur.size ∧ cur[i * 2 + 1]? = some (.slice pu nu cu) ∧ nu ≤ 6 ∧ (nu = 0 ∨ ∃ b cb, pu = some ⟨b, 0, none⟩ ∧ w.heap.size ≤ b ∧ b < w1.heap.size ∧ w3.heap[b]? = some (.cells cb 3 (0, 0)) ∧ nu ≤ cb.size)) := fun i hi => by
    have hi' : i < D3.length := by have := em.out; omega
    obtain ⟨g, cur, pu, cu, e1, e2, e3, e4, e5, e6, e7⟩ := HO1.out.parts i hi'
    refine ⟨g, cur, pu, D3[i].kinds.length, cu, e1, e2, e3, (hB13.block _ e3).trans e4, e5, e6, HA.out i hi', ?_⟩
    rcases e7 with e7 | ⟨b, cb, y1, y2, y3, y4, y5⟩
    · exact Or.inl e7
    · exact Or.inr ⟨b, cb, y1, y2, y3, (hB13.block _ y3).trans y4, y5⟩
  obtain ⟨g, eg⟩ : ∃ g : Nat, Hid (∀ q, pe = some ⟨q, 0, none⟩ → q = g) := by
    cases pe with
    | none => exact ⟨0, fun q h => by cases h⟩
    | some a => exact ⟨a.block, fun q h => by injection h with h; rw [h]⟩
  clear HO1 HO1b HO2 HP1 hB2 hB3 HA
  have zM : w1.heap.size < w3.heap.size := by omega
  have zM2 : w2.heap.size < w3.heap.size := by omega
  go_wp2
  go_loopw [8] (fun v wr => ∃ i : Nat, i ≤ m ∧ v = .int .i64 i ∧ Hid (Spl w.heap.size w1.heap.size g 40 3 (i * 2) w3 wr)) (fun v _ => m - (intOf v).toNat)
  case atStart => exact ⟨0, Nat.zero_le _, rfl, Spl.refl _ _ _ _ _ _⟩
  case round =>
    obtain ⟨i, hi, rfl, hS⟩ := hrel
    by_cases hlt : i < m
    · have hlt' : (i : Int) < m := by omega
      obtain ⟨g', cur, pu, nu, cu, e1, e2, e3, e4, e5, e6, e7, e8⟩ := PA.out i hlt
      obtain rfl := eg.out g' e1
      subst e1
      have CE : Hid (w3.heap[g']? = some (.cells cur 40 (0, 0))) := e4
      have RD : Hid (∀ W, Spl w.heap.size w1.heap.size g' 40 3 (i * 2) w3 W → W.cell? ⟨g', i * 2 + 1, none⟩ = some (.slice pu nu cu)) := fun W hW => by
        obtain ⟨cur', q1, q2, q3⟩ := hW.2.2.2.2 cur CE.out
        rw [Lib.cell_of_heap q1, q3 _ (by omega)]; exact e6
      have hnu : nu ≤ 6 := e7
      clear e4
      go_wp2
      go_loopw [9] (fun v wr => ∃ k : Nat, k ≤ nu ∧ v = .int .i64 k ∧ Hid (Spl w.heap.size w1.heap.size g' 40 3 (i * 2) w3 wr)) (fun v _ => nu - (intOf v).toNat)
      case atStart => exact ⟨0, Nat.zero_le _, rfl, hS⟩
      case round =>
        clear hS
        obtain ⟨k, hk, rfl, hS⟩ := hrel
        have t2 := RD.out _ hS.out
        by_cases hlk : k < nu
        · have hlk' : (k : Int) < nu := by omega
          rcases e8 with e8 | ⟨b, cb, rfl, y2, y3, y4, y5⟩
          · omega
          obtain ⟨cb', q1, q2⟩ := hS.out.2.2.2.1 b cb y4
          have z0 : k < cb'.size := by omega
          have x0 : wr.cell? ⟨b, k, none⟩ = some cb'[k] := by rw [Lib.cell_of_heap q1]; exact Array.getElem?_eq_getElem z0
          generalize cb'[k] = o0 at x0
          have f0 : wr.frozen? ⟨b, k, none⟩ = false := Lib.frozen_of_heap q1 _
          have S4 : Hid (Spl w.heap.size w1.heap.size g' 40 3 (i * 2) w3 (wr.setCell ⟨b, k, none⟩ (.int .i64 77))) := hS.out.arg y4 y2 y3 (by decide)
          clear q1 q2 z0 hS y4 y5
          go_wp2
          exact ⟨⟨k + 1, by omega, by go_num, S4⟩, by simp [intOf]; omega⟩
        · have c2 : ¬ (k : Int) < nu := by omega
          obtain ⟨cur', q1, q2, q3⟩ := hS.out.2.2.2.2 cur CE.out
          have z0 : i * 2 < cur'.size := by omega
          have z1 : i * 2 + 1 < cur'.size := by omega
          have x0 : wr.cell? ⟨g', i * 2, none⟩ = some cur'[i * 2] := by rw [Lib.cell_of_heap q1]; exact Array.getElem?_eq_getElem z0
          generalize cur'[i * 2] = o0 at x0
          have f0 : wr.frozen? ⟨g', i * 2, none⟩ = false := Lib.frozen_of_heap q1 _
          have f1 : wr.frozen? ⟨g', i * 2 + 1, none⟩ = false := Lib.frozen_of_heap q1 _
          have S4 : Hid (Spl w.heap.size w1.heap.size g' 40 3 ((i + 1) * 2) w3 ((wr.setCell ⟨g', i * 2, none⟩ (.string ⟨#[64]⟩)).setCell ⟨g', i * 2 + 1, none⟩ (.slice none 0 0))) := (hS.out.out (c1 := (i + 1) * 2) CE.out e2 e3 (by decide) (by omega) (by omega)).out CE.out e2 e3 (by decide) (Nat.le_refl _) (by omega)
          clear q1 q2 q3 z0 z1 hS
          go_wp2
          exact ⟨⟨i + 1, by omega, by go_num, S4⟩, by simp [intOf]; omega⟩
    · have c2 : ¬ (i : Int) < m := by omega
      have hBr : Below w.heap.size w wr := hB03.trans (hS.out.1.mono (Nat.le_refl _))
      have HOr : Hid (OwnG (w1.heap.size + 1) (.slice pq m cq) D3 wr) := HO2c.out.above (fun k hk => hS.out.2.2.1 k (by omega))
      have HPr : Hid (wr.heap[w2.heap.size]? = some (.cells #[.int .i64 D1, .int .i64 D2] 34 (0, 0))) := (hS.out.2.2.1 _ (by omega)).trans HP2.out
      have zr : w2.heap.size < wr.heap.size := by have := hS.out.2.1; omega
      clear hS PA eg HO2c HP2
      go_wp2_with fail
      refine (c1.out _ hBr).mono ?_
      rintro r w5 ⟨hb5, pr, cr, rfl, ho5⟩
      dsimp only at ho5 ⊢
      have HO5 : Hid (OwnG wr.heap.size (.slice pr m cr) D3 w5) := by have h := ho5; rwa [em.out] at h
      have HQ5 : Hid (OwnG (w1.heap.size + 1) (.slice pq m cq) D3 w5) := HOr.out.below hb5
      have HP5 : Hid (w5.heap[w2.heap.size]? = some (.cells #[.int .i64 D1, .int .i64 D2] 34 (0, 0))) := (hb5.block _ zr).trans HPr.out
      have hB5 : Below w.heap.size w w5 := hBr.trans (hb5.mono hBr.size)
      have z5 : w2.heap.size < w5.heap.size := Nat.lt_of_lt_of_le zr hb5.size
      rw [em.out]
      clear ho5 hb5 HOr HPr c1
      go_wp2_with fail
      refine (c5.out _ (hB5.alloc hB5.size _)).mono ?_
      rintro r w6 ⟨rfl, hb6⟩
      have HP6 : Hid (w6.heap[w2.heap.size]? = some (.cells #[.int .i64 D1, .int .i64 D2] 34 (0, 0))) := (hb6.block _ (by simp; omega)).trans (by show (w5.heap.push _)[w2.heap.size]? = _; rw [Array.getElem?_push, if_neg (by omega)]; exact HP5.out)
      have HR6 : Hid (w6.heap[w5.heap.size]? = some (.cells #[.int .i64 D1, .int .i64 D2] 34 (0, 0))) := (hb6.block _ (by simp)).trans (by show (w5.heap.push _)[w5.heap.size]? = _; rw [Array.getElem?_push, if_pos rfl])
      obtain ⟨hB6, -⟩ := bgX (n := w5.heap.size) (W0 := w5) (by go_grown) (by go_size) hb6
      have a1 : w6.cell? ⟨w2.heap.size, 0, none⟩ = some (.int .i64 D1) := by rw [Lib.cell_of_heap HP6.out]; rfl
      have a2 : w6.cell? ⟨w2.heap.size, 1, none⟩ = some (.int .i64 D2) := by rw [Lib.cell_of_heap HP6.out]; rfl
      have a3 : w6.cell? ⟨w5.heap.size, 0, none⟩ = some (.int .i64 D1) := by rw [Lib.cell_of_heap HR6.out]; rfl
      have a4 : w6.cell? ⟨w5.heap.size, 1, none⟩ = some (.int .i64 D2) := by rw [Lib.cell_of_heap HR6.out]; rfl
      have ct3 : Hid (Calls Tryz.prog 17 #[.slice pr m cr, .slice pq m cq] w6 fun r w' => r = .returned (.bool true) ∧ Below w6.heap.size w6 w') := c3.out _ _ _ ((HO5.out.below hB6).at) ((HQ5.out.below hB6).at)
      have K6 : Below w.heap.size w w6 := hB5.trans (hB6.mono hB5.size)
      clear hb6 c5 c3 HP6 HR6 HP5 HO5 HQ5
      go_wp2_with fail
      refine ct3.out.mono ?_
      rintro r w7 ⟨rfl, hb7⟩
      have K7 : Below w.heap.size w w7 := K6.trans (hb7.mono K6.size)
      clear ct3 hb7 a1 a2 a3 a4
      go_wp2
      go_ret
      exact ⟨by first | rfl | simp, K7⟩

end Go.Proofs.YticmebamclacaaaGreatDoor

namespace Go.Proofs.YticmebamclacaaaGreatDoor
open Go.RowKit LX Go.Shelf
set_option linter.unusedVariables false

theorem PpOut.no2 {N : Nat} {w w' : World} {D : Int × Int × List Evt} {r : Ending} {E : Int} (hb : Below N w w') (h : D = (E, 0, [])) (hr : r = .returned (.tuple #[.agg #[.int .i64 0, .slice none 0 0], .int .i64 E])) : PpOut N w D r w' := by
  subst h
  exact ⟨hb, none, 0, hr, [], ⟨rfl, .inl ⟨rfl, rfl⟩⟩, trivial⟩
theorem PpOut.yes2 {N : Nat} {w w' : World} {D : Int × Int × List Evt} {r : Ending} {t : Int} {es : List Evt} {p : Option Addr} {m c : Nat} (hb : Below N w w') (h : D = (0, t, es)) (hm : m = es.length) (hr : r = .returned (.tuple #[.agg #[.int .i64 t, .slice p m c], .int .i64 0])) (ho : OwnE N (.slice p m c) es w') : PpOut N w D r w' := by
  subst h hm
  exact ⟨hb, p, c, hr, ho⟩
theorem rdE_no1 {L : List (Tok Val)} (h : ∀ t ∈ L.head?, ¬ t.x = [40]) : rdE L = none := by
  match L with
  | [] => rfl
  | [_] => rfl
  | a :: b :: l =>
    show (if a.x = [40] ∧ nameL b.x = true then _ else none) = none
    rw [if_neg (fun h' => h a (by simp) h'.1)]
theorem rdE_no2 {L : List (Tok Val)} (h : L.length < 2) : rdE L = none := by
  match L, h with
  | [], _ => rfl
  | [_], _ => rfl
theorem rdE_at {TL : List (Tok Val)} {k : Nat} (h : k + 1 < TL.length) : rdE (TL.drop k) = if TL[k].x = [40] ∧ nameL TL[k + 1].x = true then (rdA [] 2 (TL.drop (k + 2))).map (fun p => (⟨⟨TL[k + 1].x.toArray⟩, p.1⟩, p.2)) else none := by
  rw [List.drop_eq_getElem_cons (show k < TL.length by omega), List.drop_eq_getElem_cons h]
  rfl
/-- What stands behind one event more. -/
theorem es_step {w W W2 : World} {P : Nat} {tn : Int} {V v' u : Value} {es : List Evt} {zs : List Value} {e : Evt} {o : Obj} (hp : W.heap[P]? = some (.cells #[.int .i64 tn, V] 26 (0, 0))) (hP : P + 1 ≤ W.heap.size) (h0 : Below P w W)
    (ho : W.ownsRow (P + 1) 48 2 V es.length zs) (hc : EvC (P + 1) W es zs) (hu : OwnVs (P + 1) u e.args W)
    (h2 : W2.ownsRow (P + 1) 48 2 v' (es.length + 1) (zs ++ [.string e.name, u])) (h3 : (W.alloc o).grownBy W2 V.ownBlock) :
    ∃ p c, v' = .slice p (es.length + 1) c ∧ W2.cell? ⟨P, 1, none⟩ = some V ∧ W2.frozen? ⟨P, 1, none⟩ = false ∧ (W2.setCell ⟨P, 1, none⟩ v').heap[P]? = some (.cells #[.int .i64 tn, v'] 26 (0, 0)) ∧ OwnE (P + 1) v' (es ++ [e]) (W2.setCell ⟨P, 1, none⟩ v') ∧ Below P w (W2.setCell ⟨P, 1, none⟩ v') ∧ P + 1 ≤ (W2.setCell ⟨P, 1, none⟩ v').heap.size := by
  have ho1 := World.ownsRow.alloc ho o
  have hne : ∀ k, k < P + 1 → V.ownBlock ≠ some k := fun k hk e => by have := (World.ownsRow.lt ho k e).1; omega
  have keep : ∀ k, k < P + 1 → W2.heap[k]? = W.heap[k]? := fun k hk => by
    have e1 := h3.block k (by simp; omega) (fun e => hne k hk e.symm)
    rw [e1]
    show (W.heap.push _)[k]? = _
    rw [Array.getElem?_push, if_neg (by omega)]
  have hp2 : W2.heap[P]? = some (.cells #[.int .i64 tn, V] 26 (0, 0)) := (keep P (by omega)).trans hp
  have hE : OwnE (P + 1) v' (es ++ [e]) W2 := evs_step (zs := zs) (u := u) (by simp; omega) ho1 (hc.mono fun b xs k => World.ownsRow.alloc k _) (World.ownsRow.alloc hu _) h2 h3
  obtain ⟨p, c, rfl⟩ := hE.form
  have hB2 : Below P w W2 := Below.grown (h0.alloc (by omega) _) h3 (by simp; omega) (fun q hq => by have := (World.ownsRow.lt ho q hq).1; omega)
  have hs2 : P + 1 ≤ W2.heap.size := Nat.le_trans hP (Nat.le_trans (by simp) h3.size)
  have hl : (es ++ [e]).length = es.length + 1 := by simp
  have hg := grownBy_setX W2 P 1 (.slice p (es ++ [e]).length c)
  refine ⟨p, c, by rw [hl], by rw [Lib.cell_of_heap hp2]; rfl, Lib.frozen_of_heap hp2 1, ?_, ?_, ?_, ?_⟩
  · show (W2.heap.modify P _)[P]? = _
    rw [Array.getElem?_modify, if_pos rfl, hp2]
    rfl
  · exact own_setE hE (a := ⟨P, 1, none⟩) (by simp) _
  · exact hB2.setCell (p := ⟨P, 1, none⟩) (Nat.le_refl _) _
  · exact Nat.le_trans hs2 hg.size

set_option maxRecDepth 100000 in
set_option maxHeartbeats 16000000 in
theorem rparsept_any (s : ByteArray) (w : World) :
    Calls Tryz.prog 20 #[.string s] w fun r w' => PpOut w.heap.size w (rdP s) r w' := by
  obtain ⟨i0, hi, hz0, hz1, hz2⟩ := info_parts inV
  obtain ⟨j0, hj, hy0, hy1, hy2⟩ := info_parts inE
  have hD : Hid (rdP s = if cutE s = 0 then rdL (tks s) else (cutE s, 0, [])) := rfl
  by_cases h : 4096 < s.size
  · have hE : Hid (rdP s = (2, 0, [])) := by have hh := hD.out; rwa [show cutE s = 2 from if_pos h, if_neg (by decide)] at hh
    have h' : (4096 : Int) < s.size := by omega
    generalize rdP s = D at *
    go_enter Tryz.func20, Tryz.ntmps20
    go_wp2
    refine bodyPost_ret (by simp [results, Tryz.results20, go_sem]; try rfl) rfl ?_
    exact PpOut.no2 (by go_grown) hE.out rfl
  have h' : ¬ (4096 : Int) < s.size := by omega
  have ct : Hid (∀ W : World, Calls Tryz.prog 42 #[.string s] W fun e w' => Below W.heap.size W w' ∧ ((∃ p : Nat, (T sdB s.data.toList 0).2 = some p ∧ e = .returned (.tuple #[.slice none 0 0, .int .i64 50, .int .i64 p])) ∨ ((T sdB s.data.toList 0).2 = none ∧ ∃ v, e = .returned (.tuple #[v, .int .i64 0, .int .i64 0]) ∧ OwnR7 W.heap.size v (T sdB s.data.toList 0).1 w'))) := fun W => rtokens_run s W (by omega)
  have hE : Hid (cutE s = if (T sdB s.data.toList 0).2 = none then 0 else 50) := if_neg h
  have hTl : Hid ((tks s).length ≤ 4096) := by
    have h2 := T_lenX s.data.toList.length s.data.toList (Nat.le_refl _) 0
    have h3 : s.data.toList.length = s.size := by simp
    unfold Hid tks
    omega
  have hKt : Hid (∀ t ∈ tks s, Kt t) := tks_kt s
  generalize rdP s = D at *
  go_enter Tryz.func20, Tryz.ntmps20
  go_wp2_with fail
  refine (ct.out _).mono ?_
  rintro e w1 ⟨hb1, hor⟩
  have q0 : w1.cell? ⟨w.heap.size, 0, none⟩ = some (.int .i64 0) := (hb1.cell (p := ⟨w.heap.size, 0, none⟩) (by simp)).trans (by simp [go_sem])
  have q1 : w1.cell? ⟨w.heap.size, 1, none⟩ = some (.slice none 0 0) := (hb1.cell (p := ⟨w.heap.size, 1, none⟩) (by simp)).trans (by simp [go_sem])
  have f0 : w1.frozen? ⟨w.heap.size, 0, none⟩ = false := (hb1.frozen (p := ⟨w.heap.size, 0, none⟩) (by simp)).trans (by simp [go_sem])
  have f1 : w1.frozen? ⟨w.heap.size, 1, none⟩ = false := (hb1.frozen (p := ⟨w.heap.size, 1, none⟩) (by simp)).trans (by simp [go_sem])
  have hs1 : w.heap.size < w1.heap.size := by have := hb1.size; simp at this; omega
  obtain ⟨hB1, -⟩ := bgX (n := w.heap.size) (W0 := w) (by go_grown) (by go_size) hb1
  clear hb1 ct
  rcases hor with ⟨q, hq, rfl⟩ | ⟨hq, v, rfl, hO⟩
  · have hE2 : Hid (D = (50, 0, [])) := by have hh := hD.out; rwa [show cutE s = 50 from hE.out.trans (if_neg (by rw [hq]; simp)), if_neg (by decide)] at hh
    clear hE hq hD hTl hKt
    have g0 : ((w1.setCell ⟨w.heap.size, 0, none⟩ (.int .i64 0)).setCell ⟨w.heap.size, 1, none⟩ (.slice none 0 0)).cell? ⟨w.heap.size, 0, none⟩ = some (.int .i64 0) := by simp (maxDischargeDepth := 8) [go_sem, q0]
    have g1 : ((w1.setCell ⟨w.heap.size, 0, none⟩ (.int .i64 0)).setCell ⟨w.heap.size, 1, none⟩ (.slice none 0 0)).cell? ⟨w.heap.size, 1, none⟩ = some (.slice none 0 0) := by simp (maxDischargeDepth := 8) [go_sem, q1]
    have K9 : Below w.heap.size w ((w1.setCell ⟨w.heap.size, 0, none⟩ (.int .i64 0)).setCell ⟨w.heap.size, 1, none⟩ (.slice none 0 0)) := (hB1.setCell (p := ⟨w.heap.size, 0, none⟩) (Nat.le_refl _) _).setCell (p := ⟨w.heap.size, 1, none⟩) (Nat.le_refl _) _
    go_wp2
    generalize (w1.setCell ⟨w.heap.size, 0, none⟩ (.int .i64 0)).setCell ⟨w.heap.size, 1, none⟩ (.slice none 0 0) = W9 at g0 g1 K9 ⊢
    refine bodyPost_ret (by simp [results, Tryz.results20, go_sem, g0, g1]; try rfl) rfl ?_
    exact PpOut.no2 K9 hE2.out rfl
  have hE2 : Hid (D = rdL (tks s)) := by have hh := hD.out; rwa [if_pos (hE.out.trans (if_pos hq))] at hh
  have hT : Hid (ToksAt w1 v (tks s)) := OwnR7.at hO
  clear hE hq hD hO
  generalize tks s = TL at *
  obtain ⟨p, c, rfl, hc, HX⟩ := hT.out.form
  cases TL with
  | nil =>
    have hE : Hid (D = (70, 0, [])) := hE2.out
    simp only [List.length_nil]
    have g0 : ((w1.setCell ⟨w.heap.size, 0, none⟩ (.int .i64 0)).setCell ⟨w.heap.size, 1, none⟩ (.slice none 0 0)).cell? ⟨w.heap.size, 0, none⟩ = some (.int .i64 0) := by simp (maxDischargeDepth := 8) [go_sem, q0]
    have g1 : ((w1.setCell ⟨w.heap.size, 0, none⟩ (.int .i64 0)).setCell ⟨w.heap.size, 1, none⟩ (.slice none 0 0)).cell? ⟨w.heap.size, 1, none⟩ = some (.slice none 0 0) := by simp (maxDischargeDepth := 8) [go_sem, q1]
    have K9 : Below w.heap.size w ((w1.setCell ⟨w.heap.size, 0, none⟩ (.int .i64 0)).setCell ⟨w.heap.size, 1, none⟩ (.slice none 0 0)) := (hB1.setCell (p := ⟨w.heap.size, 0, none⟩) (Nat.le_refl _) _).setCell (p := ⟨w.heap.size, 1, none⟩) (Nat.le_refl _) _
    go_wp2
    generalize (w1.setCell ⟨w.heap.size, 0, none⟩ (.int .i64 0)).setCell ⟨w.heap.size, 1, none⟩ (.slice none 0 0) = W9 at g0 g1 K9 ⊢
    refine bodyPost_ret (by simp [results, Tryz.results20, go_sem, g0, g1]; try rfl) rfl ?_
    exact PpOut.no2 K9 hE.out rfl
  | cons t L =>
  have hD2 : Hid (D = if t.k = 7 then rdM t.v.n (rdEs (L.length + 1) [] L) else (70, 0, [])) := hE2.out
  clear hE2
  obtain ⟨b, off, rfl, hb, TK⟩ := HX 0 (by simp)
  simp only [Nat.zero_mul, Nat.add_zero, List.getElem_cons_zero] at TK
  obtain ⟨a0, a1, a2, a3, a4, a5, a6⟩ := TK
  have HX2 : Hid (∀ i (hi : i < (t :: L).length), TokC w1 b (off + i * 7) (t :: L)[i]) := fun i hi => by
    obtain ⟨b', off', e9, -, h9⟩ := HX i hi
    injection e9 with e9
    injection e9 with e1 e2 e3
    subst e1 e2
    exact h9
  clear HX
  obtain ⟨n, en⟩ : ∃ n : Nat, Hid ((t :: L).length = n) := ⟨_, rfl⟩
  have l4 : n ≤ 4096 := by have := en.out; have := hTl.out; omega
  have hn1 : 1 ≤ n := by have := en.out; simp at this; omega
  rw [en.out] at hc ⊢
  clear hT hTl
  have hn0 : ((n : Int) == 0) = false := by simp; omega
  have hn' : (0 : Int) < n := by omega
  by_cases h7 : t.k = 7
  case neg =>
    have hE : Hid (D = (70, 0, [])) := by have h := hD2.out; rwa [if_neg h7] at h
    have h7' : (((t.k : Nat) : Int) == 7) = false := by simp; omega
    have h7'' : (((t.k : Nat) : Int) != 7) = true := by simp; omega
    generalize t.k = tk at a0 h7' h7''
    have g0 : ((w1.setCell ⟨w.heap.size, 0, none⟩ (.int .i64 0)).setCell ⟨w.heap.size, 1, none⟩ (.slice none 0 0)).cell? ⟨w.heap.size, 0, none⟩ = some (.int .i64 0) := by simp (maxDischargeDepth := 8) [go_sem, q0]
    have g1 : ((w1.setCell ⟨w.heap.size, 0, none⟩ (.int .i64 0)).setCell ⟨w.heap.size, 1, none⟩ (.slice none 0 0)).cell? ⟨w.heap.size, 1, none⟩ = some (.slice none 0 0) := by simp (maxDischargeDepth := 8) [go_sem, q1]
    have K9 : Below w.heap.size w ((w1.setCell ⟨w.heap.size, 0, none⟩ (.int .i64 0)).setCell ⟨w.heap.size, 1, none⟩ (.slice none 0 0)) := (hB1.setCell (p := ⟨w.heap.size, 0, none⟩) (Nat.le_refl _) _).setCell (p := ⟨w.heap.size, 1, none⟩) (Nat.le_refl _) _
    go_wp2
    generalize (w1.setCell ⟨w.heap.size, 0, none⟩ (.int .i64 0)).setCell ⟨w.heap.size, 1, none⟩ (.slice none 0 0) = W9 at g0 g1 K9 ⊢
    refine bodyPost_ret (by simp [results, Tryz.results20, go_sem, g0, g1]; try rfl) rfl ?_
    exact PpOut.no2 K9 hE.out rfl
  have hD3 : Hid (D = rdM t.v.n (rdEs (L.length + 1) [] L)) := by have h := hD2.out; rwa [if_pos h7] at h
  have h7' : (((t.k : Nat) : Int) == 7) = true := by simp; omega
  have h7'' : (((t.k : Nat) : Int) != 7) = false := by simp; omega
  clear hD2 h7
  generalize t.k = tk at a0 h7' h7''
  obtain ⟨tn, etn⟩ : ∃ tn : Int, Hid (t.v.n = tn) := ⟨_, rfl⟩
  rw [etn.out] at a4 hD3
  go_wp2
  refine wpX_world ?_
  intro W0 hW0
  have HP0 : Hid (W0.heap[w1.heap.size]? = some (.cells #[.int .i64 tn, .slice none 0 0] 26 (0, 0))) := by
    unfold Hid
    rw [hW0]
    show (w1.heap.push _)[w1.heap.size]? = _
    rw [Array.getElem?_push, if_pos rfl]
  have k0 : Below w1.heap.size w1 W0 := by rw [hW0]; go_grown
  have k1 : w1.heap.size + 1 ≤ W0.heap.size := by rw [hW0]; simp
  clear hW0 a0 a1 a2 a3 a4 a5 a6 h7' h7'' etn
  have RES : Hid (∀ W : World, Below w1.heap.size w1 W → W.cell? ⟨w.heap.size, 0, none⟩ = some (.int .i64 0) ∧ W.cell? ⟨w.heap.size, 1, none⟩ = some (.slice none 0 0) ∧ W.frozen? ⟨w.heap.size, 0, none⟩ = false ∧ W.frozen? ⟨w.heap.size, 1, none⟩ = false ∧ Below w.heap.size w W) := fun W hW =>
    ⟨(hW.cell (p := ⟨w.heap.size, 0, none⟩) hs1).trans q0, (hW.cell (p := ⟨w.heap.size, 1, none⟩) hs1).trans q1, (hW.frozen (p := ⟨w.heap.size, 0, none⟩) hs1).trans f0, (hW.frozen (p := ⟨w.heap.size, 1, none⟩) hs1).trans f1, hB1.trans (hW.mono hB1.size)⟩
  go_loopw [8] (fun i wr => ∃ (k f : Nat) (es : List Evt) (V : Value), 1 ≤ k ∧ k ≤ n ∧ es.length ≤ k ∧ i = .int .i64 k ∧ Hid (rdEs (L.length + 1) [] L = rdEs f es ((t :: L).drop k)) ∧ n - k < f ∧ Hid (wr.heap[w1.heap.size]? = some (.cells #[.int .i64 tn, V] 26 (0, 0))) ∧ Hid (OwnE (w1.heap.size + 1) V es wr) ∧ Below w1.heap.size w1 wr ∧ w1.heap.size + 1 ≤ wr.heap.size) (fun i _ => n - (intOf i).toNat)
  case atStart => exact ⟨1, L.length + 1, [], .slice none 0 0, Nat.le_refl _, hn1, by simp, rfl, (show rdEs (L.length + 1) [] L = rdEs (L.length + 1) [] L from rfl), by have := en.out; simp at this; omega, HP0, ⟨[], ⟨rfl, .inl ⟨rfl, rfl⟩⟩, trivial⟩, k0, k1⟩
  case round =>
    obtain ⟨k, f, es, V, hk1, hk, hes, rfl, hr, hf, hp, hO, hBw, hsz⟩ := hrel
    obtain ⟨f, rfl⟩ : ∃ f', f = f' + 1 := ⟨f - 1, by omega⟩
    obtain ⟨pV, cV, rfl⟩ := hO.out.form
    have hBN : Below w.heap.size w wr := hB1.trans (hBw.mono hB1.size)
    have q0' : wr.cell? ⟨w.heap.size, 0, none⟩ = some (.int .i64 0) := (hBw.cell (p := ⟨w.heap.size, 0, none⟩) hs1).trans q0
    have q1' : wr.cell? ⟨w.heap.size, 1, none⟩ = some (.slice none 0 0) := (hBw.cell (p := ⟨w.heap.size, 1, none⟩) hs1).trans q1
    have f0' : wr.frozen? ⟨w.heap.size, 0, none⟩ = false := (hBw.frozen (p := ⟨w.heap.size, 0, none⟩) hs1).trans f0
    have f1' : wr.frozen? ⟨w.heap.size, 1, none⟩ = false := (hBw.frozen (p := ⟨w.heap.size, 1, none⟩) hs1).trans f1
    have p0 : wr.cell? ⟨w1.heap.size, 0, none⟩ = some (.int .i64 tn) := by rw [Lib.cell_of_heap hp.out]; rfl
    have p1 : wr.cell? ⟨w1.heap.size, 1, none⟩ = some (.slice pV es.length cV) := by rw [Lib.cell_of_heap hp.out]; rfl
    obtain ⟨m, em⟩ : ∃ m : Nat, Hid (es.length = m) := ⟨_, rfl⟩
    have HO : Hid (OwnE (w1.heap.size + 1) (.slice pV m cV) es wr) := by have h := hO.out; rwa [em.out] at h
    have HP : Hid (wr.heap[w1.heap.size]? = some (.cells #[.int .i64 tn, .slice pV m cV] 26 (0, 0))) := by have h := hp.out; rwa [em.out] at h
    rw [em.out] at p1 hes
    clear hO hp
    by_cases hlt : k < n
    case neg =>
      have hkn : k = n := by omega
      have c2 : ¬ (k : Int) < n := by omega
      have hE : Hid (D = if 64 < es.length then (3, 0, []) else (0, tn, es)) := by
        have h := hD3.out
        rw [hr.out, List.drop_eq_nil_of_le (by have := en.out; omega), rdEs_nil] at h
        exact h
      by_cases h64 : 64 < m
      · have hE3 : Hid (D = (3, 0, [])) := by have h := hE.out; rwa [if_pos (by have := em.out; omega)] at h
        have h64' : (64 : Int) < m := by omega
        have g0 : ((wr.setCell ⟨w.heap.size, 0, none⟩ (.int .i64 0)).setCell ⟨w.heap.size, 1, none⟩ (.slice none 0 0)).cell? ⟨w.heap.size, 0, none⟩ = some (.int .i64 0) := by simp (maxDischargeDepth := 8) [go_sem, q0']
        have g1 : ((wr.setCell ⟨w.heap.size, 0, none⟩ (.int .i64 0)).setCell ⟨w.heap.size, 1, none⟩ (.slice none 0 0)).cell? ⟨w.heap.size, 1, none⟩ = some (.slice none 0 0) := by simp (maxDischargeDepth := 8) [go_sem, q1']
        have K9 : Below w.heap.size w ((wr.setCell ⟨w.heap.size, 0, none⟩ (.int .i64 0)).setCell ⟨w.heap.size, 1, none⟩ (.slice none 0 0)) := (hBN.setCell (p := ⟨w.heap.size, 0, none⟩) (Nat.le_refl _) _).setCell (p := ⟨w.heap.size, 1, none⟩) (Nat.le_refl _) _
        go_wp2
        generalize (wr.setCell ⟨w.heap.size, 0, none⟩ (.int .i64 0)).setCell ⟨w.heap.size, 1, none⟩ (.slice none 0 0) = W9 at g0 g1 K9 ⊢
        refine bodyPost_ret (by simp [results, Tryz.results20, go_sem, g0, g1]; try rfl) rfl ?_
        exact PpOut.no2 K9 hE3.out rfl
      · have hE3 : Hid (D = (0, tn, es)) := by have h := hE.out; rwa [if_neg (by have := em.out; omega)] at h
        have h64' : ¬ (64 : Int) < m := by omega
        have g0 : ((wr.setCell ⟨w.heap.size, 0, none⟩ (.int .i64 tn)).setCell ⟨w.heap.size, 1, none⟩ (.slice pV m cV)).cell? ⟨w.heap.size, 0, none⟩ = some (.int .i64 tn) := by simp (maxDischargeDepth := 8) [go_sem, q0']
        have g1 : ((wr.setCell ⟨w.heap.size, 0, none⟩ (.int .i64 tn)).setCell ⟨w.heap.size, 1, none⟩ (.slice pV m cV)).cell? ⟨w.heap.size, 1, none⟩ = some (.slice pV m cV) := by simp (maxDischargeDepth := 8) [go_sem, q1']
        have K9 : Below w.heap.size w ((wr.setCell ⟨w.heap.size, 0, none⟩ (.int .i64 tn)).setCell ⟨w.heap.size, 1, none⟩ (.slice pV m cV)) := (hBN.setCell (p := ⟨w.heap.size, 0, none⟩) (Nat.le_refl _) _).setCell (p := ⟨w.heap.size, 1, none⟩) (Nat.le_refl _) _
        have O9 : Hid (OwnE w.heap.size (.slice pV m cV) es ((wr.setCell ⟨w.heap.size, 0, none⟩ (.int .i64 tn)).setCell ⟨w.heap.size, 1, none⟩ (.slice pV m cV))) := (own_setE (own_setE HO.out (a := ⟨w.heap.size, 0, none⟩) (Nat.lt_succ_of_lt hs1) _) (a := ⟨w.heap.size, 1, none⟩) (Nat.lt_succ_of_lt hs1) _).base (by omega)
        go_wp2
        generalize (wr.setCell ⟨w.heap.size, 0, none⟩ (.int .i64 tn)).setCell ⟨w.heap.size, 1, none⟩ (.slice pV m cV) = W9 at g0 g1 K9 O9 ⊢
        refine bodyPost_ret (by simp [results, Tryz.results20, go_sem, g0, g1]; try rfl) rfl ?_
        exact PpOut.yes2 K9 hE3.out em.out.symm rfl O9.out
    have hlt' : (k : Int) < n := by omega
    have kx : k < (t :: L).length := by have := en.out; omega
    obtain ⟨a0, a1, a2, a3, a4, a5, a6⟩ := (HX2.out k kx).below hBw hb
    have Tk := hKt.out _ (List.getElem_mem kx)
    have hnone : Hid (rdE ((t :: L).drop k) = none → D = (70, 0, [])) := fun h => by
      have h' := hD3.out
      rw [hr.out, rdEs_none (by rw [List.length_drop]; omega) h] at h'
      exact h'
    obtain ⟨kk, ek⟩ : ∃ kk : Nat, Hid ((t :: L)[k].k = kk) := ⟨(t :: L)[k].k, (show _ = _ from rfl)⟩
    rw [ek.out] at a0
    by_cases h1 : kk = 1
    case neg =>
      have hE : Hid (D = (70, 0, [])) := hnone.out (rdE_no1 (fun y hy => by
        rw [List.drop_eq_getElem_cons kx] at hy
        simp only [List.head?_cons, Option.mem_some_iff] at hy
        subst hy
        intro hx
        have := Tk.o.1 hx
        have := ek.out
        omega))
      have h1' : ((kk : Int) != 1) = true := by simp; omega
      have h1'' : ¬ (kk : Int) = 1 := by omega
      clear Tk a1 a2 a3 a4 a5 a6 hr ek
      have g0 : ((wr.setCell ⟨w.heap.size, 0, none⟩ (.int .i64 0)).setCell ⟨w.heap.size, 1, none⟩ (.slice none 0 0)).cell? ⟨w.heap.size, 0, none⟩ = some (.int .i64 0) := by simp (maxDischargeDepth := 8) [go_sem, q0']
      have g1 : ((wr.setCell ⟨w.heap.size, 0, none⟩ (.int .i64 0)).setCell ⟨w.heap.size, 1, none⟩ (.slice none 0 0)).cell? ⟨w.heap.size, 1, none⟩ = some (.slice none 0 0) := by simp (maxDischargeDepth := 8) [go_sem, q1']
      have K9 : Below w.heap.size w ((wr.setCell ⟨w.heap.size, 0, none⟩ (.int .i64 0)).setCell ⟨w.heap.size, 1, none⟩ (.slice none 0 0)) := (hBN.setCell (p := ⟨w.heap.size, 0, none⟩) (Nat.le_refl _) _).setCell (p := ⟨w.heap.size, 1, none⟩) (Nat.le_refl _) _
      go_wp2
      generalize (wr.setCell ⟨w.heap.size, 0, none⟩ (.int .i64 0)).setCell ⟨w.heap.size, 1, none⟩ (.slice none 0 0) = W9 at g0 g1 K9 ⊢
      refine bodyPost_ret (by simp [results, Tryz.results20, go_sem, g0, g1]; try rfl) rfl ?_
      exact PpOut.no2 K9 hE.out rfl
    have h1' : ((kk : Int) != 1) = false := by simp; omega
    have h1'' : (kk : Int) = 1 := by omega
    by_cases hlt2 : k + 1 < n
    case neg =>
      have hE : Hid (D = (70, 0, [])) := hnone.out (rdE_no2 (by rw [List.length_drop]; have := en.out; omega))
      have hge : (n : Int) ≤ (k : Int) + 1 := by omega
      clear Tk a1 a2 a3 a4 a5 a6 hr ek
      have g0 : ((wr.setCell ⟨w.heap.size, 0, none⟩ (.int .i64 0)).setCell ⟨w.heap.size, 1, none⟩ (.slice none 0 0)).cell? ⟨w.heap.size, 0, none⟩ = some (.int .i64 0) := by simp (maxDischargeDepth := 8) [go_sem, q0']
      have g1 : ((wr.setCell ⟨w.heap.size, 0, none⟩ (.int .i64 0)).setCell ⟨w.heap.size, 1, none⟩ (.slice none 0 0)).cell? ⟨w.heap.size, 1, none⟩ = some (.slice none 0 0) := by simp (maxDischargeDepth := 8) [go_sem, q1']
      have K9 : Below w.heap.size w ((wr.setCell ⟨w.heap.size, 0, none⟩ (.int .i64 0)).setCell ⟨w.heap.size, 1, none⟩ (.slice none 0 0)) := (hBN.setCell (p := ⟨w.heap.size, 0, none⟩) (Nat.le_refl _) _).setCell (p := ⟨w.heap.size, 1, none⟩) (Nat.le_refl _) _
      go_wp2
      generalize (wr.setCell ⟨w.heap.size, 0, none⟩ (.int .i64 0)).setCell ⟨w.heap.size, 1, none⟩ (.slice none 0 0) = W9 at g0 g1 K9 ⊢
      refine bodyPost_ret (by simp [results, Tryz.results20, go_sem, g0, g1]; try rfl) rfl ?_
      exact PpOut.no2 K9 hE.out rfl
    have kx2 : k + 1 < (t :: L).length := by have := en.out; omega
    have hlt2' : (k : Int) + 1 < n := by omega
    have hnge : ¬ (n : Int) ≤ (k : Int) + 1 := by omega
    obtain ⟨b0, b1, b2, b3, b4, b5, b6⟩ := (HX2.out (k + 1) kx2).below hBw hb
    have Tk2 := hKt.out _ (List.getElem_mem kx2)
    have hAt := rdE_at kx2
    obtain ⟨k3, ek3⟩ : ∃ kk : Nat, Hid ((t :: L)[k + 1].k = kk) := ⟨(t :: L)[k + 1].k, (show _ = _ from rfl)⟩
    rw [ek3.out] at b0
    by_cases h3 : k3 = 3
    case neg =>
      have hE : Hid (D = (70, 0, [])) := hnone.out (by rw [hAt, if_neg (fun h => by have := Tk2.w h.2; have := ek3.out; omega)])
      have h3' : ((k3 : Int) != 3) = true := by simp; omega
      have h3'' : ¬ (k3 : Int) = 3 := by omega
      clear Tk a1 a2 a3 a4 a5 a6 hr ek Tk2 b1 b2 b3 b4 b5 b6 ek3 hAt
      have g0 : ((wr.setCell ⟨w.heap.size, 0, none⟩ (.int .i64 0)).setCell ⟨w.heap.size, 1, none⟩ (.slice none 0 0)).cell? ⟨w.heap.size, 0, none⟩ = some (.int .i64 0) := by simp (maxDischargeDepth := 8) [go_sem, q0']
      have g1 : ((wr.setCell ⟨w.heap.size, 0, none⟩ (.int .i64 0)).setCell ⟨w.heap.size, 1, none⟩ (.slice none 0 0)).cell? ⟨w.heap.size, 1, none⟩ = some (.slice none 0 0) := by simp (maxDischargeDepth := 8) [go_sem, q1']
      have K9 : Below w.heap.size w ((wr.setCell ⟨w.heap.size, 0, none⟩ (.int .i64 0)).setCell ⟨w.heap.size, 1, none⟩ (.slice none 0 0)) := (hBN.setCell (p := ⟨w.heap.size, 0, none⟩) (Nat.le_refl _) _).setCell (p := ⟨w.heap.size, 1, none⟩) (Nat.le_refl _) _
      go_wp2
      generalize (wr.setCell ⟨w.heap.size, 0, none⟩ (.int .i64 0)).setCell ⟨w.heap.size, 1, none⟩ (.slice none 0 0) = W9 at g0 g1 K9 ⊢
      refine bodyPost_ret (by simp [results, Tryz.results20, go_sem, g0, g1]; try rfl) rfl ?_
      exact PpOut.no2 K9 hE.out rfl
    have h3' : ((k3 : Int) != 3) = false := by simp; omega
    have h3'' : (k3 : Int) = 3 := by omega
    have cN : Hid (∀ W : World, Calls Tryz.prog 27 #[.string ⟨(t :: L)[k + 1].x.toArray⟩] W fun e' w' => e' = .returned (.bool (nameL (t :: L)[k + 1].x)) ∧ Below W.heap.size W w') := fun W => rname_any ⟨(t :: L)[k + 1].x.toArray⟩ W
    cases hN : nameL (t :: L)[k + 1].x with
    | false =>
      have hE : Hid (D = (70, 0, [])) := hnone.out (by rw [hAt, if_neg (fun h => by rw [hN] at h; cases h.2)])
      rw [hN] at cN
      generalize (⟨(t :: L)[k + 1].x.toArray⟩ : ByteArray) = X1 at b2 cN
      clear Tk a1 a2 a3 a4 a5 a6 hr ek Tk2 b1 b3 b4 b5 b6 ek3 hAt
      go_wp2_with fail
      refine (cN.out _).mono ?_
      rintro e' w2 ⟨rfl, hb2⟩
      have q0'' : w2.cell? ⟨w.heap.size, 0, none⟩ = some (.int .i64 0) := (hb2.cell (p := ⟨w.heap.size, 0, none⟩) (Nat.lt_of_lt_of_le hs1 hBw.size)).trans q0'
      have q1'' : w2.cell? ⟨w.heap.size, 1, none⟩ = some (.slice none 0 0) := (hb2.cell (p := ⟨w.heap.size, 1, none⟩) (Nat.lt_of_lt_of_le hs1 hBw.size)).trans q1'
      have f0'' : w2.frozen? ⟨w.heap.size, 0, none⟩ = false := (hb2.frozen (p := ⟨w.heap.size, 0, none⟩) (Nat.lt_of_lt_of_le hs1 hBw.size)).trans f0'
      have f1'' : w2.frozen? ⟨w.heap.size, 1, none⟩ = false := (hb2.frozen (p := ⟨w.heap.size, 1, none⟩) (Nat.lt_of_lt_of_le hs1 hBw.size)).trans f1'
      have K2 : Below w.heap.size w w2 := hBN.trans (hb2.mono hBN.size)
      clear cN hb2
      have g0 : ((w2.setCell ⟨w.heap.size, 0, none⟩ (.int .i64 0)).setCell ⟨w.heap.size, 1, none⟩ (.slice none 0 0)).cell? ⟨w.heap.size, 0, none⟩ = some (.int .i64 0) := by simp (maxDischargeDepth := 8) [go_sem, q0'']
      have g1 : ((w2.setCell ⟨w.heap.size, 0, none⟩ (.int .i64 0)).setCell ⟨w.heap.size, 1, none⟩ (.slice none 0 0)).cell? ⟨w.heap.size, 1, none⟩ = some (.slice none 0 0) := by simp (maxDischargeDepth := 8) [go_sem, q1'']
      have K9 : Below w.heap.size w ((w2.setCell ⟨w.heap.size, 0, none⟩ (.int .i64 0)).setCell ⟨w.heap.size, 1, none⟩ (.slice none 0 0)) := (K2.setCell (p := ⟨w.heap.size, 0, none⟩) (Nat.le_refl _) _).setCell (p := ⟨w.heap.size, 1, none⟩) (Nat.le_refl _) _
      go_wp2
      generalize (w2.setCell ⟨w.heap.size, 0, none⟩ (.int .i64 0)).setCell ⟨w.heap.size, 1, none⟩ (.slice none 0 0) = W9 at g0 g1 K9 ⊢
      refine bodyPost_ret (by simp [results, Tryz.results20, go_sem, g0, g1]; try rfl) rfl ?_
      exact PpOut.no2 K9 hE.out rfl
    | true =>
    have hAt2 : Hid (rdE ((t :: L).drop k) = (rdA [] 2 ((t :: L).drop (k + 2))).map (fun p => (⟨⟨(t :: L)[k + 1].x.toArray⟩, p.1⟩, p.2))) := by
      have h := hAt
      rwa [if_pos ⟨Tk.o.2 (by have := ek.out; omega), hN⟩] at h
    rw [hN] at cN
    obtain ⟨X1, eX⟩ : ∃ X : ByteArray, Hid ((⟨(t :: L)[k + 1].x.toArray⟩ : ByteArray) = X) := ⟨⟨(t :: L)[k + 1].x.toArray⟩, (show _ = _ from rfl)⟩
    rw [eX.out] at b2 cN hAt2
    have b2w : Hid (w1.cell? ⟨b, off + (k + 1) * 7 + 2, none⟩ = some (.string X1)) := by have h := (HX2.out (k + 1) kx2).2.2.1; rwa [eX.out] at h
    clear Tk a1 a2 a3 a4 a5 a6 ek Tk2 b1 b3 b4 b5 b6 ek3 hAt eX hN b2w
    go_wp2_with fail
    refine (cN.out _).mono ?_
    rintro e' w2 ⟨rfl, hb2⟩
    have hbw : b < wr.heap.size := Nat.lt_of_lt_of_le hb hBw.size
    have b2' : w2.cell? ⟨b, off + (k + 1) * 7 + 2, none⟩ = some (.string X1) := (hb2.cell (p := ⟨b, off + (k + 1) * 7 + 2, none⟩) hbw).trans b2
    have hBw2 : Below w1.heap.size w1 w2 := hBw.trans (hb2.mono hBw.size)
    have HP2 : Hid (w2.heap[w1.heap.size]? = some (.cells #[.int .i64 tn, .slice pV m cV] 26 (0, 0))) := (hb2.block _ (by omega)).trans HP.out
    have HO2 : Hid (OwnE (w1.heap.size + 1) (.slice pV m cV) es w2) := HO.out.below hb2
    have hsz2 : w1.heap.size + 1 ≤ w2.heap.size := Nat.le_trans hsz hb2.size
    clear cN hb2 HO HP a0 b0 b2 q0' q1' f0' f1' p0 p1 hBN hBw hsz hbw
    go_wp2
    refine wpX_world ?_
    intro W3 hW3
    have HV3 : Hid (W3.heap[w2.heap.size]? = some (.cells #[.string X1, .slice none 0 0] 48 (0, 0))) := by
      unfold Hid
      rw [hW3]
      show (w2.heap.push _)[w2.heap.size]? = _
      rw [Array.getElem?_push, if_pos rfl]
    have k3 : Below w2.heap.size w2 W3 := by rw [hW3]; go_grown
    have k4 : w2.heap.size + 1 ≤ W3.heap.size := by rw [hW3]; simp
    clear hW3 b2'
    go_loopw [8] (fun i wr => ∃ (j : Nat) (acc : List Val) (VA : Value), k + 2 ≤ j ∧ j ≤ n ∧ acc.length ≤ j ∧ i = .int .i64 j ∧ Hid (rdA [] 2 ((t :: L).drop (k + 2)) = rdA acc (j - k) ((t :: L).drop j)) ∧ Hid (wr.heap[w2.heap.size]? = some (.cells #[.string X1, VA] 48 (0, 0))) ∧ Hid (OwnVs (w2.heap.size + 1) VA acc wr) ∧ Below w2.heap.size w2 wr ∧ w2.heap.size + 1 ≤ wr.heap.size) (fun i _ => n - (intOf i).toNat)
    case atStart => exact ⟨k + 2, [], .slice none 0 0, Nat.le_refl _, by omega, by simp, by go_num, (show rdA [] 2 _ = rdA [] (k + 2 - k) _ by rw [Nat.add_sub_cancel_left]), HV3, ⟨rfl, .inl ⟨rfl, rfl⟩⟩, k3, k4⟩
    case round =>
      obtain ⟨j, acc, VA, hj1, hjn, hac, rfl, hrA, hv, hOV, hB3, hs3⟩ := hrel
      obtain ⟨pA, nA, cA, rfl⟩ := hOV.out.form
      have hBw3 : Below w1.heap.size w1 wr := hBw2.trans (hB3.mono hBw2.size)
      obtain ⟨q0', q1', f0', f1', hBN⟩ := RES.out wr hBw3
      have e0 : wr.cell? ⟨w2.heap.size, 0, none⟩ = some (.string X1) := by rw [Lib.cell_of_heap hv.out]; rfl
      have e1 : wr.cell? ⟨w2.heap.size, 1, none⟩ = some (.slice pA nA cA) := by rw [Lib.cell_of_heap hv.out]; rfl
      by_cases hjlt : j < n
      case neg =>
        have c3 : ¬ (j : Int) < n := by omega
        have c4 : (n : Int) ≤ (j : Int) := by omega
        have hE : Hid (D = (70, 0, [])) := hnone.out (by
          rw [hAt2.out, hrA.out, List.drop_eq_nil_of_le (by have := en.out; omega)]
          rfl)
        clear hrA hv hOV hr
        have g0 : ((wr.setCell ⟨w.heap.size, 0, none⟩ (.int .i64 0)).setCell ⟨w.heap.size, 1, none⟩ (.slice none 0 0)).cell? ⟨w.heap.size, 0, none⟩ = some (.int .i64 0) := by simp (maxDischargeDepth := 8) [go_sem, q0']
        have g1 : ((wr.setCell ⟨w.heap.size, 0, none⟩ (.int .i64 0)).setCell ⟨w.heap.size, 1, none⟩ (.slice none 0 0)).cell? ⟨w.heap.size, 1, none⟩ = some (.slice none 0 0) := by simp (maxDischargeDepth := 8) [go_sem, q1']
        have K9 : Below w.heap.size w ((wr.setCell ⟨w.heap.size, 0, none⟩ (.int .i64 0)).setCell ⟨w.heap.size, 1, none⟩ (.slice none 0 0)) := (hBN.setCell (p := ⟨w.heap.size, 0, none⟩) (Nat.le_refl _) _).setCell (p := ⟨w.heap.size, 1, none⟩) (Nat.le_refl _) _
        go_wp2
        generalize (wr.setCell ⟨w.heap.size, 0, none⟩ (.int .i64 0)).setCell ⟨w.heap.size, 1, none⟩ (.slice none 0 0) = W9 at g0 g1 K9 ⊢
        refine bodyPost_ret (by simp [results, Tryz.results20, go_sem, g0, g1]; try rfl) rfl ?_
        exact PpOut.no2 K9 hE.out rfl
      have hjlt' : (j : Int) < n := by omega
      have hjge : ¬ (n : Int) ≤ (j : Int) := by omega
      have jx : j < (t :: L).length := by have := en.out; omega
      obtain ⟨a0, a1, a2, a3, a4, a5, a6⟩ := (HX2.out j jx).below hBw3 hb
      have Tj := hKt.out _ (List.getElem_mem jx)
      have hrA2 : Hid (rdA [] 2 ((t :: L).drop (k + 2)) = if (t :: L)[j].x = [41] then some (acc, j - k + 1) else if (t :: L)[j].k = 6 then rdA (acc ++ [(t :: L)[j].v]) (j - k + 1) ((t :: L).drop (j + 1)) else none) := by
        have h := hrA.out
        rw [List.drop_eq_getElem_cons jx] at h
        exact h
      clear hrA
      obtain ⟨kj, ekj⟩ : ∃ kk : Nat, Hid ((t :: L)[j].k = kk) := ⟨(t :: L)[j].k, (show _ = _ from rfl)⟩
      rw [ekj.out] at a0
      by_cases h6 : kj = 6
      · have h6' : ((kj : Nat) : Int) = 6 := by omega
        have h6'' : (((kj : Nat) : Int) == 6) = true := by simp; omega
        have hr3 : Hid (rdA [] 2 ((t :: L).drop (k + 2)) = rdA (acc ++ [(t :: L)[j].v]) (j + 1 - k) ((t :: L).drop (j + 1))) := by
          have h := hrA2.out
          rw [if_neg (fun hx => by have := Tj.c.1 hx; have := ekj.out; omega), if_pos (by rw [ekj.out]; exact h6)] at h
          rw [show j + 1 - k = j - k + 1 by omega]
          exact h
        clear hrA2 Tj ekj
        generalize (t :: L)[j].v = Y at a3 a4 a5 a6 hr3
        have hown1 := hOV.out
        unfold OwnVs at hown1
        have HW : Hid (wr.ownsRow (w2.heap.size + 1) 50 4 (.slice pA nA cA) acc.length (flat acc)) := hown1
        clear hown1
        have hz9 : w2.heap.size < wr.heap.size := by omega
        go_upto_region 19 with fail
        go_region_law (refine step_append_own rfl (.tmp 101) (.tmp 107) 46 rfl (w2.heap.size + 1) 50 i0 (.agg #[.int .i64 0, .int .i64 0, .int .i64 0, .string ⟨#[]⟩]) 4 40 Tryz.underlying46 hi hz0 hz1 hz2 rfl (by decide) (.slice pA nA cA) acc.length (flat acc) (by simp [Act.eval]) (World.ownsRow.alloc (World.ownsRow.drew HW.out) _) ⟨wr.heap.size, 0, none⟩ 1 1 [.int .i64 Y.k, .int .i64 Y.n, .int .i64 Y.d, .string Y.s] (by simp [Act.eval]) rfl (by intro j u hj; rw [Addr.add_lit]; (rcases j with _ | _ | _ | _ | j) <;> simp at hj <;> subst hj <;> simp (maxDischargeDepth := 12) [go_sem]) (by intro u hu; simp at hu; rcases hu with rfl | rfl | rfl | rfl <;> rfl) (by unfold maxLen; omega) (by omega) (by simp; omega) (fun v' w4 h2 h3 => ?_); obtain ⟨pv2, mv2, cv2, rfl, z1, z2, z3, z4, z5, z6, z7⟩ := ev_step (w := w2) (n := w2.heap.size) (W := wr.drew) (ev := w2.heap.size) (nm := X1) (acc := acc) (Y := Y) hv.out (by omega) hs3 (Below.drew hB3) (by omega) (World.ownsRow.drew HW.out) h2 h3; have Z3 : Hid ((w4.setCell ⟨w2.heap.size, 1, none⟩ (.slice pv2 mv2 cv2)).heap[w2.heap.size]? = some (.cells #[.string X1, .slice pv2 mv2 cv2] 48 (0, 0))) := z3; have Z4 : Hid (OwnVs (w2.heap.size + 1) (.slice pv2 mv2 cv2) (acc ++ [Y]) (w4.setCell ⟨w2.heap.size, 1, none⟩ (.slice pv2 mv2 cv2))) := z4; clear h2 h3 z3 z4 z7)
        all_goals
          go_wp2
          exact ⟨⟨j + 1, acc ++ [Y], .slice pv2 mv2 cv2, by omega, by omega, by simp; omega, by go_num, hr3, Z3, Z4, z5, z6⟩, by simp [intOf]; omega⟩
      have h6' : ¬ ((kj : Nat) : Int) = 6 := by omega
      have h6'' : (((kj : Nat) : Int) == 6) = false := by simp; omega
      by_cases h2 : kj = 2
      case neg =>
        have h2' : ¬ ((kj : Nat) : Int) = 2 := by omega
        have h2'' : (((kj : Nat) : Int) != 2) = true := by simp; omega
        have hE : Hid (D = (70, 0, [])) := hnone.out (by
          rw [hAt2.out, hrA2.out, if_neg (fun hx => by have := Tj.c.1 hx; have := ekj.out; omega), if_neg (by rw [ekj.out]; exact h6)]
          rfl)
        clear hrA2 Tj ekj a1 a2 a3 a4 a5 a6 hv hOV hr
        have g0 : ((wr.setCell ⟨w.heap.size, 0, none⟩ (.int .i64 0)).setCell ⟨w.heap.size, 1, none⟩ (.slice none 0 0)).cell? ⟨w.heap.size, 0, none⟩ = some (.int .i64 0) := by simp (maxDischargeDepth := 8) [go_sem, q0']
        have g1 : ((wr.setCell ⟨w.heap.size, 0, none⟩ (.int .i64 0)).setCell ⟨w.heap.size, 1, none⟩ (.slice none 0 0)).cell? ⟨w.heap.size, 1, none⟩ = some (.slice none 0 0) := by simp (maxDischargeDepth := 8) [go_sem, q1']
        have K9 : Below w.heap.size w ((wr.setCell ⟨w.heap.size, 0, none⟩ (.int .i64 0)).setCell ⟨w.heap.size, 1, none⟩ (.slice none 0 0)) := (hBN.setCell (p := ⟨w.heap.size, 0, none⟩) (Nat.le_refl _) _).setCell (p := ⟨w.heap.size, 1, none⟩) (Nat.le_refl _) _
        go_wp2
        generalize (wr.setCell ⟨w.heap.size, 0, none⟩ (.int .i64 0)).setCell ⟨w.heap.size, 1, none⟩ (.slice none 0 0) = W9 at g0 g1 K9 ⊢
        refine bodyPost_ret (by simp [results, Tryz.results20, go_sem, g0, g1]; try rfl) rfl ?_
        exact PpOut.no2 K9 hE.out rfl
      have h2' : ((kj : Nat) : Int) = 2 := by omega
      have h2'' : (((kj : Nat) : Int) != 2) = false := by simp; omega
      have hsome : Hid (rdE ((t :: L).drop k) = some (⟨X1, acc⟩, j - k + 1)) := by
        have h := hAt2.out
        rw [hrA2.out, if_pos (Tj.c.2 (by rw [ekj.out]; exact h2))] at h
        exact h
      have hr4 : Hid (rdEs (L.length + 1) [] L = rdEs f (es ++ [⟨X1, acc⟩]) ((t :: L).drop (j + 1))) := by
        have h := hr.out
        rw [rdEs_some (by rw [List.length_drop]; omega) hsome.out, List.drop_drop, show k + (j - k + 1) = j + 1 by omega] at h
        exact h
      have HO3 : Hid (OwnE (w1.heap.size + 1) (.slice pV m cV) es wr) := HO2.out.below hB3
      have HP3 : Hid (wr.heap[w1.heap.size]? = some (.cells #[.int .i64 tn, .slice pV m cV] 26 (0, 0))) := (hB3.block _ (by omega)).trans HP2.out
      have p1 : wr.cell? ⟨w1.heap.size, 1, none⟩ = some (.slice pV m cV) := by rw [Lib.cell_of_heap HP3.out]; rfl
      have HV1 : Hid (OwnVs (w1.heap.size + 1) (.slice pA nA cA) acc wr) := own_baseX hOV.out (by omega)
      have hsz3 : w1.heap.size + 1 ≤ wr.heap.size := Nat.le_trans hsz2 hB3.size
      clear hrA2 Tj ekj a1 a2 a3 a4 a5 a6 hsome hr hOV hv
      obtain ⟨zs, ho, hcc⟩ := HO3.out
      have HC : Hid (EvC (w1.heap.size + 1) wr es zs) := hcc
      have HC2 : Hid (wr.ownsRow (w1.heap.size + 1) 48 2 (.slice pV m cV) m zs) := by have h := ho; rwa [em.out] at h
      clear ho hcc HO3
      go_wp2_with (at_builtin; refine wpList_append_own _ rfl _ _ 24 rfl (w1.heap.size + 1) 48 j0 (.agg #[.string ⟨#[]⟩, .slice none 0 0]) 2 40 Tryz.underlying24 hj hy0 hy1 hy2 rfl (by decide) _ _ _ rfl (World.ownsRow.alloc HC2.out _) ⟨wr.heap.size, 0, none⟩ 1 1 [.string X1, .slice pA nA cA] rfl rfl ?cc1 ?cc2 ?cc3 ?cc4 ?cc5 ?_)
      case cc2 => first | (exact ⟨rfl, rfl⟩) | (intro u hu; simp at hu; rcases hu with rfl | rfl <;> rfl)
      case cc3 => unfold maxLen; omega
      case cc4 => omega
      case cc5 => first | omega | (simp; omega)
      intro v' w4 hown' hgrow _
      obtain ⟨pv, cv, rfl, x1, x2, x3, x4, x5, x6⟩ := es_step (w := w1) (W := wr) (W2 := w4) (P := w1.heap.size) (tn := tn) (V := .slice pV m cV) (v' := v') (u := .slice pA nA cA) (es := es) (zs := zs) (e := ⟨X1, acc⟩) HP3.out hsz3 hBw3 (by rw [em.out]; exact HC2.out) HC.out HV1.out (by rw [em.out]; exact hown') hgrow
      rw [em.out] at x3 x4 x5 x6 ⊢
      have X3 : Hid ((w4.setCell ⟨w1.heap.size, 1, none⟩ (.slice pv (m + 1) cv)).heap[w1.heap.size]? = some (.cells #[.int .i64 tn, .slice pv (m + 1) cv] 26 (0, 0))) := x3
      have X4 : Hid (OwnE (w1.heap.size + 1) (.slice pv (m + 1) cv) (es ++ [⟨X1, acc⟩]) (w4.setCell ⟨w1.heap.size, 1, none⟩ (.slice pv (m + 1) cv))) := x4
      clear hown' hgrow x3 x4 HC HC2 HV1
      go_wp2
      exact ⟨⟨j + 1, f, es ++ [⟨X1, acc⟩], .slice pv (m + 1) cv, by omega, by omega, by rw [List.length_append, em.out]; simp; omega, by go_num, hr4, by omega, X3, X4, x5, x6⟩, by simp [intOf]; omega⟩

end Go.Proofs.YticmebamclacaaaGreatDoor

namespace Go.Proofs.YticmebamclacaaaGreatDoor
open Go.RowKit LX Go.Shelf
set_option linter.unusedVariables false

set_option maxRecDepth 100000 in
theorem dvsame_yes (k n d : Int) (s : ByteArray) (w : World) :
    Calls Tryz.prog 43 #[.agg #[.int .i64 k, .int .i64 n, .int .i64 d, .string s], .agg #[.int .i64 k, .int .i64 n, .int .i64 d, .string s]] w fun e w' => e = .returned (.bool true) ∧ Below w.heap.size w w' := by
  have hs : (s.toList == s.toList) = true := by simp
  go_enter Tryz.func43, Tryz.ntmps43
  go_wp2
  go_ret
  exact ⟨by first | rfl | simp, by go_grown⟩

set_option maxRecDepth 100000 in
set_option maxHeartbeats 4000000 in
theorem rpsame_yes (t : Int) (A B : Value) (es : List Evt) (w : World) (hA : EvsAt w A es) (hB : EvsAt w B es) (lL : es.length ≤ 9223372036854775807) (lk : ∀ d ∈ es, d.args.length ≤ 9223372036854775807) :
    Calls Tryz.prog 21 #[.agg #[.int .i64 t, A], .agg #[.int .i64 t, B]] w fun r w' => r = .returned (.bool true) ∧ Below w.heap.size w w' := by
  obtain ⟨p, c, rfl, HX0⟩ := hA.form
  obtain ⟨q, c', rfl, HY0⟩ := hB.form
  have HX : Hid (∀ i (hi : i < es.length), ∃ b off u, p = some ⟨b, off, none⟩ ∧ b < w.heap.size ∧ w.cell? ⟨b, off + i * 2, none⟩ = some (.string es[i].name) ∧ w.cell? ⟨b, off + i * 2 + 1, none⟩ = some u ∧ RowAt w u es[i].args) := HX0
  have HY : Hid (∀ i (hi : i < es.length), ∃ b off u, q = some ⟨b, off, none⟩ ∧ b < w.heap.size ∧ w.cell? ⟨b, off + i * 2, none⟩ = some (.string es[i].name) ∧ w.cell? ⟨b, off + i * 2 + 1, none⟩ = some u ∧ RowAt w u es[i].args) := HY0
  have LK : Hid (∀ d ∈ es, d.args.length ≤ 9223372036854775807) := lk
  clear hA hB HX0 HY0 lk
  obtain ⟨n, en⟩ : ∃ n : Nat, Hid (es.length = n) := ⟨_, rfl⟩
  rw [en.out] at lL ⊢
  go_enter Tryz.func21, Tryz.ntmps21
  go_wp2
  refine wpX_world ?_
  intro w0 hw0
  have z1 : w0.cell? ⟨w.heap.size, 1, none⟩ = some (.slice p n c) := by rw [hw0]; simp [go_sem]
  have z2 : w0.cell? ⟨w.heap.size + 1, 1, none⟩ = some (.slice q n c') := by rw [hw0]; simp [go_sem]
  have zB : Below w.heap.size w w0 := by rw [hw0]; go_grown
  have zs : w.heap.size + 1 < w0.heap.size := by rw [hw0]; simp
  clear hw0
  go_loopw [5] (fun i wr => ∃ k : Nat, k ≤ n ∧ i = .int .i64 k ∧ Below w0.heap.size w0 wr) (fun i _ => n - (intOf i).toNat)
  case atStart => exact ⟨0, Nat.zero_le _, rfl, Below.refl _ _⟩
  case round =>
    obtain ⟨k, hk, rfl, hB0⟩ := hrel
    have hBw : Below w.heap.size w wr := zB.trans (hB0.mono zB.size)
    have y1 : wr.cell? ⟨w.heap.size, 1, none⟩ = some (.slice p n c) := (hB0.cell (p := ⟨w.heap.size, 1, none⟩) (Nat.lt_of_succ_lt zs)).trans z1
    have y2 : wr.cell? ⟨w.heap.size + 1, 1, none⟩ = some (.slice q n c') := (hB0.cell (p := ⟨w.heap.size + 1, 1, none⟩) zs).trans z2
    have ys : w.heap.size + 1 < wr.heap.size := Nat.lt_of_lt_of_le zs hB0.size
    by_cases hlt : k < n
    · have kx : k < es.length := by have := en.out; omega
      obtain ⟨b, off, u, rfl, hb, r0, r1, r2⟩ := HX.out k kx
      obtain ⟨b', off', u', rfl, hb', s0, s1, s2⟩ := HY.out k kx
      have a0 := (hBw.cell (p := ⟨b, off + k * 2, none⟩) hb).trans r0
      have a1 := (hBw.cell (p := ⟨b, off + k * 2 + 1, none⟩) hb).trans r1
      have d0 := (hBw.cell (p := ⟨b', off' + k * 2, none⟩) hb').trans s0
      have d1 := (hBw.cell (p := ⟨b', off' + k * 2 + 1, none⟩) hb').trans s1
      have hlt' : (k : Int) < n := by omega
      have lkk := LK.out _ (List.getElem_mem kx)
      obtain ⟨pu, cu, hu, HK0⟩ := r2.formX
      obtain ⟨pu', cu', hu', HJ0⟩ := s2.formX
      subst hu hu'
      have HK : Hid (∀ i (hi : i < es[k].args.length), ∃ b off, pu = some ⟨b, off, none⟩ ∧ b < w.heap.size ∧ w.cell? ⟨b, off + i * 4, none⟩ = some (.int .i64 es[k].args[i].k) ∧ w.cell? ⟨b, off + i * 4 + 1, none⟩ = some (.int .i64 es[k].args[i].n) ∧ w.cell? ⟨b, off + i * 4 + 2, none⟩ = some (.int .i64 es[k].args[i].d) ∧ w.cell? ⟨b, off + i * 4 + 3, none⟩ = some (.string es[k].args[i].s)) := HK0
      have HJ : Hid (∀ i (hi : i < es[k].args.length), ∃ b off, pu' = some ⟨b, off, none⟩ ∧ b < w.heap.size ∧ w.cell? ⟨b, off + i * 4, none⟩ = some (.int .i64 es[k].args[i].k) ∧ w.cell? ⟨b, off + i * 4 + 1, none⟩ = some (.int .i64 es[k].args[i].n) ∧ w.cell? ⟨b, off + i * 4 + 2, none⟩ = some (.int .i64 es[k].args[i].d) ∧ w.cell? ⟨b, off + i * 4 + 3, none⟩ = some (.string es[k].args[i].s)) := HJ0
      have hbr : b < wr.heap.size := Nat.lt_of_lt_of_le hb hBw.size
      have hbr' : b' < wr.heap.size := Nat.lt_of_lt_of_le hb' hBw.size
      clear r0 r1 r2 s0 s1 s2 HK0 HJ0
      generalize es[k].name = X at a0 d0
      generalize es[k].args = vs at a1 d1 HK HJ lkk
      obtain ⟨m, em⟩ : ∃ m : Nat, Hid (vs.length = m) := ⟨_, rfl⟩
      rw [em.out] at a1 d1 lkk
      have hq : (X.toList == X.toList) = true := by simp
      have nb : b ≠ wr.heap.size := by omega
      have nb' : b' ≠ wr.heap.size := by omega
      go_wp2
      refine wpX_world ?_
      intro w4 hw4
      have q1 : w4.cell? ⟨wr.heap.size, 1, none⟩ = some (.slice pu m cu) := by rw [hw4]; simp [go_sem]
      have q2 : w4.cell? ⟨wr.heap.size + 1, 1, none⟩ = some (.slice pu' m cu') := by rw [hw4]; simp [go_sem]
      have qB : Below wr.heap.size wr w4 := by rw [hw4]; go_grown
      have qs : wr.heap.size + 1 < w4.heap.size := by rw [hw4]; simp
      clear hw4
      have hBX : Below w.heap.size w w4 := hBw.trans (qB.mono hBw.size)
      have hBY : Below w0.heap.size w0 w4 := hB0.trans (qB.mono hB0.size)
      obtain ⟨N0, eN0⟩ : ∃ N0 : Nat, Hid (wr.heap.size = N0) := ⟨_, rfl⟩
      rw [eN0.out] at q1 q2 qs ⊢
      clear hbr hbr' qB eN0 a0 a1 d0 d1 y1 y2 nb nb'
      go_loopw [8] (fun i wr => ∃ j : Nat, j ≤ m ∧ i = .int .i64 j ∧ Below w4.heap.size w4 wr) (fun i _ => m - (intOf i).toNat)
      case atStart => exact ⟨0, Nat.zero_le _, rfl, Below.refl _ _⟩
      case round =>
        obtain ⟨j, hj, rfl, hB5⟩ := hrel
        have hB9 : Below w.heap.size w wr := hBX.trans (hB5.mono hBX.size)
        have x1 := (hB5.cell (p := ⟨N0, 1, none⟩) (Nat.lt_of_succ_lt qs)).trans q1
        have x2 := (hB5.cell (p := ⟨N0 + 1, 1, none⟩) qs).trans q2
        by_cases hjm : j < m
        · have jx : j < vs.length := by have := em.out; omega
          obtain ⟨b1, off1, rfl, hb1, k0, k1, k2, k3⟩ := HK.out j jx
          obtain ⟨b2, off2, rfl, hb2, l0, l1, l2, l3⟩ := HJ.out j jx
          have g0 := (hB9.cell (p := ⟨b1, off1 + j * 4, none⟩) hb1).trans k0
          have g1 := (hB9.cell (p := ⟨b1, off1 + j * 4 + 1, none⟩) hb1).trans k1
          have g2 := (hB9.cell (p := ⟨b1, off1 + j * 4 + 2, none⟩) hb1).trans k2
          have g3 := (hB9.cell (p := ⟨b1, off1 + j * 4 + 3, none⟩) hb1).trans k3
          have f0 := (hB9.cell (p := ⟨b2, off2 + j * 4, none⟩) hb2).trans l0
          have f1 := (hB9.cell (p := ⟨b2, off2 + j * 4 + 1, none⟩) hb2).trans l1
          have f2 := (hB9.cell (p := ⟨b2, off2 + j * 4 + 2, none⟩) hb2).trans l2
          have f3 := (hB9.cell (p := ⟨b2, off2 + j * 4 + 3, none⟩) hb2).trans l3
          have hjm' : (j : Int) < m := by omega
          have e1 : b1 < wr.heap.size := Nat.lt_of_lt_of_le hb1 hB9.size
          have e2 : b2 < wr.heap.size := Nat.lt_of_lt_of_le hb2 hB9.size
          have n1 : N0 < wr.heap.size := Nat.lt_of_lt_of_le (Nat.lt_of_succ_lt qs) hB5.size
          have n2 : N0 + 1 < wr.heap.size := Nat.lt_of_lt_of_le qs hB5.size
          clear k0 k1 k2 k3 l0 l1 l2 l3
          generalize vs[j] = Y at g0 g1 g2 g3 f0 f1 f2 f3
          have ct : Hid (∀ W : World, Calls Tryz.prog 43 #[.agg #[.int .i64 Y.k, .int .i64 Y.n, .int .i64 Y.d, .string Y.s], .agg #[.int .i64 Y.k, .int .i64 Y.n, .int .i64 Y.d, .string Y.s]] W fun e w' => e = .returned (.bool true) ∧ Below W.heap.size W w') := fun W => dvsame_yes Y.k Y.n Y.d Y.s W
          go_upto_region 13 with fail
          go_region_held3 (fun w' => (w'.cell? ⟨b1, off1 + j * 4, none⟩ = some (.int .i64 Y.k) ∧ w'.cell? ⟨b1, off1 + j * 4 + 1, none⟩ = some (.int .i64 Y.n) ∧ w'.cell? ⟨b1, off1 + j * 4 + 2, none⟩ = some (.int .i64 Y.d) ∧ w'.cell? ⟨b1, off1 + j * 4 + 3, none⟩ = some (.string Y.s)) ∧ (w'.cell? ⟨b2, off2 + j * 4, none⟩ = some (.int .i64 Y.k) ∧ w'.cell? ⟨b2, off2 + j * 4 + 1, none⟩ = some (.int .i64 Y.n) ∧ w'.cell? ⟨b2, off2 + j * 4 + 2, none⟩ = some (.int .i64 Y.d) ∧ w'.cell? ⟨b2, off2 + j * 4 + 3, none⟩ = some (.string Y.s)) ∧ w'.cell? ⟨N0, 1, none⟩ = some (.slice (some ⟨b1, off1, none⟩) m cu) ∧ w'.cell? ⟨N0 + 1, 1, none⟩ = some (.slice (some ⟨b2, off2, none⟩) m cu'))
            (exact ⟨⟨bclX (n := wr.heap.size) (by go_grown) g0 e1, bclX (n := wr.heap.size) (by go_grown) g1 e1, bclX (n := wr.heap.size) (by go_grown) g2 e1, bclX (n := wr.heap.size) (by go_grown) g3 e1⟩, ⟨bclX (n := wr.heap.size) (by go_grown) f0 e2, bclX (n := wr.heap.size) (by go_grown) f1 e2, bclX (n := wr.heap.size) (by go_grown) f2 e2, bclX (n := wr.heap.size) (by go_grown) f3 e2⟩, bclX (n := wr.heap.size) (by go_grown) x1 n1, bclX (n := wr.heap.size) (by go_grown) x2 n2⟩)
            (first
              | (go_at_call 43; refine (ct.out _).mono ?_; rintro e' w6 ⟨rfl, hb6⟩; obtain ⟨hB6, hn6⟩ := bgX (n := wr.heap.size) (W0 := wr) (by go_grown) (by go_size) hb6))
          all_goals
            have K8 : Below w4.heap.size w4 w6 := hB5.trans (hB6.mono hB5.size)
            clear ct g0 g1 g2 g3 f0 f1 f2 f3 x1 x2 hB6 hn6 hb6
            go_wp2
            exact ⟨⟨j + 1, by omega, by go_num, K8⟩, by simp [intOf]; omega⟩
        · have c2 : ¬ (j : Int) < m := by omega
          have K8 : Below w0.heap.size w0 wr := hBY.trans (hB5.mono hBY.size)
          go_wp2
          exact ⟨⟨k + 1, by omega, by go_num, K8⟩, by simp [intOf]; omega⟩
    · have c2 : ¬ (k : Int) < n := by omega
      go_wp2
      go_ret
      exact ⟨rfl, hBw⟩

end Go.Proofs.YticmebamclacaaaGreatDoor
