/- What stands behind a formula's word, where no variables are listed. -/
import Derived.Test.YticnfeolbfmgfaaGreatDoorZ09
import Derived.Test.YticnfeolbfmgfaaGreatDoorZ08

namespace Go.Proofs.YticnfeolbfmgfaaGreatDoor
open Go.RowKit LX Go.Shelf
set_option linter.unusedVariables false

theorem flatT_getQ (L : List (Tok Val)) (i j : Nat) (hi : i < L.length) (hj : j < 7) : (flatT L)[i * 7 + j]? = (tcells L[i])[j]? := by
  induction L generalizing i with
  | nil => simp at hi
  | cons t L ih =>
    have e : flatT (t :: L) = tcells t ++ flatT L := rfl
    have hl : (tcells t).length = 7 := rfl
    rw [e]
    cases i with
    | zero => rw [List.getElem?_append_left (by omega)]; simp
    | succ i =>
      rw [List.getElem?_append_right (by omega), hl, show (i + 1) * 7 + j - 7 = i * 7 + j by omega, ih i (by simpa using hi)]
      simp
/-- Tokens of the call's own, cell by cell. -/
theorem own7 {B : Nat} {v : Value} {L : List (Tok Val)} {w : World} (h : OwnT7 B v L w) (h0 : 0 < L.length) : ∃ g c, v = .slice (some ⟨g, 0, none⟩) L.length c ∧ L.length ≤ c ∧ B ≤ g ∧ g < w.heap.size ∧ ∀ i (hi : i < L.length), TkC w g (i * 7) L[i] := by
  have h' : w.ownsRow B 58 7 v L.length (flatT L) := h
  obtain ⟨hl, ⟨e, hn⟩ | ⟨g, cap, cur, rfl, hg1, hg2, hg3, hg4, hg5, hg6⟩⟩ := h
  · omega
  · refine ⟨g, cap, rfl, by omega, hg1, (Array.getElem?_eq_some_iff.1 hg2).1, fun i hi => ?_⟩
    have q : ∀ j, j < 7 → w.cell? ⟨g, i * 7 + j, none⟩ = (tcells L[i])[j]? := fun j hj => (h'.cellAt (i * 7 + j) (by omega)).trans (flatT_getQ L i j hi hj)
    exact ⟨(q 0 (by omega)).trans rfl, (q 1 (by omega)).trans rfl, (q 2 (by omega)).trans rfl, (q 3 (by omega)).trans rfl, (q 4 (by omega)).trans rfl, (q 5 (by omega)).trans rfl, (q 6 (by omega)).trans rfl⟩
/-- The tokens and that behind all, where they lie. -/
def TksAt (W : World) (sz : Nat) (L : List (Tok Val)) (b c : Nat) : Prop := L.length + 1 ≤ c ∧ b < W.heap.size ∧ (∀ i (h : i < L.length), TkC W b (0 + i * 7) L[i]) ∧ TkC W b (0 + L.length * 7) (endT sz)
theorem own_tks {B sz : Nat} {v : Value} {L : List (Tok Val)} {w : World} (h : OwnT7 B v (L ++ [endT sz]) w) : ∃ g c, v = .slice (some ⟨g, 0, none⟩) (L.length + 1) c ∧ TksAt w sz L g c := by
  obtain ⟨g, c, e, hc, -, hg, hx⟩ := own7 h (by simp)
  rw [List.length_append] at e hc
  refine ⟨g, c, e, hc, hg, fun i hi => ?_, ?_⟩
  · have q := hx i (by simp; omega)
    rw [List.getElem_append_left hi] at q
    rw [Nat.zero_add]
    exact q
  · have q := hx L.length (by simp)
    rw [List.getElem_append_right (Nat.le_refl _)] at q
    simp only [Nat.sub_self, List.getElem_cons_zero] at q
    rw [Nat.zero_add]
    exact q
theorem own_setQ {w : World} {B e size n : Nat} {v : Value} {xs : List Value} {p : Addr} (h : w.ownsRow B e size v n xs) (hp : p.block < B) (u : Value) : (w.setCell p u).ownsRow B e size v n xs := by
  obtain ⟨h1, h2 | ⟨g, cap, cur, hv, hg, hh, hr⟩⟩ := h
  · exact ⟨h1, Or.inl h2⟩
  · exact ⟨h1, Or.inr ⟨g, cap, cur, hv, hg, (Below.heap_setCell _ _ _ _ (by intro e; omega)).trans hh, hr⟩⟩
set_option maxRecDepth 100000 in
set_option maxHeartbeats 8000000 in
theorem par_fault (s : ByteArray) (L : List (Tok Val)) (w : World) (hs : s.size ≤ 16384) (hL : L.length ≤ 16384) (CT : Hid (∀ W : World, Below w.heap.size w W → Calls Tryz.prog 17 #[.string s] W fun e w' => ∃ v, e = .returned (.tuple #[v, .int .i64 0, .int .i64 0]) ∧ OwnT7 (W.heap.size + 1) v L w' ∧ Below W.heap.size W w')) (er a : Int) (WC : Hid (∀ (W : World) (b c : Nat), TksAt W s.size L b c → Calls Tryz.prog 18 #[.slice (some ⟨b, 0, none⟩) (L.length + 1) c] W fun e w' => e = faultE er a ∧ Below W.heap.size W w')) :
    Calls Tryz.prog 9 #[.string s] w fun e w' => e = .returned (.tuple #[zFm, .int .i64 er, .int .i64 a]) ∧ Below w.heap.size w w' := by
  unfold zFm
  have hmf : ∀ (fn : Fn) (first cap : Array Value) (w : World), (Instr.makeFunc fn first cap).run Tryz.prog w = .ok (.func fn first cap) w := fun _ _ _ _ => rfl
  obtain ⟨i0, hi, hz0, hz1, hz2⟩ := info_parts inT
  go_enter_defers Tryz.func9, Tryz.ntmps9
  go_wp2_with fail
  refine (CT.out _ (by go_grown)).mono ?_
  rintro e w1 ⟨v1, rfl, hO1, hb1⟩
  have z1 : w.heap.size + 3 ≤ w1.heap.size := by have := hb1.size; simp at this; omega
  have X1 : Hid (w1.heap[w.heap.size]? = some (.cells #[.int .i64 0, .string ⟨#[]⟩, .int .i64 0, .slice none 0 0, .slice none 0 0, .int .i64 0, .int .i64 0, .bool false, .slice none 0 0, .slice none 0 0] 29 (0, 0))) := (hb1.block _ (by simp only [World.size_alloc]; omega)).trans ((Below.heap_alloc _ _ _ (by simp only [World.size_alloc]; omega)).trans ((Below.heap_alloc _ _ _ (by simp only [World.size_alloc]; omega)).trans (new_box w _)))
  have E1 : Hid (w1.heap[w.heap.size + 1]? = some (.cells #[.int .i64 0] 30 (0, 0))) := (hb1.block _ (by simp only [World.size_alloc]; omega)).trans ((Below.heap_alloc _ _ _ (by simp only [World.size_alloc]; omega)).trans (by have q := new_box (w.alloc (.cells #[.int .i64 0, .string ⟨#[]⟩, .int .i64 0, .slice none 0 0, .slice none 0 0, .int .i64 0, .int .i64 0, .bool false, .slice none 0 0, .slice none 0 0] 29)) (.cells #[.int .i64 0] 30); simp only [World.size_alloc] at q; exact q))
  have A1 : Hid (w1.heap[w.heap.size + 2]? = some (.cells #[.int .i64 0] 3 (0, 0))) := (hb1.block _ (by simp only [World.size_alloc]; omega)).trans (by have q := new_box ((w.alloc (.cells #[.int .i64 0, .string ⟨#[]⟩, .int .i64 0, .slice none 0 0, .slice none 0 0, .int .i64 0, .int .i64 0, .bool false, .slice none 0 0, .slice none 0 0] 29)).alloc (.cells #[.int .i64 0] 30)) (.cells #[.int .i64 0] 3); simp only [World.size_alloc] at q; exact q)
  have B1 : Hid (Below w.heap.size w w1) := ((((Below.refl w.heap.size w).alloc (Nat.le_refl _) _).alloc (by simp) _).alloc (by simp; omega) _).trans (hb1.mono (by simp; omega))
  obtain ⟨p1, c1, rfl⟩ := row_form hO1
  have O1 : Hid (w1.ownsRow (w.heap.size + 3) 58 7 (.slice p1 L.length c1) L.length (flatT L)) := own_monoB hO1 (by first | (simp; done) | (simp; omega))
  clear hb1 CT hO1
  have y0 : w1.cell? ⟨w.heap.size + 1, 0, none⟩ = some (.int .i64 0) := by rw [Lib.cell_of_heap E1.out]; rfl
  have g0 : w1.frozen? ⟨w.heap.size + 1, 0, none⟩ = false := Lib.frozen_of_heap E1.out _
  have t0 : w1.cell? ⟨w.heap.size + 2, 0, none⟩ = some (.int .i64 0) := by rw [Lib.cell_of_heap A1.out]; rfl
  have u0 : w1.frozen? ⟨w.heap.size + 2, 0, none⟩ = false := Lib.frozen_of_heap A1.out _
  go_upto_region 5 with fail
  refine wp_world ?_
  intro W5 hW5
  have X5 : Hid (W5.heap[w.heap.size]? = some (.cells #[.int .i64 0, .string ⟨#[]⟩, .int .i64 0, .slice none 0 0, .slice none 0 0, .int .i64 0, .int .i64 0, .bool false, .slice none 0 0, .slice none 0 0] 29 (0, 0))) := by
    rw [hW5, Below.heap_setCell _ _ _ _ (by intro e; dsimp only at e; omega), Below.heap_setCell _ _ _ _ (by intro e; dsimp only at e; omega)]
    exact X1.out
  have E5 : Hid (W5.heap[w.heap.size + 1]? = some (.cells #[.int .i64 0] 30 (0, 0))) := by
    rw [hW5, Below.heap_setCell _ _ _ _ (by intro e; dsimp only at e; omega)]
    exact set_heap E1.out _
  have A5 : Hid (W5.heap[w.heap.size + 2]? = some (.cells #[.int .i64 0] 3 (0, 0))) := by
    rw [hW5]
    refine set_heap (cs := #[.int .i64 0]) ?_ _
    rw [Below.heap_setCell _ _ _ _ (by intro e; dsimp only at e; omega)]
    exact A1.out
  have B5 : Hid (Below w.heap.size w W5) := by rw [hW5]; exact (B1.out.setCell (by dsimp only; omega) _).setCell (by dsimp only; omega) _
  have O5 : Hid (W5.ownsRow (w.heap.size + 3) 58 7 (.slice p1 L.length c1) L.length (flatT L)) := by
    rw [hW5]
    exact own_setQ (own_setQ O1.out (by dsimp only; omega) _) (by dsimp only; omega) _
  have z5 : w.heap.size + 3 ≤ W5.heap.size := by rw [hW5]; simpa using z1
  clear hW5 X1 E1 A1 B1 O1 y0 g0 t0 u0 z1
  have hsl : s.size ≤ 9223372036854775807 := by omega
  go_wp2_with (at_builtin; refine wpList_append_own _ rfl _ _ 54 rfl (w.heap.size + 3) 58 i0 (.agg #[.int .i64 0, .int .i64 0, .string ⟨#[]⟩, .int .i64 0, .int .i64 0, .int .i64 0, .string ⟨#[]⟩]) 7 72 Tryz.underlying54 hi hz0 hz1 hz2 rfl (by decide) _ _ _ rfl (World.ownsRow.alloc O5.out _) ⟨W5.heap.size, 0, none⟩ 1 1 (tcells (endT s.size)) rfl rfl ?cc1 ?cc2 ?cc3 ?cc4 ?cc5 ?_)
  case cc1 => (intro j u hj; rw [Addr.add_lit]; simp only [tcells, endT] at hj; (rcases j with _ | _ | _ | _ | _ | _ | _ | j) <;> simp at hj <;> subst hj <;> simp (maxDischargeDepth := 12) [go_sem] <;> rfl)
  case cc2 => (intro u hu; simp only [tcells, endT] at hu; simp at hu; rcases hu with rfl | rfl | rfl | rfl | rfl | rfl | rfl <;> rfl)
  case cc3 => unfold maxLen; omega
  case cc4 => omega
  case cc5 => first | omega | (simp; omega)
  intro v6 w6 h2 h3 _
  have O6 : OwnT7 (w.heap.size + 3) v6 (L ++ [endT s.size]) w6 := by
    show w6.ownsRow _ _ _ _ _ _
    rw [List.length_append, ← flatT_more]
    exact h2
  have hrow : ∀ k, k < w.heap.size + 3 → ¬ (Value.slice p1 L.length c1).ownBlock = some k := fun k hk e => by have := (World.ownsRow.lt O5.out k e).1; omega
  have X6 : Hid (w6.heap[w.heap.size]? = some (.cells #[.int .i64 0, .string ⟨#[]⟩, .int .i64 0, .slice none 0 0, .slice none 0 0, .int .i64 0, .int .i64 0, .bool false, .slice none 0 0, .slice none 0 0] 29 (0, 0))) := ((h3.block _ (by simp; omega) (fun e => hrow _ (by omega) e.symm)).trans (Below.heap_alloc _ _ _ (by omega))).trans X5.out
  have E6 : Hid (w6.heap[w.heap.size + 1]? = some (.cells #[.int .i64 0] 30 (0, 0))) := ((h3.block _ (by simp; omega) (fun e => hrow _ (by omega) e.symm)).trans (Below.heap_alloc _ _ _ (by omega))).trans E5.out
  have A6 : Hid (w6.heap[w.heap.size + 2]? = some (.cells #[.int .i64 0] 3 (0, 0))) := ((h3.block _ (by simp; omega) (fun e => hrow _ (by omega) e.symm)).trans (Below.heap_alloc _ _ _ (by omega))).trans A5.out
  have B6 : Hid (Below w.heap.size w w6) := Below.grown (B5.out.alloc (by omega) _) h3 (by simp; omega) (fun q hq => by have := (World.ownsRow.lt O5.out q hq).1; omega)
  have z6 : w.heap.size + 3 ≤ w6.heap.size := by have := h3.size; simp at this; omega
  obtain ⟨g6, c6, rfl, hT6⟩ := own_tks O6
  have T6 : Hid (TksAt w6 s.size L g6 c6) := hT6
  clear h2 h3 O6 hrow O5 B5 X5 E5 A5 z5 hT6 hi hz0 hz1 hz2
  go_wp2_with fail
  refine (WC.out w6 g6 c6 T6.out).mono ?_
  rintro e w7 ⟨rfl, hb7⟩
  have X7 : Hid (w7.heap[w.heap.size]? = some (.cells #[.int .i64 0, .string ⟨#[]⟩, .int .i64 0, .slice none 0 0, .slice none 0 0, .int .i64 0, .int .i64 0, .bool false, .slice none 0 0, .slice none 0 0] 29 (0, 0))) := (hb7.block _ (by omega)).trans X6.out
  have E7 : Hid (w7.heap[w.heap.size + 1]? = some (.cells #[.int .i64 0] 30 (0, 0))) := (hb7.block _ (by omega)).trans E6.out
  have A7 : Hid (w7.heap[w.heap.size + 2]? = some (.cells #[.int .i64 0] 3 (0, 0))) := (hb7.block _ (by omega)).trans A6.out
  have B7 : Hid (Below w.heap.size w w7) := B6.out.trans (hb7.mono (by omega))
  clear hb7 B6 X6 E6 A6 T6 WC
  refine leaves_cons (f := 16) (args := #[.pointer (some ⟨w.heap.size, 0, none⟩), .pointer (some ⟨w.heap.size + 1, 0, none⟩), .pointer (some ⟨w.heap.size + 2, 0, none⟩)]) (by simp) (by simp [go_sem]) ?_
  refine (catch_panicking w.heap.size (w.heap.size + 1) (w.heap.size + 2) er a 0 0 [] [] w7 _ _ _ _ _ _ _ _ _ _ X7.out E7.out A7.out (by omega) (by omega) (by omega)).mono ?_
  rintro e u' WF ⟨rfl, rfl, hF8, XF, EF, AF⟩
  obtain ⟨x0, x1, x2, x3, x4, x5, x6, x7, x8, x9⟩ := bx10 XF
  have y0 : WF.cell? ⟨w.heap.size + 1, 0, none⟩ = _ := (Lib.cell_of_heap EF _).trans rfl
  have t0 : WF.cell? ⟨w.heap.size + 2, 0, none⟩ = _ := (Lib.cell_of_heap AF _).trans rfl
  simp [Leaves, settle, results, Tryz.results9, go_sem, x0, x1, x2, x3, x4, x5, x6, x7, x8, x9, y0, t0]
  exact B7.out.trans (hF8.below B7.out.size (fun k e => by omega))
set_option maxRecDepth 100000 in
set_option maxHeartbeats 8000000 in
theorem par_unfit (s : ByteArray) (L : List (Tok Val)) (w : World) (hs : s.size ≤ 16384) (hL : L.length ≤ 16384) (CT : Hid (∀ W : World, Below w.heap.size w W → Calls Tryz.prog 17 #[.string s] W fun e w' => ∃ v, e = .returned (.tuple #[v, .int .i64 0, .int .i64 0]) ∧ OwnT7 (W.heap.size + 1) v L w' ∧ Below W.heap.size W w')) (fk fop flo fhi : Int) (fnm : ByteArray) (fpn : Bool) (fvs : List ByteArray) (fts : List Tm) (fss : List Fm) (frs : List Rx) (WC : Hid (∀ (W : World) (b c : Nat), TksAt W s.size L b c → Calls Tryz.prog 18 #[.slice (some ⟨b, 0, none⟩) (L.length + 1) c] W fun e w' => ∃ v, e = .returned v ∧ FmV W (Fm.mk fk fnm fop fvs fts flo fhi fpn fss frs) v w' ∧ Below W.heap.size W w')) (E : Int) (CK : Hid (∀ (q : FQ) (W : World), QAt W ((Fm.mk fk fnm fop fvs fts flo fhi fpn fss frs), q) → Calls Tryz.prog 19 #[.agg #[.int .i64 fk, .string fnm, .int .i64 fop, q.v, q.t, .int .i64 flo, .int .i64 fhi, .bool fpn, q.s, q.r]] W fun r w' => r = .returned (.int .i64 E) ∧ Below W.heap.size W w')) (hE : ¬ E = 0) :
    Calls Tryz.prog 9 #[.string s] w fun e w' => e = .returned (.tuple #[zFm, .int .i64 E, .int .i64 0]) ∧ Below w.heap.size w w' := by
  unfold zFm
  have hmf : ∀ (fn : Fn) (first cap : Array Value) (w : World), (Instr.makeFunc fn first cap).run Tryz.prog w = .ok (.func fn first cap) w := fun _ _ _ _ => rfl
  obtain ⟨i0, hi, hz0, hz1, hz2⟩ := info_parts inT
  go_enter_defers Tryz.func9, Tryz.ntmps9
  go_wp2_with fail
  refine (CT.out _ (by go_grown)).mono ?_
  rintro e w1 ⟨v1, rfl, hO1, hb1⟩
  have z1 : w.heap.size + 3 ≤ w1.heap.size := by have := hb1.size; simp at this; omega
  have X1 : Hid (w1.heap[w.heap.size]? = some (.cells #[.int .i64 0, .string ⟨#[]⟩, .int .i64 0, .slice none 0 0, .slice none 0 0, .int .i64 0, .int .i64 0, .bool false, .slice none 0 0, .slice none 0 0] 29 (0, 0))) := (hb1.block _ (by simp only [World.size_alloc]; omega)).trans ((Below.heap_alloc _ _ _ (by simp only [World.size_alloc]; omega)).trans ((Below.heap_alloc _ _ _ (by simp only [World.size_alloc]; omega)).trans (new_box w _)))
  have E1 : Hid (w1.heap[w.heap.size + 1]? = some (.cells #[.int .i64 0] 30 (0, 0))) := (hb1.block _ (by simp only [World.size_alloc]; omega)).trans ((Below.heap_alloc _ _ _ (by simp only [World.size_alloc]; omega)).trans (by have q := new_box (w.alloc (.cells #[.int .i64 0, .string ⟨#[]⟩, .int .i64 0, .slice none 0 0, .slice none 0 0, .int .i64 0, .int .i64 0, .bool false, .slice none 0 0, .slice none 0 0] 29)) (.cells #[.int .i64 0] 30); simp only [World.size_alloc] at q; exact q))
  have A1 : Hid (w1.heap[w.heap.size + 2]? = some (.cells #[.int .i64 0] 3 (0, 0))) := (hb1.block _ (by simp only [World.size_alloc]; omega)).trans (by have q := new_box ((w.alloc (.cells #[.int .i64 0, .string ⟨#[]⟩, .int .i64 0, .slice none 0 0, .slice none 0 0, .int .i64 0, .int .i64 0, .bool false, .slice none 0 0, .slice none 0 0] 29)).alloc (.cells #[.int .i64 0] 30)) (.cells #[.int .i64 0] 3); simp only [World.size_alloc] at q; exact q)
  have B1 : Hid (Below w.heap.size w w1) := ((((Below.refl w.heap.size w).alloc (Nat.le_refl _) _).alloc (by simp) _).alloc (by simp; omega) _).trans (hb1.mono (by simp; omega))
  obtain ⟨p1, c1, rfl⟩ := row_form hO1
  have O1 : Hid (w1.ownsRow (w.heap.size + 3) 58 7 (.slice p1 L.length c1) L.length (flatT L)) := own_monoB hO1 (by first | (simp; done) | (simp; omega))
  clear hb1 CT hO1
  have y0 : w1.cell? ⟨w.heap.size + 1, 0, none⟩ = some (.int .i64 0) := by rw [Lib.cell_of_heap E1.out]; rfl
  have g0 : w1.frozen? ⟨w.heap.size + 1, 0, none⟩ = false := Lib.frozen_of_heap E1.out _
  have t0 : w1.cell? ⟨w.heap.size + 2, 0, none⟩ = some (.int .i64 0) := by rw [Lib.cell_of_heap A1.out]; rfl
  have u0 : w1.frozen? ⟨w.heap.size + 2, 0, none⟩ = false := Lib.frozen_of_heap A1.out _
  go_upto_region 5 with fail
  refine wp_world ?_
  intro W5 hW5
  have X5 : Hid (W5.heap[w.heap.size]? = some (.cells #[.int .i64 0, .string ⟨#[]⟩, .int .i64 0, .slice none 0 0, .slice none 0 0, .int .i64 0, .int .i64 0, .bool false, .slice none 0 0, .slice none 0 0] 29 (0, 0))) := by
    rw [hW5, Below.heap_setCell _ _ _ _ (by intro e; dsimp only at e; omega), Below.heap_setCell _ _ _ _ (by intro e; dsimp only at e; omega)]
    exact X1.out
  have E5 : Hid (W5.heap[w.heap.size + 1]? = some (.cells #[.int .i64 0] 30 (0, 0))) := by
    rw [hW5, Below.heap_setCell _ _ _ _ (by intro e; dsimp only at e; omega)]
    exact set_heap E1.out _
  have A5 : Hid (W5.heap[w.heap.size + 2]? = some (.cells #[.int .i64 0] 3 (0, 0))) := by
    rw [hW5]
    refine set_heap (cs := #[.int .i64 0]) ?_ _
    rw [Below.heap_setCell _ _ _ _ (by intro e; dsimp only at e; omega)]
    exact A1.out
  have B5 : Hid (Below w.heap.size w W5) := by rw [hW5]; exact (B1.out.setCell (by dsimp only; omega) _).setCell (by dsimp only; omega) _
  have O5 : Hid (W5.ownsRow (w.heap.size + 3) 58 7 (.slice p1 L.length c1) L.length (flatT L)) := by
    rw [hW5]
    exact own_setQ (own_setQ O1.out (by dsimp only; omega) _) (by dsimp only; omega) _
  have z5 : w.heap.size + 3 ≤ W5.heap.size := by rw [hW5]; simpa using z1
  clear hW5 X1 E1 A1 B1 O1 y0 g0 t0 u0 z1
  have hsl : s.size ≤ 9223372036854775807 := by omega
  go_wp2_with (at_builtin; refine wpList_append_own _ rfl _ _ 54 rfl (w.heap.size + 3) 58 i0 (.agg #[.int .i64 0, .int .i64 0, .string ⟨#[]⟩, .int .i64 0, .int .i64 0, .int .i64 0, .string ⟨#[]⟩]) 7 72 Tryz.underlying54 hi hz0 hz1 hz2 rfl (by decide) _ _ _ rfl (World.ownsRow.alloc O5.out _) ⟨W5.heap.size, 0, none⟩ 1 1 (tcells (endT s.size)) rfl rfl ?cc1 ?cc2 ?cc3 ?cc4 ?cc5 ?_)
  case cc1 => (intro j u hj; rw [Addr.add_lit]; simp only [tcells, endT] at hj; (rcases j with _ | _ | _ | _ | _ | _ | _ | j) <;> simp at hj <;> subst hj <;> simp (maxDischargeDepth := 12) [go_sem] <;> rfl)
  case cc2 => (intro u hu; simp only [tcells, endT] at hu; simp at hu; rcases hu with rfl | rfl | rfl | rfl | rfl | rfl | rfl <;> rfl)
  case cc3 => unfold maxLen; omega
  case cc4 => omega
  case cc5 => first | omega | (simp; omega)
  intro v6 w6 h2 h3 _
  have hE' : (E != 0) = true := by simpa using hE
  have O6 : OwnT7 (w.heap.size + 3) v6 (L ++ [endT s.size]) w6 := by
    show w6.ownsRow _ _ _ _ _ _
    rw [List.length_append, ← flatT_more]
    exact h2
  have hrow : ∀ k, k < w.heap.size + 3 → ¬ (Value.slice p1 L.length c1).ownBlock = some k := fun k hk e => by have := (World.ownsRow.lt O5.out k e).1; omega
  have X6 : Hid (w6.heap[w.heap.size]? = some (.cells #[.int .i64 0, .string ⟨#[]⟩, .int .i64 0, .slice none 0 0, .slice none 0 0, .int .i64 0, .int .i64 0, .bool false, .slice none 0 0, .slice none 0 0] 29 (0, 0))) := ((h3.block _ (by simp; omega) (fun e => hrow _ (by omega) e.symm)).trans (Below.heap_alloc _ _ _ (by omega))).trans X5.out
  have E6 : Hid (w6.heap[w.heap.size + 1]? = some (.cells #[.int .i64 0] 30 (0, 0))) := ((h3.block _ (by simp; omega) (fun e => hrow _ (by omega) e.symm)).trans (Below.heap_alloc _ _ _ (by omega))).trans E5.out
  have A6 : Hid (w6.heap[w.heap.size + 2]? = some (.cells #[.int .i64 0] 3 (0, 0))) := ((h3.block _ (by simp; omega) (fun e => hrow _ (by omega) e.symm)).trans (Below.heap_alloc _ _ _ (by omega))).trans A5.out
  have B6 : Hid (Below w.heap.size w w6) := Below.grown (B5.out.alloc (by omega) _) h3 (by simp; omega) (fun q hq => by have := (World.ownsRow.lt O5.out q hq).1; omega)
  have z6 : w.heap.size + 3 ≤ w6.heap.size := by have := h3.size; simp at this; omega
  obtain ⟨g6, c6, rfl, hT6⟩ := own_tks O6
  have T6 : Hid (TksAt w6 s.size L g6 c6) := hT6
  clear h2 h3 O6 hrow O5 B5 X5 E5 A5 z5 hT6 hi hz0 hz1 hz2
  go_wp2_with fail
  refine (WC.out w6 g6 c6 T6.out).mono ?_
  rintro e w7 ⟨v7, rfl, ⟨⟨uv, ut, us, ur⟩, rfl, hQ7⟩, hb7⟩
  obtain ⟨k1, k2, k3, k4⟩ := hQ7.at
  dsimp only [Fm.k, Fm.nm, Fm.op, Fm.lo, Fm.hi, Fm.opn, Fm.vars, Fm.terms, Fm.subs, Fm.rgx] at k1 k2 k3 k4
  obtain ⟨-, qv, dv, rfl, -⟩ := k1
  obtain ⟨qt, dt, rfl, -⟩ := k2.form
  obtain ⟨qs, ds, rfl, -⟩ := k3.form
  obtain ⟨qr, dr, rfl, -⟩ := k4.form
  have HQ : Hid (QOwn (fun q => w6.heap.size ≤ q) w7 (((Fm.mk fk fnm fop fvs fts flo fhi fpn fss frs), (⟨.slice qv fvs.length dv, .slice qt fts.length dt, .slice qs fss.length ds, .slice qr frs.length dr⟩ : FQ)) : Fm × FQ)) := hQ7
  clear k2 k3 k4 hQ7
  dsimp only [Fm.k, Fm.nm, Fm.op, Fm.lo, Fm.hi, Fm.opn]
  have X7 : Hid (w7.heap[w.heap.size]? = some (.cells #[.int .i64 0, .string ⟨#[]⟩, .int .i64 0, .slice none 0 0, .slice none 0 0, .int .i64 0, .int .i64 0, .bool false, .slice none 0 0, .slice none 0 0] 29 (0, 0))) := (hb7.block _ (by omega)).trans X6.out
  have E7 : Hid (w7.heap[w.heap.size + 1]? = some (.cells #[.int .i64 0] 30 (0, 0))) := (hb7.block _ (by omega)).trans E6.out
  have A7 : Hid (w7.heap[w.heap.size + 2]? = some (.cells #[.int .i64 0] 3 (0, 0))) := (hb7.block _ (by omega)).trans A6.out
  have B7 : Hid (Below w.heap.size w w7) := B6.out.trans (hb7.mono (by omega))
  have z7 : w6.heap.size ≤ w7.heap.size := hb7.size
  clear hb7 B6 X6 E6 A6 T6 WC
  obtain ⟨x0, x1, x2, x3, x4, x5, x6, x7, x8, x9⟩ := bx10 X7.out
  obtain ⟨f0, f1, f2, f3, f4, f5, f6, f7, f8, f9⟩ := bz10 X7.out
  have y0 : w7.cell? ⟨w.heap.size + 1, 0, none⟩ = some (.int .i64 0) := by rw [Lib.cell_of_heap E7.out]; rfl
  have g0 : w7.frozen? ⟨w.heap.size + 1, 0, none⟩ = false := Lib.frozen_of_heap E7.out _
  have t0 : w7.cell? ⟨w.heap.size + 2, 0, none⟩ = some (.int .i64 0) := by rw [Lib.cell_of_heap A7.out]; rfl
  have u0 : w7.frozen? ⟨w.heap.size + 2, 0, none⟩ = false := Lib.frozen_of_heap A7.out _
  go_upto_region 6 with fail
  refine wp_world ?_
  intro W8 hW8
  have F8 : Fr (fun k => k = w.heap.size) w7 W8 := by rw [hW8]; exact frp10 (P := fun k => k = w.heap.size) (Fr.refl _ w7) (Or.inl rfl) _ _ _ _ _ _ _ _ _ _
  have X8 : Hid (W8.heap[w.heap.size]? = some (.cells #[.int .i64 fk, .string fnm, .int .i64 fop, .slice qv fvs.length dv, .slice qt fts.length dt, .int .i64 flo, .int .i64 fhi, .bool fpn, .slice qs fss.length ds, .slice qr frs.length dr] 29 (0, 0))) := by rw [hW8]; exact put10 X7.out
  have E8 : Hid (W8.heap[w.heap.size + 1]? = some (.cells #[.int .i64 0] 30 (0, 0))) := F8.heap E7.out (fun e => by omega)
  have A8 : Hid (W8.heap[w.heap.size + 2]? = some (.cells #[.int .i64 0] 3 (0, 0))) := F8.heap A7.out (fun e => by omega)
  have B8 : Hid (Below w.heap.size w W8) := B7.out.trans (F8.below B7.out.size (fun k e => by omega))
  have Q8 : Hid (QOwn (fun q => w6.heap.size ≤ q) W8 (((Fm.mk fk fnm fop fvs fts flo fhi fpn fss frs), (⟨.slice qv fvs.length dv, .slice qt fts.length dt, .slice qs fss.length ds, .slice qr frs.length dr⟩ : FQ)) : Fm × FQ)) := HQ.out.keep (fun q hq hlt => F8.block q hlt (fun e => by omega))
  have z8 : w6.heap.size ≤ W8.heap.size := Nat.le_trans z7 F8.size
  have CK8 : Hid (Calls Tryz.prog 19 #[.agg #[.int .i64 fk, .string fnm, .int .i64 fop, .slice qv fvs.length dv, .slice qt fts.length dt, .int .i64 flo, .int .i64 fhi, .bool fpn, .slice qs fss.length ds, .slice qr frs.length dr]] W8 fun r w' => r = .returned (.int .i64 E) ∧ Below W8.heap.size W8 w') := CK.out ⟨.slice qv fvs.length dv, .slice qt fts.length dt, .slice qs fss.length ds, .slice qr frs.length dr⟩ W8 Q8.out.at
  clear hW8 F8 x0 x1 x2 x3 x4 x5 x6 x7 x8 x9 f0 f1 f2 f3 f4 f5 f6 f7 f8 f9 y0 g0 t0 u0 X7 E7 A7 B7 HQ CK z7
  obtain ⟨x0, x1, x2, x3, x4, x5, x6, x7, x8, x9⟩ := bx10 X8.out
  go_wp2_with fail
  refine CK8.out.mono ?_
  rintro e w9 ⟨rfl, hb9⟩
  have X9 : Hid (w9.heap[w.heap.size]? = some (.cells #[.int .i64 fk, .string fnm, .int .i64 fop, .slice qv fvs.length dv, .slice qt fts.length dt, .int .i64 flo, .int .i64 fhi, .bool fpn, .slice qs fss.length ds, .slice qr frs.length dr] 29 (0, 0))) := (hb9.block _ (by omega)).trans X8.out
  have E9 : Hid (w9.heap[w.heap.size + 1]? = some (.cells #[.int .i64 0] 30 (0, 0))) := (hb9.block _ (by omega)).trans E8.out
  have A9 : Hid (w9.heap[w.heap.size + 2]? = some (.cells #[.int .i64 0] 3 (0, 0))) := (hb9.block _ (by omega)).trans A8.out
  have B9 : Hid (Below w.heap.size w w9) := B8.out.trans (hb9.mono (by omega))
  have Q9 : Hid (QOwn (fun q => w6.heap.size ≤ q) w9 (((Fm.mk fk fnm fop fvs fts flo fhi fpn fss frs), (⟨.slice qv fvs.length dv, .slice qt fts.length dt, .slice qs fss.length ds, .slice qr frs.length dr⟩ : FQ)) : Fm × FQ)) := Q8.out.keep (fun q hq hlt => hb9.block q hlt)
  have z9 : w6.heap.size ≤ w9.heap.size := Nat.le_trans z8 hb9.size
  clear hb9 X8 E8 A8 B8 Q8 CK8 z8 x0 x1 x2 x3 x4 x5 x6 x7 x8 x9
  obtain ⟨x0, x1, x2, x3, x4, x5, x6, x7, x8, x9⟩ := bx10 X9.out
  obtain ⟨f0, f1, f2, f3, f4, f5, f6, f7, f8, f9⟩ := bz10 X9.out
  have y0 : w9.cell? ⟨w.heap.size + 1, 0, none⟩ = some (.int .i64 0) := by rw [Lib.cell_of_heap E9.out]; rfl
  have g0 : w9.frozen? ⟨w.heap.size + 1, 0, none⟩ = false := Lib.frozen_of_heap E9.out _
  have t0 : w9.cell? ⟨w.heap.size + 2, 0, none⟩ = some (.int .i64 0) := by rw [Lib.cell_of_heap A9.out]; rfl
  have u0 : w9.frozen? ⟨w.heap.size + 2, 0, none⟩ = false := Lib.frozen_of_heap A9.out _
  have T9 := three (u := .int .i64 E) (v := .int .i64 0) (v0 := .int .i64 0) (v1 := .string ⟨#[]⟩) (v2 := .int .i64 0) (v3 := .slice none 0 0) (v4 := .slice none 0 0) (v5 := .int .i64 0) (v6 := .int .i64 0) (v7 := .bool false) (v8 := .slice none 0 0) (v9 := .slice none 0 0) X9.out E9.out A9.out (by omega) (by omega) (by omega)
  have BF9 := (Below.setCell (Below.setCell (bput10 B9.out (Nat.le_refl _) (.int .i64 0) (.string ⟨#[]⟩) (.int .i64 0) (.slice none 0 0) (.slice none 0 0) (.int .i64 0) (.int .i64 0) (.bool false) (.slice none 0 0) (.slice none 0 0)) (p := ⟨w.heap.size + 1, 0, none⟩) (by dsimp only; omega) (.int .i64 E)) (p := ⟨w.heap.size + 2, 0, none⟩) (by dsimp only; omega) (.int .i64 0))
  clear B9 X9 E9 A9 Q9
  go_wp2
  generalize World.setCell _ _ _ = WF at T9 BF9 ⊢
  obtain ⟨XF, EF, AF⟩ := T9
  clear x0 x1 x2 x3 x4 x5 x6 x7 x8 x9 f0 f1 f2 f3 f4 f5 f6 f7 f8 f9 y0 g0 t0 u0
  refine leaves_cons (f := 16) (args := #[.pointer (some ⟨w.heap.size, 0, none⟩), .pointer (some ⟨w.heap.size + 1, 0, none⟩), .pointer (some ⟨w.heap.size + 2, 0, none⟩)]) (by simp) (by simp [go_sem]) ?_
  refine (catch_idle _ _ _ _).mono ?_
  rintro e u' w'' ⟨rfl, rfl, hw⟩
  replace hw := hw.symm
  subst hw
  obtain ⟨x0, x1, x2, x3, x4, x5, x6, x7, x8, x9⟩ := bx10 XF
  have y0 : WF.cell? ⟨w.heap.size + 1, 0, none⟩ = _ := (Lib.cell_of_heap EF _).trans rfl
  have t0 : WF.cell? ⟨w.heap.size + 2, 0, none⟩ = _ := (Lib.cell_of_heap AF _).trans rfl
  simp [Leaves, settle, results, Tryz.results9, go_sem, x0, x1, x2, x3, x4, x5, x6, x7, x8, x9, y0, t0]
  exact BF9
set_option maxRecDepth 100000 in
set_option maxHeartbeats 8000000 in
theorem par_ok (s : ByteArray) (L : List (Tok Val)) (w : World) (hs : s.size ≤ 16384) (hL : L.length ≤ 16384) (CT : Hid (∀ W : World, Below w.heap.size w W → Calls Tryz.prog 17 #[.string s] W fun e w' => ∃ v, e = .returned (.tuple #[v, .int .i64 0, .int .i64 0]) ∧ OwnT7 (W.heap.size + 1) v L w' ∧ Below W.heap.size W w')) (fk fop flo fhi : Int) (fnm : ByteArray) (fpn : Bool) (fvs : List ByteArray) (fts : List Tm) (fss : List Fm) (frs : List Rx) (WC : Hid (∀ (W : World) (b c : Nat), TksAt W s.size L b c → Calls Tryz.prog 18 #[.slice (some ⟨b, 0, none⟩) (L.length + 1) c] W fun e w' => ∃ v, e = .returned v ∧ FmV W (Fm.mk fk fnm fop fvs fts flo fhi fpn fss frs) v w' ∧ Below W.heap.size W w')) (CK : Hid (∀ (q : FQ) (W : World), QAt W ((Fm.mk fk fnm fop fvs fts flo fhi fpn fss frs), q) → Calls Tryz.prog 19 #[.agg #[.int .i64 fk, .string fnm, .int .i64 fop, q.v, q.t, .int .i64 flo, .int .i64 fhi, .bool fpn, q.s, q.r]] W fun r w' => r = .returned (.int .i64 0) ∧ Below W.heap.size W w')) :
    Calls Tryz.prog 9 #[.string s] w fun e w' => ∃ v, e = .returned (.tuple #[v, .int .i64 0, .int .i64 0]) ∧ FmV w (Fm.mk fk fnm fop fvs fts flo fhi fpn fss frs) v w' ∧ Below w.heap.size w w' := by
  have hmf : ∀ (fn : Fn) (first cap : Array Value) (w : World), (Instr.makeFunc fn first cap).run Tryz.prog w = .ok (.func fn first cap) w := fun _ _ _ _ => rfl
  obtain ⟨i0, hi, hz0, hz1, hz2⟩ := info_parts inT
  go_enter_defers Tryz.func9, Tryz.ntmps9
  go_wp2_with fail
  refine (CT.out _ (by go_grown)).mono ?_
  rintro e w1 ⟨v1, rfl, hO1, hb1⟩
  have z1 : w.heap.size + 3 ≤ w1.heap.size := by have := hb1.size; simp at this; omega
  have X1 : Hid (w1.heap[w.heap.size]? = some (.cells #[.int .i64 0, .string ⟨#[]⟩, .int .i64 0, .slice none 0 0, .slice none 0 0, .int .i64 0, .int .i64 0, .bool false, .slice none 0 0, .slice none 0 0] 29 (0, 0))) := (hb1.block _ (by simp only [World.size_alloc]; omega)).trans ((Below.heap_alloc _ _ _ (by simp only [World.size_alloc]; omega)).trans ((Below.heap_alloc _ _ _ (by simp only [World.size_alloc]; omega)).trans (new_box w _)))
  have E1 : Hid (w1.heap[w.heap.size + 1]? = some (.cells #[.int .i64 0] 30 (0, 0))) := (hb1.block _ (by simp only [World.size_alloc]; omega)).trans ((Below.heap_alloc _ _ _ (by simp only [World.size_alloc]; omega)).trans (by have q := new_box (w.alloc (.cells #[.int .i64 0, .string ⟨#[]⟩, .int .i64 0, .slice none 0 0, .slice none 0 0, .int .i64 0, .int .i64 0, .bool false, .slice none 0 0, .slice none 0 0] 29)) (.cells #[.int .i64 0] 30); simp only [World.size_alloc] at q; exact q))
  have A1 : Hid (w1.heap[w.heap.size + 2]? = some (.cells #[.int .i64 0] 3 (0, 0))) := (hb1.block _ (by simp only [World.size_alloc]; omega)).trans (by have q := new_box ((w.alloc (.cells #[.int .i64 0, .string ⟨#[]⟩, .int .i64 0, .slice none 0 0, .slice none 0 0, .int .i64 0, .int .i64 0, .bool false, .slice none 0 0, .slice none 0 0] 29)).alloc (.cells #[.int .i64 0] 30)) (.cells #[.int .i64 0] 3); simp only [World.size_alloc] at q; exact q)
  have B1 : Hid (Below w.heap.size w w1) := ((((Below.refl w.heap.size w).alloc (Nat.le_refl _) _).alloc (by simp) _).alloc (by simp; omega) _).trans (hb1.mono (by simp; omega))
  obtain ⟨p1, c1, rfl⟩ := row_form hO1
  have O1 : Hid (w1.ownsRow (w.heap.size + 3) 58 7 (.slice p1 L.length c1) L.length (flatT L)) := own_monoB hO1 (by first | (simp; done) | (simp; omega))
  clear hb1 CT hO1
  have y0 : w1.cell? ⟨w.heap.size + 1, 0, none⟩ = some (.int .i64 0) := by rw [Lib.cell_of_heap E1.out]; rfl
  have g0 : w1.frozen? ⟨w.heap.size + 1, 0, none⟩ = false := Lib.frozen_of_heap E1.out _
  have t0 : w1.cell? ⟨w.heap.size + 2, 0, none⟩ = some (.int .i64 0) := by rw [Lib.cell_of_heap A1.out]; rfl
  have u0 : w1.frozen? ⟨w.heap.size + 2, 0, none⟩ = false := Lib.frozen_of_heap A1.out _
  go_upto_region 5 with fail
  refine wp_world ?_
  intro W5 hW5
  have X5 : Hid (W5.heap[w.heap.size]? = some (.cells #[.int .i64 0, .string ⟨#[]⟩, .int .i64 0, .slice none 0 0, .slice none 0 0, .int .i64 0, .int .i64 0, .bool false, .slice none 0 0, .slice none 0 0] 29 (0, 0))) := by
    rw [hW5, Below.heap_setCell _ _ _ _ (by intro e; dsimp only at e; omega), Below.heap_setCell _ _ _ _ (by intro e; dsimp only at e; omega)]
    exact X1.out
  have E5 : Hid (W5.heap[w.heap.size + 1]? = some (.cells #[.int .i64 0] 30 (0, 0))) := by
    rw [hW5, Below.heap_setCell _ _ _ _ (by intro e; dsimp only at e; omega)]
    exact set_heap E1.out _
  have A5 : Hid (W5.heap[w.heap.size + 2]? = some (.cells #[.int .i64 0] 3 (0, 0))) := by
    rw [hW5]
    refine set_heap (cs := #[.int .i64 0]) ?_ _
    rw [Below.heap_setCell _ _ _ _ (by intro e; dsimp only at e; omega)]
    exact A1.out
  have B5 : Hid (Below w.heap.size w W5) := by rw [hW5]; exact (B1.out.setCell (by dsimp only; omega) _).setCell (by dsimp only; omega) _
  have O5 : Hid (W5.ownsRow (w.heap.size + 3) 58 7 (.slice p1 L.length c1) L.length (flatT L)) := by
    rw [hW5]
    exact own_setQ (own_setQ O1.out (by dsimp only; omega) _) (by dsimp only; omega) _
  have z5 : w.heap.size + 3 ≤ W5.heap.size := by rw [hW5]; simpa using z1
  clear hW5 X1 E1 A1 B1 O1 y0 g0 t0 u0 z1
  have hsl : s.size ≤ 9223372036854775807 := by omega
  go_wp2_with (at_builtin; refine wpList_append_own _ rfl _ _ 54 rfl (w.heap.size + 3) 58 i0 (.agg #[.int .i64 0, .int .i64 0, .string ⟨#[]⟩, .int .i64 0, .int .i64 0, .int .i64 0, .string ⟨#[]⟩]) 7 72 Tryz.underlying54 hi hz0 hz1 hz2 rfl (by decide) _ _ _ rfl (World.ownsRow.alloc O5.out _) ⟨W5.heap.size, 0, none⟩ 1 1 (tcells (endT s.size)) rfl rfl ?cc1 ?cc2 ?cc3 ?cc4 ?cc5 ?_)
  case cc1 => (intro j u hj; rw [Addr.add_lit]; simp only [tcells, endT] at hj; (rcases j with _ | _ | _ | _ | _ | _ | _ | j) <;> simp at hj <;> subst hj <;> simp (maxDischargeDepth := 12) [go_sem] <;> rfl)
  case cc2 => (intro u hu; simp only [tcells, endT] at hu; simp at hu; rcases hu with rfl | rfl | rfl | rfl | rfl | rfl | rfl <;> rfl)
  case cc3 => unfold maxLen; omega
  case cc4 => omega
  case cc5 => first | omega | (simp; omega)
  intro v6 w6 h2 h3 _
  have O6 : OwnT7 (w.heap.size + 3) v6 (L ++ [endT s.size]) w6 := by
    show w6.ownsRow _ _ _ _ _ _
    rw [List.length_append, ← flatT_more]
    exact h2
  have hrow : ∀ k, k < w.heap.size + 3 → ¬ (Value.slice p1 L.length c1).ownBlock = some k := fun k hk e => by have := (World.ownsRow.lt O5.out k e).1; omega
  have X6 : Hid (w6.heap[w.heap.size]? = some (.cells #[.int .i64 0, .string ⟨#[]⟩, .int .i64 0, .slice none 0 0, .slice none 0 0, .int .i64 0, .int .i64 0, .bool false, .slice none 0 0, .slice none 0 0] 29 (0, 0))) := ((h3.block _ (by simp; omega) (fun e => hrow _ (by omega) e.symm)).trans (Below.heap_alloc _ _ _ (by omega))).trans X5.out
  have E6 : Hid (w6.heap[w.heap.size + 1]? = some (.cells #[.int .i64 0] 30 (0, 0))) := ((h3.block _ (by simp; omega) (fun e => hrow _ (by omega) e.symm)).trans (Below.heap_alloc _ _ _ (by omega))).trans E5.out
  have A6 : Hid (w6.heap[w.heap.size + 2]? = some (.cells #[.int .i64 0] 3 (0, 0))) := ((h3.block _ (by simp; omega) (fun e => hrow _ (by omega) e.symm)).trans (Below.heap_alloc _ _ _ (by omega))).trans A5.out
  have B6 : Hid (Below w.heap.size w w6) := Below.grown (B5.out.alloc (by omega) _) h3 (by simp; omega) (fun q hq => by have := (World.ownsRow.lt O5.out q hq).1; omega)
  have z6 : w.heap.size + 3 ≤ w6.heap.size := by have := h3.size; simp at this; omega
  obtain ⟨g6, c6, rfl, hT6⟩ := own_tks O6
  have T6 : Hid (TksAt w6 s.size L g6 c6) := hT6
  clear h2 h3 O6 hrow O5 B5 X5 E5 A5 z5 hT6 hi hz0 hz1 hz2
  go_wp2_with fail
  refine (WC.out w6 g6 c6 T6.out).mono ?_
  rintro e w7 ⟨v7, rfl, ⟨⟨uv, ut, us, ur⟩, rfl, hQ7⟩, hb7⟩
  obtain ⟨k1, k2, k3, k4⟩ := hQ7.at
  dsimp only [Fm.k, Fm.nm, Fm.op, Fm.lo, Fm.hi, Fm.opn, Fm.vars, Fm.terms, Fm.subs, Fm.rgx] at k1 k2 k3 k4
  obtain ⟨-, qv, dv, rfl, -⟩ := k1
  obtain ⟨qt, dt, rfl, -⟩ := k2.form
  obtain ⟨qs, ds, rfl, -⟩ := k3.form
  obtain ⟨qr, dr, rfl, -⟩ := k4.form
  have HQ : Hid (QOwn (fun q => w6.heap.size ≤ q) w7 (((Fm.mk fk fnm fop fvs fts flo fhi fpn fss frs), (⟨.slice qv fvs.length dv, .slice qt fts.length dt, .slice qs fss.length ds, .slice qr frs.length dr⟩ : FQ)) : Fm × FQ)) := hQ7
  clear k2 k3 k4 hQ7
  dsimp only [Fm.k, Fm.nm, Fm.op, Fm.lo, Fm.hi, Fm.opn]
  have X7 : Hid (w7.heap[w.heap.size]? = some (.cells #[.int .i64 0, .string ⟨#[]⟩, .int .i64 0, .slice none 0 0, .slice none 0 0, .int .i64 0, .int .i64 0, .bool false, .slice none 0 0, .slice none 0 0] 29 (0, 0))) := (hb7.block _ (by omega)).trans X6.out
  have E7 : Hid (w7.heap[w.heap.size + 1]? = some (.cells #[.int .i64 0] 30 (0, 0))) := (hb7.block _ (by omega)).trans E6.out
  have A7 : Hid (w7.heap[w.heap.size + 2]? = some (.cells #[.int .i64 0] 3 (0, 0))) := (hb7.block _ (by omega)).trans A6.out
  have B7 : Hid (Below w.heap.size w w7) := B6.out.trans (hb7.mono (by omega))
  have z7 : w6.heap.size ≤ w7.heap.size := hb7.size
  clear hb7 B6 X6 E6 A6 T6 WC
  obtain ⟨x0, x1, x2, x3, x4, x5, x6, x7, x8, x9⟩ := bx10 X7.out
  obtain ⟨f0, f1, f2, f3, f4, f5, f6, f7, f8, f9⟩ := bz10 X7.out
  have y0 : w7.cell? ⟨w.heap.size + 1, 0, none⟩ = some (.int .i64 0) := by rw [Lib.cell_of_heap E7.out]; rfl
  have g0 : w7.frozen? ⟨w.heap.size + 1, 0, none⟩ = false := Lib.frozen_of_heap E7.out _
  have t0 : w7.cell? ⟨w.heap.size + 2, 0, none⟩ = some (.int .i64 0) := by rw [Lib.cell_of_heap A7.out]; rfl
  have u0 : w7.frozen? ⟨w.heap.size + 2, 0, none⟩ = false := Lib.frozen_of_heap A7.out _
  go_upto_region 6 with fail
  refine wp_world ?_
  intro W8 hW8
  have F8 : Fr (fun k => k = w.heap.size) w7 W8 := by rw [hW8]; exact frp10 (P := fun k => k = w.heap.size) (Fr.refl _ w7) (Or.inl rfl) _ _ _ _ _ _ _ _ _ _
  have X8 : Hid (W8.heap[w.heap.size]? = some (.cells #[.int .i64 fk, .string fnm, .int .i64 fop, .slice qv fvs.length dv, .slice qt fts.length dt, .int .i64 flo, .int .i64 fhi, .bool fpn, .slice qs fss.length ds, .slice qr frs.length dr] 29 (0, 0))) := by rw [hW8]; exact put10 X7.out
  have E8 : Hid (W8.heap[w.heap.size + 1]? = some (.cells #[.int .i64 0] 30 (0, 0))) := F8.heap E7.out (fun e => by omega)
  have A8 : Hid (W8.heap[w.heap.size + 2]? = some (.cells #[.int .i64 0] 3 (0, 0))) := F8.heap A7.out (fun e => by omega)
  have B8 : Hid (Below w.heap.size w W8) := B7.out.trans (F8.below B7.out.size (fun k e => by omega))
  have Q8 : Hid (QOwn (fun q => w6.heap.size ≤ q) W8 (((Fm.mk fk fnm fop fvs fts flo fhi fpn fss frs), (⟨.slice qv fvs.length dv, .slice qt fts.length dt, .slice qs fss.length ds, .slice qr frs.length dr⟩ : FQ)) : Fm × FQ)) := HQ.out.keep (fun q hq hlt => F8.block q hlt (fun e => by omega))
  have z8 : w6.heap.size ≤ W8.heap.size := Nat.le_trans z7 F8.size
  have CK8 : Hid (Calls Tryz.prog 19 #[.agg #[.int .i64 fk, .string fnm, .int .i64 fop, .slice qv fvs.length dv, .slice qt fts.length dt, .int .i64 flo, .int .i64 fhi, .bool fpn, .slice qs fss.length ds, .slice qr frs.length dr]] W8 fun r w' => r = .returned (.int .i64 0) ∧ Below W8.heap.size W8 w') := CK.out ⟨.slice qv fvs.length dv, .slice qt fts.length dt, .slice qs fss.length ds, .slice qr frs.length dr⟩ W8 Q8.out.at
  clear hW8 F8 x0 x1 x2 x3 x4 x5 x6 x7 x8 x9 f0 f1 f2 f3 f4 f5 f6 f7 f8 f9 y0 g0 t0 u0 X7 E7 A7 B7 HQ CK z7
  obtain ⟨x0, x1, x2, x3, x4, x5, x6, x7, x8, x9⟩ := bx10 X8.out
  go_wp2_with fail
  refine CK8.out.mono ?_
  rintro e w9 ⟨rfl, hb9⟩
  have X9 : Hid (w9.heap[w.heap.size]? = some (.cells #[.int .i64 fk, .string fnm, .int .i64 fop, .slice qv fvs.length dv, .slice qt fts.length dt, .int .i64 flo, .int .i64 fhi, .bool fpn, .slice qs fss.length ds, .slice qr frs.length dr] 29 (0, 0))) := (hb9.block _ (by omega)).trans X8.out
  have E9 : Hid (w9.heap[w.heap.size + 1]? = some (.cells #[.int .i64 0] 30 (0, 0))) := (hb9.block _ (by omega)).trans E8.out
  have A9 : Hid (w9.heap[w.heap.size + 2]? = some (.cells #[.int .i64 0] 3 (0, 0))) := (hb9.block _ (by omega)).trans A8.out
  have B9 : Hid (Below w.heap.size w w9) := B8.out.trans (hb9.mono (by omega))
  have Q9 : Hid (QOwn (fun q => w6.heap.size ≤ q) w9 (((Fm.mk fk fnm fop fvs fts flo fhi fpn fss frs), (⟨.slice qv fvs.length dv, .slice qt fts.length dt, .slice qs fss.length ds, .slice qr frs.length dr⟩ : FQ)) : Fm × FQ)) := Q8.out.keep (fun q hq hlt => hb9.block q hlt)
  have z9 : w6.heap.size ≤ w9.heap.size := Nat.le_trans z8 hb9.size
  clear hb9 X8 E8 A8 B8 Q8 CK8 z8 x0 x1 x2 x3 x4 x5 x6 x7 x8 x9
  obtain ⟨x0, x1, x2, x3, x4, x5, x6, x7, x8, x9⟩ := bx10 X9.out
  obtain ⟨f0, f1, f2, f3, f4, f5, f6, f7, f8, f9⟩ := bz10 X9.out
  have y0 : w9.cell? ⟨w.heap.size + 1, 0, none⟩ = some (.int .i64 0) := by rw [Lib.cell_of_heap E9.out]; rfl
  have g0 : w9.frozen? ⟨w.heap.size + 1, 0, none⟩ = false := Lib.frozen_of_heap E9.out _
  have t0 : w9.cell? ⟨w.heap.size + 2, 0, none⟩ = some (.int .i64 0) := by rw [Lib.cell_of_heap A9.out]; rfl
  have u0 : w9.frozen? ⟨w.heap.size + 2, 0, none⟩ = false := Lib.frozen_of_heap A9.out _
  have T9 := three (u := .int .i64 0) (v := .int .i64 0) (v0 := .int .i64 fk) (v1 := .string fnm) (v2 := .int .i64 fop) (v3 := .slice qv fvs.length dv) (v4 := .slice qt fts.length dt) (v5 := .int .i64 flo) (v6 := .int .i64 fhi) (v7 := .bool fpn) (v8 := .slice qs fss.length ds) (v9 := .slice qr frs.length dr) X9.out E9.out A9.out (by omega) (by omega) (by omega)
  have BF9 := (Below.setCell (Below.setCell (bput10 B9.out (Nat.le_refl _) (.int .i64 fk) (.string fnm) (.int .i64 fop) (.slice qv fvs.length dv) (.slice qt fts.length dt) (.int .i64 flo) (.int .i64 fhi) (.bool fpn) (.slice qs fss.length ds) (.slice qr frs.length dr)) (p := ⟨w.heap.size + 1, 0, none⟩) (by dsimp only; omega) (.int .i64 0)) (p := ⟨w.heap.size + 2, 0, none⟩) (by dsimp only; omega) (.int .i64 0))
  have QF9 : QOwn (fun q => w.heap.size ≤ q) _ (((Fm.mk fk fnm fop fvs fts flo fhi fpn fss frs), (⟨.slice qv fvs.length dv, .slice qt fts.length dt, .slice qs fss.length ds, .slice qr frs.length dr⟩ : FQ)) : Fm × FQ) := (Q9.out.mono (P' := fun q => w6.heap.size ≤ q ∧ w.heap.size ≤ q) (fun q h1 h2 => ⟨h1, by omega⟩)).keep (fun q hq hlt => (Fr.setCell (Fr.setCell (frp10 (Fr.refl (fun k => k = w.heap.size ∨ k = w.heap.size + 1 ∨ k = w.heap.size + 2) w9) (Or.inl (Or.inl rfl)) (.int .i64 fk) (.string fnm) (.int .i64 fop) (.slice qv fvs.length dv) (.slice qt fts.length dt) (.int .i64 flo) (.int .i64 fhi) (.bool fpn) (.slice qs fss.length ds) (.slice qr frs.length dr)) (p := ⟨w.heap.size + 1, 0, none⟩) (Or.inl (Or.inr (Or.inl rfl))) (.int .i64 0)) (p := ⟨w.heap.size + 2, 0, none⟩) (Or.inl (Or.inr (Or.inr rfl))) (.int .i64 0)).block q hlt (fun e => by omega)) |>.mono (fun q h1 h2 => h1.2)
  clear B9 X9 E9 A9 Q9
  go_wp2
  generalize World.setCell _ _ _ = WF at T9 BF9 QF9 ⊢
  obtain ⟨XF, EF, AF⟩ := T9
  clear x0 x1 x2 x3 x4 x5 x6 x7 x8 x9 f0 f1 f2 f3 f4 f5 f6 f7 f8 f9 y0 g0 t0 u0
  refine leaves_cons (f := 16) (args := #[.pointer (some ⟨w.heap.size, 0, none⟩), .pointer (some ⟨w.heap.size + 1, 0, none⟩), .pointer (some ⟨w.heap.size + 2, 0, none⟩)]) (by simp) (by simp [go_sem]) ?_
  refine (catch_idle _ _ _ _).mono ?_
  rintro e u' w'' ⟨rfl, rfl, hw⟩
  replace hw := hw.symm
  subst hw
  obtain ⟨x0, x1, x2, x3, x4, x5, x6, x7, x8, x9⟩ := bx10 XF
  have y0 : WF.cell? ⟨w.heap.size + 1, 0, none⟩ = _ := (Lib.cell_of_heap EF _).trans rfl
  have t0 : WF.cell? ⟨w.heap.size + 2, 0, none⟩ = _ := (Lib.cell_of_heap AF _).trans rfl
  simp [Leaves, settle, results, Tryz.results9, go_sem, x0, x1, x2, x3, x4, x5, x6, x7, x8, x9, y0, t0]
  exact ⟨⟨⟨_, _, _, _⟩, rfl, QF9⟩, BF9⟩
end Go.Proofs.YticnfeolbfmgfaaGreatDoor

namespace Go.Proofs.YticnfeolbfmgfaaGreatDoor
open Go.RowKit LX Go.Shelf
set_option linter.unusedVariables false

theorem pHead_eq (sz n : Nat) (pt : List (Tok Val) → Rd Tm) (pf : List (Tok Val) → Rd Fm) (pr : List (Tok Val) → Rd Rx) (ts : List (Tok Val)) : ∃ u, pHead sz n pt pf pr ts = (if nameB (txB (tkH sz ts)) then (rMany pt true n 0 u).bind fun l r' => .ok (fmP (txB (tkH sz ts)) l) r' else match kindIn hdF (tkH sz ts).x 4 19 with | none => .bad 70 (tkH sz ts).at_ | some k => pShaped sz n pt pf pr k u) ∧ ((tkH sz ts).x ≠ [] → ∃ t, ts = t :: u) ∧ u.length ≤ ts.length := by
  cases ts with
  | nil => exact ⟨[], rfl, fun h => absurd rfl h, Nat.le_refl _⟩
  | cons t r => exact ⟨r, rfl, fun _ => ⟨t, rfl⟩, by simp⟩
theorem field_head (s : ByteArray) (b1 b2 b3 b4 b8 : Bool) (n5 n6 n7 : Int) (w : World) : (Instr.field 82 (.agg #[.string s, .bool b1, .bool b2, .bool b3, .bool b4, .int .i64 n5, .int .i64 n6, .int .i64 n7, .bool b8]) 0).run Tryz.prog w = .ok (.string s) w := by kernel_rfl
set_option maxRecDepth 100000 in
set_option maxHeartbeats 8000000 in
theorem headed_name (m R sz : Nat) (ts : List (Tok Val)) (d : Int) (w : World) (h : RdAt m w R sz ts) (n : Nat) (pt : List (Tok Val) → Rd Tm) (hb : nameB (txB (tkH sz ts)) = true) (t0 : Tok Val) (u : List (Tok Val)) (hT : ts = t0 :: u) (HT : ∀ W : World, RdAt m W R sz u → Calls Tryz.prog 120 #[.pointer (some ⟨R, 0, none⟩), .int .i64 ((0 : Nat) : Int), .bool true, .int .i64 d] W (RdO m R sz W (fun l v w' => TmsOwn (fun q => W.heap.size ≤ q) w' v l) (rMany pt true n 0 u))) : Calls Tryz.prog 75 #[.pointer (some ⟨R, 0, none⟩), .int .i64 d] w (RdO m R sz w (FmV w) ((rMany pt true n 0 u).bind fun l r' => .ok (fmP (txB (tkH sz ts)) l) r')) := by
  have CN : Hid (∀ W : World, Below w.heap.size w W → Calls Tryz.prog 32 #[.pointer (some ⟨R, 0, none⟩)] W (NxO m R sz ts W (.agg #[.int .i64 (tkH sz ts).k, .int .i64 (tkH sz ts).at_, .string (txB (tkH sz ts)), .int .i64 (tkH sz ts).v.k, .int .i64 (tkH sz ts).v.n, .int .i64 (tkH sz ts).v.d, .string (tkH sz ts).v.s]))) := fun W hW => next_at m R sz ts W (h.below hW)
  have hlt := h.lt
  have hNm : Hid (∀ W : World, Calls Tryz.prog 119 #[.string (txB (tkH sz ts))] W fun e w' => e = .returned (.bool true) ∧ w' = W) := fun W => (name_any _ W).mono fun e w' h => ⟨by rw [h.1, hb], h.2⟩
  have K3 : Hid (∀ W : World, RdAt m W R sz u → Calls Tryz.prog 120 #[.pointer (some ⟨R, 0, none⟩), .int .i64 ((0 : Nat) : Int), .bool true, .int .i64 d] W (RdO m R sz W (fun l v w' => TmsOwn (fun q => W.heap.size ≤ q) w' v l) (rMany pt true n 0 u))) := HT
  have hPc : Hid ((∃ er a, rMany pt true n 0 u = .bad er a) ∨ ∃ x r, rMany pt true n 0 u = .ok x r) := by
    cases hq : rMany pt true n 0 u with
    | bad er a => exact Or.inl ⟨er, a, rfl⟩
    | ok x r => exact Or.inr ⟨x, r, rfl⟩
  obtain ⟨RS, hRS⟩ : ∃ x : Rd Fm, Hid (((rMany pt true n 0 u).bind fun l r' => Rd.ok (fmP (txB (tkH sz ts)) l) r') = x) := ⟨_, rfl⟩
  rw [hRS.out]
  clear HT
  generalize (tkH sz ts).k = tk at *
  generalize (tkH sz ts).at_ = ta at *
  generalize txB (tkH sz ts) = tx at *
  generalize (tkH sz ts).v.k = vk at *
  generalize (tkH sz ts).v.n = vn at *
  generalize (tkH sz ts).v.d = vd at *
  generalize (tkH sz ts).v.s = vs at *
  go_enter Tryz.func75, Tryz.ntmps75
  go_wp2_with fail
  refine (CN.out _ (by go_grown)).mono ?_
  rintro e w1 ⟨rfl, hF, hN⟩
  have z1 : w.heap.size < w1.heap.size := by have := hF.size; simp at this; omega
  have X1 : Hid (w1.heap[w.heap.size]? = some (.cells #[.int .i64 0, .string ⟨#[]⟩, .int .i64 0, .slice none 0 0, .slice none 0 0, .int .i64 0, .int .i64 0, .bool false, .slice none 0 0, .slice none 0 0] 29 (0, 0))) := hF.heap (new_box w _) (fun e => by omega)
  have F1 : Hid (Fr (fun k => k = R) w w1) := ((Fr.refl (fun k => k = R) w).alloc _).trans hF (fun k e => Or.inl e)
  have N1 : Hid (∀ t r, ts = t :: r → RdAt m w1 R sz r) := hN
  clear hF hN CN
  go_upto_region 2 with fail
  refine wp_world ?_
  intro W2 hW2
  have X2 : Hid (W2.heap[w.heap.size]? = some (.cells #[.int .i64 0, .string ⟨#[]⟩, .int .i64 0, .slice none 0 0, .slice none 0 0, .int .i64 0, .int .i64 0, .bool false, .slice none 0 0, .slice none 0 0] 29 (0, 0))) := by rw [hW2]; exact ((Fr.refl (fun k => k = R) w1).alloc _).heap X1.out (fun e => by omega)
  have V2 : Hid (W2.heap[w1.heap.size]? = some (.cells #[.int .i64 tk, .int .i64 ta, .string tx, .int .i64 vk, .int .i64 vn, .int .i64 vd, .string vs] 58 (0, 0))) := by rw [hW2]; exact new_box w1 _
  have F2 : Hid (Fr (fun k => k = R) w W2) := by rw [hW2]; exact F1.out.alloc _
  have A2 : Hid (∀ t r, ts = t :: r → RdAt m W2 R sz r) := fun t r e => by rw [hW2]; exact (N1.out t r e).below ((Below.refl w1.heap.size w1).alloc (Nat.le_refl _) _)
  have zz : w1.heap.size < W2.heap.size := by rw [hW2]; simp
  clear hW2 F1 N1 X1
  generalize w1.heap.size = n1 at *
  obtain ⟨v0, v1, v2, v3, v4, v5, v6⟩ := bx7 V2.out
  go_wp2_with fail
  refine (hNm.out _).mono ?_
  rintro e w9 ⟨rfl, hw9⟩
  obtain rfl := hw9.symm
  clear hNm
  have A3 : Hid (RdAt m W2 R sz u) := A2.out _ _ hT
  clear A2
  go_upto_region 3 with fail
  go_region_law (go_simp; go_at_call 120; refine (K3.out _ (A3.out.below (by go_grown))).mono ?_; intro e w3 q; rcases hPc.out with ⟨er, a, hP⟩ | ⟨l, r3, hP⟩; (· (rw [hP] at q; obtain ⟨rfl, hF9⟩ := q; refine ⟨rfl, ?_⟩; rw [← hRS.out, hP]; exact ⟨rfl, (F2.out.drew).trans hF9 (fun k e => Or.inl e)⟩)); rw [hP] at q; obtain ⟨v9, rfl, hO9, hA9, hF9⟩ := q; obtain ⟨p3, c3, rfl, -⟩ := hO9.at.form; have V3 : Hid (w3.heap[n1]? = some (.cells #[.int .i64 tk, .int .i64 ta, .string tx, .int .i64 vk, .int .i64 vn, .int .i64 vd, .string vs] 58 (0, 0))) := hF9.heap (show W2.drew.heap[n1]? = _ from V2.out) (fun e => by omega); have X3 : Hid (w3.heap[w.heap.size]? = some (.cells #[.int .i64 0, .string ⟨#[]⟩, .int .i64 0, .slice none 0 0, .slice none 0 0, .int .i64 0, .int .i64 0, .bool false, .slice none 0 0, .slice none 0 0] 29 (0, 0))) := hF9.heap (show W2.drew.heap[w.heap.size]? = _ from X2.out) (fun e => by omega); have v23 := (bx7 V3.out).2.2.1; obtain ⟨r0, r1, r2, r3', r4, r5, r6, r7, r8, r9⟩ := bx10 X3.out; obtain ⟨q0, q1, q2, q3, q4, q5, q6, q7, q8, q9⟩ := bz10 X3.out)
  all_goals (
    have F3 : Hid (Fr (fun k => k = R) w w3) := (F2.out.drew).trans hF9 (fun k e => Or.inl e)
    have A4 : Hid (RdAt m w3 R sz r3) := hA9
    have Q3 : Hid (TmsOwn (fun q => W2.heap.size ≤ q) w3 (.slice p3 l.length c3) l) := hO9
    have hG : Hid (RS = .ok (fmP tx l) r3) := by
      show _ = _
      rw [← hRS.out, hP, Rd.bind_ok]
    clear hRS hP hO9 hA9 hF9 K3
    go_wp2
    generalize hW9 : World.setCell _ _ _ = W9
    have X9 : W9.heap[w.heap.size]? = some (.cells #[.int .i64 3, .string tx, .int .i64 0, .slice none 0 0, .slice p3 l.length c3, .int .i64 0, .int .i64 0, .bool false, .slice none 0 0, .slice none 0 0] 29 (0, 0)) := by rw [← hW9]; exact put10 X3.out
    have F9 : Fr (fun k => k = R) w W9 := by rw [← hW9]; exact frp10 F3.out (Or.inr (Nat.le_refl _)) _ _ _ _ _ _ _ _ _ _
    have G9 : Fr (fun k => k = w.heap.size) w3 W9 := by rw [← hW9]; exact frp10 (Fr.refl (fun k => k = w.heap.size) w3) (Or.inl rfl) _ _ _ _ _ _ _ _ _ _
    clear hW9
    obtain ⟨x0, x1, x2, x3, x4, x5, x6, x7, x8, x9⟩ := bx10 X9
    refine bodyPost_ret (by simp [results, Tryz.results75, go_sem, x0, x1, x2, x3, x4, x5, x6, x7, x8, x9]; try rfl) rfl ?_
    rw [hG.out]
    have Q9 := (Q3.out.keep (w' := W9) (fun q hq hlt9 => G9.block q hlt9 (fun e => by omega))).mono (P' := fun q => w.heap.size ≤ q) (fun q hq _ => by omega)
    exact ⟨_, rfl, ⟨⟨.slice none 0 0, .slice p3 l.length c3, .slice none 0 0, .slice none 0 0⟩, rfl, ⟨⟨⟨rfl, Or.inl ⟨rfl, rfl⟩⟩, (show (0 : Nat) ≤ 9223372036854775807 from Nat.zero_le _), fun q hq => by cases hq⟩, Q9, fms_none _ _, rxs_none _ _⟩⟩, A4.out.fr G9 (fun k e => by omega), F9⟩)
set_option maxRecDepth 100000 in
set_option maxHeartbeats 8000000 in
theorem headed_word (m R sz : Nat) (ts : List (Tok Val)) (d : Int) (w : World) (h : RdAt m w R sz ts) (n : Nat) (pt : List (Tok Val) → Rd Tm) (pf : List (Tok Val) → Rd Fm) (pr : List (Tok Val) → Rd Rx) (hb : nameB (txB (tkH sz ts)) = false) (u : List (Tok Val)) (hT : (∃ k, kindIn hdF (tkH sz ts).x 4 19 = some k) → ∃ t, ts = t :: u) (HS : ∀ (kk : Int) (W : World), 4 ≤ kk → kk ≤ 22 → RdAt m W R sz u → Calls Tryz.prog 121 #[.pointer (some ⟨R, 0, none⟩), .int .i64 kk, .int .i64 d] W (RdO m R sz W (FmV W) (pShaped sz n pt pf pr kk u))) : Calls Tryz.prog 75 #[.pointer (some ⟨R, 0, none⟩), .int .i64 d] w (RdO m R sz w (FmV w) (match kindIn hdF (tkH sz ts).x 4 19 with | none => .bad 70 (tkH sz ts).at_ | some k => pShaped sz n pt pf pr k u)) := by
  have CN : Hid (∀ W : World, Below w.heap.size w W → Calls Tryz.prog 32 #[.pointer (some ⟨R, 0, none⟩)] W (NxO m R sz ts W (.agg #[.int .i64 (tkH sz ts).k, .int .i64 (tkH sz ts).at_, .string (txB (tkH sz ts)), .int .i64 (tkH sz ts).v.k, .int .i64 (tkH sz ts).v.n, .int .i64 (tkH sz ts).v.d, .string (tkH sz ts).v.s]))) := fun W hW => next_at m R sz ts W (h.below hW)
  have hlt := h.lt
  have hNm : Hid (∀ W : World, Calls Tryz.prog 119 #[.string (txB (tkH sz ts))] W fun e w' => e = .returned (.bool false) ∧ w' = W) := fun W => (name_any _ W).mono fun e w' h => ⟨by rw [h.1, hb], h.2⟩
  have hfd := field_head
  have CS : Hid (∀ (kk : Int) (W : World), 4 ≤ kk → kk ≤ 22 → RdAt m W R sz u → Calls Tryz.prog 121 #[.pointer (some ⟨R, 0, none⟩), .int .i64 kk, .int .i64 d] W (RdO m R sz W (FmV W) (pShaped sz n pt pf pr kk u))) := HS
  have hxx : Hid (∀ k, (⟨(hdF k).toArray⟩ : ByteArray).toList = hdF k) := fun k => by rw [toList_data]
  have htx : (txB (tkH sz ts)).toList = (tkH sz ts).x := by rw [toList_data]; rfl
  obtain ⟨RS, hRS⟩ : ∃ x : Rd Fm, Hid ((match kindIn hdF (tkH sz ts).x 4 19 with | none => Rd.bad 70 (tkH sz ts).at_ | some k => pShaped sz n pt pf pr k u) = x) := ⟨_, rfl⟩
  rw [hRS.out]
  have HU : Hid (RS = (match kindIn hdF (tkH sz ts).x 4 19 with | none => Rd.bad 70 (tkH sz ts).at_ | some k => pShaped sz n pt pf pr k u)) := hRS.out.symm
  have HT2 : Hid ((∃ k, kindIn hdF (tkH sz ts).x 4 19 = some k) → ∃ t, ts = t :: u) := hT
  clear hRS hT HS
  obtain ⟨xx, hx9⟩ : ∃ l : List UInt8, Hid ((tkH sz ts).x = l) := ⟨_, rfl⟩
  rw [hx9.out] at HU HT2 htx
  clear hx9 hb
  generalize (tkH sz ts).k = tk at *
  generalize (tkH sz ts).at_ = ta at *
  generalize txB (tkH sz ts) = tx at *
  generalize (tkH sz ts).v.k = vk at *
  generalize (tkH sz ts).v.n = vn at *
  generalize (tkH sz ts).v.d = vd at *
  generalize (tkH sz ts).v.s = vs at *
  go_enter Tryz.func75, Tryz.ntmps75
  go_wp2_with fail
  refine (CN.out _ (by go_grown)).mono ?_
  rintro e w1 ⟨rfl, hF, hN⟩
  have z1 : w.heap.size < w1.heap.size := by have := hF.size; simp at this; omega
  have X1 : Hid (w1.heap[w.heap.size]? = some (.cells #[.int .i64 0, .string ⟨#[]⟩, .int .i64 0, .slice none 0 0, .slice none 0 0, .int .i64 0, .int .i64 0, .bool false, .slice none 0 0, .slice none 0 0] 29 (0, 0))) := hF.heap (new_box w _) (fun e => by omega)
  have F1 : Hid (Fr (fun k => k = R) w w1) := ((Fr.refl (fun k => k = R) w).alloc _).trans hF (fun k e => Or.inl e)
  have N1 : Hid (∀ t r, ts = t :: r → RdAt m w1 R sz r) := hN
  clear hF hN CN
  go_upto_region 2 with fail
  refine wp_world ?_
  intro W2 hW2
  have X2 : Hid (W2.heap[w.heap.size]? = some (.cells #[.int .i64 0, .string ⟨#[]⟩, .int .i64 0, .slice none 0 0, .slice none 0 0, .int .i64 0, .int .i64 0, .bool false, .slice none 0 0, .slice none 0 0] 29 (0, 0))) := by rw [hW2]; exact ((Fr.refl (fun k => k = R) w1).alloc _).heap X1.out (fun e => by omega)
  have V2 : Hid (W2.heap[w1.heap.size]? = some (.cells #[.int .i64 tk, .int .i64 ta, .string tx, .int .i64 vk, .int .i64 vn, .int .i64 vd, .string vs] 58 (0, 0))) := by rw [hW2]; exact new_box w1 _
  have F2 : Hid (Fr (fun k => k = R) w W2) := by rw [hW2]; exact F1.out.alloc _
  have A2 : Hid (∀ t r, ts = t :: r → RdAt m W2 R sz r) := fun t r e => by rw [hW2]; exact (N1.out t r e).below ((Below.refl w1.heap.size w1).alloc (Nat.le_refl _) _)
  have zz : w1.heap.size < W2.heap.size := by rw [hW2]; simp
  clear hW2 F1 N1 X1
  generalize w1.heap.size = n1 at *
  obtain ⟨v0, v1, v2, v3, v4, v5, v6⟩ := bx7 V2.out
  go_wp2_with fail
  refine (hNm.out _).mono ?_
  rintro e w9 ⟨rfl, hw9⟩
  obtain rfl := hw9.symm
  clear hNm
  clear v0 v1 v2 v3 v4 v5 v6
  go_wp2
  go_loopw [6] (fun v wr => ∃ (i : Nat), v = .int .i64 ((i : Int) + 4) ∧ i ≤ 19 ∧ Hid (kindIn hdF xx 4 19 = kindIn hdF xx ((i : Int) + 4) (19 - i)) ∧ Hid (Below W2.heap.size W2 wr)) (fun v _ => 40 - (intOf v).toNat)
  case atStart => exact ⟨0, by simp, by omega, rfl, Below.refl _ _⟩
  case round =>
    obtain ⟨i, rfl, hi, hK, hB⟩ := hrel
    have hBs := hB.out.size
    have V5 : Hid (wr.heap[n1]? = some (.cells #[.int .i64 tk, .int .i64 ta, .string tx, .int .i64 vk, .int .i64 vn, .int .i64 vd, .string vs] 58 (0, 0))) := (hB.out.block n1 zz).trans V2.out
    have X5 : Hid (wr.heap[w.heap.size]? = some (.cells #[.int .i64 0, .string ⟨#[]⟩, .int .i64 0, .slice none 0 0, .slice none 0 0, .int .i64 0, .int .i64 0, .bool false, .slice none 0 0, .slice none 0 0] 29 (0, 0))) := (hB.out.block _ (by omega)).trans X2.out
    obtain ⟨v0, v1, v2, v3, v4, v5, v6⟩ := bx7 V5.out
    have F5 : Hid (Fr (fun k => k = R) w wr) := F2.out.trans (Fr.of_below (P := fun _ => False) hB.out) (fun _ q => q.elim)
    have A5 : Hid (∀ t r, ts = t :: r → RdAt m wr R sz r) := fun t r e => (A2.out t r e).below hB.out
    by_cases h6 : i < 19
    case neg =>
      have c1 : ¬ (i : Int) + 4 ≤ 22 := by omega
      have hG : Hid (RS = Rd.bad 70 ta) := by
        show _ = _
        have e : i = 19 := by omega
        rw [HU.out, hK.out, e]
        rfl
      clear hK HU A5 HT2 A2 X2 V2 F2 CS
      go_wp2_with fail
      refine (misplaced_at _ _ _ _ _ _ _ _).mono ?_
      rintro e w6 ⟨rfl, hb6⟩
      have F6 : Fr (fun k => k = R) w w6 := F5.out.trans (Fr.of_below (P := fun _ => False) hb6) (fun _ q => q.elim)
      clear hb6
      go_wp2
      refine ⟨rfl, ?_⟩
      rw [hG.out]
      exact ⟨rfl, F6⟩
    have c1 : (i : Int) + 4 ≤ 22 := by omega
    have e1 : (⟨(hdF ((i : Int) + 4)).toArray⟩ : ByteArray).toList = hdF ((i : Int) + 4) := hxx.out _
    have c2 : Hid (∀ W : World, Calls Tryz.prog 35 #[.int .i64 ((i : Int) + 4)] W fun e w' => e = .returned (.agg #[.string ⟨(hdF ((i : Int) + 4)).toArray⟩, .bool (shp ((i : Int) + 4)).named, .bool (shp ((i : Int) + 4)).reck, .bool (shp ((i : Int) + 4)).listed, .bool (shp ((i : Int) + 4)).timed, .int .i64 (shp ((i : Int) + 4)).terms, .int .i64 (shp ((i : Int) + 4)).rgx, .int .i64 (shp ((i : Int) + 4)).subs, .bool (shp ((i : Int) + 4)).more]) ∧ Below W.heap.size W w') := fun W => by
      have q := shape_any ((i : Int) + 4) W (by omega) (by omega)
      rw [if_neg (by omega)] at q
      exact q
    have hK2 : Hid (kindIn hdF xx 4 19 = if hdF ((i : Int) + 4) = xx then some ((i : Int) + 4) else kindIn hdF xx ((i : Int) + 4 + 1) (19 - (i + 1))) := by
      show _ = _
      rw [hK.out]
      have e : 19 - i = (19 - (i + 1)) + 1 := by omega
      rw [e, kindIn_succ]
    clear hK
    generalize (⟨(hdF ((i : Int) + 4)).toArray⟩ : ByteArray) = ww at *
    generalize (shp ((i : Int) + 4)).named = s1 at *
    generalize (shp ((i : Int) + 4)).reck = s2 at *
    generalize (shp ((i : Int) + 4)).listed = s3 at *
    generalize (shp ((i : Int) + 4)).timed = s4 at *
    generalize (shp ((i : Int) + 4)).terms = s5 at *
    generalize (shp ((i : Int) + 4)).rgx = s6 at *
    generalize (shp ((i : Int) + 4)).subs = s7 at *
    generalize (shp ((i : Int) + 4)).more = s8 at *
    by_cases hq : hdF ((i : Int) + 4) = xx
    case neg =>
      rw [if_neg hq] at hK2
      have q1 : (ww.toList == tx.toList) = false := by rw [e1, htx]; simpa using hq
      have hK3 : Hid (kindIn hdF xx 4 19 = kindIn hdF xx (((i + 1 : Nat) : Int) + 4) (19 - (i + 1))) := by
        show _ = _
        rw [hK2.out]
        congr 1
      clear A5 hq e1 htx hK2 CS HU HT2
      go_upto_region 7 with fail
      go_region_law (go_simp; go_at_call 35; refine (c2.out _).mono ?_; rintro e w3 ⟨rfl, hb3⟩; obtain ⟨hX3, hx3⟩ := bgX (n := wr.heap.size) (W0 := wr) (by go_grown) (by go_size) hb3; have v23 := (hX3.cell (p := ⟨n1, 2, none⟩) (lt_heap V5.out)).trans v2)
      all_goals
        go_wp2
        exact ⟨⟨i + 1, by go_num, by omega, hK3, hB.out.trans (Below.mono (B := wr.heap.size) (by first | assumption | go_grown) hB.out.size)⟩, by simp [intOf]; omega⟩
    rw [if_pos hq] at hK2
    obtain ⟨t, ht⟩ := HT2.out ⟨_, hK2.out⟩
    have hG : Hid (RS = pShaped sz n pt pf pr ((i : Int) + 4) u) := by
      show _ = _
      rw [HU.out, hK2.out]
    have A6 : Hid (RdAt m wr R sz u) := A5.out t u ht
    have q1 : (ww.toList == tx.toList) = true := by rw [e1, htx, hq]; simp
    have CS6 : Hid (∀ W : World, RdAt m W R sz u → Calls Tryz.prog 121 #[.pointer (some ⟨R, 0, none⟩), .int .i64 ((i : Int) + 4), .int .i64 d] W (RdO m R sz W (FmV W) (pShaped sz n pt pf pr ((i : Int) + 4) u))) := fun W hW => CS.out _ W (by omega) (by omega) hW
    clear hK2 HU A5 A2 HT2 ht hq e1 htx CS X2 V2 F2
    go_upto_region 7 with fail
    go_region_law (go_simp; go_at_call 35; refine (c2.out _).mono ?_; rintro e w3 ⟨rfl, hb3⟩; obtain ⟨hX3, hx3⟩ := bgX (n := wr.heap.size) (W0 := wr) (by go_grown) (by go_size) hb3; have v23 := (hX3.cell (p := ⟨n1, 2, none⟩) (lt_heap V5.out)).trans v2)
    all_goals (
      have K3 : Hid (Below wr.heap.size wr w3) := by first | assumption | go_grown
      have A7 : Hid (RdAt m w3 R sz u) := A6.out.below K3.out
      have X7 : Hid (w3.heap[w.heap.size]? = some (.cells #[.int .i64 0, .string ⟨#[]⟩, .int .i64 0, .slice none 0 0, .slice none 0 0, .int .i64 0, .int .i64 0, .bool false, .slice none 0 0, .slice none 0 0] 29 (0, 0))) := (K3.out.block _ (lt_heap X5.out)).trans X5.out
      have F7 : Hid (Fr (fun k => k = R) w w3) := F5.out.trans (Fr.of_below (P := fun _ => False) K3.out) (fun _ q => q.elim)
      have CS7 : Hid (Calls Tryz.prog 121 #[.pointer (some ⟨R, 0, none⟩), .int .i64 ((i : Int) + 4), .int .i64 d] w3 (RdO m R sz w3 (FmV w3) (pShaped sz n pt pf pr ((i : Int) + 4) u))) := CS6.out w3 A7.out
      clear CS6 K3 A6 X5 F5
      cases hP : pShaped sz n pt pf pr ((i : Int) + 4) u with
      | bad er a =>
        rw [hP] at CS7 hG
        go_wp2_with fail
        refine CS7.out.mono ?_
        rintro e w4 ⟨rfl, hF4⟩
        refine ⟨rfl, ?_⟩
        rw [hG.out]
        exact ⟨rfl, F7.out.trans hF4 (fun k e => Or.inl e)⟩
      | ok ff r3 =>
        rw [hP] at CS7 hG
        clear hP
        go_wp2_with fail
        refine CS7.out.mono ?_
        rintro e w4 ⟨vv, rfl, ⟨q3, rfl, hQ3⟩, hA4, hF4⟩
        have HQ : Hid (QOwn (fun q => w3.heap.size ≤ q) w4 (ff, q3)) := hQ3
        obtain ⟨uv, ut, us, ur⟩ := q3
        obtain ⟨k1, k2, k3, k4⟩ := hQ3.at
        dsimp only at k1 k2 k3 k4
        obtain ⟨-, qv, dv, rfl, -⟩ := k1
        obtain ⟨qt, dt, rfl, -⟩ := k2.form
        obtain ⟨qs, ds, rfl, -⟩ := k3.form
        obtain ⟨qr, dr, rfl, -⟩ := k4.form
        clear k2 k3 k4 hQ3
        have F4 : Hid (Fr (fun k => k = R) w w4) := F7.out.trans hF4 (fun k e => Or.inl e)
        have X4 : Hid (w4.heap[w.heap.size]? = some (.cells #[.int .i64 0, .string ⟨#[]⟩, .int .i64 0, .slice none 0 0, .slice none 0 0, .int .i64 0, .int .i64 0, .bool false, .slice none 0 0, .slice none 0 0] 29 (0, 0))) := hF4.heap X7.out (fun e => by omega)
        have A4 : Hid (RdAt m w4 R sz r3) := hA4
        have zw : w.heap.size < w3.heap.size := lt_heap X7.out
        clear hF4 hA4 CS7 X7 F7 A7
        obtain ⟨fk, efk⟩ : ∃ x, Hid (ff.k = x) := ⟨_, rfl⟩
        obtain ⟨fnm, efn⟩ : ∃ x, Hid (ff.nm = x) := ⟨_, rfl⟩
        obtain ⟨fop, efo⟩ : ∃ x, Hid (ff.op = x) := ⟨_, rfl⟩
        obtain ⟨flo, efl⟩ : ∃ x, Hid (ff.lo = x) := ⟨_, rfl⟩
        obtain ⟨fhi, efh⟩ : ∃ x, Hid (ff.hi = x) := ⟨_, rfl⟩
        obtain ⟨fop2, efp⟩ : ∃ x, Hid (ff.opn = x) := ⟨_, rfl⟩
        obtain ⟨nv, env⟩ : ∃ x, Hid (ff.vars.length = x) := ⟨_, rfl⟩
        obtain ⟨nt, ent⟩ : ∃ x, Hid (ff.terms.length = x) := ⟨_, rfl⟩
        obtain ⟨ns, ens⟩ : ∃ x, Hid (ff.subs.length = x) := ⟨_, rfl⟩
        obtain ⟨nr, enr⟩ : ∃ x, Hid (ff.rgx.length = x) := ⟨_, rfl⟩
        rw [efk.out, efn.out, efo.out, efl.out, efh.out, efp.out, env.out, ent.out, ens.out, enr.out]
        rw [env.out, ent.out, ens.out, enr.out] at HQ
        obtain ⟨r0, r1, r2, r3, r4, r5, r6, r7, r8, r9⟩ := bx10 X4.out
        obtain ⟨q0, q1, q2, q3, q4, q5, q6, q7, q8, q9⟩ := bz10 X4.out
        go_wp2
        generalize hW9 : World.setCell _ _ _ = W9
        have X9 : W9.heap[w.heap.size]? = some (.cells #[.int .i64 fk, .string fnm, .int .i64 fop, .slice qv nv dv, .slice qt nt dt, .int .i64 flo, .int .i64 fhi, .bool fop2, .slice qs ns ds, .slice qr nr dr] 29 (0, 0)) := by rw [← hW9]; exact put10 X4.out
        have F9 : Fr (fun k => k = R) w W9 := by rw [← hW9]; exact frp10 F4.out (Or.inr (Nat.le_refl _)) _ _ _ _ _ _ _ _ _ _
        have G9 : Fr (fun k => k = w.heap.size) w4 W9 := by rw [← hW9]; exact frp10 (Fr.refl (fun k => k = w.heap.size) w4) (Or.inl rfl) _ _ _ _ _ _ _ _ _ _
        clear hW9
        obtain ⟨x0, x1, x2, x3, x4, x5, x6, x7, x8, x9⟩ := bx10 X9
        refine bodyPost_ret (by simp [results, Tryz.results75, go_sem, x0, x1, x2, x3, x4, x5, x6, x7, x8, x9]; try rfl) rfl ?_
        rw [hG.out]
        have Q9 : QOwn (fun q => w.heap.size ≤ q) W9 (ff, (⟨.slice qv nv dv, .slice qt nt dt, .slice qs ns ds, .slice qr nr dr⟩ : FQ)) := (HQ.out.keep (w' := W9) (fun q hq hlt9 => G9.block q hlt9 (fun e => by omega))).mono (fun q hq _ => by omega)
        refine ⟨_, rfl, ⟨(⟨.slice qv nv dv, .slice qt nt dt, .slice qs ns ds, .slice qr nr dr⟩ : FQ), ?_, Q9⟩, A4.out.fr G9 (fun k e => by omega), F9⟩
        rw [efk.out, efn.out, efo.out, efl.out, efh.out, efp.out])
end Go.Proofs.YticnfeolbfmgfaaGreatDoor

namespace Go.Proofs.YticnfeolbfmgfaaGreatDoor
open Go.RowKit LX Go.Shelf
set_option linter.unusedVariables false

set_option maxRecDepth 100000 in
set_option maxHeartbeats 8000000 in
theorem shaped_terms (m R sz N : Nat) (ts : List (Tok Val)) (d k : Int) (hd : ByteArray) (w : World) (h : RdAt m w R sz ts) (n : Nat) (pt : List (Tok Val) → Rd Tm) (pf : List (Tok Val) → Rd Fm) (pr : List (Tok Val) → Rd Rx) (hst : Shr pt) (hsr : Shr pr) (hN : ts.length ≤ N) (hk1 : 3 ≤ k) (hk2 : k ≤ 22) (hk : shp k = ⟨false, false, false, false, 2, 0, 0, false⟩) (hhd : (⟨(if k = 3 then [] else hdF k).toArray⟩ : ByteArray) = hd)
    (HT : ∀ (kk : Nat) (rr : List (Tok Val)) (W : World), rr.length ≤ N → RdAt m W R sz rr → Calls Tryz.prog 120 #[.pointer (some ⟨R, 0, none⟩), .int .i64 ((kk : Nat) : Int), .bool false, .int .i64 d] W (RdO m R sz W (fun l v w' => TmsOwn (fun q => W.heap.size ≤ q) w' v l) (rMany pt false n kk rr)))
    (HR : ∀ (kk : Nat) (rr : List (Tok Val)) (W : World), rr.length ≤ N → RdAt m W R sz rr → Calls Tryz.prog 158 #[.pointer (some ⟨R, 0, none⟩), .int .i64 ((kk : Nat) : Int), .int .i64 d] W (RdO m R sz W (fun l v w' => RxsOwn (fun q => W.heap.size ≤ q) w' v l) (rMany pr false n kk rr)))
    (HF : ∀ (kk : Nat) (more : Bool) (rr : List (Tok Val)) (W : World), rr.length ≤ N → RdAt m W R sz rr → Calls Tryz.prog 159 #[.pointer (some ⟨R, 0, none⟩), .int .i64 ((kk : Nat) : Int), .bool more, .int .i64 d] W (RdO m R sz W (fun l v w' => FmsOwn (fun q => W.heap.size ≤ q) w' v l) (rMany pf more n kk rr))) :
    Calls Tryz.prog 121 #[.pointer (some ⟨R, 0, none⟩), .int .i64 k, .int .i64 d] w (RdO m R sz w (FmV w) (pShaped sz n pt pf pr k ts)) := by
  have hlt := h.lt
  obtain ⟨RS, hRS⟩ : ∃ x : Rd Fm, Hid (pShaped sz n pt pf pr k ts = x) := ⟨_, rfl⟩
  rw [hRS.out]
  have hEQ : Hid (RS = (rMany pt false n 2 ts).bind fun tms r6 => (rMany pr false n 0 r6).bind fun rx r7 => (rMany pf false n 0 r7).bind fun fs r8 => .ok (.mk k ⟨#[]⟩ 0 [] tms 0 0 false fs rx) r8) := by
    show _ = _
    rw [← hRS.out]
    unfold pShaped
    rw [hk]
    rfl
  have cS : Hid (∀ W : World, Calls Tryz.prog 35 #[.int .i64 k] W fun e w' => e = .returned (.agg #[.string hd, .bool false, .bool false, .bool false, .bool false, .int .i64 ((2 : Nat) : Int), .int .i64 ((0 : Nat) : Int), .int .i64 ((0 : Nat) : Int), .bool false]) ∧ Below W.heap.size W w') := fun W => by
    have q := shape_any k W hk1 hk2
    rw [hk] at q
    rw [← hhd]
    exact q
  have CT : Hid (∀ (rr : List (Tok Val)) (W : World), rr.length ≤ N → RdAt m W R sz rr → Calls Tryz.prog 120 #[.pointer (some ⟨R, 0, none⟩), .int .i64 ((2 : Nat) : Int), .bool false, .int .i64 d] W (RdO m R sz W (fun l v w' => TmsOwn (fun q => W.heap.size ≤ q) w' v l) (rMany pt false n 2 rr))) := fun rr W hl hW => HT 2 rr W hl hW
  have CR : Hid (∀ (rr : List (Tok Val)) (W : World), rr.length ≤ N → RdAt m W R sz rr → Calls Tryz.prog 158 #[.pointer (some ⟨R, 0, none⟩), .int .i64 ((0 : Nat) : Int), .int .i64 d] W (RdO m R sz W (fun l v w' => RxsOwn (fun q => W.heap.size ≤ q) w' v l) (rMany pr false n 0 rr))) := fun rr W hl hW => HR 0 rr W hl hW
  have CF : Hid (∀ (rr : List (Tok Val)) (W : World), rr.length ≤ N → RdAt m W R sz rr → Calls Tryz.prog 159 #[.pointer (some ⟨R, 0, none⟩), .int .i64 ((0 : Nat) : Int), .bool false, .int .i64 d] W (RdO m R sz W (fun l v w' => FmsOwn (fun q => W.heap.size ≤ q) w' v l) (rMany pf false n 0 rr))) := fun rr W hl hW => HF 0 false rr W hl hW
  have CI : Hid (∀ (rr : List (Tok Val)) (W : World), RdAt m W R sz rr → Calls Tryz.prog 157 #[.pointer (some ⟨R, 0, none⟩)] W (RdO m R sz W (fun iv v _ => v = .agg #[.int .i64 iv.1, .int .i64 iv.2.1, .bool iv.2.2]) (rIv sz rr))) := fun rr W hW => rival_any m R sz rr W hW
  have STm : Hid (∀ kk ts a r, rMany pt false n kk ts = .ok a r → r.length ≤ ts.length) := fun kk ts a r e => sh_many (fun ts a r e => by have := hst ts a r e; omega) false n kk ts a r e
  have SRm : Hid (∀ kk ts a r, rMany pr false n kk ts = .ok a r → r.length ≤ ts.length) := fun kk ts a r e => sh_many (fun ts a r e => by have := hsr ts a r e; omega) false n kk ts a r e
  clear hRS HT HR HF hst hsr hk hhd
  go_enter Tryz.func121, Tryz.ntmps121
  go_wp2_with fail
  refine (cS.out _).mono ?_
  rintro e w1 ⟨rfl, hb1⟩
  have z1 : w.heap.size < w1.heap.size := by have := hb1.size; simp at this; omega
  have X1 : Hid (w1.heap[w.heap.size]? = some (.cells #[.int .i64 0, .string ⟨#[]⟩, .int .i64 0, .slice none 0 0, .slice none 0 0, .int .i64 0, .int .i64 0, .bool false, .slice none 0 0, .slice none 0 0] 29 (0, 0))) := (hb1.block w.heap.size (by simp)).trans (new_box w _)
  have F1 : Hid (Fr (fun k => k = R) w w1) := Fr.of_below (((Below.refl _ _).alloc (Nat.le_refl _) _).trans (hb1.mono (by simp)))
  have A1 : Hid (RdAt m w1 R sz ts) := h.below (((Below.refl _ _).alloc (Nat.le_refl _) _).trans (hb1.mono (by simp)))
  clear hb1 cS h
  go_upto_region 2 with fail
  refine wp_world ?_
  intro W2 hW2
  have S2 : Hid (W2.heap[w1.heap.size]? = some (.cells #[.string hd, .bool false, .bool false, .bool false, .bool false, .int .i64 ((2 : Nat) : Int), .int .i64 ((0 : Nat) : Int), .int .i64 ((0 : Nat) : Int), .bool false] 82 (0, 0))) := by rw [hW2]; exact (Below.heap_alloc _ _ _ (by simp)).trans (new_box w1 _)
  have B2 : Hid (W2.heap[w1.heap.size + 1]? = some (.cells #[.int .i64 k, .string ⟨#[]⟩, .int .i64 0, .slice none 0 0, .slice none 0 0, .int .i64 0, .int .i64 0, .bool false, .slice none 0 0, .slice none 0 0] 29 (0, 0))) := by
    rw [hW2]
    have q := new_box (w1.alloc (.cells #[.string hd, .bool false, .bool false, .bool false, .bool false, .int .i64 ((2 : Nat) : Int), .int .i64 ((0 : Nat) : Int), .int .i64 ((0 : Nat) : Int), .bool false] 82)) (.cells #[.int .i64 k, .string ⟨#[]⟩, .int .i64 0, .slice none 0 0, .slice none 0 0, .int .i64 0, .int .i64 0, .bool false, .slice none 0 0, .slice none 0 0] 29)
    simp only [World.size_alloc] at q
    exact q
  have X2 : Hid (W2.heap[w.heap.size]? = some (.cells #[.int .i64 0, .string ⟨#[]⟩, .int .i64 0, .slice none 0 0, .slice none 0 0, .int .i64 0, .int .i64 0, .bool false, .slice none 0 0, .slice none 0 0] 29 (0, 0))) := by rw [hW2]; exact (((Fr.refl (fun k => k = R) w1).alloc _).alloc _).heap X1.out (fun e => by omega)
  have F2 : Hid (Fr (fun k => k = R) w W2) := by rw [hW2]; exact (F1.out.alloc _).alloc _
  have A2 : Hid (RdAt m W2 R sz ts) := by rw [hW2]; exact A1.out.below (((Below.refl w1.heap.size w1).alloc (Nat.le_refl _) _).alloc (by simp) _)
  have zz : w1.heap.size + 2 = W2.heap.size := by rw [hW2]; simp
  clear hW2 F1 A1 X1
  generalize w1.heap.size = n7 at *
  have ZN : Hid (n7 + 2 = W2.heap.size) := zz
  obtain ⟨N2, hN2⟩ : ∃ x, Hid (W2.heap.size = x) := ⟨_, rfl⟩
  have zz2 : n7 + 2 = N2 := by rw [← hN2.out]; exact ZN.out
  have y2 : N2 ≤ W2.heap.size := Nat.le_of_eq hN2.out.symm
  clear zz ZN hN2
  obtain ⟨s0, s1, s2, s3, s4, s5, s6, s7, s8⟩ := bx9 S2.out
  have K3 : Hid (Calls Tryz.prog 120 #[.pointer (some ⟨R, 0, none⟩), .int .i64 ((2 : Nat) : Int), .bool false, .int .i64 d] W2 (RdO m R sz W2 (fun l v w' => TmsOwn (fun q => W2.heap.size ≤ q) w' v l) (rMany pt false n 2 ts))) := CT.out ts W2 (by omega) A2.out
  cases hP3 : rMany pt false n 2 ts with
  | bad er a =>
    rw [hP3] at K3 hEQ
    go_wp2_with fail
    refine K3.out.mono ?_
    rintro e w9 ⟨rfl, hF9⟩
    refine ⟨rfl, ?_⟩
    rw [hEQ.out]
    exact ⟨rfl, F2.out.trans hF9 (fun k e => Or.inl e)⟩
  | ok x3 r6 =>
    rw [hP3, Rd.bind_ok] at hEQ
    rw [hP3] at K3
    have hl3 := STm.out _ _ _ _ hP3
    clear hP3
    go_wp2_with fail
    refine K3.out.mono ?_
    rintro e w3 ⟨v3, rfl, hQ9, hA9, hF9⟩
    have O30 : Hid (TmsOwn (fun q => N2 ≤ q) w3 v3 x3) := hQ9.mono (fun q hq _ => by omega)
    obtain ⟨p3, c3, rfl, -⟩ := hQ9.at.form
    obtain ⟨l3, el3⟩ : ∃ y, Hid (x3.length = y) := ⟨_, rfl⟩
    rw [el3.out] at O30 ⊢
    clear hQ9
    have F3 : Hid (Fr (fun k => k = R) w w3) := F2.out.trans hF9 (fun k e => Or.inl e)
    have S3 : Hid (w3.heap[n7]? = _) := hF9.heap S2.out (fun e => by omega)
    have B3 : Hid (w3.heap[n7 + 1]? = _) := hF9.heap B2.out (fun e => by omega)
    have X3 : Hid (w3.heap[w.heap.size]? = _) := hF9.heap X2.out (fun e => by omega)
    have A3 : Hid (RdAt m w3 R sz r6) := hA9
    have y3 : N2 ≤ w3.heap.size := Nat.le_trans y2 hF9.size
    clear hF9 hA9 K3 F2 S2 B2 X2 A2 s0 s1 s2 s3 s4 s5 s6 s7 s8 
    obtain ⟨b0, b1, b2, b3, b4, b5, b6, b7, b8, b9⟩ := bx10 B3.out
    obtain ⟨g0, g1, g2, g3, g4, g5, g6, g7, g8, g9⟩ := bz10 B3.out
    go_upto_region 12 with fail
    refine wp_world ?_
    intro W4 hW4
    have G4 : Hid (Fr (fun k => k = n7 + 1) w3 W4) := by rw [hW4]; exact (Fr.refl (fun k => k = n7 + 1) w3).setCell (p := ⟨n7 + 1, 4, none⟩) (Or.inl rfl) _
    have B4 : Hid (W4.heap[n7 + 1]? = some (.cells #[.int .i64 k, .string ⟨#[]⟩, .int .i64 0, .slice none 0 0, .slice p3 l3 c3, .int .i64 0, .int .i64 0, .bool false, .slice none 0 0, .slice none 0 0] 29 (0, 0))) := by rw [hW4]; exact (set_heap (j := 4) B3.out (.slice p3 l3 c3))
    clear hW4
    have F4 : Hid (Fr (fun k => k = R) w W4) := F3.out.trans G4.out (fun k e => Or.inr (by omega))
    have S4 : Hid (W4.heap[n7]? = _) := G4.out.heap S3.out (fun e => by omega)
    have X4 : Hid (W4.heap[w.heap.size]? = _) := G4.out.heap X3.out (fun e => by omega)
    have A4 : Hid (RdAt m W4 R sz r6) := A3.out.fr G4.out (fun k e => by omega)
    have y4 : N2 ≤ W4.heap.size := Nat.le_trans y3 G4.out.size
    have O430 : Hid (TmsOwn (fun q => N2 ≤ q) W4 (.slice p3 l3 c3) x3) := O30.out.keep (fun q hq hlt9 => G4.out.block q hlt9 (fun e => by omega))
    clear G4 F3 S3 B3 X3 A3 b0 b1 b2 b3 b4 b5 b6 b7 b8 b9 g0 g1 g2 g3 g4 g5 g6 g7 g8 g9 O30
    obtain ⟨s0, s1, s2, s3, s4, s5, s6, s7, s8⟩ := bx9 S4.out
    have K5 : Hid (Calls Tryz.prog 158 #[.pointer (some ⟨R, 0, none⟩), .int .i64 ((0 : Nat) : Int), .int .i64 d] W4 (RdO m R sz W4 (fun l v w' => RxsOwn (fun q => W4.heap.size ≤ q) w' v l) (rMany pr false n 0 r6))) := CR.out r6 W4 (by omega) A4.out
    cases hP5 : rMany pr false n 0 r6 with
    | bad er a =>
      rw [hP5] at K5 hEQ
      go_wp2_with fail
      refine K5.out.mono ?_
      rintro e w9 ⟨rfl, hF9⟩
      refine ⟨rfl, ?_⟩
      rw [hEQ.out]
      exact ⟨rfl, F4.out.trans hF9 (fun k e => Or.inl e)⟩
    | ok x5 r7 =>
      rw [hP5, Rd.bind_ok] at hEQ
      rw [hP5] at K5
      have hl5 := SRm.out _ _ _ _ hP5
      clear hP5
      go_wp2_with fail
      refine K5.out.mono ?_
      rintro e w5 ⟨v5, rfl, hQ9, hA9, hF9⟩
      have O50 : Hid (RxsOwn (fun q => N2 ≤ q) w5 v5 x5) := hQ9.mono (fun q hq _ => by omega)
      obtain ⟨p5, c5, rfl, -⟩ := hQ9.at.form
      obtain ⟨l5, el5⟩ : ∃ y, Hid (x5.length = y) := ⟨_, rfl⟩
      rw [el5.out] at O50 ⊢
      clear hQ9
      have F5 : Hid (Fr (fun k => k = R) w w5) := F4.out.trans hF9 (fun k e => Or.inl e)
      have S5 : Hid (w5.heap[n7]? = _) := hF9.heap S4.out (fun e => by omega)
      have B5 : Hid (w5.heap[n7 + 1]? = _) := hF9.heap B4.out (fun e => by omega)
      have X5 : Hid (w5.heap[w.heap.size]? = _) := hF9.heap X4.out (fun e => by omega)
      have A5 : Hid (RdAt m w5 R sz r7) := hA9
      have y5 : N2 ≤ w5.heap.size := Nat.le_trans y4 hF9.size
      have O5430 : Hid (TmsOwn (fun q => N2 ≤ q) w5 (.slice p3 l3 c3) x3) := O430.out.keep (fun q hq hlt9 => hF9.block q hlt9 (fun e => by omega))
      clear hF9 hA9 K5 F4 S4 B4 X4 A4 s0 s1 s2 s3 s4 s5 s6 s7 s8 O430
      obtain ⟨b0, b1, b2, b3, b4, b5, b6, b7, b8, b9⟩ := bx10 B5.out
      obtain ⟨g0, g1, g2, g3, g4, g5, g6, g7, g8, g9⟩ := bz10 B5.out
      go_upto_region 13 with fail
      refine wp_world ?_
      intro W6 hW6
      have G6 : Hid (Fr (fun k => k = n7 + 1) w5 W6) := by rw [hW6]; exact (Fr.refl (fun k => k = n7 + 1) w5).setCell (p := ⟨n7 + 1, 9, none⟩) (Or.inl rfl) _
      have B6 : Hid (W6.heap[n7 + 1]? = some (.cells #[.int .i64 k, .string ⟨#[]⟩, .int .i64 0, .slice none 0 0, .slice p3 l3 c3, .int .i64 0, .int .i64 0, .bool false, .slice none 0 0, .slice p5 l5 c5] 29 (0, 0))) := by rw [hW6]; exact (set_heap (j := 9) B5.out (.slice p5 l5 c5))
      clear hW6
      have F6 : Hid (Fr (fun k => k = R) w W6) := F5.out.trans G6.out (fun k e => Or.inr (by omega))
      have S6 : Hid (W6.heap[n7]? = _) := G6.out.heap S5.out (fun e => by omega)
      have X6 : Hid (W6.heap[w.heap.size]? = _) := G6.out.heap X5.out (fun e => by omega)
      have A6 : Hid (RdAt m W6 R sz r7) := A5.out.fr G6.out (fun k e => by omega)
      have y6 : N2 ≤ W6.heap.size := Nat.le_trans y5 G6.out.size
      have O65430 : Hid (TmsOwn (fun q => N2 ≤ q) W6 (.slice p3 l3 c3) x3) := O5430.out.keep (fun q hq hlt9 => G6.out.block q hlt9 (fun e => by omega))
      have O650 : Hid (RxsOwn (fun q => N2 ≤ q) W6 (.slice p5 l5 c5) x5) := O50.out.keep (fun q hq hlt9 => G6.out.block q hlt9 (fun e => by omega))
      clear G6 F5 S5 B5 X5 A5 b0 b1 b2 b3 b4 b5 b6 b7 b8 b9 g0 g1 g2 g3 g4 g5 g6 g7 g8 g9 O5430 O50
      obtain ⟨s0, s1, s2, s3, s4, s5, s6, s7, s8⟩ := bx9 S6.out
      have K7 : Hid (Calls Tryz.prog 159 #[.pointer (some ⟨R, 0, none⟩), .int .i64 ((0 : Nat) : Int), .bool false, .int .i64 d] W6 (RdO m R sz W6 (fun l v w' => FmsOwn (fun q => W6.heap.size ≤ q) w' v l) (rMany pf false n 0 r7))) := CF.out r7 W6 (by omega) A6.out
      cases hP7 : rMany pf false n 0 r7 with
      | bad er a =>
        rw [hP7] at K7 hEQ
        go_wp2_with fail
        refine K7.out.mono ?_
        rintro e w9 ⟨rfl, hF9⟩
        refine ⟨rfl, ?_⟩
        rw [hEQ.out]
        exact ⟨rfl, F6.out.trans hF9 (fun k e => Or.inl e)⟩
      | ok x7 r8 =>
        rw [hP7, Rd.bind_ok] at hEQ
        rw [hP7] at K7
        clear hP7
        go_wp2_with fail
        refine K7.out.mono ?_
        rintro e w7 ⟨v7, rfl, hQ9, hA9, hF9⟩
        have O70 : Hid (FmsOwn (fun q => N2 ≤ q) w7 v7 x7) := hQ9.mono (fun q hq _ => by omega)
        obtain ⟨p7, c7, rfl, -⟩ := hQ9.at.form
        obtain ⟨l7, el7⟩ : ∃ y, Hid (x7.length = y) := ⟨_, rfl⟩
        rw [el7.out] at O70 ⊢
        clear hQ9
        have F7 : Hid (Fr (fun k => k = R) w w7) := F6.out.trans hF9 (fun k e => Or.inl e)
        have S7 : Hid (w7.heap[n7]? = _) := hF9.heap S6.out (fun e => by omega)
        have B7 : Hid (w7.heap[n7 + 1]? = _) := hF9.heap B6.out (fun e => by omega)
        have X7 : Hid (w7.heap[w.heap.size]? = _) := hF9.heap X6.out (fun e => by omega)
        have A7 : Hid (RdAt m w7 R sz r8) := hA9
        have y7 : N2 ≤ w7.heap.size := Nat.le_trans y6 hF9.size
        have O765430 : Hid (TmsOwn (fun q => N2 ≤ q) w7 (.slice p3 l3 c3) x3) := O65430.out.keep (fun q hq hlt9 => hF9.block q hlt9 (fun e => by omega))
        have O7650 : Hid (RxsOwn (fun q => N2 ≤ q) w7 (.slice p5 l5 c5) x5) := O650.out.keep (fun q hq hlt9 => hF9.block q hlt9 (fun e => by omega))
        clear hF9 hA9 K7 F6 S6 B6 X6 A6 s0 s1 s2 s3 s4 s5 s6 s7 s8 O65430 O650
        obtain ⟨b0, b1, b2, b3, b4, b5, b6, b7, b8, b9⟩ := bx10 B7.out
        obtain ⟨g0, g1, g2, g3, g4, g5, g6, g7, g8, g9⟩ := bz10 B7.out
        go_upto_region 14 with fail
        refine wp_world ?_
        intro W8 hW8
        have G8 : Hid (Fr (fun k => k = n7 + 1) w7 W8) := by rw [hW8]; exact (Fr.refl (fun k => k = n7 + 1) w7).setCell (p := ⟨n7 + 1, 8, none⟩) (Or.inl rfl) _
        have B8 : Hid (W8.heap[n7 + 1]? = some (.cells #[.int .i64 k, .string ⟨#[]⟩, .int .i64 0, .slice none 0 0, .slice p3 l3 c3, .int .i64 0, .int .i64 0, .bool false, .slice p7 l7 c7, .slice p5 l5 c5] 29 (0, 0))) := by rw [hW8]; exact (set_heap (j := 8) B7.out (.slice p7 l7 c7))
        clear hW8
        have F8 : Hid (Fr (fun k => k = R) w W8) := F7.out.trans G8.out (fun k e => Or.inr (by omega))
        have S8 : Hid (W8.heap[n7]? = _) := G8.out.heap S7.out (fun e => by omega)
        have X8 : Hid (W8.heap[w.heap.size]? = _) := G8.out.heap X7.out (fun e => by omega)
        have A8 : Hid (RdAt m W8 R sz r8) := A7.out.fr G8.out (fun k e => by omega)
        have y8 : N2 ≤ W8.heap.size := Nat.le_trans y7 G8.out.size
        have O8765430 : Hid (TmsOwn (fun q => N2 ≤ q) W8 (.slice p3 l3 c3) x3) := O765430.out.keep (fun q hq hlt9 => G8.out.block q hlt9 (fun e => by omega))
        have O87650 : Hid (RxsOwn (fun q => N2 ≤ q) W8 (.slice p5 l5 c5) x5) := O7650.out.keep (fun q hq hlt9 => G8.out.block q hlt9 (fun e => by omega))
        have O870 : Hid (FmsOwn (fun q => N2 ≤ q) W8 (.slice p7 l7 c7) x7) := O70.out.keep (fun q hq hlt9 => G8.out.block q hlt9 (fun e => by omega))
        clear G8 F7 S7 B7 X7 A7 b0 b1 b2 b3 b4 b5 b6 b7 b8 b9 g0 g1 g2 g3 g4 g5 g6 g7 g8 g9 O765430 O7650 O70
        obtain ⟨b0, b1, b2, b3, b4, b5, b6, b7, b8, b9⟩ := bx10 B8.out
        obtain ⟨r0, r1, r2, r3, r4, r5, r6, r7, r8, r9⟩ := bx10 X8.out
        obtain ⟨q0, q1, q2, q3, q4, q5, q6, q7, q8, q9⟩ := bz10 X8.out
        go_wp2
        generalize hW9 : World.setCell _ _ _ = W9
        have X9 : W9.heap[w.heap.size]? = some (.cells #[.int .i64 k, .string ⟨#[]⟩, .int .i64 0, .slice none 0 0, .slice p3 l3 c3, .int .i64 0, .int .i64 0, .bool false, .slice p7 l7 c7, .slice p5 l5 c5] 29 (0, 0)) := by rw [← hW9]; exact put10 X8.out
        have F9 : Fr (fun k => k = R) w W9 := by rw [← hW9]; exact frp10 F8.out (Or.inr (Nat.le_refl _)) _ _ _ _ _ _ _ _ _ _
        have G9 : Fr (fun k => k = w.heap.size) W8 W9 := by rw [← hW9]; exact frp10 (Fr.refl (fun k => k = w.heap.size) W8) (Or.inl rfl) _ _ _ _ _ _ _ _ _ _
        clear hW9
        obtain ⟨x0, x1, x2, x3, x4, x5, x6, x7, x8, x9⟩ := bx10 X9
        refine bodyPost_ret (by simp [results, Tryz.results121, go_sem, x0, x1, x2, x3, x4, x5, x6, x7, x8, x9]; try rfl) rfl ?_
        rw [hEQ.out]
        refine ⟨_, rfl, ⟨⟨.slice none 0 0, (.slice p3 l3 c3), (.slice p7 l7 c7), (.slice p5 l5 c5)⟩, rfl, ?_⟩, A8.out.fr G9 (fun k e => by omega), F9⟩
        exact ⟨⟨⟨rfl, Or.inl ⟨rfl, rfl⟩⟩, (show (0 : Nat) ≤ 9223372036854775807 from Nat.zero_le _), fun q hq => by cases hq⟩, (O8765430.out.keep (w' := W9) (fun q hq hlt9 => G9.block q hlt9 (fun e => by omega))).mono (fun q hq _ => by omega), (O870.out.keep (w' := W9) (fun q hq hlt9 => G9.block q hlt9 (fun e => by omega))).mono (fun q hq _ => by omega), (O87650.out.keep (w' := W9) (fun q hq hlt9 => G9.block q hlt9 (fun e => by omega))).mono (fun q hq _ => by omega)⟩
set_option maxRecDepth 100000 in
set_option maxHeartbeats 8000000 in
theorem shaped_one (m R sz N : Nat) (ts : List (Tok Val)) (d k : Int) (hd : ByteArray) (w : World) (h : RdAt m w R sz ts) (n : Nat) (pt : List (Tok Val) → Rd Tm) (pf : List (Tok Val) → Rd Fm) (pr : List (Tok Val) → Rd Rx) (hst : Shr pt) (hsr : Shr pr) (hN : ts.length ≤ N) (hk1 : 3 ≤ k) (hk2 : k ≤ 22) (hk : shp k = ⟨false, false, false, false, 0, 0, 1, false⟩) (hhd : (⟨(if k = 3 then [] else hdF k).toArray⟩ : ByteArray) = hd)
    (HT : ∀ (kk : Nat) (rr : List (Tok Val)) (W : World), rr.length ≤ N → RdAt m W R sz rr → Calls Tryz.prog 120 #[.pointer (some ⟨R, 0, none⟩), .int .i64 ((kk : Nat) : Int), .bool false, .int .i64 d] W (RdO m R sz W (fun l v w' => TmsOwn (fun q => W.heap.size ≤ q) w' v l) (rMany pt false n kk rr)))
    (HR : ∀ (kk : Nat) (rr : List (Tok Val)) (W : World), rr.length ≤ N → RdAt m W R sz rr → Calls Tryz.prog 158 #[.pointer (some ⟨R, 0, none⟩), .int .i64 ((kk : Nat) : Int), .int .i64 d] W (RdO m R sz W (fun l v w' => RxsOwn (fun q => W.heap.size ≤ q) w' v l) (rMany pr false n kk rr)))
    (HF : ∀ (kk : Nat) (more : Bool) (rr : List (Tok Val)) (W : World), rr.length ≤ N → RdAt m W R sz rr → Calls Tryz.prog 159 #[.pointer (some ⟨R, 0, none⟩), .int .i64 ((kk : Nat) : Int), .bool more, .int .i64 d] W (RdO m R sz W (fun l v w' => FmsOwn (fun q => W.heap.size ≤ q) w' v l) (rMany pf more n kk rr))) :
    Calls Tryz.prog 121 #[.pointer (some ⟨R, 0, none⟩), .int .i64 k, .int .i64 d] w (RdO m R sz w (FmV w) (pShaped sz n pt pf pr k ts)) := by
  have hlt := h.lt
  obtain ⟨RS, hRS⟩ : ∃ x : Rd Fm, Hid (pShaped sz n pt pf pr k ts = x) := ⟨_, rfl⟩
  rw [hRS.out]
  have hEQ : Hid (RS = (rMany pt false n 0 ts).bind fun tms r6 => (rMany pr false n 0 r6).bind fun rx r7 => (rMany pf false n 1 r7).bind fun fs r8 => .ok (.mk k ⟨#[]⟩ 0 [] tms 0 0 false fs rx) r8) := by
    show _ = _
    rw [← hRS.out]
    unfold pShaped
    rw [hk]
    rfl
  have cS : Hid (∀ W : World, Calls Tryz.prog 35 #[.int .i64 k] W fun e w' => e = .returned (.agg #[.string hd, .bool false, .bool false, .bool false, .bool false, .int .i64 ((0 : Nat) : Int), .int .i64 ((0 : Nat) : Int), .int .i64 ((1 : Nat) : Int), .bool false]) ∧ Below W.heap.size W w') := fun W => by
    have q := shape_any k W hk1 hk2
    rw [hk] at q
    rw [← hhd]
    exact q
  have CT : Hid (∀ (rr : List (Tok Val)) (W : World), rr.length ≤ N → RdAt m W R sz rr → Calls Tryz.prog 120 #[.pointer (some ⟨R, 0, none⟩), .int .i64 ((0 : Nat) : Int), .bool false, .int .i64 d] W (RdO m R sz W (fun l v w' => TmsOwn (fun q => W.heap.size ≤ q) w' v l) (rMany pt false n 0 rr))) := fun rr W hl hW => HT 0 rr W hl hW
  have CR : Hid (∀ (rr : List (Tok Val)) (W : World), rr.length ≤ N → RdAt m W R sz rr → Calls Tryz.prog 158 #[.pointer (some ⟨R, 0, none⟩), .int .i64 ((0 : Nat) : Int), .int .i64 d] W (RdO m R sz W (fun l v w' => RxsOwn (fun q => W.heap.size ≤ q) w' v l) (rMany pr false n 0 rr))) := fun rr W hl hW => HR 0 rr W hl hW
  have CF : Hid (∀ (rr : List (Tok Val)) (W : World), rr.length ≤ N → RdAt m W R sz rr → Calls Tryz.prog 159 #[.pointer (some ⟨R, 0, none⟩), .int .i64 ((1 : Nat) : Int), .bool false, .int .i64 d] W (RdO m R sz W (fun l v w' => FmsOwn (fun q => W.heap.size ≤ q) w' v l) (rMany pf false n 1 rr))) := fun rr W hl hW => HF 1 false rr W hl hW
  have CI : Hid (∀ (rr : List (Tok Val)) (W : World), RdAt m W R sz rr → Calls Tryz.prog 157 #[.pointer (some ⟨R, 0, none⟩)] W (RdO m R sz W (fun iv v _ => v = .agg #[.int .i64 iv.1, .int .i64 iv.2.1, .bool iv.2.2]) (rIv sz rr))) := fun rr W hW => rival_any m R sz rr W hW
  have STm : Hid (∀ kk ts a r, rMany pt false n kk ts = .ok a r → r.length ≤ ts.length) := fun kk ts a r e => sh_many (fun ts a r e => by have := hst ts a r e; omega) false n kk ts a r e
  have SRm : Hid (∀ kk ts a r, rMany pr false n kk ts = .ok a r → r.length ≤ ts.length) := fun kk ts a r e => sh_many (fun ts a r e => by have := hsr ts a r e; omega) false n kk ts a r e
  clear hRS HT HR HF hst hsr hk hhd
  go_enter Tryz.func121, Tryz.ntmps121
  go_wp2_with fail
  refine (cS.out _).mono ?_
  rintro e w1 ⟨rfl, hb1⟩
  have z1 : w.heap.size < w1.heap.size := by have := hb1.size; simp at this; omega
  have X1 : Hid (w1.heap[w.heap.size]? = some (.cells #[.int .i64 0, .string ⟨#[]⟩, .int .i64 0, .slice none 0 0, .slice none 0 0, .int .i64 0, .int .i64 0, .bool false, .slice none 0 0, .slice none 0 0] 29 (0, 0))) := (hb1.block w.heap.size (by simp)).trans (new_box w _)
  have F1 : Hid (Fr (fun k => k = R) w w1) := Fr.of_below (((Below.refl _ _).alloc (Nat.le_refl _) _).trans (hb1.mono (by simp)))
  have A1 : Hid (RdAt m w1 R sz ts) := h.below (((Below.refl _ _).alloc (Nat.le_refl _) _).trans (hb1.mono (by simp)))
  clear hb1 cS h
  go_upto_region 2 with fail
  refine wp_world ?_
  intro W2 hW2
  have S2 : Hid (W2.heap[w1.heap.size]? = some (.cells #[.string hd, .bool false, .bool false, .bool false, .bool false, .int .i64 ((0 : Nat) : Int), .int .i64 ((0 : Nat) : Int), .int .i64 ((1 : Nat) : Int), .bool false] 82 (0, 0))) := by rw [hW2]; exact (Below.heap_alloc _ _ _ (by simp)).trans (new_box w1 _)
  have B2 : Hid (W2.heap[w1.heap.size + 1]? = some (.cells #[.int .i64 k, .string ⟨#[]⟩, .int .i64 0, .slice none 0 0, .slice none 0 0, .int .i64 0, .int .i64 0, .bool false, .slice none 0 0, .slice none 0 0] 29 (0, 0))) := by
    rw [hW2]
    have q := new_box (w1.alloc (.cells #[.string hd, .bool false, .bool false, .bool false, .bool false, .int .i64 ((0 : Nat) : Int), .int .i64 ((0 : Nat) : Int), .int .i64 ((1 : Nat) : Int), .bool false] 82)) (.cells #[.int .i64 k, .string ⟨#[]⟩, .int .i64 0, .slice none 0 0, .slice none 0 0, .int .i64 0, .int .i64 0, .bool false, .slice none 0 0, .slice none 0 0] 29)
    simp only [World.size_alloc] at q
    exact q
  have X2 : Hid (W2.heap[w.heap.size]? = some (.cells #[.int .i64 0, .string ⟨#[]⟩, .int .i64 0, .slice none 0 0, .slice none 0 0, .int .i64 0, .int .i64 0, .bool false, .slice none 0 0, .slice none 0 0] 29 (0, 0))) := by rw [hW2]; exact (((Fr.refl (fun k => k = R) w1).alloc _).alloc _).heap X1.out (fun e => by omega)
  have F2 : Hid (Fr (fun k => k = R) w W2) := by rw [hW2]; exact (F1.out.alloc _).alloc _
  have A2 : Hid (RdAt m W2 R sz ts) := by rw [hW2]; exact A1.out.below (((Below.refl w1.heap.size w1).alloc (Nat.le_refl _) _).alloc (by simp) _)
  have zz : w1.heap.size + 2 = W2.heap.size := by rw [hW2]; simp
  clear hW2 F1 A1 X1
  generalize w1.heap.size = n7 at *
  have ZN : Hid (n7 + 2 = W2.heap.size) := zz
  obtain ⟨N2, hN2⟩ : ∃ x, Hid (W2.heap.size = x) := ⟨_, rfl⟩
  have zz2 : n7 + 2 = N2 := by rw [← hN2.out]; exact ZN.out
  have y2 : N2 ≤ W2.heap.size := Nat.le_of_eq hN2.out.symm
  clear zz ZN hN2
  obtain ⟨s0, s1, s2, s3, s4, s5, s6, s7, s8⟩ := bx9 S2.out
  have K3 : Hid (Calls Tryz.prog 120 #[.pointer (some ⟨R, 0, none⟩), .int .i64 ((0 : Nat) : Int), .bool false, .int .i64 d] W2 (RdO m R sz W2 (fun l v w' => TmsOwn (fun q => W2.heap.size ≤ q) w' v l) (rMany pt false n 0 ts))) := CT.out ts W2 (by omega) A2.out
  cases hP3 : rMany pt false n 0 ts with
  | bad er a =>
    rw [hP3] at K3 hEQ
    go_wp2_with fail
    refine K3.out.mono ?_
    rintro e w9 ⟨rfl, hF9⟩
    refine ⟨rfl, ?_⟩
    rw [hEQ.out]
    exact ⟨rfl, F2.out.trans hF9 (fun k e => Or.inl e)⟩
  | ok x3 r6 =>
    rw [hP3, Rd.bind_ok] at hEQ
    rw [hP3] at K3
    have hl3 := STm.out _ _ _ _ hP3
    clear hP3
    go_wp2_with fail
    refine K3.out.mono ?_
    rintro e w3 ⟨v3, rfl, hQ9, hA9, hF9⟩
    have O30 : Hid (TmsOwn (fun q => N2 ≤ q) w3 v3 x3) := hQ9.mono (fun q hq _ => by omega)
    obtain ⟨p3, c3, rfl, -⟩ := hQ9.at.form
    obtain ⟨l3, el3⟩ : ∃ y, Hid (x3.length = y) := ⟨_, rfl⟩
    rw [el3.out] at O30 ⊢
    clear hQ9
    have F3 : Hid (Fr (fun k => k = R) w w3) := F2.out.trans hF9 (fun k e => Or.inl e)
    have S3 : Hid (w3.heap[n7]? = _) := hF9.heap S2.out (fun e => by omega)
    have B3 : Hid (w3.heap[n7 + 1]? = _) := hF9.heap B2.out (fun e => by omega)
    have X3 : Hid (w3.heap[w.heap.size]? = _) := hF9.heap X2.out (fun e => by omega)
    have A3 : Hid (RdAt m w3 R sz r6) := hA9
    have y3 : N2 ≤ w3.heap.size := Nat.le_trans y2 hF9.size
    clear hF9 hA9 K3 F2 S2 B2 X2 A2 s0 s1 s2 s3 s4 s5 s6 s7 s8 
    obtain ⟨b0, b1, b2, b3, b4, b5, b6, b7, b8, b9⟩ := bx10 B3.out
    obtain ⟨g0, g1, g2, g3, g4, g5, g6, g7, g8, g9⟩ := bz10 B3.out
    go_upto_region 12 with fail
    refine wp_world ?_
    intro W4 hW4
    have G4 : Hid (Fr (fun k => k = n7 + 1) w3 W4) := by rw [hW4]; exact (Fr.refl (fun k => k = n7 + 1) w3).setCell (p := ⟨n7 + 1, 4, none⟩) (Or.inl rfl) _
    have B4 : Hid (W4.heap[n7 + 1]? = some (.cells #[.int .i64 k, .string ⟨#[]⟩, .int .i64 0, .slice none 0 0, .slice p3 l3 c3, .int .i64 0, .int .i64 0, .bool false, .slice none 0 0, .slice none 0 0] 29 (0, 0))) := by rw [hW4]; exact (set_heap (j := 4) B3.out (.slice p3 l3 c3))
    clear hW4
    have F4 : Hid (Fr (fun k => k = R) w W4) := F3.out.trans G4.out (fun k e => Or.inr (by omega))
    have S4 : Hid (W4.heap[n7]? = _) := G4.out.heap S3.out (fun e => by omega)
    have X4 : Hid (W4.heap[w.heap.size]? = _) := G4.out.heap X3.out (fun e => by omega)
    have A4 : Hid (RdAt m W4 R sz r6) := A3.out.fr G4.out (fun k e => by omega)
    have y4 : N2 ≤ W4.heap.size := Nat.le_trans y3 G4.out.size
    have O430 : Hid (TmsOwn (fun q => N2 ≤ q) W4 (.slice p3 l3 c3) x3) := O30.out.keep (fun q hq hlt9 => G4.out.block q hlt9 (fun e => by omega))
    clear G4 F3 S3 B3 X3 A3 b0 b1 b2 b3 b4 b5 b6 b7 b8 b9 g0 g1 g2 g3 g4 g5 g6 g7 g8 g9 O30
    obtain ⟨s0, s1, s2, s3, s4, s5, s6, s7, s8⟩ := bx9 S4.out
    have K5 : Hid (Calls Tryz.prog 158 #[.pointer (some ⟨R, 0, none⟩), .int .i64 ((0 : Nat) : Int), .int .i64 d] W4 (RdO m R sz W4 (fun l v w' => RxsOwn (fun q => W4.heap.size ≤ q) w' v l) (rMany pr false n 0 r6))) := CR.out r6 W4 (by omega) A4.out
    cases hP5 : rMany pr false n 0 r6 with
    | bad er a =>
      rw [hP5] at K5 hEQ
      go_wp2_with fail
      refine K5.out.mono ?_
      rintro e w9 ⟨rfl, hF9⟩
      refine ⟨rfl, ?_⟩
      rw [hEQ.out]
      exact ⟨rfl, F4.out.trans hF9 (fun k e => Or.inl e)⟩
    | ok x5 r7 =>
      rw [hP5, Rd.bind_ok] at hEQ
      rw [hP5] at K5
      have hl5 := SRm.out _ _ _ _ hP5
      clear hP5
      go_wp2_with fail
      refine K5.out.mono ?_
      rintro e w5 ⟨v5, rfl, hQ9, hA9, hF9⟩
      have O50 : Hid (RxsOwn (fun q => N2 ≤ q) w5 v5 x5) := hQ9.mono (fun q hq _ => by omega)
      obtain ⟨p5, c5, rfl, -⟩ := hQ9.at.form
      obtain ⟨l5, el5⟩ : ∃ y, Hid (x5.length = y) := ⟨_, rfl⟩
      rw [el5.out] at O50 ⊢
      clear hQ9
      have F5 : Hid (Fr (fun k => k = R) w w5) := F4.out.trans hF9 (fun k e => Or.inl e)
      have S5 : Hid (w5.heap[n7]? = _) := hF9.heap S4.out (fun e => by omega)
      have B5 : Hid (w5.heap[n7 + 1]? = _) := hF9.heap B4.out (fun e => by omega)
      have X5 : Hid (w5.heap[w.heap.size]? = _) := hF9.heap X4.out (fun e => by omega)
      have A5 : Hid (RdAt m w5 R sz r7) := hA9
      have y5 : N2 ≤ w5.heap.size := Nat.le_trans y4 hF9.size
      have O5430 : Hid (TmsOwn (fun q => N2 ≤ q) w5 (.slice p3 l3 c3) x3) := O430.out.keep (fun q hq hlt9 => hF9.block q hlt9 (fun e => by omega))
      clear hF9 hA9 K5 F4 S4 B4 X4 A4 s0 s1 s2 s3 s4 s5 s6 s7 s8 O430
      obtain ⟨b0, b1, b2, b3, b4, b5, b6, b7, b8, b9⟩ := bx10 B5.out
      obtain ⟨g0, g1, g2, g3, g4, g5, g6, g7, g8, g9⟩ := bz10 B5.out
      go_upto_region 13 with fail
      refine wp_world ?_
      intro W6 hW6
      have G6 : Hid (Fr (fun k => k = n7 + 1) w5 W6) := by rw [hW6]; exact (Fr.refl (fun k => k = n7 + 1) w5).setCell (p := ⟨n7 + 1, 9, none⟩) (Or.inl rfl) _
      have B6 : Hid (W6.heap[n7 + 1]? = some (.cells #[.int .i64 k, .string ⟨#[]⟩, .int .i64 0, .slice none 0 0, .slice p3 l3 c3, .int .i64 0, .int .i64 0, .bool false, .slice none 0 0, .slice p5 l5 c5] 29 (0, 0))) := by rw [hW6]; exact (set_heap (j := 9) B5.out (.slice p5 l5 c5))
      clear hW6
      have F6 : Hid (Fr (fun k => k = R) w W6) := F5.out.trans G6.out (fun k e => Or.inr (by omega))
      have S6 : Hid (W6.heap[n7]? = _) := G6.out.heap S5.out (fun e => by omega)
      have X6 : Hid (W6.heap[w.heap.size]? = _) := G6.out.heap X5.out (fun e => by omega)
      have A6 : Hid (RdAt m W6 R sz r7) := A5.out.fr G6.out (fun k e => by omega)
      have y6 : N2 ≤ W6.heap.size := Nat.le_trans y5 G6.out.size
      have O65430 : Hid (TmsOwn (fun q => N2 ≤ q) W6 (.slice p3 l3 c3) x3) := O5430.out.keep (fun q hq hlt9 => G6.out.block q hlt9 (fun e => by omega))
      have O650 : Hid (RxsOwn (fun q => N2 ≤ q) W6 (.slice p5 l5 c5) x5) := O50.out.keep (fun q hq hlt9 => G6.out.block q hlt9 (fun e => by omega))
      clear G6 F5 S5 B5 X5 A5 b0 b1 b2 b3 b4 b5 b6 b7 b8 b9 g0 g1 g2 g3 g4 g5 g6 g7 g8 g9 O5430 O50
      obtain ⟨s0, s1, s2, s3, s4, s5, s6, s7, s8⟩ := bx9 S6.out
      have K7 : Hid (Calls Tryz.prog 159 #[.pointer (some ⟨R, 0, none⟩), .int .i64 ((1 : Nat) : Int), .bool false, .int .i64 d] W6 (RdO m R sz W6 (fun l v w' => FmsOwn (fun q => W6.heap.size ≤ q) w' v l) (rMany pf false n 1 r7))) := CF.out r7 W6 (by omega) A6.out
      cases hP7 : rMany pf false n 1 r7 with
      | bad er a =>
        rw [hP7] at K7 hEQ
        go_wp2_with fail
        refine K7.out.mono ?_
        rintro e w9 ⟨rfl, hF9⟩
        refine ⟨rfl, ?_⟩
        rw [hEQ.out]
        exact ⟨rfl, F6.out.trans hF9 (fun k e => Or.inl e)⟩
      | ok x7 r8 =>
        rw [hP7, Rd.bind_ok] at hEQ
        rw [hP7] at K7
        clear hP7
        go_wp2_with fail
        refine K7.out.mono ?_
        rintro e w7 ⟨v7, rfl, hQ9, hA9, hF9⟩
        have O70 : Hid (FmsOwn (fun q => N2 ≤ q) w7 v7 x7) := hQ9.mono (fun q hq _ => by omega)
        obtain ⟨p7, c7, rfl, -⟩ := hQ9.at.form
        obtain ⟨l7, el7⟩ : ∃ y, Hid (x7.length = y) := ⟨_, rfl⟩
        rw [el7.out] at O70 ⊢
        clear hQ9
        have F7 : Hid (Fr (fun k => k = R) w w7) := F6.out.trans hF9 (fun k e => Or.inl e)
        have S7 : Hid (w7.heap[n7]? = _) := hF9.heap S6.out (fun e => by omega)
        have B7 : Hid (w7.heap[n7 + 1]? = _) := hF9.heap B6.out (fun e => by omega)
        have X7 : Hid (w7.heap[w.heap.size]? = _) := hF9.heap X6.out (fun e => by omega)
        have A7 : Hid (RdAt m w7 R sz r8) := hA9
        have y7 : N2 ≤ w7.heap.size := Nat.le_trans y6 hF9.size
        have O765430 : Hid (TmsOwn (fun q => N2 ≤ q) w7 (.slice p3 l3 c3) x3) := O65430.out.keep (fun q hq hlt9 => hF9.block q hlt9 (fun e => by omega))
        have O7650 : Hid (RxsOwn (fun q => N2 ≤ q) w7 (.slice p5 l5 c5) x5) := O650.out.keep (fun q hq hlt9 => hF9.block q hlt9 (fun e => by omega))
        clear hF9 hA9 K7 F6 S6 B6 X6 A6 s0 s1 s2 s3 s4 s5 s6 s7 s8 O65430 O650
        obtain ⟨b0, b1, b2, b3, b4, b5, b6, b7, b8, b9⟩ := bx10 B7.out
        obtain ⟨g0, g1, g2, g3, g4, g5, g6, g7, g8, g9⟩ := bz10 B7.out
        go_upto_region 14 with fail
        refine wp_world ?_
        intro W8 hW8
        have G8 : Hid (Fr (fun k => k = n7 + 1) w7 W8) := by rw [hW8]; exact (Fr.refl (fun k => k = n7 + 1) w7).setCell (p := ⟨n7 + 1, 8, none⟩) (Or.inl rfl) _
        have B8 : Hid (W8.heap[n7 + 1]? = some (.cells #[.int .i64 k, .string ⟨#[]⟩, .int .i64 0, .slice none 0 0, .slice p3 l3 c3, .int .i64 0, .int .i64 0, .bool false, .slice p7 l7 c7, .slice p5 l5 c5] 29 (0, 0))) := by rw [hW8]; exact (set_heap (j := 8) B7.out (.slice p7 l7 c7))
        clear hW8
        have F8 : Hid (Fr (fun k => k = R) w W8) := F7.out.trans G8.out (fun k e => Or.inr (by omega))
        have S8 : Hid (W8.heap[n7]? = _) := G8.out.heap S7.out (fun e => by omega)
        have X8 : Hid (W8.heap[w.heap.size]? = _) := G8.out.heap X7.out (fun e => by omega)
        have A8 : Hid (RdAt m W8 R sz r8) := A7.out.fr G8.out (fun k e => by omega)
        have y8 : N2 ≤ W8.heap.size := Nat.le_trans y7 G8.out.size
        have O8765430 : Hid (TmsOwn (fun q => N2 ≤ q) W8 (.slice p3 l3 c3) x3) := O765430.out.keep (fun q hq hlt9 => G8.out.block q hlt9 (fun e => by omega))
        have O87650 : Hid (RxsOwn (fun q => N2 ≤ q) W8 (.slice p5 l5 c5) x5) := O7650.out.keep (fun q hq hlt9 => G8.out.block q hlt9 (fun e => by omega))
        have O870 : Hid (FmsOwn (fun q => N2 ≤ q) W8 (.slice p7 l7 c7) x7) := O70.out.keep (fun q hq hlt9 => G8.out.block q hlt9 (fun e => by omega))
        clear G8 F7 S7 B7 X7 A7 b0 b1 b2 b3 b4 b5 b6 b7 b8 b9 g0 g1 g2 g3 g4 g5 g6 g7 g8 g9 O765430 O7650 O70
        obtain ⟨b0, b1, b2, b3, b4, b5, b6, b7, b8, b9⟩ := bx10 B8.out
        obtain ⟨r0, r1, r2, r3, r4, r5, r6, r7, r8, r9⟩ := bx10 X8.out
        obtain ⟨q0, q1, q2, q3, q4, q5, q6, q7, q8, q9⟩ := bz10 X8.out
        go_wp2
        generalize hW9 : World.setCell _ _ _ = W9
        have X9 : W9.heap[w.heap.size]? = some (.cells #[.int .i64 k, .string ⟨#[]⟩, .int .i64 0, .slice none 0 0, .slice p3 l3 c3, .int .i64 0, .int .i64 0, .bool false, .slice p7 l7 c7, .slice p5 l5 c5] 29 (0, 0)) := by rw [← hW9]; exact put10 X8.out
        have F9 : Fr (fun k => k = R) w W9 := by rw [← hW9]; exact frp10 F8.out (Or.inr (Nat.le_refl _)) _ _ _ _ _ _ _ _ _ _
        have G9 : Fr (fun k => k = w.heap.size) W8 W9 := by rw [← hW9]; exact frp10 (Fr.refl (fun k => k = w.heap.size) W8) (Or.inl rfl) _ _ _ _ _ _ _ _ _ _
        clear hW9
        obtain ⟨x0, x1, x2, x3, x4, x5, x6, x7, x8, x9⟩ := bx10 X9
        refine bodyPost_ret (by simp [results, Tryz.results121, go_sem, x0, x1, x2, x3, x4, x5, x6, x7, x8, x9]; try rfl) rfl ?_
        rw [hEQ.out]
        refine ⟨_, rfl, ⟨⟨.slice none 0 0, (.slice p3 l3 c3), (.slice p7 l7 c7), (.slice p5 l5 c5)⟩, rfl, ?_⟩, A8.out.fr G9 (fun k e => by omega), F9⟩
        exact ⟨⟨⟨rfl, Or.inl ⟨rfl, rfl⟩⟩, (show (0 : Nat) ≤ 9223372036854775807 from Nat.zero_le _), fun q hq => by cases hq⟩, (O8765430.out.keep (w' := W9) (fun q hq hlt9 => G9.block q hlt9 (fun e => by omega))).mono (fun q hq _ => by omega), (O870.out.keep (w' := W9) (fun q hq hlt9 => G9.block q hlt9 (fun e => by omega))).mono (fun q hq _ => by omega), (O87650.out.keep (w' := W9) (fun q hq hlt9 => G9.block q hlt9 (fun e => by omega))).mono (fun q hq _ => by omega)⟩
set_option maxRecDepth 100000 in
set_option maxHeartbeats 8000000 in
theorem shaped_two (m R sz N : Nat) (ts : List (Tok Val)) (d k : Int) (hd : ByteArray) (w : World) (h : RdAt m w R sz ts) (n : Nat) (pt : List (Tok Val) → Rd Tm) (pf : List (Tok Val) → Rd Fm) (pr : List (Tok Val) → Rd Rx) (hst : Shr pt) (hsr : Shr pr) (hN : ts.length ≤ N) (hk1 : 3 ≤ k) (hk2 : k ≤ 22) (hk : shp k = ⟨false, false, false, false, 0, 0, 2, false⟩) (hhd : (⟨(if k = 3 then [] else hdF k).toArray⟩ : ByteArray) = hd)
    (HT : ∀ (kk : Nat) (rr : List (Tok Val)) (W : World), rr.length ≤ N → RdAt m W R sz rr → Calls Tryz.prog 120 #[.pointer (some ⟨R, 0, none⟩), .int .i64 ((kk : Nat) : Int), .bool false, .int .i64 d] W (RdO m R sz W (fun l v w' => TmsOwn (fun q => W.heap.size ≤ q) w' v l) (rMany pt false n kk rr)))
    (HR : ∀ (kk : Nat) (rr : List (Tok Val)) (W : World), rr.length ≤ N → RdAt m W R sz rr → Calls Tryz.prog 158 #[.pointer (some ⟨R, 0, none⟩), .int .i64 ((kk : Nat) : Int), .int .i64 d] W (RdO m R sz W (fun l v w' => RxsOwn (fun q => W.heap.size ≤ q) w' v l) (rMany pr false n kk rr)))
    (HF : ∀ (kk : Nat) (more : Bool) (rr : List (Tok Val)) (W : World), rr.length ≤ N → RdAt m W R sz rr → Calls Tryz.prog 159 #[.pointer (some ⟨R, 0, none⟩), .int .i64 ((kk : Nat) : Int), .bool more, .int .i64 d] W (RdO m R sz W (fun l v w' => FmsOwn (fun q => W.heap.size ≤ q) w' v l) (rMany pf more n kk rr))) :
    Calls Tryz.prog 121 #[.pointer (some ⟨R, 0, none⟩), .int .i64 k, .int .i64 d] w (RdO m R sz w (FmV w) (pShaped sz n pt pf pr k ts)) := by
  have hlt := h.lt
  obtain ⟨RS, hRS⟩ : ∃ x : Rd Fm, Hid (pShaped sz n pt pf pr k ts = x) := ⟨_, rfl⟩
  rw [hRS.out]
  have hEQ : Hid (RS = (rMany pt false n 0 ts).bind fun tms r6 => (rMany pr false n 0 r6).bind fun rx r7 => (rMany pf false n 2 r7).bind fun fs r8 => .ok (.mk k ⟨#[]⟩ 0 [] tms 0 0 false fs rx) r8) := by
    show _ = _
    rw [← hRS.out]
    unfold pShaped
    rw [hk]
    rfl
  have cS : Hid (∀ W : World, Calls Tryz.prog 35 #[.int .i64 k] W fun e w' => e = .returned (.agg #[.string hd, .bool false, .bool false, .bool false, .bool false, .int .i64 ((0 : Nat) : Int), .int .i64 ((0 : Nat) : Int), .int .i64 ((2 : Nat) : Int), .bool false]) ∧ Below W.heap.size W w') := fun W => by
    have q := shape_any k W hk1 hk2
    rw [hk] at q
    rw [← hhd]
    exact q
  have CT : Hid (∀ (rr : List (Tok Val)) (W : World), rr.length ≤ N → RdAt m W R sz rr → Calls Tryz.prog 120 #[.pointer (some ⟨R, 0, none⟩), .int .i64 ((0 : Nat) : Int), .bool false, .int .i64 d] W (RdO m R sz W (fun l v w' => TmsOwn (fun q => W.heap.size ≤ q) w' v l) (rMany pt false n 0 rr))) := fun rr W hl hW => HT 0 rr W hl hW
  have CR : Hid (∀ (rr : List (Tok Val)) (W : World), rr.length ≤ N → RdAt m W R sz rr → Calls Tryz.prog 158 #[.pointer (some ⟨R, 0, none⟩), .int .i64 ((0 : Nat) : Int), .int .i64 d] W (RdO m R sz W (fun l v w' => RxsOwn (fun q => W.heap.size ≤ q) w' v l) (rMany pr false n 0 rr))) := fun rr W hl hW => HR 0 rr W hl hW
  have CF : Hid (∀ (rr : List (Tok Val)) (W : World), rr.length ≤ N → RdAt m W R sz rr → Calls Tryz.prog 159 #[.pointer (some ⟨R, 0, none⟩), .int .i64 ((2 : Nat) : Int), .bool false, .int .i64 d] W (RdO m R sz W (fun l v w' => FmsOwn (fun q => W.heap.size ≤ q) w' v l) (rMany pf false n 2 rr))) := fun rr W hl hW => HF 2 false rr W hl hW
  have CI : Hid (∀ (rr : List (Tok Val)) (W : World), RdAt m W R sz rr → Calls Tryz.prog 157 #[.pointer (some ⟨R, 0, none⟩)] W (RdO m R sz W (fun iv v _ => v = .agg #[.int .i64 iv.1, .int .i64 iv.2.1, .bool iv.2.2]) (rIv sz rr))) := fun rr W hW => rival_any m R sz rr W hW
  have STm : Hid (∀ kk ts a r, rMany pt false n kk ts = .ok a r → r.length ≤ ts.length) := fun kk ts a r e => sh_many (fun ts a r e => by have := hst ts a r e; omega) false n kk ts a r e
  have SRm : Hid (∀ kk ts a r, rMany pr false n kk ts = .ok a r → r.length ≤ ts.length) := fun kk ts a r e => sh_many (fun ts a r e => by have := hsr ts a r e; omega) false n kk ts a r e
  clear hRS HT HR HF hst hsr hk hhd
  go_enter Tryz.func121, Tryz.ntmps121
  go_wp2_with fail
  refine (cS.out _).mono ?_
  rintro e w1 ⟨rfl, hb1⟩
  have z1 : w.heap.size < w1.heap.size := by have := hb1.size; simp at this; omega
  have X1 : Hid (w1.heap[w.heap.size]? = some (.cells #[.int .i64 0, .string ⟨#[]⟩, .int .i64 0, .slice none 0 0, .slice none 0 0, .int .i64 0, .int .i64 0, .bool false, .slice none 0 0, .slice none 0 0] 29 (0, 0))) := (hb1.block w.heap.size (by simp)).trans (new_box w _)
  have F1 : Hid (Fr (fun k => k = R) w w1) := Fr.of_below (((Below.refl _ _).alloc (Nat.le_refl _) _).trans (hb1.mono (by simp)))
  have A1 : Hid (RdAt m w1 R sz ts) := h.below (((Below.refl _ _).alloc (Nat.le_refl _) _).trans (hb1.mono (by simp)))
  clear hb1 cS h
  go_upto_region 2 with fail
  refine wp_world ?_
  intro W2 hW2
  have S2 : Hid (W2.heap[w1.heap.size]? = some (.cells #[.string hd, .bool false, .bool false, .bool false, .bool false, .int .i64 ((0 : Nat) : Int), .int .i64 ((0 : Nat) : Int), .int .i64 ((2 : Nat) : Int), .bool false] 82 (0, 0))) := by rw [hW2]; exact (Below.heap_alloc _ _ _ (by simp)).trans (new_box w1 _)
  have B2 : Hid (W2.heap[w1.heap.size + 1]? = some (.cells #[.int .i64 k, .string ⟨#[]⟩, .int .i64 0, .slice none 0 0, .slice none 0 0, .int .i64 0, .int .i64 0, .bool false, .slice none 0 0, .slice none 0 0] 29 (0, 0))) := by
    rw [hW2]
    have q := new_box (w1.alloc (.cells #[.string hd, .bool false, .bool false, .bool false, .bool false, .int .i64 ((0 : Nat) : Int), .int .i64 ((0 : Nat) : Int), .int .i64 ((2 : Nat) : Int), .bool false] 82)) (.cells #[.int .i64 k, .string ⟨#[]⟩, .int .i64 0, .slice none 0 0, .slice none 0 0, .int .i64 0, .int .i64 0, .bool false, .slice none 0 0, .slice none 0 0] 29)
    simp only [World.size_alloc] at q
    exact q
  have X2 : Hid (W2.heap[w.heap.size]? = some (.cells #[.int .i64 0, .string ⟨#[]⟩, .int .i64 0, .slice none 0 0, .slice none 0 0, .int .i64 0, .int .i64 0, .bool false, .slice none 0 0, .slice none 0 0] 29 (0, 0))) := by rw [hW2]; exact (((Fr.refl (fun k => k = R) w1).alloc _).alloc _).heap X1.out (fun e => by omega)
  have F2 : Hid (Fr (fun k => k = R) w W2) := by rw [hW2]; exact (F1.out.alloc _).alloc _
  have A2 : Hid (RdAt m W2 R sz ts) := by rw [hW2]; exact A1.out.below (((Below.refl w1.heap.size w1).alloc (Nat.le_refl _) _).alloc (by simp) _)
  have zz : w1.heap.size + 2 = W2.heap.size := by rw [hW2]; simp
  clear hW2 F1 A1 X1
  generalize w1.heap.size = n7 at *
  have ZN : Hid (n7 + 2 = W2.heap.size) := zz
  obtain ⟨N2, hN2⟩ : ∃ x, Hid (W2.heap.size = x) := ⟨_, rfl⟩
  have zz2 : n7 + 2 = N2 := by rw [← hN2.out]; exact ZN.out
  have y2 : N2 ≤ W2.heap.size := Nat.le_of_eq hN2.out.symm
  clear zz ZN hN2
  obtain ⟨s0, s1, s2, s3, s4, s5, s6, s7, s8⟩ := bx9 S2.out
  have K3 : Hid (Calls Tryz.prog 120 #[.pointer (some ⟨R, 0, none⟩), .int .i64 ((0 : Nat) : Int), .bool false, .int .i64 d] W2 (RdO m R sz W2 (fun l v w' => TmsOwn (fun q => W2.heap.size ≤ q) w' v l) (rMany pt false n 0 ts))) := CT.out ts W2 (by omega) A2.out
  cases hP3 : rMany pt false n 0 ts with
  | bad er a =>
    rw [hP3] at K3 hEQ
    go_wp2_with fail
    refine K3.out.mono ?_
    rintro e w9 ⟨rfl, hF9⟩
    refine ⟨rfl, ?_⟩
    rw [hEQ.out]
    exact ⟨rfl, F2.out.trans hF9 (fun k e => Or.inl e)⟩
  | ok x3 r6 =>
    rw [hP3, Rd.bind_ok] at hEQ
    rw [hP3] at K3
    have hl3 := STm.out _ _ _ _ hP3
    clear hP3
    go_wp2_with fail
    refine K3.out.mono ?_
    rintro e w3 ⟨v3, rfl, hQ9, hA9, hF9⟩
    have O30 : Hid (TmsOwn (fun q => N2 ≤ q) w3 v3 x3) := hQ9.mono (fun q hq _ => by omega)
    obtain ⟨p3, c3, rfl, -⟩ := hQ9.at.form
    obtain ⟨l3, el3⟩ : ∃ y, Hid (x3.length = y) := ⟨_, rfl⟩
    rw [el3.out] at O30 ⊢
    clear hQ9
    have F3 : Hid (Fr (fun k => k = R) w w3) := F2.out.trans hF9 (fun k e => Or.inl e)
    have S3 : Hid (w3.heap[n7]? = _) := hF9.heap S2.out (fun e => by omega)
    have B3 : Hid (w3.heap[n7 + 1]? = _) := hF9.heap B2.out (fun e => by omega)
    have X3 : Hid (w3.heap[w.heap.size]? = _) := hF9.heap X2.out (fun e => by omega)
    have A3 : Hid (RdAt m w3 R sz r6) := hA9
    have y3 : N2 ≤ w3.heap.size := Nat.le_trans y2 hF9.size
    clear hF9 hA9 K3 F2 S2 B2 X2 A2 s0 s1 s2 s3 s4 s5 s6 s7 s8 
    obtain ⟨b0, b1, b2, b3, b4, b5, b6, b7, b8, b9⟩ := bx10 B3.out
    obtain ⟨g0, g1, g2, g3, g4, g5, g6, g7, g8, g9⟩ := bz10 B3.out
    go_upto_region 12 with fail
    refine wp_world ?_
    intro W4 hW4
    have G4 : Hid (Fr (fun k => k = n7 + 1) w3 W4) := by rw [hW4]; exact (Fr.refl (fun k => k = n7 + 1) w3).setCell (p := ⟨n7 + 1, 4, none⟩) (Or.inl rfl) _
    have B4 : Hid (W4.heap[n7 + 1]? = some (.cells #[.int .i64 k, .string ⟨#[]⟩, .int .i64 0, .slice none 0 0, .slice p3 l3 c3, .int .i64 0, .int .i64 0, .bool false, .slice none 0 0, .slice none 0 0] 29 (0, 0))) := by rw [hW4]; exact (set_heap (j := 4) B3.out (.slice p3 l3 c3))
    clear hW4
    have F4 : Hid (Fr (fun k => k = R) w W4) := F3.out.trans G4.out (fun k e => Or.inr (by omega))
    have S4 : Hid (W4.heap[n7]? = _) := G4.out.heap S3.out (fun e => by omega)
    have X4 : Hid (W4.heap[w.heap.size]? = _) := G4.out.heap X3.out (fun e => by omega)
    have A4 : Hid (RdAt m W4 R sz r6) := A3.out.fr G4.out (fun k e => by omega)
    have y4 : N2 ≤ W4.heap.size := Nat.le_trans y3 G4.out.size
    have O430 : Hid (TmsOwn (fun q => N2 ≤ q) W4 (.slice p3 l3 c3) x3) := O30.out.keep (fun q hq hlt9 => G4.out.block q hlt9 (fun e => by omega))
    clear G4 F3 S3 B3 X3 A3 b0 b1 b2 b3 b4 b5 b6 b7 b8 b9 g0 g1 g2 g3 g4 g5 g6 g7 g8 g9 O30
    obtain ⟨s0, s1, s2, s3, s4, s5, s6, s7, s8⟩ := bx9 S4.out
    have K5 : Hid (Calls Tryz.prog 158 #[.pointer (some ⟨R, 0, none⟩), .int .i64 ((0 : Nat) : Int), .int .i64 d] W4 (RdO m R sz W4 (fun l v w' => RxsOwn (fun q => W4.heap.size ≤ q) w' v l) (rMany pr false n 0 r6))) := CR.out r6 W4 (by omega) A4.out
    cases hP5 : rMany pr false n 0 r6 with
    | bad er a =>
      rw [hP5] at K5 hEQ
      go_wp2_with fail
      refine K5.out.mono ?_
      rintro e w9 ⟨rfl, hF9⟩
      refine ⟨rfl, ?_⟩
      rw [hEQ.out]
      exact ⟨rfl, F4.out.trans hF9 (fun k e => Or.inl e)⟩
    | ok x5 r7 =>
      rw [hP5, Rd.bind_ok] at hEQ
      rw [hP5] at K5
      have hl5 := SRm.out _ _ _ _ hP5
      clear hP5
      go_wp2_with fail
      refine K5.out.mono ?_
      rintro e w5 ⟨v5, rfl, hQ9, hA9, hF9⟩
      have O50 : Hid (RxsOwn (fun q => N2 ≤ q) w5 v5 x5) := hQ9.mono (fun q hq _ => by omega)
      obtain ⟨p5, c5, rfl, -⟩ := hQ9.at.form
      obtain ⟨l5, el5⟩ : ∃ y, Hid (x5.length = y) := ⟨_, rfl⟩
      rw [el5.out] at O50 ⊢
      clear hQ9
      have F5 : Hid (Fr (fun k => k = R) w w5) := F4.out.trans hF9 (fun k e => Or.inl e)
      have S5 : Hid (w5.heap[n7]? = _) := hF9.heap S4.out (fun e => by omega)
      have B5 : Hid (w5.heap[n7 + 1]? = _) := hF9.heap B4.out (fun e => by omega)
      have X5 : Hid (w5.heap[w.heap.size]? = _) := hF9.heap X4.out (fun e => by omega)
      have A5 : Hid (RdAt m w5 R sz r7) := hA9
      have y5 : N2 ≤ w5.heap.size := Nat.le_trans y4 hF9.size
      have O5430 : Hid (TmsOwn (fun q => N2 ≤ q) w5 (.slice p3 l3 c3) x3) := O430.out.keep (fun q hq hlt9 => hF9.block q hlt9 (fun e => by omega))
      clear hF9 hA9 K5 F4 S4 B4 X4 A4 s0 s1 s2 s3 s4 s5 s6 s7 s8 O430
      obtain ⟨b0, b1, b2, b3, b4, b5, b6, b7, b8, b9⟩ := bx10 B5.out
      obtain ⟨g0, g1, g2, g3, g4, g5, g6, g7, g8, g9⟩ := bz10 B5.out
      go_upto_region 13 with fail
      refine wp_world ?_
      intro W6 hW6
      have G6 : Hid (Fr (fun k => k = n7 + 1) w5 W6) := by rw [hW6]; exact (Fr.refl (fun k => k = n7 + 1) w5).setCell (p := ⟨n7 + 1, 9, none⟩) (Or.inl rfl) _
      have B6 : Hid (W6.heap[n7 + 1]? = some (.cells #[.int .i64 k, .string ⟨#[]⟩, .int .i64 0, .slice none 0 0, .slice p3 l3 c3, .int .i64 0, .int .i64 0, .bool false, .slice none 0 0, .slice p5 l5 c5] 29 (0, 0))) := by rw [hW6]; exact (set_heap (j := 9) B5.out (.slice p5 l5 c5))
      clear hW6
      have F6 : Hid (Fr (fun k => k = R) w W6) := F5.out.trans G6.out (fun k e => Or.inr (by omega))
      have S6 : Hid (W6.heap[n7]? = _) := G6.out.heap S5.out (fun e => by omega)
      have X6 : Hid (W6.heap[w.heap.size]? = _) := G6.out.heap X5.out (fun e => by omega)
      have A6 : Hid (RdAt m W6 R sz r7) := A5.out.fr G6.out (fun k e => by omega)
      have y6 : N2 ≤ W6.heap.size := Nat.le_trans y5 G6.out.size
      have O65430 : Hid (TmsOwn (fun q => N2 ≤ q) W6 (.slice p3 l3 c3) x3) := O5430.out.keep (fun q hq hlt9 => G6.out.block q hlt9 (fun e => by omega))
      have O650 : Hid (RxsOwn (fun q => N2 ≤ q) W6 (.slice p5 l5 c5) x5) := O50.out.keep (fun q hq hlt9 => G6.out.block q hlt9 (fun e => by omega))
      clear G6 F5 S5 B5 X5 A5 b0 b1 b2 b3 b4 b5 b6 b7 b8 b9 g0 g1 g2 g3 g4 g5 g6 g7 g8 g9 O5430 O50
      obtain ⟨s0, s1, s2, s3, s4, s5, s6, s7, s8⟩ := bx9 S6.out
      have K7 : Hid (Calls Tryz.prog 159 #[.pointer (some ⟨R, 0, none⟩), .int .i64 ((2 : Nat) : Int), .bool false, .int .i64 d] W6 (RdO m R sz W6 (fun l v w' => FmsOwn (fun q => W6.heap.size ≤ q) w' v l) (rMany pf false n 2 r7))) := CF.out r7 W6 (by omega) A6.out
      cases hP7 : rMany pf false n 2 r7 with
      | bad er a =>
        rw [hP7] at K7 hEQ
        go_wp2_with fail
        refine K7.out.mono ?_
        rintro e w9 ⟨rfl, hF9⟩
        refine ⟨rfl, ?_⟩
        rw [hEQ.out]
        exact ⟨rfl, F6.out.trans hF9 (fun k e => Or.inl e)⟩
      | ok x7 r8 =>
        rw [hP7, Rd.bind_ok] at hEQ
        rw [hP7] at K7
        clear hP7
        go_wp2_with fail
        refine K7.out.mono ?_
        rintro e w7 ⟨v7, rfl, hQ9, hA9, hF9⟩
        have O70 : Hid (FmsOwn (fun q => N2 ≤ q) w7 v7 x7) := hQ9.mono (fun q hq _ => by omega)
        obtain ⟨p7, c7, rfl, -⟩ := hQ9.at.form
        obtain ⟨l7, el7⟩ : ∃ y, Hid (x7.length = y) := ⟨_, rfl⟩
        rw [el7.out] at O70 ⊢
        clear hQ9
        have F7 : Hid (Fr (fun k => k = R) w w7) := F6.out.trans hF9 (fun k e => Or.inl e)
        have S7 : Hid (w7.heap[n7]? = _) := hF9.heap S6.out (fun e => by omega)
        have B7 : Hid (w7.heap[n7 + 1]? = _) := hF9.heap B6.out (fun e => by omega)
        have X7 : Hid (w7.heap[w.heap.size]? = _) := hF9.heap X6.out (fun e => by omega)
        have A7 : Hid (RdAt m w7 R sz r8) := hA9
        have y7 : N2 ≤ w7.heap.size := Nat.le_trans y6 hF9.size
        have O765430 : Hid (TmsOwn (fun q => N2 ≤ q) w7 (.slice p3 l3 c3) x3) := O65430.out.keep (fun q hq hlt9 => hF9.block q hlt9 (fun e => by omega))
        have O7650 : Hid (RxsOwn (fun q => N2 ≤ q) w7 (.slice p5 l5 c5) x5) := O650.out.keep (fun q hq hlt9 => hF9.block q hlt9 (fun e => by omega))
        clear hF9 hA9 K7 F6 S6 B6 X6 A6 s0 s1 s2 s3 s4 s5 s6 s7 s8 O65430 O650
        obtain ⟨b0, b1, b2, b3, b4, b5, b6, b7, b8, b9⟩ := bx10 B7.out
        obtain ⟨g0, g1, g2, g3, g4, g5, g6, g7, g8, g9⟩ := bz10 B7.out
        go_upto_region 14 with fail
        refine wp_world ?_
        intro W8 hW8
        have G8 : Hid (Fr (fun k => k = n7 + 1) w7 W8) := by rw [hW8]; exact (Fr.refl (fun k => k = n7 + 1) w7).setCell (p := ⟨n7 + 1, 8, none⟩) (Or.inl rfl) _
        have B8 : Hid (W8.heap[n7 + 1]? = some (.cells #[.int .i64 k, .string ⟨#[]⟩, .int .i64 0, .slice none 0 0, .slice p3 l3 c3, .int .i64 0, .int .i64 0, .bool false, .slice p7 l7 c7, .slice p5 l5 c5] 29 (0, 0))) := by rw [hW8]; exact (set_heap (j := 8) B7.out (.slice p7 l7 c7))
        clear hW8
        have F8 : Hid (Fr (fun k => k = R) w W8) := F7.out.trans G8.out (fun k e => Or.inr (by omega))
        have S8 : Hid (W8.heap[n7]? = _) := G8.out.heap S7.out (fun e => by omega)
        have X8 : Hid (W8.heap[w.heap.size]? = _) := G8.out.heap X7.out (fun e => by omega)
        have A8 : Hid (RdAt m W8 R sz r8) := A7.out.fr G8.out (fun k e => by omega)
        have y8 : N2 ≤ W8.heap.size := Nat.le_trans y7 G8.out.size
        have O8765430 : Hid (TmsOwn (fun q => N2 ≤ q) W8 (.slice p3 l3 c3) x3) := O765430.out.keep (fun q hq hlt9 => G8.out.block q hlt9 (fun e => by omega))
        have O87650 : Hid (RxsOwn (fun q => N2 ≤ q) W8 (.slice p5 l5 c5) x5) := O7650.out.keep (fun q hq hlt9 => G8.out.block q hlt9 (fun e => by omega))
        have O870 : Hid (FmsOwn (fun q => N2 ≤ q) W8 (.slice p7 l7 c7) x7) := O70.out.keep (fun q hq hlt9 => G8.out.block q hlt9 (fun e => by omega))
        clear G8 F7 S7 B7 X7 A7 b0 b1 b2 b3 b4 b5 b6 b7 b8 b9 g0 g1 g2 g3 g4 g5 g6 g7 g8 g9 O765430 O7650 O70
        obtain ⟨b0, b1, b2, b3, b4, b5, b6, b7, b8, b9⟩ := bx10 B8.out
        obtain ⟨r0, r1, r2, r3, r4, r5, r6, r7, r8, r9⟩ := bx10 X8.out
        obtain ⟨q0, q1, q2, q3, q4, q5, q6, q7, q8, q9⟩ := bz10 X8.out
        go_wp2
        generalize hW9 : World.setCell _ _ _ = W9
        have X9 : W9.heap[w.heap.size]? = some (.cells #[.int .i64 k, .string ⟨#[]⟩, .int .i64 0, .slice none 0 0, .slice p3 l3 c3, .int .i64 0, .int .i64 0, .bool false, .slice p7 l7 c7, .slice p5 l5 c5] 29 (0, 0)) := by rw [← hW9]; exact put10 X8.out
        have F9 : Fr (fun k => k = R) w W9 := by rw [← hW9]; exact frp10 F8.out (Or.inr (Nat.le_refl _)) _ _ _ _ _ _ _ _ _ _
        have G9 : Fr (fun k => k = w.heap.size) W8 W9 := by rw [← hW9]; exact frp10 (Fr.refl (fun k => k = w.heap.size) W8) (Or.inl rfl) _ _ _ _ _ _ _ _ _ _
        clear hW9
        obtain ⟨x0, x1, x2, x3, x4, x5, x6, x7, x8, x9⟩ := bx10 X9
        refine bodyPost_ret (by simp [results, Tryz.results121, go_sem, x0, x1, x2, x3, x4, x5, x6, x7, x8, x9]; try rfl) rfl ?_
        rw [hEQ.out]
        refine ⟨_, rfl, ⟨⟨.slice none 0 0, (.slice p3 l3 c3), (.slice p7 l7 c7), (.slice p5 l5 c5)⟩, rfl, ?_⟩, A8.out.fr G9 (fun k e => by omega), F9⟩
        exact ⟨⟨⟨rfl, Or.inl ⟨rfl, rfl⟩⟩, (show (0 : Nat) ≤ 9223372036854775807 from Nat.zero_le _), fun q hq => by cases hq⟩, (O8765430.out.keep (w' := W9) (fun q hq hlt9 => G9.block q hlt9 (fun e => by omega))).mono (fun q hq _ => by omega), (O870.out.keep (w' := W9) (fun q hq hlt9 => G9.block q hlt9 (fun e => by omega))).mono (fun q hq _ => by omega), (O87650.out.keep (w' := W9) (fun q hq hlt9 => G9.block q hlt9 (fun e => by omega))).mono (fun q hq _ => by omega)⟩
set_option maxRecDepth 100000 in
set_option maxHeartbeats 8000000 in
theorem shaped_join (m R sz N : Nat) (ts : List (Tok Val)) (d k : Int) (hd : ByteArray) (w : World) (h : RdAt m w R sz ts) (n : Nat) (pt : List (Tok Val) → Rd Tm) (pf : List (Tok Val) → Rd Fm) (pr : List (Tok Val) → Rd Rx) (hst : Shr pt) (hsr : Shr pr) (hN : ts.length ≤ N) (hk1 : 3 ≤ k) (hk2 : k ≤ 22) (hk : shp k = ⟨false, false, false, false, 0, 0, 1, true⟩) (hhd : (⟨(if k = 3 then [] else hdF k).toArray⟩ : ByteArray) = hd)
    (HT : ∀ (kk : Nat) (rr : List (Tok Val)) (W : World), rr.length ≤ N → RdAt m W R sz rr → Calls Tryz.prog 120 #[.pointer (some ⟨R, 0, none⟩), .int .i64 ((kk : Nat) : Int), .bool false, .int .i64 d] W (RdO m R sz W (fun l v w' => TmsOwn (fun q => W.heap.size ≤ q) w' v l) (rMany pt false n kk rr)))
    (HR : ∀ (kk : Nat) (rr : List (Tok Val)) (W : World), rr.length ≤ N → RdAt m W R sz rr → Calls Tryz.prog 158 #[.pointer (some ⟨R, 0, none⟩), .int .i64 ((kk : Nat) : Int), .int .i64 d] W (RdO m R sz W (fun l v w' => RxsOwn (fun q => W.heap.size ≤ q) w' v l) (rMany pr false n kk rr)))
    (HF : ∀ (kk : Nat) (more : Bool) (rr : List (Tok Val)) (W : World), rr.length ≤ N → RdAt m W R sz rr → Calls Tryz.prog 159 #[.pointer (some ⟨R, 0, none⟩), .int .i64 ((kk : Nat) : Int), .bool more, .int .i64 d] W (RdO m R sz W (fun l v w' => FmsOwn (fun q => W.heap.size ≤ q) w' v l) (rMany pf more n kk rr))) :
    Calls Tryz.prog 121 #[.pointer (some ⟨R, 0, none⟩), .int .i64 k, .int .i64 d] w (RdO m R sz w (FmV w) (pShaped sz n pt pf pr k ts)) := by
  have hlt := h.lt
  obtain ⟨RS, hRS⟩ : ∃ x : Rd Fm, Hid (pShaped sz n pt pf pr k ts = x) := ⟨_, rfl⟩
  rw [hRS.out]
  have hEQ : Hid (RS = (rMany pt false n 0 ts).bind fun tms r6 => (rMany pr false n 0 r6).bind fun rx r7 => (rMany pf true n 1 r7).bind fun fs r8 => .ok (.mk k ⟨#[]⟩ 0 [] tms 0 0 false fs rx) r8) := by
    show _ = _
    rw [← hRS.out]
    unfold pShaped
    rw [hk]
    rfl
  have cS : Hid (∀ W : World, Calls Tryz.prog 35 #[.int .i64 k] W fun e w' => e = .returned (.agg #[.string hd, .bool false, .bool false, .bool false, .bool false, .int .i64 ((0 : Nat) : Int), .int .i64 ((0 : Nat) : Int), .int .i64 ((1 : Nat) : Int), .bool true]) ∧ Below W.heap.size W w') := fun W => by
    have q := shape_any k W hk1 hk2
    rw [hk] at q
    rw [← hhd]
    exact q
  have CT : Hid (∀ (rr : List (Tok Val)) (W : World), rr.length ≤ N → RdAt m W R sz rr → Calls Tryz.prog 120 #[.pointer (some ⟨R, 0, none⟩), .int .i64 ((0 : Nat) : Int), .bool false, .int .i64 d] W (RdO m R sz W (fun l v w' => TmsOwn (fun q => W.heap.size ≤ q) w' v l) (rMany pt false n 0 rr))) := fun rr W hl hW => HT 0 rr W hl hW
  have CR : Hid (∀ (rr : List (Tok Val)) (W : World), rr.length ≤ N → RdAt m W R sz rr → Calls Tryz.prog 158 #[.pointer (some ⟨R, 0, none⟩), .int .i64 ((0 : Nat) : Int), .int .i64 d] W (RdO m R sz W (fun l v w' => RxsOwn (fun q => W.heap.size ≤ q) w' v l) (rMany pr false n 0 rr))) := fun rr W hl hW => HR 0 rr W hl hW
  have CF : Hid (∀ (rr : List (Tok Val)) (W : World), rr.length ≤ N → RdAt m W R sz rr → Calls Tryz.prog 159 #[.pointer (some ⟨R, 0, none⟩), .int .i64 ((1 : Nat) : Int), .bool true, .int .i64 d] W (RdO m R sz W (fun l v w' => FmsOwn (fun q => W.heap.size ≤ q) w' v l) (rMany pf true n 1 rr))) := fun rr W hl hW => HF 1 true rr W hl hW
  have CI : Hid (∀ (rr : List (Tok Val)) (W : World), RdAt m W R sz rr → Calls Tryz.prog 157 #[.pointer (some ⟨R, 0, none⟩)] W (RdO m R sz W (fun iv v _ => v = .agg #[.int .i64 iv.1, .int .i64 iv.2.1, .bool iv.2.2]) (rIv sz rr))) := fun rr W hW => rival_any m R sz rr W hW
  have STm : Hid (∀ kk ts a r, rMany pt false n kk ts = .ok a r → r.length ≤ ts.length) := fun kk ts a r e => sh_many (fun ts a r e => by have := hst ts a r e; omega) false n kk ts a r e
  have SRm : Hid (∀ kk ts a r, rMany pr false n kk ts = .ok a r → r.length ≤ ts.length) := fun kk ts a r e => sh_many (fun ts a r e => by have := hsr ts a r e; omega) false n kk ts a r e
  clear hRS HT HR HF hst hsr hk hhd
  go_enter Tryz.func121, Tryz.ntmps121
  go_wp2_with fail
  refine (cS.out _).mono ?_
  rintro e w1 ⟨rfl, hb1⟩
  have z1 : w.heap.size < w1.heap.size := by have := hb1.size; simp at this; omega
  have X1 : Hid (w1.heap[w.heap.size]? = some (.cells #[.int .i64 0, .string ⟨#[]⟩, .int .i64 0, .slice none 0 0, .slice none 0 0, .int .i64 0, .int .i64 0, .bool false, .slice none 0 0, .slice none 0 0] 29 (0, 0))) := (hb1.block w.heap.size (by simp)).trans (new_box w _)
  have F1 : Hid (Fr (fun k => k = R) w w1) := Fr.of_below (((Below.refl _ _).alloc (Nat.le_refl _) _).trans (hb1.mono (by simp)))
  have A1 : Hid (RdAt m w1 R sz ts) := h.below (((Below.refl _ _).alloc (Nat.le_refl _) _).trans (hb1.mono (by simp)))
  clear hb1 cS h
  go_upto_region 2 with fail
  refine wp_world ?_
  intro W2 hW2
  have S2 : Hid (W2.heap[w1.heap.size]? = some (.cells #[.string hd, .bool false, .bool false, .bool false, .bool false, .int .i64 ((0 : Nat) : Int), .int .i64 ((0 : Nat) : Int), .int .i64 ((1 : Nat) : Int), .bool true] 82 (0, 0))) := by rw [hW2]; exact (Below.heap_alloc _ _ _ (by simp)).trans (new_box w1 _)
  have B2 : Hid (W2.heap[w1.heap.size + 1]? = some (.cells #[.int .i64 k, .string ⟨#[]⟩, .int .i64 0, .slice none 0 0, .slice none 0 0, .int .i64 0, .int .i64 0, .bool false, .slice none 0 0, .slice none 0 0] 29 (0, 0))) := by
    rw [hW2]
    have q := new_box (w1.alloc (.cells #[.string hd, .bool false, .bool false, .bool false, .bool false, .int .i64 ((0 : Nat) : Int), .int .i64 ((0 : Nat) : Int), .int .i64 ((1 : Nat) : Int), .bool true] 82)) (.cells #[.int .i64 k, .string ⟨#[]⟩, .int .i64 0, .slice none 0 0, .slice none 0 0, .int .i64 0, .int .i64 0, .bool false, .slice none 0 0, .slice none 0 0] 29)
    simp only [World.size_alloc] at q
    exact q
  have X2 : Hid (W2.heap[w.heap.size]? = some (.cells #[.int .i64 0, .string ⟨#[]⟩, .int .i64 0, .slice none 0 0, .slice none 0 0, .int .i64 0, .int .i64 0, .bool false, .slice none 0 0, .slice none 0 0] 29 (0, 0))) := by rw [hW2]; exact (((Fr.refl (fun k => k = R) w1).alloc _).alloc _).heap X1.out (fun e => by omega)
  have F2 : Hid (Fr (fun k => k = R) w W2) := by rw [hW2]; exact (F1.out.alloc _).alloc _
  have A2 : Hid (RdAt m W2 R sz ts) := by rw [hW2]; exact A1.out.below (((Below.refl w1.heap.size w1).alloc (Nat.le_refl _) _).alloc (by simp) _)
  have zz : w1.heap.size + 2 = W2.heap.size := by rw [hW2]; simp
  clear hW2 F1 A1 X1
  generalize w1.heap.size = n7 at *
  have ZN : Hid (n7 + 2 = W2.heap.size) := zz
  obtain ⟨N2, hN2⟩ : ∃ x, Hid (W2.heap.size = x) := ⟨_, rfl⟩
  have zz2 : n7 + 2 = N2 := by rw [← hN2.out]; exact ZN.out
  have y2 : N2 ≤ W2.heap.size := Nat.le_of_eq hN2.out.symm
  clear zz ZN hN2
  obtain ⟨s0, s1, s2, s3, s4, s5, s6, s7, s8⟩ := bx9 S2.out
  have K3 : Hid (Calls Tryz.prog 120 #[.pointer (some ⟨R, 0, none⟩), .int .i64 ((0 : Nat) : Int), .bool false, .int .i64 d] W2 (RdO m R sz W2 (fun l v w' => TmsOwn (fun q => W2.heap.size ≤ q) w' v l) (rMany pt false n 0 ts))) := CT.out ts W2 (by omega) A2.out
  cases hP3 : rMany pt false n 0 ts with
  | bad er a =>
    rw [hP3] at K3 hEQ
    go_wp2_with fail
    refine K3.out.mono ?_
    rintro e w9 ⟨rfl, hF9⟩
    refine ⟨rfl, ?_⟩
    rw [hEQ.out]
    exact ⟨rfl, F2.out.trans hF9 (fun k e => Or.inl e)⟩
  | ok x3 r6 =>
    rw [hP3, Rd.bind_ok] at hEQ
    rw [hP3] at K3
    have hl3 := STm.out _ _ _ _ hP3
    clear hP3
    go_wp2_with fail
    refine K3.out.mono ?_
    rintro e w3 ⟨v3, rfl, hQ9, hA9, hF9⟩
    have O30 : Hid (TmsOwn (fun q => N2 ≤ q) w3 v3 x3) := hQ9.mono (fun q hq _ => by omega)
    obtain ⟨p3, c3, rfl, -⟩ := hQ9.at.form
    obtain ⟨l3, el3⟩ : ∃ y, Hid (x3.length = y) := ⟨_, rfl⟩
    rw [el3.out] at O30 ⊢
    clear hQ9
    have F3 : Hid (Fr (fun k => k = R) w w3) := F2.out.trans hF9 (fun k e => Or.inl e)
    have S3 : Hid (w3.heap[n7]? = _) := hF9.heap S2.out (fun e => by omega)
    have B3 : Hid (w3.heap[n7 + 1]? = _) := hF9.heap B2.out (fun e => by omega)
    have X3 : Hid (w3.heap[w.heap.size]? = _) := hF9.heap X2.out (fun e => by omega)
    have A3 : Hid (RdAt m w3 R sz r6) := hA9
    have y3 : N2 ≤ w3.heap.size := Nat.le_trans y2 hF9.size
    clear hF9 hA9 K3 F2 S2 B2 X2 A2 s0 s1 s2 s3 s4 s5 s6 s7 s8 
    obtain ⟨b0, b1, b2, b3, b4, b5, b6, b7, b8, b9⟩ := bx10 B3.out
    obtain ⟨g0, g1, g2, g3, g4, g5, g6, g7, g8, g9⟩ := bz10 B3.out
    go_upto_region 12 with fail
    refine wp_world ?_
    intro W4 hW4
    have G4 : Hid (Fr (fun k => k = n7 + 1) w3 W4) := by rw [hW4]; exact (Fr.refl (fun k => k = n7 + 1) w3).setCell (p := ⟨n7 + 1, 4, none⟩) (Or.inl rfl) _
    have B4 : Hid (W4.heap[n7 + 1]? = some (.cells #[.int .i64 k, .string ⟨#[]⟩, .int .i64 0, .slice none 0 0, .slice p3 l3 c3, .int .i64 0, .int .i64 0, .bool false, .slice none 0 0, .slice none 0 0] 29 (0, 0))) := by rw [hW4]; exact (set_heap (j := 4) B3.out (.slice p3 l3 c3))
    clear hW4
    have F4 : Hid (Fr (fun k => k = R) w W4) := F3.out.trans G4.out (fun k e => Or.inr (by omega))
    have S4 : Hid (W4.heap[n7]? = _) := G4.out.heap S3.out (fun e => by omega)
    have X4 : Hid (W4.heap[w.heap.size]? = _) := G4.out.heap X3.out (fun e => by omega)
    have A4 : Hid (RdAt m W4 R sz r6) := A3.out.fr G4.out (fun k e => by omega)
    have y4 : N2 ≤ W4.heap.size := Nat.le_trans y3 G4.out.size
    have O430 : Hid (TmsOwn (fun q => N2 ≤ q) W4 (.slice p3 l3 c3) x3) := O30.out.keep (fun q hq hlt9 => G4.out.block q hlt9 (fun e => by omega))
    clear G4 F3 S3 B3 X3 A3 b0 b1 b2 b3 b4 b5 b6 b7 b8 b9 g0 g1 g2 g3 g4 g5 g6 g7 g8 g9 O30
    obtain ⟨s0, s1, s2, s3, s4, s5, s6, s7, s8⟩ := bx9 S4.out
    have K5 : Hid (Calls Tryz.prog 158 #[.pointer (some ⟨R, 0, none⟩), .int .i64 ((0 : Nat) : Int), .int .i64 d] W4 (RdO m R sz W4 (fun l v w' => RxsOwn (fun q => W4.heap.size ≤ q) w' v l) (rMany pr false n 0 r6))) := CR.out r6 W4 (by omega) A4.out
    cases hP5 : rMany pr false n 0 r6 with
    | bad er a =>
      rw [hP5] at K5 hEQ
      go_wp2_with fail
      refine K5.out.mono ?_
      rintro e w9 ⟨rfl, hF9⟩
      refine ⟨rfl, ?_⟩
      rw [hEQ.out]
      exact ⟨rfl, F4.out.trans hF9 (fun k e => Or.inl e)⟩
    | ok x5 r7 =>
      rw [hP5, Rd.bind_ok] at hEQ
      rw [hP5] at K5
      have hl5 := SRm.out _ _ _ _ hP5
      clear hP5
      go_wp2_with fail
      refine K5.out.mono ?_
      rintro e w5 ⟨v5, rfl, hQ9, hA9, hF9⟩
      have O50 : Hid (RxsOwn (fun q => N2 ≤ q) w5 v5 x5) := hQ9.mono (fun q hq _ => by omega)
      obtain ⟨p5, c5, rfl, -⟩ := hQ9.at.form
      obtain ⟨l5, el5⟩ : ∃ y, Hid (x5.length = y) := ⟨_, rfl⟩
      rw [el5.out] at O50 ⊢
      clear hQ9
      have F5 : Hid (Fr (fun k => k = R) w w5) := F4.out.trans hF9 (fun k e => Or.inl e)
      have S5 : Hid (w5.heap[n7]? = _) := hF9.heap S4.out (fun e => by omega)
      have B5 : Hid (w5.heap[n7 + 1]? = _) := hF9.heap B4.out (fun e => by omega)
      have X5 : Hid (w5.heap[w.heap.size]? = _) := hF9.heap X4.out (fun e => by omega)
      have A5 : Hid (RdAt m w5 R sz r7) := hA9
      have y5 : N2 ≤ w5.heap.size := Nat.le_trans y4 hF9.size
      have O5430 : Hid (TmsOwn (fun q => N2 ≤ q) w5 (.slice p3 l3 c3) x3) := O430.out.keep (fun q hq hlt9 => hF9.block q hlt9 (fun e => by omega))
      clear hF9 hA9 K5 F4 S4 B4 X4 A4 s0 s1 s2 s3 s4 s5 s6 s7 s8 O430
      obtain ⟨b0, b1, b2, b3, b4, b5, b6, b7, b8, b9⟩ := bx10 B5.out
      obtain ⟨g0, g1, g2, g3, g4, g5, g6, g7, g8, g9⟩ := bz10 B5.out
      go_upto_region 13 with fail
      refine wp_world ?_
      intro W6 hW6
      have G6 : Hid (Fr (fun k => k = n7 + 1) w5 W6) := by rw [hW6]; exact (Fr.refl (fun k => k = n7 + 1) w5).setCell (p := ⟨n7 + 1, 9, none⟩) (Or.inl rfl) _
      have B6 : Hid (W6.heap[n7 + 1]? = some (.cells #[.int .i64 k, .string ⟨#[]⟩, .int .i64 0, .slice none 0 0, .slice p3 l3 c3, .int .i64 0, .int .i64 0, .bool false, .slice none 0 0, .slice p5 l5 c5] 29 (0, 0))) := by rw [hW6]; exact (set_heap (j := 9) B5.out (.slice p5 l5 c5))
      clear hW6
      have F6 : Hid (Fr (fun k => k = R) w W6) := F5.out.trans G6.out (fun k e => Or.inr (by omega))
      have S6 : Hid (W6.heap[n7]? = _) := G6.out.heap S5.out (fun e => by omega)
      have X6 : Hid (W6.heap[w.heap.size]? = _) := G6.out.heap X5.out (fun e => by omega)
      have A6 : Hid (RdAt m W6 R sz r7) := A5.out.fr G6.out (fun k e => by omega)
      have y6 : N2 ≤ W6.heap.size := Nat.le_trans y5 G6.out.size
      have O65430 : Hid (TmsOwn (fun q => N2 ≤ q) W6 (.slice p3 l3 c3) x3) := O5430.out.keep (fun q hq hlt9 => G6.out.block q hlt9 (fun e => by omega))
      have O650 : Hid (RxsOwn (fun q => N2 ≤ q) W6 (.slice p5 l5 c5) x5) := O50.out.keep (fun q hq hlt9 => G6.out.block q hlt9 (fun e => by omega))
      clear G6 F5 S5 B5 X5 A5 b0 b1 b2 b3 b4 b5 b6 b7 b8 b9 g0 g1 g2 g3 g4 g5 g6 g7 g8 g9 O5430 O50
      obtain ⟨s0, s1, s2, s3, s4, s5, s6, s7, s8⟩ := bx9 S6.out
      have K7 : Hid (Calls Tryz.prog 159 #[.pointer (some ⟨R, 0, none⟩), .int .i64 ((1 : Nat) : Int), .bool true, .int .i64 d] W6 (RdO m R sz W6 (fun l v w' => FmsOwn (fun q => W6.heap.size ≤ q) w' v l) (rMany pf true n 1 r7))) := CF.out r7 W6 (by omega) A6.out
      cases hP7 : rMany pf true n 1 r7 with
      | bad er a =>
        rw [hP7] at K7 hEQ
        go_wp2_with fail
        refine K7.out.mono ?_
        rintro e w9 ⟨rfl, hF9⟩
        refine ⟨rfl, ?_⟩
        rw [hEQ.out]
        exact ⟨rfl, F6.out.trans hF9 (fun k e => Or.inl e)⟩
      | ok x7 r8 =>
        rw [hP7, Rd.bind_ok] at hEQ
        rw [hP7] at K7
        clear hP7
        go_wp2_with fail
        refine K7.out.mono ?_
        rintro e w7 ⟨v7, rfl, hQ9, hA9, hF9⟩
        have O70 : Hid (FmsOwn (fun q => N2 ≤ q) w7 v7 x7) := hQ9.mono (fun q hq _ => by omega)
        obtain ⟨p7, c7, rfl, -⟩ := hQ9.at.form
        obtain ⟨l7, el7⟩ : ∃ y, Hid (x7.length = y) := ⟨_, rfl⟩
        rw [el7.out] at O70 ⊢
        clear hQ9
        have F7 : Hid (Fr (fun k => k = R) w w7) := F6.out.trans hF9 (fun k e => Or.inl e)
        have S7 : Hid (w7.heap[n7]? = _) := hF9.heap S6.out (fun e => by omega)
        have B7 : Hid (w7.heap[n7 + 1]? = _) := hF9.heap B6.out (fun e => by omega)
        have X7 : Hid (w7.heap[w.heap.size]? = _) := hF9.heap X6.out (fun e => by omega)
        have A7 : Hid (RdAt m w7 R sz r8) := hA9
        have y7 : N2 ≤ w7.heap.size := Nat.le_trans y6 hF9.size
        have O765430 : Hid (TmsOwn (fun q => N2 ≤ q) w7 (.slice p3 l3 c3) x3) := O65430.out.keep (fun q hq hlt9 => hF9.block q hlt9 (fun e => by omega))
        have O7650 : Hid (RxsOwn (fun q => N2 ≤ q) w7 (.slice p5 l5 c5) x5) := O650.out.keep (fun q hq hlt9 => hF9.block q hlt9 (fun e => by omega))
        clear hF9 hA9 K7 F6 S6 B6 X6 A6 s0 s1 s2 s3 s4 s5 s6 s7 s8 O65430 O650
        obtain ⟨b0, b1, b2, b3, b4, b5, b6, b7, b8, b9⟩ := bx10 B7.out
        obtain ⟨g0, g1, g2, g3, g4, g5, g6, g7, g8, g9⟩ := bz10 B7.out
        go_upto_region 14 with fail
        refine wp_world ?_
        intro W8 hW8
        have G8 : Hid (Fr (fun k => k = n7 + 1) w7 W8) := by rw [hW8]; exact (Fr.refl (fun k => k = n7 + 1) w7).setCell (p := ⟨n7 + 1, 8, none⟩) (Or.inl rfl) _
        have B8 : Hid (W8.heap[n7 + 1]? = some (.cells #[.int .i64 k, .string ⟨#[]⟩, .int .i64 0, .slice none 0 0, .slice p3 l3 c3, .int .i64 0, .int .i64 0, .bool false, .slice p7 l7 c7, .slice p5 l5 c5] 29 (0, 0))) := by rw [hW8]; exact (set_heap (j := 8) B7.out (.slice p7 l7 c7))
        clear hW8
        have F8 : Hid (Fr (fun k => k = R) w W8) := F7.out.trans G8.out (fun k e => Or.inr (by omega))
        have S8 : Hid (W8.heap[n7]? = _) := G8.out.heap S7.out (fun e => by omega)
        have X8 : Hid (W8.heap[w.heap.size]? = _) := G8.out.heap X7.out (fun e => by omega)
        have A8 : Hid (RdAt m W8 R sz r8) := A7.out.fr G8.out (fun k e => by omega)
        have y8 : N2 ≤ W8.heap.size := Nat.le_trans y7 G8.out.size
        have O8765430 : Hid (TmsOwn (fun q => N2 ≤ q) W8 (.slice p3 l3 c3) x3) := O765430.out.keep (fun q hq hlt9 => G8.out.block q hlt9 (fun e => by omega))
        have O87650 : Hid (RxsOwn (fun q => N2 ≤ q) W8 (.slice p5 l5 c5) x5) := O7650.out.keep (fun q hq hlt9 => G8.out.block q hlt9 (fun e => by omega))
        have O870 : Hid (FmsOwn (fun q => N2 ≤ q) W8 (.slice p7 l7 c7) x7) := O70.out.keep (fun q hq hlt9 => G8.out.block q hlt9 (fun e => by omega))
        clear G8 F7 S7 B7 X7 A7 b0 b1 b2 b3 b4 b5 b6 b7 b8 b9 g0 g1 g2 g3 g4 g5 g6 g7 g8 g9 O765430 O7650 O70
        obtain ⟨b0, b1, b2, b3, b4, b5, b6, b7, b8, b9⟩ := bx10 B8.out
        obtain ⟨r0, r1, r2, r3, r4, r5, r6, r7, r8, r9⟩ := bx10 X8.out
        obtain ⟨q0, q1, q2, q3, q4, q5, q6, q7, q8, q9⟩ := bz10 X8.out
        go_wp2
        generalize hW9 : World.setCell _ _ _ = W9
        have X9 : W9.heap[w.heap.size]? = some (.cells #[.int .i64 k, .string ⟨#[]⟩, .int .i64 0, .slice none 0 0, .slice p3 l3 c3, .int .i64 0, .int .i64 0, .bool false, .slice p7 l7 c7, .slice p5 l5 c5] 29 (0, 0)) := by rw [← hW9]; exact put10 X8.out
        have F9 : Fr (fun k => k = R) w W9 := by rw [← hW9]; exact frp10 F8.out (Or.inr (Nat.le_refl _)) _ _ _ _ _ _ _ _ _ _
        have G9 : Fr (fun k => k = w.heap.size) W8 W9 := by rw [← hW9]; exact frp10 (Fr.refl (fun k => k = w.heap.size) W8) (Or.inl rfl) _ _ _ _ _ _ _ _ _ _
        clear hW9
        obtain ⟨x0, x1, x2, x3, x4, x5, x6, x7, x8, x9⟩ := bx10 X9
        refine bodyPost_ret (by simp [results, Tryz.results121, go_sem, x0, x1, x2, x3, x4, x5, x6, x7, x8, x9]; try rfl) rfl ?_
        rw [hEQ.out]
        refine ⟨_, rfl, ⟨⟨.slice none 0 0, (.slice p3 l3 c3), (.slice p7 l7 c7), (.slice p5 l5 c5)⟩, rfl, ?_⟩, A8.out.fr G9 (fun k e => by omega), F9⟩
        exact ⟨⟨⟨rfl, Or.inl ⟨rfl, rfl⟩⟩, (show (0 : Nat) ≤ 9223372036854775807 from Nat.zero_le _), fun q hq => by cases hq⟩, (O8765430.out.keep (w' := W9) (fun q hq hlt9 => G9.block q hlt9 (fun e => by omega))).mono (fun q hq _ => by omega), (O870.out.keep (w' := W9) (fun q hq hlt9 => G9.block q hlt9 (fun e => by omega))).mono (fun q hq _ => by omega), (O87650.out.keep (w' := W9) (fun q hq hlt9 => G9.block q hlt9 (fun e => by omega))).mono (fun q hq _ => by omega)⟩
end Go.Proofs.YticnfeolbfmgfaaGreatDoor
