/- The walk of the law TraceParses. -/
import Derived.Test.YticmebamclacaaaGreatDoorZ09

namespace Go.Proofs.YticmebamclacaaaGreatDoor
open Go.RowKit LX Go.Shelf
set_option linter.unusedVariables false

theorem rdEs_args {B f : Nat} {acc es : List Evt} {L : List (Tok Val)} (h : rdEs f acc L = some es) (ha : ∀ e ∈ acc, e.args.length ≤ B) (hL : L.length ≤ B) : ∀ e ∈ es, e.args.length ≤ B := by
  induction f generalizing acc L with
  | zero =>
    have h : some acc = some es := h
    injection h with h
    subst h
    exact ha
  | succ f ih =>
    by_cases h0 : L.length = 0
    · rw [rdEs_end h0] at h
      injection h with h
      subst h
      exact ha
    · cases hE : rdE L with
      | none => rw [rdEs_none (by omega) hE] at h; cases h
      | some p =>
        obtain ⟨e, n⟩ := p
        rw [rdEs_some (by omega) hE] at h
        have hl := rdE_len hE
        refine ih h (fun x hx => ?_) (by rw [List.length_drop]; omega)
        rcases List.mem_append.1 hx with hx | hx
        · exact ha x hx
        · rw [List.mem_singleton.1 hx]; omega
theorem rdP_small (s : ByteArray) : (rdP s).2.2.length ≤ 64 ∧ ∀ e ∈ (rdP s).2.2, e.args.length ≤ 4096 := by
  unfold rdP
  by_cases hC : cutE s = 0
  case neg => rw [if_neg hC]; exact ⟨by simp, by simp⟩
  rw [if_pos hC]
  have hTl : (tks s).length ≤ 4096 := by
    unfold cutE at hC
    have h1 : ¬ 4096 < s.size := fun hh => by rw [if_pos hh] at hC; cases hC
    have h2 := T_lenX s.data.toList.length s.data.toList (Nat.le_refl _) 0
    have h3 : s.data.toList.length = s.size := by simp
    unfold tks
    omega
  generalize tks s = TL at hTl
  cases TL with
  | nil => exact ⟨by simp [rdL], by simp [rdL]⟩
  | cons t L =>
    have e : rdL (t :: L) = if t.k = 7 then rdM t.v.n (rdEs (L.length + 1) [] L) else (70, 0, []) := rfl
    rw [e]
    by_cases h7 : t.k = 7
    case neg => rw [if_neg h7]; exact ⟨by simp, by simp⟩
    rw [if_pos h7]
    cases hE : rdEs (L.length + 1) [] L with
    | none => exact ⟨by simp [rdM], by simp [rdM]⟩
    | some es =>
      have ha := rdEs_args (B := 4096) hE (by simp) (by simp at hTl; omega)
      have e2 : rdM t.v.n (some es) = if 64 < es.length then (3, 0, []) else (0, t.v.n, es) := rfl
      rw [e2]
      by_cases h64 : 64 < es.length
      · rw [if_pos h64]; exact ⟨by simp, by simp⟩
      · rw [if_neg h64]; exact ⟨by show es.length ≤ 64; omega, ha⟩

set_option maxRecDepth 100000 in
set_option maxHeartbeats 8000000 in
theorem trparses_walk (s : ByteArray) (w : World) (he : Env w) :
    Calls Tryz.prog 7 #[.string s] w fun r w' => r = .returned (.bool true) ∧ Below w.heap.size w w' := by
  have c1 : Hid (∀ W : World, Below w.heap.size w W → Calls Tryz.prog 19 #[.string s] W fun r w' => PpOut W.heap.size W (rdP s) r w') := fun W hW => parsept_any s W (he.below hW).pow (he.below hW).errs (he.below hW).size (he.below hW).err
  have c2 : Hid (∀ W : World, Calls Tryz.prog 20 #[.string s] W fun r w' => PpOut W.heap.size W (rdP s) r w') := fun W => rparsept_any s W
  have c5 : Hid (∀ W : World, Below w.heap.size w W → Calls Tryz.prog 10 #[] W fun r w' => r = .returned (.bool true) ∧ Below W.heap.size W w') := fun W hW => trlive_any W (he.below hW)
  obtain ⟨hs1, hs2⟩ := rdP_small s
  generalize rdP s = D at *
  obtain ⟨D1, D2, D3⟩ := D
  dsimp only at hs1 hs2
  have c3 : Hid (∀ (W : World) (A B : Value), EvsAt W A D3 → EvsAt W B D3 → Calls Tryz.prog 21 #[.agg #[.int .i64 D2, A], .agg #[.int .i64 D2, B]] W fun r w' => r = .returned (.bool true) ∧ Below W.heap.size W w') := fun W A B hA hB => rpsame_yes D2 A B D3 W hA hB (by omega) (fun e he => by have := hs2 e he; omega)
  have HA : Hid (∀ i (hi : i < D3.length), D3[i].args.length ≤ 4096) := fun i hi => hs2 _ (List.getElem_mem hi)
  clear he hs2
  go_enter Tryz.func7, Tryz.ntmps7
  go_wp2_with fail
  refine (c1.out _ (by go_grown)).mono ?_
  rintro r w1 ⟨hb1, pe, ce, rfl, ho1⟩
  dsimp only at ho1 ⊢
  obtain ⟨m, em⟩ : ∃ m : Nat, Hid (D3.length = m) := ⟨_, rfl⟩
  have HO1 : Hid (OwnE w.heap.size (.slice pe m ce) D3 w1) := by have h := ho1; rwa [em.out] at h
  rw [em.out] at hs1 ⊢
  clear ho1
  have hB1 : Below w.heap.size w w1 := hb1
  clear hb1
  go_wp2_with fail
  refine (c2.out _).mono ?_
  rintro r w2 ⟨hb2, pq, cq, rfl, ho2⟩
  dsimp only at ho2 ⊢
  have HP1 : Hid (w2.heap[w1.heap.size]? = some (.cells #[.int .i64 D2, .slice pe m ce] 26 (0, 0))) := (hb2.block _ (by simp)).trans (by show (w1.heap.push _)[w1.heap.size]? = _; rw [Array.getElem?_push, if_pos rfl])
  have z2 : w1.heap.size + 1 ≤ w2.heap.size := by have := hb2.size; simp at this; omega
  have HO2 : Hid (OwnE (w1.heap.size + 1) (.slice pq m cq) D3 w2) := by have h := ho2; rw [em.out] at h; exact h.base (by simp)
  obtain ⟨hB2, -⟩ := bgX (n := w1.heap.size) (W0 := w1) (by go_grown) (by go_size) hb2
  rw [em.out]
  clear hb2 ho2 c2
  have z2' : w1.heap.size < w2.heap.size := by omega
  have HO1b : Hid (OwnE w.heap.size (.slice pe m ce) D3 w2) := HO1.out.below hB2
  have p1 : w2.cell? ⟨w1.heap.size, 0, none⟩ = some (.int .i64 D2) := by rw [Lib.cell_of_heap HP1.out]; rfl
  have p2 : w2.cell? ⟨w1.heap.size, 1, none⟩ = some (.slice pe m ce) := by rw [Lib.cell_of_heap HP1.out]; rfl
  have ct3 : Hid (Calls Tryz.prog 21 #[.agg #[.int .i64 D2, .slice pe m ce], .agg #[.int .i64 D2, .slice pq m cq]] (w2.alloc (.cells #[.int .i64 D2, .slice pq m cq] 26)) fun r w' => r = .returned (.bool true) ∧ Below (w2.alloc (.cells #[.int .i64 D2, .slice pq m cq] 26)).heap.size (w2.alloc (.cells #[.int .i64 D2, .slice pq m cq] 26)) w') := c3.out _ _ _ ((HO1b.out.below ((Below.refl _ _).alloc (Nat.le_refl _) _)).at) ((HO2.out.below ((Below.refl _ _).alloc (Nat.le_refl _) _)).at)
  go_wp2_with fail
  refine ct3.out.mono ?_
  rintro r w3 ⟨rfl, hb3⟩
  clear ct3 p1 p2
  have z3 : w2.heap.size + 1 ≤ w3.heap.size := by have := hb3.size; simp at this; omega
  have HP2 : Hid (w3.heap[w2.heap.size]? = some (.cells #[.int .i64 D2, .slice pq m cq] 26 (0, 0))) := (hb3.block _ (by simp)).trans (by show (w2.heap.push _)[w2.heap.size]? = _; rw [Array.getElem?_push, if_pos rfl])
  obtain ⟨hB3, -⟩ := bgX (n := w2.heap.size) (W0 := w2) (by go_grown) (by go_size) hb3
  clear hb3
  have HP1c : Hid (w3.heap[w1.heap.size]? = some (.cells #[.int .i64 D2, .slice pe m ce] 26 (0, 0))) := (hB3.block _ (by omega)).trans HP1.out
  have hB13 : Below w1.heap.size w1 w3 := hB2.trans (hB3.mono hB2.size)
  have HO2c : Hid (OwnE (w1.heap.size + 1) (.slice pq m cq) D3 w3) := HO2.out.below hB3
  have hB03 : Below w.heap.size w w3 := hB1.trans (hB13.mono hB1.size)
  have zN : w.heap.size ≤ w1.heap.size := hB1.size
  -- where the events lie
  have PA : Hid (∀ i, i < m → ∃ g cur pu nu cu, pe = some ⟨g, 0, none⟩ ∧ w.heap.size ≤ g ∧ g < w1.heap.size ∧ w3.heap[g]? = some (.cells cur 48 (0, 0)) ∧ i * 2 + 1 < cur.size ∧ cur[i * 2 + 1]? = some (.slice pu nu cu) ∧ nu ≤ 4096 ∧ (nu = 0 ∨ ∃ b cb, pu = some ⟨b, 0, none⟩ ∧ w.heap.size ≤ b ∧ b < w1.heap.size ∧ w3.heap[b]? = some (.cells cb 50 (0, 0)) ∧ nu * 4 ≤ cb.size)) := fun i hi => by
    have hi' : i < D3.length := by have := em.out; omega
    obtain ⟨g, cur, pu, cu, e1, e2, e3, e4, e5, e6, e7⟩ := HO1.out.parts i hi'
    refine ⟨g, cur, pu, D3[i].args.length, cu, e1, e2, e3, (hB13.block _ e3).trans e4, e5, e6, HA.out i hi', ?_⟩
    rcases e7 with e7 | ⟨b, cb, y1, y2, y3, y4, y5⟩
    · exact Or.inl e7
    · exact Or.inr ⟨b, cb, y1, y2, y3, (hB13.block _ y3).trans y4, y5⟩
  obtain ⟨g, eg⟩ : ∃ g : Nat, Hid (∀ q, pe = some ⟨q, 0, none⟩ → q = g) := by
    cases pe with
    | none => exact ⟨0, fun q h => by cases h⟩
    | some a => exact ⟨a.block, fun q h => by injection h with h; rw [h]⟩
  clear HO1 HO1b HO2 HP1 hB2 hB3 HA
  have zM : w1.heap.size < w3.heap.size := by omega
  have zM2 : w2.heap.size < w3.heap.size := by omega
  go_wp2
  go_loopw [8] (fun v wr => ∃ i : Nat, i ≤ m ∧ v = .int .i64 i ∧ Hid (Spl w.heap.size w1.heap.size g 48 50 (i * 2) w3 wr)) (fun v _ => m - (intOf v).toNat)
  case atStart => exact ⟨0, Nat.zero_le _, rfl, Spl.refl _ _ _ _ _ _⟩
  case round =>
    obtain ⟨i, hi, rfl, hS⟩ := hrel
    have hp1 : wr.heap[w1.heap.size]? = some (.cells #[.int .i64 D2, .slice pe m ce] 26 (0, 0)) := (hS.out.2.2.1 _ (Nat.le_refl _)).trans HP1c.out
    have t1 : wr.cell? ⟨w1.heap.size, 1, none⟩ = some (.slice pe m ce) := by rw [Lib.cell_of_heap hp1]; rfl
    clear hp1
    by_cases hlt : i < m
    · have hlt' : (i : Int) < m := by omega
      obtain ⟨g', cur, pu, nu, cu, e1, e2, e3, e4, e5, e6, e7, e8⟩ := PA.out i hlt
      obtain rfl := eg.out g' e1
      subst e1
      have CE : Hid (w3.heap[g']? = some (.cells cur 48 (0, 0))) := e4
      -- the event's own cells, while it stands
      have RD : Hid (∀ W, Spl w.heap.size w1.heap.size g' 48 50 (i * 2) w3 W → W.cell? ⟨w1.heap.size, 1, none⟩ = some (.slice (some ⟨g', 0, none⟩) m ce) ∧ W.cell? ⟨g', i * 2 + 1, none⟩ = some (.slice pu nu cu)) := fun W hW => by
        obtain ⟨cur', q1, q2, q3⟩ := hW.2.2.2.2 cur CE.out
        refine ⟨?_, ?_⟩
        · rw [Lib.cell_of_heap ((hW.2.2.1 _ (Nat.le_refl _)).trans HP1c.out)]; rfl
        · rw [Lib.cell_of_heap q1, q3 _ (by omega)]; exact e6
      have hnu : nu ≤ 4096 := e7
      clear e4
      go_wp2
      clear t1
      go_loopw [9] (fun v wr => ∃ k : Nat, k ≤ nu ∧ v = .int .i64 k ∧ Hid (Spl w.heap.size w1.heap.size g' 48 50 (i * 2) w3 wr)) (fun v _ => nu - (intOf v).toNat)
      case atStart => exact ⟨0, Nat.zero_le _, rfl, hS⟩
      case round =>
        clear hS
        obtain ⟨k, hk, rfl, hS⟩ := hrel
        obtain ⟨t1, t2⟩ := RD.out _ hS.out
        by_cases hlk : k < nu
        · have hlk' : (k : Int) < nu := by omega
          rcases e8 with e8 | ⟨b, cb, rfl, y2, y3, y4, y5⟩
          · omega
          obtain ⟨cb', q1, q2⟩ := hS.out.2.2.2.1 b cb y4
          have z0 : k * 4 < cb'.size := by omega
          have z1 : k * 4 + 1 < cb'.size := by omega
          have z2' : k * 4 + 2 < cb'.size := by omega
          have z3' : k * 4 + 3 < cb'.size := by omega
          have x0 : wr.cell? ⟨b, k * 4, none⟩ = some cb'[k * 4] := by rw [Lib.cell_of_heap q1]; exact Array.getElem?_eq_getElem z0
          have x1 : wr.cell? ⟨b, k * 4 + 1, none⟩ = some cb'[k * 4 + 1] := by rw [Lib.cell_of_heap q1]; exact Array.getElem?_eq_getElem z1
          have x2 : wr.cell? ⟨b, k * 4 + 2, none⟩ = some cb'[k * 4 + 2] := by rw [Lib.cell_of_heap q1]; exact Array.getElem?_eq_getElem z2'
          have x3 : wr.cell? ⟨b, k * 4 + 3, none⟩ = some cb'[k * 4 + 3] := by rw [Lib.cell_of_heap q1]; exact Array.getElem?_eq_getElem z3'
          generalize cb'[k * 4] = o0 at x0
          generalize cb'[k * 4 + 1] = o1 at x1
          generalize cb'[k * 4 + 2] = o2 at x2
          generalize cb'[k * 4 + 3] = o3 at x3
          have f0 : wr.frozen? ⟨b, k * 4, none⟩ = false := Lib.frozen_of_heap q1 _
          have f1 : wr.frozen? ⟨b, k * 4 + 1, none⟩ = false := Lib.frozen_of_heap q1 _
          have f2 : wr.frozen? ⟨b, k * 4 + 2, none⟩ = false := Lib.frozen_of_heap q1 _
          have f3 : wr.frozen? ⟨b, k * 4 + 3, none⟩ = false := Lib.frozen_of_heap q1 _
          have S4 : Hid (Spl w.heap.size w1.heap.size g' 48 50 (i * 2) w3 ((((wr.setCell ⟨b, k * 4, none⟩ (.int .i64 77)).setCell ⟨b, k * 4 + 1, none⟩ (.int .i64 0)).setCell ⟨b, k * 4 + 2, none⟩ (.int .i64 0)).setCell ⟨b, k * 4 + 3, none⟩ (.string ⟨#[]⟩))) := (((hS.out.arg y4 y2 y3 (by decide)).arg y4 y2 y3 (by decide)).arg y4 y2 y3 (by decide)).arg y4 y2 y3 (by decide)
          clear q1 q2 z0 z1 z2' z3' hS y4 y5
          go_wp2
          exact ⟨⟨k + 1, by omega, by go_num, S4⟩, by simp [intOf]; omega⟩
        · have c2 : ¬ (k : Int) < nu := by omega
          obtain ⟨cur', q1, q2, q3⟩ := hS.out.2.2.2.2 cur CE.out
          have z0 : i * 2 < cur'.size := by omega
          have z1 : i * 2 + 1 < cur'.size := by omega
          have x0 : wr.cell? ⟨g', i * 2, none⟩ = some cur'[i * 2] := by rw [Lib.cell_of_heap q1]; exact Array.getElem?_eq_getElem z0
          generalize cur'[i * 2] = o0 at x0
          have f0 : wr.frozen? ⟨g', i * 2, none⟩ = false := Lib.frozen_of_heap q1 _
          have f1 : wr.frozen? ⟨g', i * 2 + 1, none⟩ = false := Lib.frozen_of_heap q1 _
          have S4 : Hid (Spl w.heap.size w1.heap.size g' 48 50 ((i + 1) * 2) w3 ((wr.setCell ⟨g', i * 2, none⟩ (.string ⟨#[64]⟩)).setCell ⟨g', i * 2 + 1, none⟩ (.slice none 0 0))) := (hS.out.out (c1 := (i + 1) * 2) CE.out e2 e3 (by decide) (by omega) (by omega)).out CE.out e2 e3 (by decide) (Nat.le_refl _) (by omega)
          clear q1 q2 q3 z0 z1 hS
          go_wp2
          exact ⟨⟨i + 1, by omega, by go_num, S4⟩, by simp [intOf]; omega⟩
    · have c2 : ¬ (i : Int) < m := by omega
      have hBr : Below w.heap.size w wr := hB03.trans (hS.out.1.mono (Nat.le_refl _))
      have HOr : Hid (OwnE (w1.heap.size + 1) (.slice pq m cq) D3 wr) := HO2c.out.above (fun k hk => hS.out.2.2.1 k (by omega))
      have HPr : Hid (wr.heap[w2.heap.size]? = some (.cells #[.int .i64 D2, .slice pq m cq] 26 (0, 0))) := (hS.out.2.2.1 _ (by omega)).trans HP2.out
      have zr : w2.heap.size < wr.heap.size := by have := hS.out.2.1; omega
      clear hS PA eg HO2c HP1c HP2
      go_wp2_with fail
      refine (c1.out _ hBr).mono ?_
      rintro r w5 ⟨hb5, pr, cr, rfl, ho5⟩
      dsimp only at ho5 ⊢
      have HO5 : Hid (OwnE wr.heap.size (.slice pr m cr) D3 w5) := by have h := ho5; rwa [em.out] at h
      have HQ5 : Hid (OwnE (w1.heap.size + 1) (.slice pq m cq) D3 w5) := HOr.out.below hb5
      have HP5 : Hid (w5.heap[w2.heap.size]? = some (.cells #[.int .i64 D2, .slice pq m cq] 26 (0, 0))) := (hb5.block _ zr).trans HPr.out
      have hB5 : Below w.heap.size w w5 := hBr.trans (hb5.mono hBr.size)
      have z5 : w2.heap.size < w5.heap.size := Nat.lt_of_lt_of_le zr hb5.size
      rw [em.out]
      clear ho5 hb5 HOr HPr t1 c1
      go_wp2_with fail
      refine (c5.out _ (hB5.alloc hB5.size _)).mono ?_
      rintro r w6 ⟨rfl, hb6⟩
      have HP6 : Hid (w6.heap[w2.heap.size]? = some (.cells #[.int .i64 D2, .slice pq m cq] 26 (0, 0))) := (hb6.block _ (by simp; omega)).trans (by show (w5.heap.push _)[w2.heap.size]? = _; rw [Array.getElem?_push, if_neg (by omega)]; exact HP5.out)
      have HR6 : Hid (w6.heap[w5.heap.size]? = some (.cells #[.int .i64 D2, .slice pr m cr] 26 (0, 0))) := (hb6.block _ (by simp)).trans (by show (w5.heap.push _)[w5.heap.size]? = _; rw [Array.getElem?_push, if_pos rfl])
      obtain ⟨hB6, -⟩ := bgX (n := w5.heap.size) (W0 := w5) (by go_grown) (by go_size) hb6
      have a1 : w6.cell? ⟨w2.heap.size, 0, none⟩ = some (.int .i64 D2) := by rw [Lib.cell_of_heap HP6.out]; rfl
      have a2 : w6.cell? ⟨w2.heap.size, 1, none⟩ = some (.slice pq m cq) := by rw [Lib.cell_of_heap HP6.out]; rfl
      have a3 : w6.cell? ⟨w5.heap.size, 0, none⟩ = some (.int .i64 D2) := by rw [Lib.cell_of_heap HR6.out]; rfl
      have a4 : w6.cell? ⟨w5.heap.size, 1, none⟩ = some (.slice pr m cr) := by rw [Lib.cell_of_heap HR6.out]; rfl
      have ct3 : Hid (Calls Tryz.prog 21 #[.agg #[.int .i64 D2, .slice pr m cr], .agg #[.int .i64 D2, .slice pq m cq]] w6 fun r w' => r = .returned (.bool true) ∧ Below w6.heap.size w6 w') := c3.out _ _ _ ((HO5.out.below hB6).at) ((HQ5.out.below hB6).at)
      have K6 : Below w.heap.size w w6 := hB5.trans (hB6.mono hB5.size)
      clear hb6 c5 c3 HP6 HR6 HP5 HO5 HQ5
      go_wp2_with fail
      refine ct3.out.mono ?_
      rintro r w7 ⟨rfl, hb7⟩
      have K7 : Below w.heap.size w w7 := K6.trans (hb7.mono K6.size)
      clear ct3 hb7 a1 a2 a3 a4
      go_wp2
      go_ret
      exact ⟨by first | rfl | simp, K7⟩

end Go.Proofs.YticmebamclacaaaGreatDoor
