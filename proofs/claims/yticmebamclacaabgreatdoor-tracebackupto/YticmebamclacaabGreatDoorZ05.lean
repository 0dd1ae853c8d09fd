/- Plain facts: a point's line is read as the point. -/
import Derived.Test.YticmebamclacaabGreatDoorZ04
import Derived.Deep.RegionLaw
import Derived.Deep.RegionWith
import Derived.Test.YticmebamclacaabGreatDoorZ02
import Derived.Test.YticmebamclacaabGreatDoorZ03

namespace Go.Proofs.YticmebamclacaabGreatDoor
open Go.RowKit LX Go.Shelf
set_option linter.unusedVariables false

/-- Values of the call's own. -/
def OwnVs (B : Nat) (v : Value) (xs : List Val) (w : World) : Prop := w.ownsRow B 71 4 v xs.length (flat xs)
theorem OwnVs.row {B : Nat} {v : Value} {xs : List Val} {w : World} (h : OwnVs B v xs w) : RowAt w v xs := by
  have h' : w.ownsRow B 71 4 v xs.length (flat xs) := h
  obtain ⟨hl, ⟨e, hn⟩ | ⟨g, cap, cur, rfl, hg1, hg2, -⟩⟩ := h
  · exact ⟨none, 0, by rw [e, hn], Or.inl (List.length_eq_zero_iff.1 hn)⟩
  · refine ⟨_, _, rfl, Or.inr ⟨g, 0, rfl, (Array.getElem?_eq_some_iff.1 hg2).1, cells_lie fun j hj => ?_⟩⟩
    rw [Nat.zero_add, h'.cellAt _ (by omega)]
theorem OwnVs.form {B : Nat} {v : Value} {xs : List Val} {w : World} (h : OwnVs B v xs w) : ∃ p n c, v = .slice p n c := by
  obtain ⟨-, ⟨e, hn⟩ | ⟨g, cap, cur, e, -⟩⟩ := h
  · exact ⟨_, _, _, e⟩
  · exact ⟨_, _, _, e⟩
theorem flat_snoc (xs : List Val) (v : Val) : flat (xs ++ [v]) = flat xs ++ vcells v := by simp [flat]

/-- The values up to the bracket that ends an event, and how many tokens there were. -/
def rdA (acc : List Val) (i : Nat) : List (Tok Val) → Option (List Val × Nat)
  | [] => none
  | t :: l => if t.x = [41] then some (acc, i + 1) else if t.k = 6 then rdA (acc ++ [t.v]) (i + 1) l else none
/-- An event at the tokens' head. -/
def rdE : List (Tok Val) → Option (Evt × Nat)
  | t0 :: t1 :: l => if t0.x = [40] ∧ nameL t1.x = true then (rdA [] 2 l).map (fun p => (⟨⟨t1.x.toArray⟩, p.1⟩, p.2)) else none
  | _ => none
theorem x_ne {l m : List UInt8} (h : ¬ l = m) : ((⟨l.toArray⟩ : ByteArray).toList == m) = false := by rw [ByteArray.toList_eq]; simpa using h
theorem x_eq {l m : List UInt8} (h : l = m) : ((⟨l.toArray⟩ : ByteArray).toList == m) = true := by rw [ByteArray.toList_eq]; simpa using h

/-- What readEvent answers: an error, or an event whose values are its own. -/
def RdOut (N : Nat) (w : World) (L : List (Tok Val)) (r : Ending) (w' : World) : Prop := Below N w w' ∧ ((rdE L = none ∧ r = .returned (.tuple #[.agg #[.string ⟨#[]⟩, .slice none 0 0], .int .i64 0, .iface 74 (.agg #[.int .i64 70])])) ∨
      (∃ e n p m c, rdE L = some (e, n) ∧ r = .returned (.tuple #[.agg #[.string e.name, .slice p m c], .int .i64 (n : Nat), .nilIface]) ∧ OwnVs (N + 2) (.slice p m c) e.args w'))
theorem RdOut.no {N : Nat} {w w' : World} {L : List (Tok Val)} {r : Ending} (hb : Below N w w') (h : rdE L = none) (hr : r = .returned (.tuple #[.agg #[.string ⟨#[]⟩, .slice none 0 0], .int .i64 0, .iface 74 (.agg #[.int .i64 70])])) : RdOut N w L r w' := ⟨hb, Or.inl ⟨h, hr⟩⟩
theorem RdOut.yes {N : Nat} {w w' : World} {L : List (Tok Val)} {r : Ending} {nm : ByteArray} {acc : List Val} {n : Nat} {p : Option Addr} {m c : Nat} (hb : Below N w w') (h : rdE L = some (⟨nm, acc⟩, n)) (hr : r = .returned (.tuple #[.agg #[.string nm, .slice p m c], .int .i64 (n : Nat), .nilIface])) (ho : OwnVs (N + 2) (.slice p m c) acc w') : RdOut N w L r w' := ⟨hb, Or.inr ⟨⟨nm, acc⟩, n, p, m, c, h, hr, ho⟩⟩
/-- What stands behind one value more. -/
theorem ev_step {w W W2 : World} {B ev n : Nat} {nm : ByteArray} {V v' : Value} {acc : List Val} {Y : Val} (hev : W.heap[ev]? = some (.cells #[.string nm, V] 68 (0, 0))) (hlt : ev < B) (hBW : B ≤ W.heap.size) (h0 : Below n w W) (hn : n ≤ ev)
    (hown : W.ownsRow B 71 4 V acc.length (flat acc))
    (h2 : W2.ownsRow B 71 4 v' (acc.length + 1) (flat acc ++ [.int .i64 Y.k, .int .i64 Y.n, .int .i64 Y.d, .string Y.s])) (h3 : (W.alloc (.cells #[.int .i64 Y.k, .int .i64 Y.n, .int .i64 Y.d, .string Y.s] 71)).grownBy W2 V.ownBlock) :
    ∃ p m c, v' = .slice p m c ∧ W2.cell? ⟨ev, 1, none⟩ = some V ∧ W2.frozen? ⟨ev, 1, none⟩ = false ∧
      (W2.setCell ⟨ev, 1, none⟩ v').heap[ev]? = some (.cells #[.string nm, v'] 68 (0, 0)) ∧ OwnVs B v' (acc ++ [Y]) (W2.setCell ⟨ev, 1, none⟩ v') ∧ Below n w (W2.setCell ⟨ev, 1, none⟩ v') ∧ B ≤ (W2.setCell ⟨ev, 1, none⟩ v').heap.size ∧ (∀ k, k < B → k ≠ ev → (W2.setCell ⟨ev, 1, none⟩ v').heap[k]? = W.heap[k]?) := by
  have hown1 : (W.alloc (.cells #[.int .i64 Y.k, .int .i64 Y.n, .int .i64 Y.d, .string Y.s] 71)).ownsRow B 71 4 V acc.length (flat acc) := World.ownsRow.alloc hown _
  have hne : ∀ k, k < B → V.ownBlock ≠ some k := fun k hk e => by have := (World.ownsRow.lt hown k e).1; omega
  have keep : ∀ k, k < B → W2.heap[k]? = W.heap[k]? := fun k hk => by
    have e1 := h3.block k (by simp; omega) (fun e => hne k hk e.symm)
    rw [e1]
    show (W.heap.push _)[k]? = _
    rw [Array.getElem?_push, if_neg (by omega)]
  have hev2 : W2.heap[ev]? = some (.cells #[.string nm, V] 68 (0, 0)) := (keep ev hlt).trans hev
  obtain ⟨p, m, c, rfl⟩ : ∃ p m c, v' = .slice p m c := by
    obtain ⟨-, ⟨e, hn⟩ | ⟨g, cap, cur, e, -⟩⟩ := h2
    · exact ⟨_, _, _, e⟩
    · exact ⟨_, _, _, e⟩
  have hB2 : Below n w W2 := Below.grown (h0.alloc (by omega) _) h3 (by simp; omega) (fun q hq => by have := (World.ownsRow.lt hown q hq).1; omega)
  have hs2 : B ≤ W2.heap.size := Nat.le_trans hBW (Nat.le_trans (by simp) h3.size)
  have hg := grownBy_setX W2 ev 1 (.slice p m c)
  refine ⟨p, m, c, rfl, ?_, Lib.frozen_of_heap hev2 1, ?_, ?_, ?_, ?_, ?_⟩
  · rw [Lib.cell_of_heap hev2]; rfl
  · show (W2.heap.modify ev _)[ev]? = _
    rw [Array.getElem?_modify, if_pos rfl, hev2]
    rfl
  · unfold OwnVs
    rw [flat_snoc, List.length_append]
    exact ownsRow_setCell_below h2 (a := ⟨ev, 1, none⟩) hlt _
  · exact hB2.grown hg (by omega) (fun q hq => by injection hq with hq; omega)
  · exact Nat.le_trans hs2 hg.size
  · intro k hk hke
    exact (hg.block k (by omega) (fun e => hke (by injection e))).trans (keep k hk)

set_option maxRecDepth 100000 in
set_option maxHeartbeats 8000000 in
theorem rdev_any (V : Value) (L : List (Tok Val)) (w : World) (hV : ToksAt w V L) (lL : L.length ≤ 16384) :
    Calls Tryz.prog 51 #[V] w fun r w' => RdOut w.heap.size w L r w' := by
  obtain ⟨p, c, rfl, hc, HX0⟩ := hV.form
  have HX : Hid (∀ i (hi : i < L.length), ∃ b off, p = some ⟨b, off, none⟩ ∧ b < w.heap.size ∧ TokC w b (off + i * 7) L[i]) := HX0
  clear hV HX0
  obtain ⟨i0, hi, hz0, hz1, hz2⟩ := info_parts inV
  obtain ⟨n, en⟩ : ∃ n : Nat, Hid (L.length = n) := ⟨_, rfl⟩
  rw [en.out] at hc lL ⊢
  by_cases h2 : n < 2
  · have hE : Hid (rdE L = none) := by
      have := en.out
      unfold Hid
      match L, this with
      | [], _ => rfl
      | [_], _ => rfl
      | _ :: _ :: _, h => simp at h; omega
    have h2' : (n : Int) < 2 := by omega
    go_enter Tryz.func51, Tryz.ntmps51
    go_wp2
    refine bodyPost_ret (by simp [results, Tryz.results51, go_sem]; try rfl) rfl ?_
    exact RdOut.no (by go_grown) hE.out rfl
  · have h2' : ¬ (n : Int) < 2 := by omega
    obtain ⟨t0, t1, l, rfl⟩ : ∃ t0 t1 l, L = t0 :: t1 :: l := by
      have := en.out
      match L, this with
      | [], h => simp at h; omega
      | [_], h => simp at h; omega
      | a :: b :: l, _ => exact ⟨a, b, l, rfl⟩
    have hE : Hid (rdE (t0 :: t1 :: l) = if t0.x = [40] ∧ nameL t1.x = true then (rdA [] 2 l).map (fun p => (⟨⟨t1.x.toArray⟩, p.1⟩, p.2)) else none) := rfl
    obtain ⟨b, off, rfl, hb, T0⟩ := HX.out 0 (by simp)
    obtain ⟨b', off', q, -, T1⟩ := HX.out 1 (by simp)
    injection q with q
    injection q with q1 q2 q3
    subst q1 q2
    have y0 := T0.2.2.1
    have y1 := T1.2.2.1
    simp only [Nat.zero_mul, Nat.add_zero, List.getElem_cons_zero] at y0
    simp only [Nat.one_mul, List.getElem_cons_succ, List.getElem_cons_zero] at y1
    clear T0 T1
    have n0 : (0 : Int) < n := by omega
    have n1 : (1 : Int) < n := by omega
    have cN : Hid (∀ W : World, Calls Tryz.prog 38 #[.string ⟨t1.x.toArray⟩] W fun e' w' => e' = .returned (.bool (nameL t1.x)) ∧ w' = W) := fun W => name_any ⟨t1.x.toArray⟩ W
    by_cases hx : t0.x = [40]
    · have hx' := x_eq hx
      generalize (⟨t0.x.toArray⟩ : ByteArray) = X0 at y0 hx'
      cases hN : nameL t1.x with
      | false =>
        have hE2 : Hid (rdE (t0 :: t1 :: l) = none) := by have h := hE.out; rwa [if_neg (by rw [hN]; simp)] at h
        rw [hN] at cN
        generalize (⟨t1.x.toArray⟩ : ByteArray) = X1 at y1 cN
        go_enter Tryz.func51, Tryz.ntmps51
        go_wp2_with fail
        refine (cN.out _).mono ?_
        rintro e' w1 ⟨rfl, rfl⟩
        go_wp2
        refine bodyPost_ret (by simp [results, Tryz.results51, go_sem]; try rfl) rfl ?_
        exact RdOut.no (by go_grown) hE2.out rfl
      | true =>
        have hE2 : Hid (rdE (t0 :: t1 :: l) = (rdA [] 2 l).map (fun p => (⟨⟨t1.x.toArray⟩, p.1⟩, p.2))) := by have h := hE.out; rwa [if_pos ⟨hx, hN⟩] at h
        rw [hN] at cN
        generalize (⟨t1.x.toArray⟩ : ByteArray) = X1 at y1 cN hE2
        clear hE hx hN
        go_enter Tryz.func51, Tryz.ntmps51
        go_wp2_with fail
        refine (cN.out _).mono ?_
        rintro e' w1 ⟨rfl, rfl⟩
        clear cN
        go_wp2
        go_loopw [6] (fun i wr => ∃ (k : Nat) (acc : List Val) (V : Value), 2 ≤ k ∧ k ≤ n ∧ acc.length ≤ k ∧ i = .int .i64 k ∧ Hid (rdA [] 2 l = rdA acc k ((t0 :: t1 :: l).drop k)) ∧ Hid (wr.heap[w.heap.size + 1]? = some (.cells #[.string X1, V] 68 (0, 0))) ∧ Hid (wr.heap[w.heap.size]? = some (.cells #[.string ⟨#[]⟩, .slice none 0 0] 68 (0, 0))) ∧ Hid (OwnVs (w.heap.size + 2) V acc wr) ∧ Below w.heap.size w wr ∧ w.heap.size + 2 ≤ wr.heap.size) (fun i _ => n - (intOf i).toNat)
        case atStart =>
          refine ⟨2, [], .slice none 0 0, Nat.le_refl _, by omega, by simp, rfl, (show rdA [] 2 l = rdA [] 2 l from rfl), ?_, ?_, ?_, by go_grown, by simp⟩
          · unfold Hid
            show ((w.heap.push _).push _)[w.heap.size + 1]? = _
            rw [Array.getElem?_push, if_pos (by simp)]
          · unfold Hid
            show ((w.heap.push _).push _)[w.heap.size]? = _
            rw [Array.getElem?_push, if_neg (by simp), Array.getElem?_push, if_pos rfl]
          · exact ⟨rfl, .inl ⟨rfl, rfl⟩⟩
        case round =>
          obtain ⟨k, acc, V, hk2, hk, hac, rfl, hr, hev, hres, hown, hB, hsz⟩ := hrel
          have e0 : wr.cell? ⟨w.heap.size + 1, 0, none⟩ = some (.string X1) := by rw [Lib.cell_of_heap hev.out]; rfl
          have e1 : wr.cell? ⟨w.heap.size + 1, 1, none⟩ = some V := by rw [Lib.cell_of_heap hev.out]; rfl
          have q0 : wr.cell? ⟨w.heap.size, 0, none⟩ = some (.string ⟨#[]⟩) := by rw [Lib.cell_of_heap hres.out]; rfl
          have q1 : wr.cell? ⟨w.heap.size, 1, none⟩ = some (.slice none 0 0) := by rw [Lib.cell_of_heap hres.out]; rfl
          have f0 : wr.frozen? ⟨w.heap.size, 0, none⟩ = false := Lib.frozen_of_heap hres.out 0
          have f1 : wr.frozen? ⟨w.heap.size, 1, none⟩ = false := Lib.frozen_of_heap hres.out 1
          obtain ⟨pV, nV, cV, rfl⟩ := hown.out.form
          by_cases hlt : k < n
          · have kx : k < (t0 :: t1 :: l).length := by have := en.out; omega
            obtain ⟨b', off', q, -, TK⟩ := HX.out k kx
            injection q with q
            injection q with qa qb qc
            subst qa qb
            have TK2 := TK.below hB hb
            have hr2 : Hid (rdA [] 2 l = if (t0 :: t1 :: l)[k].x = [41] then some (acc, k + 1) else if (t0 :: t1 :: l)[k].k = 6 then rdA (acc ++ [(t0 :: t1 :: l)[k].v]) (k + 1) ((t0 :: t1 :: l).drop (k + 1)) else none) := by
              have h := hr.out
              rw [List.drop_eq_getElem_cons kx] at h
              exact h
            clear TK hr
            generalize (t0 :: t1 :: l)[k] = t at TK2 hr2
            obtain ⟨a0, a1, a2, a3, a4, a5, a6⟩ := TK2
            have hlt' : (k : Int) < n := by omega
            by_cases hx : t.x = [41]
            · have hr3 : Hid (rdA [] 2 l = some (acc, k + 1)) := by have h := hr2.out; rwa [if_pos hx] at h
              have hE3 : Hid (rdE (t0 :: t1 :: l) = some (⟨X1, acc⟩, k + 1)) := by have h := hE2.out; rw [hr3.out] at h; exact h
              have hx2 := x_eq hx
              generalize (⟨t.x.toArray⟩ : ByteArray) = XT at a2 hx2
              clear hr2 hx
              have g0 : ((wr.setCell ⟨w.heap.size, 0, none⟩ (.string X1)).setCell ⟨w.heap.size, 1, none⟩ (.slice pV nV cV)).cell? ⟨w.heap.size, 0, none⟩ = some (.string X1) := by simp (maxDischargeDepth := 8) [go_sem, q0]
              have g1 : ((wr.setCell ⟨w.heap.size, 0, none⟩ (.string X1)).setCell ⟨w.heap.size, 1, none⟩ (.slice pV nV cV)).cell? ⟨w.heap.size, 1, none⟩ = some (.slice pV nV cV) := by simp (maxDischargeDepth := 8) [go_sem, q1]
              have K9 : Below w.heap.size w ((wr.setCell ⟨w.heap.size, 0, none⟩ (.string X1)).setCell ⟨w.heap.size, 1, none⟩ (.slice pV nV cV)) := (hB.setCell (p := ⟨w.heap.size, 0, none⟩) (Nat.le_refl _) _).setCell (p := ⟨w.heap.size, 1, none⟩) (Nat.le_refl _) _
              have O9 : Hid (OwnVs (w.heap.size + 2) (.slice pV nV cV) acc ((wr.setCell ⟨w.heap.size, 0, none⟩ (.string X1)).setCell ⟨w.heap.size, 1, none⟩ (.slice pV nV cV))) := ownsRow_setCell_below (ownsRow_setCell_below hown.out (a := ⟨w.heap.size, 0, none⟩) (by simp) _) (a := ⟨w.heap.size, 1, none⟩) (by simp) _
              go_wp2
              generalize (wr.setCell ⟨w.heap.size, 0, none⟩ (.string X1)).setCell ⟨w.heap.size, 1, none⟩ (.slice pV nV cV) = W9 at g0 g1 K9 O9 ⊢
              refine bodyPost_ret (by simp [results, Tryz.results51, go_sem, g0, g1]; try rfl) rfl ?_
              exact RdOut.yes K9 hE3.out (by simp) O9.out
            · have hx2 := x_ne hx
              generalize (⟨t.x.toArray⟩ : ByteArray) = XT at a2 hx2
              by_cases h6 : t.k = 6
              · have hr3 : Hid (rdA [] 2 l = rdA (acc ++ [t.v]) (k + 1) ((t0 :: t1 :: l).drop (k + 1))) := by have h := hr2.out; rwa [if_neg hx, if_pos h6] at h
                have h6' : ((t.k : Nat) : Int) = 6 := by omega
                clear hr2 hx
                have hown1 := hown.out
                unfold OwnVs at hown1
                have HO : Hid (wr.ownsRow (w.heap.size + 2) 71 4 (.slice pV nV cV) acc.length (flat acc)) := hown1
                clear hown1
                have hz9 : w.heap.size + 1 < wr.heap.size := by omega
                go_upto_region 10 with fail
                go_region_law (refine step_append_own rfl (.tmp 55) (.tmp 61) 66 rfl (w.heap.size + 2) 71 i0 (.agg #[.int .i64 0, .int .i64 0, .int .i64 0, .string ⟨#[]⟩]) 4 40 Tryz.underlying66 hi hz0 hz1 hz2 rfl (by decide) (.slice pV nV cV) acc.length (flat acc) (by simp [Act.eval]) (World.ownsRow.alloc (World.ownsRow.drew HO.out) _) ⟨wr.heap.size, 0, none⟩ 1 1 [.int .i64 t.v.k, .int .i64 t.v.n, .int .i64 t.v.d, .string t.v.s] (by simp [Act.eval]) rfl (by intro j u hj; rw [Addr.add_lit]; (rcases j with _ | _ | _ | _ | j) <;> simp at hj <;> subst hj <;> simp (maxDischargeDepth := 12) [go_sem]) (by intro u hu; simp at hu; rcases hu with rfl | rfl | rfl | rfl <;> rfl) (by unfold maxLen; omega) (by omega) (by simp; omega) (fun v' w2 h2 h3 => ?_); obtain ⟨pv2, mv2, cv2, rfl, z1, z2, z3, z4, z5, z6, z7⟩ := ev_step (w := w) (n := w.heap.size) (W := wr.drew) (ev := w.heap.size + 1) (nm := X1) (acc := acc) (Y := t.v) hev.out (by omega) hsz (Below.drew hB) (by omega) (World.ownsRow.drew HO.out) h2 h3; have Z3 : Hid ((w2.setCell ⟨w.heap.size + 1, 1, none⟩ (.slice pv2 mv2 cv2)).heap[w.heap.size + 1]? = some (.cells #[.string X1, .slice pv2 mv2 cv2] 68 (0, 0))) := z3; have Z4 : Hid (OwnVs (w.heap.size + 2) (.slice pv2 mv2 cv2) (acc ++ [t.v]) (w2.setCell ⟨w.heap.size + 1, 1, none⟩ (.slice pv2 mv2 cv2))) := z4; have Z7 : Hid ((w2.setCell ⟨w.heap.size + 1, 1, none⟩ (.slice pv2 mv2 cv2)).heap[w.heap.size]? = some (.cells #[.string ⟨#[]⟩, .slice none 0 0] 68 (0, 0))) := (z7 w.heap.size (by omega) (by omega)).trans hres.out; clear h2 h3 z3 z4 z7)
                all_goals
                  go_wp2
                  exact ⟨⟨k + 1, acc ++ [t.v], .slice pv2 mv2 cv2, by omega, by omega, by simp; omega, by go_num, hr3, Z3, Z7, Z4, z5, z6⟩, by simp [intOf]; omega⟩
              · have hr3 : Hid (rdA [] 2 l = none) := by have h := hr2.out; rwa [if_neg hx, if_neg h6] at h
                have h6' : (((t.k : Nat) : Int) == 6) = false := by simp; omega
                clear hr2 hx h6
                have hE3 : Hid (rdE (t0 :: t1 :: l) = none) := by have h := hE2.out; rw [hr3.out] at h; exact h
                have K9 : Below w.heap.size w ((wr.setCell ⟨w.heap.size, 0, none⟩ (.string ⟨#[]⟩)).setCell ⟨w.heap.size, 1, none⟩ (.slice none 0 0)) := (hB.setCell (p := ⟨w.heap.size, 0, none⟩) (Nat.le_refl _) _).setCell (p := ⟨w.heap.size, 1, none⟩) (Nat.le_refl _) _
                have g0 : ((wr.setCell ⟨w.heap.size, 0, none⟩ (.string ⟨#[]⟩)).setCell ⟨w.heap.size, 1, none⟩ (.slice none 0 0)).cell? ⟨w.heap.size, 0, none⟩ = some (.string ⟨#[]⟩) := by simp (maxDischargeDepth := 8) [go_sem, q0]
                have g1 : ((wr.setCell ⟨w.heap.size, 0, none⟩ (.string ⟨#[]⟩)).setCell ⟨w.heap.size, 1, none⟩ (.slice none 0 0)).cell? ⟨w.heap.size, 1, none⟩ = some (.slice none 0 0) := by simp (maxDischargeDepth := 8) [go_sem, q1]
                go_wp2
                generalize (wr.setCell ⟨w.heap.size, 0, none⟩ (.string ⟨#[]⟩)).setCell ⟨w.heap.size, 1, none⟩ (.slice none 0 0) = W9 at g0 g1 K9 ⊢
                refine bodyPost_ret (by simp [results, Tryz.results51, go_sem, g0, g1]; try rfl) rfl ?_
                exact RdOut.no K9 hE3.out rfl
          · have c2 : ¬ (k : Int) < n := by omega
            have hr3 : Hid (rdA [] 2 l = none) := by
              have h := hr.out
              rw [List.drop_eq_nil_of_le (by have := en.out; omega)] at h
              exact h
            have hE3 : Hid (rdE (t0 :: t1 :: l) = none) := by have h := hE2.out; rw [hr3.out] at h; exact h
            have K9 : Below w.heap.size w ((wr.setCell ⟨w.heap.size, 0, none⟩ (.string ⟨#[]⟩)).setCell ⟨w.heap.size, 1, none⟩ (.slice none 0 0)) := (hB.setCell (p := ⟨w.heap.size, 0, none⟩) (Nat.le_refl _) _).setCell (p := ⟨w.heap.size, 1, none⟩) (Nat.le_refl _) _
            have g0 : ((wr.setCell ⟨w.heap.size, 0, none⟩ (.string ⟨#[]⟩)).setCell ⟨w.heap.size, 1, none⟩ (.slice none 0 0)).cell? ⟨w.heap.size, 0, none⟩ = some (.string ⟨#[]⟩) := by simp (maxDischargeDepth := 8) [go_sem, q0]
            have g1 : ((wr.setCell ⟨w.heap.size, 0, none⟩ (.string ⟨#[]⟩)).setCell ⟨w.heap.size, 1, none⟩ (.slice none 0 0)).cell? ⟨w.heap.size, 1, none⟩ = some (.slice none 0 0) := by simp (maxDischargeDepth := 8) [go_sem, q1]
            go_wp2
            generalize (wr.setCell ⟨w.heap.size, 0, none⟩ (.string ⟨#[]⟩)).setCell ⟨w.heap.size, 1, none⟩ (.slice none 0 0) = W9 at g0 g1 K9 ⊢
            refine bodyPost_ret (by simp [results, Tryz.results51, go_sem, g0, g1]; try rfl) rfl ?_
            exact RdOut.no K9 hE3.out rfl
    · have hE2 : Hid (rdE (t0 :: t1 :: l) = none) := by have h := hE.out; rwa [if_neg (fun h => hx h.1)] at h
      have hx' := x_ne hx
      generalize (⟨t0.x.toArray⟩ : ByteArray) = X0 at y0 hx'
      go_enter Tryz.func51, Tryz.ntmps51
      go_wp2
      refine bodyPost_ret (by simp [results, Tryz.results51, go_sem]; try rfl) rfl ?_
      exact RdOut.no (by go_grown) hE2.out rfl

end Go.Proofs.YticmebamclacaabGreatDoor

namespace Go.Proofs.YticmebamclacaabGreatDoor
open Go.RowKit LX Go.Shelf
set_option linter.unusedVariables false

theorem own_baseX {w : World} {B B' e size n : Nat} {v : Value} {xs : List Value} (h : w.ownsRow B' e size v n xs) (hB : B ≤ B') : w.ownsRow B e size v n xs := by
  obtain ⟨hl, hv | ⟨g, cap, cur, e1, h1, h2⟩⟩ := h
  · exact ⟨hl, Or.inl hv⟩
  · exact ⟨hl, Or.inr ⟨g, cap, cur, e1, Nat.le_trans hB h1, h2⟩⟩
theorem own_ne2X {w : World} {B e e' size n B' size' n' : Nat} {v v' : Value} {xs xs' : List Value} (h : w.ownsRow B e size v n xs) (h' : w.ownsRow B' e' size' v' n' xs') (hne : e ≠ e') : v.ownBlock = none ∨ v.ownBlock ≠ v'.ownBlock := by
  obtain ⟨-, ⟨rfl, -⟩ | ⟨g, cap, cur', rfl, -, hg, -⟩⟩ := h'
  · by_cases hv : v.ownBlock = none
    · exact Or.inl hv
    · exact Or.inr hv
  · exact Or.inr (own_neX h hg hne)

/-- The cells of events of the call's own. -/
def EvC (B : Nat) (w : World) : List Evt → List Value → Prop
  | [], [] => True
  | e :: es, a :: b :: zs => a = .string e.name ∧ OwnVs B b e.args w ∧ EvC B w es zs
  | _, _ => False
theorem EvC.snoc {B : Nat} {w : World} {es : List Evt} {zs : List Value} {e : Evt} {b : Value} (h : EvC B w es zs) (hb : OwnVs B b e.args w) : EvC B w (es ++ [e]) (zs ++ [.string e.name, b]) := by
  induction es generalizing zs with
  | nil =>
    match zs, h with
    | [], _ => exact ⟨rfl, hb, trivial⟩
  | cons x es ih =>
    match zs, h with
    | a :: b' :: zs, h => exact ⟨h.1, h.2.1, ih h.2.2⟩
theorem EvC.mono {B : Nat} {w w' : World} (k : ∀ b xs, OwnVs B b xs w → OwnVs B b xs w') {es : List Evt} {zs : List Value} (h : EvC B w es zs) : EvC B w' es zs := by
  induction es generalizing zs with
  | nil =>
    match zs, h with
    | [], _ => trivial
  | cons x es ih =>
    match zs, h with
    | a :: b' :: zs, h => exact ⟨h.1, k _ _ h.2.1, ih h.2.2⟩
theorem EvC.get {B : Nat} {w : World} {es : List Evt} {zs : List Value} (h : EvC B w es zs) (i : Nat) (hi : i < es.length) : zs[i * 2]? = some (.string es[i].name) ∧ ∃ u, zs[i * 2 + 1]? = some u ∧ OwnVs B u es[i].args w := by
  induction es generalizing zs i with
  | nil => simp at hi
  | cons x es ih =>
    match zs, h with
    | a :: b' :: zs, h =>
      cases i with
      | zero => exact ⟨by rw [h.1]; rfl, b', rfl, h.2.1⟩
      | succ i =>
        have g := ih h.2.2 i (by simpa using hi)
        rw [show (i + 1) * 2 = i * 2 + 2 by omega]
        exact g
theorem EvC.len {B : Nat} {w : World} {es : List Evt} {zs : List Value} (h : EvC B w es zs) : zs.length = es.length * 2 := by
  induction es generalizing zs with
  | nil =>
    match zs, h with
    | [], _ => rfl
  | cons x es ih =>
    match zs, h with
    | a :: b' :: zs, h => simp only [List.length_cons, ih h.2.2]; omega
/-- Events of the call's own. -/
def OwnE (B : Nat) (v : Value) (es : List Evt) (w : World) : Prop := ∃ zs, w.ownsRow B 68 2 v es.length zs ∧ EvC B w es zs
theorem OwnE.form {B : Nat} {v : Value} {es : List Evt} {w : World} (h : OwnE B v es w) : ∃ p c, v = .slice p es.length c := by
  obtain ⟨zs, ⟨-, ⟨e, hn⟩ | ⟨g, cap, cur, e, -⟩⟩, -⟩ := h
  · exact ⟨none, 0, by rw [e, hn]⟩
  · exact ⟨_, _, e⟩
theorem OwnE.at {B : Nat} {v : Value} {es : List Evt} {w : World} (h : OwnE B v es w) : EvsAt w v es := by
  obtain ⟨zs, h, hc⟩ := h
  have h' := h
  obtain ⟨hl, ⟨e, hn⟩ | ⟨g, cap, cur, rfl, hg1, hg2, -⟩⟩ := h
  · exact ⟨none, 0, by rw [e, hn], Or.inl (List.length_eq_zero_iff.1 hn)⟩
  · refine ⟨_, _, rfl, Or.inr ⟨g, 0, rfl, (Array.getElem?_eq_some_iff.1 hg2).1, fun i hi => ?_⟩⟩
    obtain ⟨c0, u, c1, ho⟩ := hc.get i hi
    refine ⟨u, ?_, ?_, ho.row⟩
    · rw [Nat.zero_add, h'.cellAt _ (by omega)]; exact c0
    · rw [Nat.zero_add, h'.cellAt _ (by omega)]; exact c1
theorem OwnE.below {B : Nat} {v : Value} {es : List Evt} {w w' : World} (h : OwnE B v es w) (hb : Below w.heap.size w w') : OwnE B v es w' := by
  obtain ⟨zs, h, hc⟩ := h
  exact ⟨zs, own_belX h hb, hc.mono fun b xs k => own_belX k hb⟩

theorem rdA_len {l : List (Tok Val)} {acc a : List Val} {i n : Nat} (h : rdA acc i l = some (a, n)) : i < n ∧ n ≤ i + l.length ∧ a.length ≤ acc.length + l.length := by
  induction l generalizing acc i with
  | nil => cases h
  | cons t l ih =>
    unfold rdA at h
    by_cases h1 : t.x = [41]
    · rw [if_pos h1] at h
      injection h with h
      injection h with e1 e2
      subst e1 e2
      simp only [List.length_cons]; omega
    · rw [if_neg h1] at h
      by_cases h2 : t.k = 6
      · rw [if_pos h2] at h
        have := ih h
        simp only [List.length_append, List.length_cons, List.length_nil] at this ⊢
        omega
      · rw [if_neg h2] at h; cases h
theorem rdE_len {L : List (Tok Val)} {e : Evt} {n : Nat} (h : rdE L = some (e, n)) : 2 < n ∧ n ≤ L.length ∧ e.args.length ≤ L.length := by
  match L, h with
  | t0 :: t1 :: l, h =>
    have h : (if t0.x = [40] ∧ nameL t1.x = true then (rdA [] 2 l).map (fun p => ((⟨⟨t1.x.toArray⟩, p.1⟩ : Evt), p.2)) else none) = some (e, n) := h
    by_cases h1 : t0.x = [40] ∧ nameL t1.x = true
    · rw [if_pos h1] at h
      obtain ⟨⟨a, k⟩, q1, q2⟩ := Option.map_eq_some_iff.1 h
      have := rdA_len q1
      injection q2 with e1 e2
      subst e1 e2
      simp only [List.length_cons, List.length_nil] at this ⊢
      omega
    · rw [if_neg h1] at h; cases h
/-- All events. -/
def rdEs : Nat → List Evt → List (Tok Val) → Option (List Evt)
  | 0, acc, _ => some acc
  | f + 1, acc, [] => some acc
  | f + 1, acc, t :: l => match rdE (t :: l) with
    | none => none
    | some (e, n) => rdEs f (acc ++ [e]) ((t :: l).drop n)
theorem rdEs_none {f : Nat} {acc : List Evt} {L : List (Tok Val)} (hL : 0 < L.length) (h : rdE L = none) : rdEs (f + 1) acc L = none := by
  match L, hL with
  | t :: l, _ => unfold rdEs; rw [h]
theorem rdEs_some {f : Nat} {acc : List Evt} {L : List (Tok Val)} {e : Evt} {n : Nat} (hL : 0 < L.length) (h : rdE L = some (e, n)) : rdEs (f + 1) acc L = rdEs f (acc ++ [e]) (L.drop n) := by
  match L, hL with
  | t :: l, _ => rw [rdEs]; rw [h]
theorem rdEs_end {f : Nat} {acc : List Evt} {L : List (Tok Val)} (hL : L.length = 0) : rdEs f acc L = some acc := by
  obtain rfl := List.length_eq_zero_iff.1 hL
  cases f <;> rfl
def slen : Value → Nat
  | .slice _ n _ => n
  | _ => 0
theorem inE : (Tryz.prog.info? 68).map (fun i => (i.zero, i.size, i.bytes)) = some (some (.agg #[.string ⟨#[]⟩, .slice none 0 0]), 2, 40) := by kernel_rfl

/-- What readEvents answers. -/
def RsOut (N : Nat) (w : World) (L : List (Tok Val)) (r : Ending) (w' : World) : Prop := Below N w w' ∧ ((rdEs (L.length + 1) [] L = none ∧ r = .returned (.tuple #[.slice none 0 0, .iface 74 (.agg #[.int .i64 70])])) ∨
      (∃ es p c, rdEs (L.length + 1) [] L = some es ∧ r = .returned (.tuple #[.slice p es.length c, .nilIface]) ∧ OwnE N (.slice p es.length c) es w' ∧ es.length ≤ L.length))
theorem RsOut.no {N : Nat} {w w' : World} {L : List (Tok Val)} {r : Ending} (hb : Below N w w') (h : rdEs (L.length + 1) [] L = none) (hr : r = .returned (.tuple #[.slice none 0 0, .iface 74 (.agg #[.int .i64 70])])) : RsOut N w L r w' := ⟨hb, Or.inl ⟨h, hr⟩⟩
theorem RsOut.yes {N : Nat} {w w' : World} {L : List (Tok Val)} {r : Ending} {es : List Evt} {p : Option Addr} {c m : Nat} (hb : Below N w w') (h : rdEs (L.length + 1) [] L = some es) (hm : m = es.length) (hr : r = .returned (.tuple #[.slice p m c, .nilIface])) (ho : OwnE N (.slice p m c) es w') (hl : es.length ≤ L.length) : RsOut N w L r w' := by
  subst hm
  exact ⟨hb, Or.inr ⟨es, p, c, h, hr, ho, hl⟩⟩

/-- One event more. -/
theorem evs_step {w2 w4 : World} {B : Nat} {v v' u : Value} {es : List Evt} {e : Evt} {zs : List Value} (h2 : B ≤ w2.heap.size) (ho : w2.ownsRow B 68 2 v es.length zs) (hc : EvC B w2 es zs) (hu : OwnVs B u e.args w2)
    (h4 : w4.ownsRow B 68 2 v' (es.length + 1) (zs ++ [.string e.name, u])) (hg : w2.grownBy w4 v.ownBlock) : OwnE B v' (es ++ [e]) w4 := by
  refine ⟨zs ++ [.string e.name, u], by rw [List.length_append]; exact h4, ?_⟩
  have k : ∀ b xs, OwnVs B b xs w2 → OwnVs B b xs w4 := fun b xs hb => World.ownsRow.kept hb hg (own_ne2X hb ho (by decide))
  exact (hc.mono k).snoc (k _ _ hu)

set_option maxRecDepth 100000 in
set_option maxHeartbeats 8000000 in
theorem rdevs_any (V : Value) (L : List (Tok Val)) (w : World) (hV : ToksAt w V L) (lL : L.length ≤ 16384) :
    Calls Tryz.prog 36 #[V] w fun r w' => RsOut w.heap.size w L r w' := by
  have HV : Hid (ToksAt w V L) := hV
  obtain ⟨i0, hi, hz0, hz1, hz2⟩ := info_parts inE
  obtain ⟨p, c, rfl, -⟩ := hV.form
  clear hV
  go_enter Tryz.func36, Tryz.ntmps36
  go_wp2
  go_loopw [0, 4] (fun v0 v4 wr => ∃ (f : Nat) (es : List Evt) (M : List (Tok Val)), Hid (rdEs (L.length + 1) [] L = rdEs f es M) ∧ M.length < f ∧ Hid (ToksAt w v0 M) ∧ Hid (OwnE w.heap.size v4 es wr) ∧ es.length + M.length ≤ L.length ∧ Below w.heap.size w wr ∧ slen v0 = M.length) (fun v0 _ _ => slen v0)
  case atStart => exact ⟨L.length + 1, [], L, (show rdEs (L.length + 1) [] L = rdEs (L.length + 1) [] L from rfl), by omega, HV, ⟨[], ⟨rfl, .inl ⟨rfl, rfl⟩⟩, trivial⟩, by simp, Below.refl _ _, rfl⟩
  case round =>
    obtain ⟨f, es, M, hr, hf, hT, hO, hl, hB, hs⟩ := hrel
    obtain ⟨f, rfl⟩ : ∃ f', f = f' + 1 := ⟨f - 1, by omega⟩
    obtain ⟨p0, c0, rfl, hc0, hX0⟩ := hT.out.form
    obtain ⟨p4, c4, rfl⟩ := hO.out.form
    have ct : Hid (Calls Tryz.prog 51 #[.slice p0 M.length c0] wr fun r w' => RdOut wr.heap.size wr M r w') := rdev_any _ M wr (hT.out.below hB) (by omega)
    by_cases hM : 0 < M.length
    · obtain ⟨b, off, rfl, hb, -⟩ := hX0 0 hM
      clear hX0
      obtain ⟨n, en⟩ : ∃ n : Nat, Hid (M.length = n) := ⟨_, rfl⟩
      obtain ⟨m, em⟩ : ∃ m : Nat, Hid (es.length = m) := ⟨_, rfl⟩
      rw [en.out] at hM hc0 hf hl ct hs ⊢
      rw [em.out] at hl ⊢
      have HT : Hid (ToksAt w (.slice (some ⟨b, off, none⟩) n c0) M) := by have h := hT.out; rwa [en.out] at h
      have HO : Hid (OwnE w.heap.size (.slice p4 m c4) es wr) := by have h := hO.out; rwa [em.out] at h
      clear hT hO hs
      have hM' : (0 : Int) < n := by omega
      go_wp2_with fail
      refine ct.out.mono ?_
      rintro r w1 ⟨hB1, ⟨hn, rfl⟩ | ⟨e, sz, pe, me, ce, hsome, rfl, hown⟩⟩
      · have hE : Hid (rdEs (L.length + 1) [] L = none) := hr.out.trans (rdEs_none (by have := en.out; omega) hn)
        have K1 : Below w.heap.size w w1 := hB.trans (hB1.mono hB.size)
        clear ct hr
        go_wp2
        go_ret2
        exact RsOut.no (K1.alloc K1.size _) hE.out rfl
      · have hE : Hid (rdEs (L.length + 1) [] L = rdEs f (es ++ [e]) (M.drop sz)) := hr.out.trans (rdEs_some (by have := en.out; omega) hsome)
        obtain ⟨z1, z2, z3⟩ := rdE_len hsome
        have K1 : Below w.heap.size w w1 := hB.trans (hB1.mono hB.size)
        have HT1 : Hid (ToksAt w (.slice (some ⟨b, off, none⟩) n c0) M) := HT.out
        have HO1 : Hid (OwnE w.heap.size (.slice p4 m c4) es w1) := HO.out.below hB1
        have HV1 : Hid (OwnVs w.heap.size (.slice pe me ce) e.args w1) := own_baseX hown (by have := hB.size; omega)
        have zn : sz ≤ n := by have := en.out; omega
        clear ct hr hown HT HO hsome
        generalize hnm : e.name = X
        have HX : Hid (e.name = X) := hnm
        clear hnm
        obtain ⟨zs, ho, hcc⟩ := HO1.out
        have HC : Hid (EvC w.heap.size (w1.alloc (.cells #[.string X, .slice pe me ce] 68)) es zs) := hcc.mono fun b xs k => World.ownsRow.alloc k _
        have HC2 : Hid (w1.ownsRow w.heap.size 68 2 (.slice p4 m c4) m zs) := by have h := ho; rwa [em.out] at h
        clear ho hcc HO1
        have hsz1 : w.heap.size ≤ w1.heap.size := K1.size
        go_wp2_with (at_builtin; refine wpList_append_own _ rfl _ _ 23 rfl w.heap.size 68 i0 (.agg #[.string ⟨#[]⟩, .slice none 0 0]) 2 40 Tryz.underlying23 hi hz0 hz1 hz2 rfl (by decide) _ _ _ rfl (World.ownsRow.alloc (World.ownsRow.alloc HC2.out _) _) ⟨w1.heap.size + 1, 0, none⟩ 1 1 [.string X, .slice pe me ce] rfl rfl ?c1 ?c2 ?c3 ?c4 ?c5 ?_)
        case c1 => (intro j u hj; rw [Addr.add_lit]; (rcases j with _ | _ | j) <;> simp at hj <;> subst hj <;> simp (maxDischargeDepth := 12) [go_sem])
        case c2 => (intro u hu; simp at hu; rcases hu with rfl | rfl <;> rfl)
        case c3 => unfold maxLen; omega
        case c4 => omega
        case c5 => simp; omega
        intro v' w4 hown' hgrow _
        have hA1 : Below w.heap.size w ((w1.alloc (.cells #[.string X, .slice pe me ce] 68)).alloc (.cells #[.string X, .slice pe me ce] 68)) := (K1.alloc K1.size _).alloc (by simp; omega) _
        have K4 : Below w.heap.size w w4 := Below.grown hA1 hgrow (by simp; omega) (fun q hq => (World.ownsRow.lt HC2.out q hq).1)
        have HO4 : Hid (OwnE w.heap.size v' (es ++ [e]) w4) := by
          refine evs_step (zs := zs) (u := .slice pe me ce) hA1.size (World.ownsRow.alloc (World.ownsRow.alloc (by rw [em.out]; exact HC2.out) _) _) (HC.out.mono fun b xs k => World.ownsRow.alloc k _) (World.ownsRow.alloc (World.ownsRow.alloc HV1.out _) _) ?_ hgrow
          rw [em.out, HX.out]
          exact hown'
        clear hown' hgrow hA1 HC HC2 HV1
        obtain ⟨pv, cv, rfl⟩ := HO4.out.form
        have hlen : (es ++ [e]).length = m + 1 := by rw [List.length_append, em.out]; rfl
        rw [hlen] at HO4 ⊢
        have hsl : (sz : Int) ≤ n := by omega
        have hs0 : (0 : Int) ≤ sz := by omega
        have hcc : n ≤ c0 := hc0
        go_wp2
        refine ⟨⟨f, es ++ [e], M.drop sz, hE, by rw [List.length_drop, en.out]; omega, ?_, HO4, by rw [hlen, List.length_drop, en.out]; omega, K4, by rw [List.length_drop, en.out]; rfl⟩, by simp only [slen]; omega⟩
        have h9 := ToksAt.drop HT1.out sz z2 (if c0 = sz then some ⟨b, off, none⟩ else some ⟨b, off + sz * 7, none⟩) (fun hlt => if_neg (by have := en.out; omega))
        rw [en.out] at h9
        exact h9
    · have hM0 : M.length = 0 := by omega
      have hE : Hid (rdEs (L.length + 1) [] L = some es) := hr.out.trans (rdEs_end hM0)
      have hle : es.length ≤ L.length := by omega
      have HO : Hid (OwnE w.heap.size (.slice p4 es.length c4) es wr) := hO
      rw [hM0]
      clear ct hX0 hT hr hs hf hc0 hl hM hM0 hO
      obtain ⟨m, em⟩ : ∃ m : Nat, Hid (es.length = m) := ⟨_, rfl⟩
      rw [em.out] at HO ⊢
      go_wp2
      go_ret2
      exact RsOut.yes hB hE.out em.out.symm rfl HO.out hle

end Go.Proofs.YticmebamclacaabGreatDoor

namespace Go.Proofs.YticmebamclacaabGreatDoor
open Go.RowKit LX Go.Shelf
set_option linter.unusedVariables false

theorem T_lenX (n : Nat) (l : List UInt8) (hn : l.length ≤ n) (p : Nat) : (T sdB l p).1.length ≤ l.length := by
  induction n generalizing l p with
  | zero =>
    have : l = [] := List.length_eq_zero_iff.mp (by omega)
    subst this
    simp [T_nil]
  | succ n ih =>
    rcases T_cases sdB l p with ⟨h1, h2⟩ | ⟨b, h1, h2, h2a, h2b, h3, h4⟩ | ⟨b, h1, h2, h2a, h2b, h3, h4⟩
    · rw [h2]; simp
    · rw [h4]
      have hle := beh_le _ h3.1
      simp only [List.length_drop] at hle
      have := ih (l.drop (b + (beh (l.drop b)).2)) (by simp; omega) (p + b + (beh (l.drop b)).2)
      simp only [List.length_drop] at this
      simp
      omega
    · rw [h4]; simp

/-- What events behind a time say; what tokens say; what a line says: an error's number, a time, events. -/
def rdM (n : Int) : Option (List Evt) → Int × Int × List Evt
  | none => (70, 0, [])
  | some es => if 64 < es.length then (3, 0, []) else (0, n, es)
def rdL : List (Tok Val) → Int × Int × List Evt
  | [] => (70, 0, [])
  | t :: L => if t.k = 7 then rdM t.v.n (rdEs (L.length + 1) [] L) else (70, 0, [])
def rdP (s : ByteArray) : Int × Int × List Evt := if cutE s = 0 then rdL (tks s) else (cutE s, 0, [])
/-- What readPoint answers; what ParsePoint answers. -/
def PtOut (N : Nat) (w : World) (D : Int × Int × List Evt) (r : Ending) (w' : World) : Prop := Below N w w' ∧ ∃ p c, r = .returned (.tuple #[.agg #[.int .i64 D.2.1, .slice p D.2.2.length c], errV D.1]) ∧ OwnE N (.slice p D.2.2.length c) D.2.2 w'
def PpOut (N : Nat) (w : World) (D : Int × Int × List Evt) (r : Ending) (w' : World) : Prop := Below N w w' ∧ ∃ p c, r = .returned (.tuple #[.agg #[.int .i64 D.2.1, .slice p D.2.2.length c], .int .i64 D.1]) ∧ OwnE N (.slice p D.2.2.length c) D.2.2 w'
theorem PtOut.no {N : Nat} {w w' : World} {D : Int × Int × List Evt} {r : Ending} {E : Int} {v : Value} (hb : Below N w w') (h : D = (E, 0, [])) (hv : v = errV E) (hr : r = .returned (.tuple #[.agg #[.int .i64 0, .slice none 0 0], v])) : PtOut N w D r w' := by
  subst h hv
  exact ⟨hb, none, 0, hr, [], ⟨rfl, .inl ⟨rfl, rfl⟩⟩, trivial⟩
theorem PtOut.yes {N : Nat} {w w' : World} {D : Int × Int × List Evt} {r : Ending} {t : Int} {es : List Evt} {p : Option Addr} {m c : Nat} (hb : Below N w w') (h : D = (0, t, es)) (hm : m = es.length) (hr : r = .returned (.tuple #[.agg #[.int .i64 t, .slice p m c], .nilIface])) (ho : OwnE N (.slice p m c) es w') : PtOut N w D r w' := by
  subst h hm
  exact ⟨hb, p, c, hr, ho⟩
theorem own_setE {w : World} {N : Nat} {v : Value} {es : List Evt} (h : OwnE N v es w) {a : Addr} (ha : a.block < N) (u : Value) : OwnE N v es (w.setCell a u) := by
  obtain ⟨zs, h1, h2⟩ := h
  exact ⟨zs, ownsRow_setCell_below h1 ha u, h2.mono fun b xs k => ownsRow_setCell_below k ha u⟩
theorem OwnE.base {N N' : Nat} {w : World} {v : Value} {es : List Evt} (h : OwnE N' v es w) (hN : N ≤ N') : OwnE N v es w := by
  obtain ⟨zs, h1, h2⟩ := h
  refine ⟨zs, own_baseX h1 hN, ?_⟩
  clear h1
  induction es generalizing zs with
  | nil =>
    match zs, h2 with
    | [], _ => trivial
  | cons x es ih =>
    match zs, h2 with
    | a :: b :: zs, h2 => exact ⟨h2.1, own_baseX h2.2.1 hN, ih zs h2.2.2⟩

set_option maxRecDepth 100000 in
set_option maxHeartbeats 8000000 in
theorem rdpt_any (s : ByteArray) (w : World) (ht : Pow w) (he : Errs w) (h8 : 9 ≤ w.heap.size) :
    Calls Tryz.prog 23 #[.string s] w fun r w' => PtOut w.heap.size w (rdP s) r w' := by
  have cC : Hid (∀ W : World, Below w.heap.size w W → Calls Tryz.prog 30 #[.string s] W fun r w' => ∃ p n c, r = .returned (.tuple #[.slice p n c, errV (cutE s)]) ∧ Below W.heap.size W w' ∧ (cutE s = 0 → ToksAt w' (.slice p n c) (tks s))) := fun W hW => cut_any s W (ht.below hW) (he.below hW h8) (Nat.le_trans h8 hW.size)
  have hD : Hid (rdP s = if cutE s = 0 then rdL (tks s) else (cutE s, 0, [])) := rfl
  have hTl : Hid (cutE s = 0 → (tks s).length ≤ 4096) := fun h => by
    unfold cutE at h
    have h1 : ¬ 4096 < s.size := fun hh => by rw [if_pos hh] at h; cases h
    have h2 := T_lenX s.data.toList.length s.data.toList (Nat.le_refl _) 0
    have h3 : s.data.toList.length = s.size := by simp
    unfold tks
    omega
  clear ht he h8
  generalize rdP s = D at *
  generalize cutE s = C at *
  generalize tks s = TL at *
  go_enter Tryz.func23, Tryz.ntmps23
  go_wp2_with fail
  refine (cC.out _ (by go_grown)).mono ?_
  rintro r w1 ⟨p, n, c, rfl, hb1, hT⟩
  have q0 : w1.cell? ⟨w.heap.size, 0, none⟩ = some (.int .i64 0) := (hb1.cell (p := ⟨w.heap.size, 0, none⟩) (by simp)).trans (by simp [go_sem])
  have q1 : w1.cell? ⟨w.heap.size, 1, none⟩ = some (.slice none 0 0) := (hb1.cell (p := ⟨w.heap.size, 1, none⟩) (by simp)).trans (by simp [go_sem])
  have f0 : w1.frozen? ⟨w.heap.size, 0, none⟩ = false := (hb1.frozen (p := ⟨w.heap.size, 0, none⟩) (by simp)).trans (by simp [go_sem])
  have f1 : w1.frozen? ⟨w.heap.size, 1, none⟩ = false := (hb1.frozen (p := ⟨w.heap.size, 1, none⟩) (by simp)).trans (by simp [go_sem])
  have hs1 : w.heap.size < w1.heap.size := by have := hb1.size; simp at this; omega
  obtain ⟨hB1, -⟩ := bgX (n := w.heap.size) (W0 := w) (by go_grown) (by go_size) hb1
  clear hb1 cC
  by_cases hC : C = 0
  · have hT1 := hT hC
    have l4 := hTl.out hC
    have hD1 : Hid (D = rdL TL) := by have h := hD.out; rwa [if_pos hC] at h
    subst hC
    clear hT hTl hD
    rw [errV_0]
    obtain ⟨p', c', e9, hc, HX⟩ := hT1.form
    injection e9 with e1 e2 e3
    subst e1 e2 e3
    cases TL with
    | nil =>
      have hE : Hid (D = (70, 0, [])) := hD1.out
      simp only [List.length_nil]
      have g0 : ((w1.setCell ⟨w.heap.size, 0, none⟩ (.int .i64 0)).setCell ⟨w.heap.size, 1, none⟩ (.slice none 0 0)).cell? ⟨w.heap.size, 0, none⟩ = some (.int .i64 0) := by simp (maxDischargeDepth := 8) [go_sem, q0]
      have g1 : ((w1.setCell ⟨w.heap.size, 0, none⟩ (.int .i64 0)).setCell ⟨w.heap.size, 1, none⟩ (.slice none 0 0)).cell? ⟨w.heap.size, 1, none⟩ = some (.slice none 0 0) := by simp (maxDischargeDepth := 8) [go_sem, q1]
      have K9 : Below w.heap.size w ((w1.setCell ⟨w.heap.size, 0, none⟩ (.int .i64 0)).setCell ⟨w.heap.size, 1, none⟩ (.slice none 0 0)) := (hB1.setCell (p := ⟨w.heap.size, 0, none⟩) (Nat.le_refl _) _).setCell (p := ⟨w.heap.size, 1, none⟩) (Nat.le_refl _) _
      go_wp2
      generalize (w1.setCell ⟨w.heap.size, 0, none⟩ (.int .i64 0)).setCell ⟨w.heap.size, 1, none⟩ (.slice none 0 0) = W9 at g0 g1 K9 ⊢
      refine bodyPost_ret (by simp [results, Tryz.results23, go_sem, g0, g1]; try rfl) rfl ?_
      exact PtOut.no K9 hE.out rfl rfl
    | cons t L =>
      have hD2 : Hid (D = if t.k = 7 then rdM t.v.n (rdEs (L.length + 1) [] L) else (70, 0, [])) := hD1.out
      clear hD1
      obtain ⟨b, off, rfl, hb, TK⟩ := HX 0 (by simp)
      simp only [Nat.zero_mul, Nat.add_zero, List.getElem_cons_zero] at TK
      obtain ⟨a0, a1, a2, a3, a4, a5, a6⟩ := TK
      have HT1 : Hid (ToksAt w1 (.slice (some ⟨b, off, none⟩) (t :: L).length c) (t :: L)) := hT1
      obtain ⟨n, en⟩ : ∃ n : Nat, Hid ((t :: L).length = n) := ⟨_, rfl⟩
      have hn1 : 1 ≤ n := by have := en.out; simp at this; omega
      rw [en.out] at HT1 hc l4 ⊢
      clear hT1 HX
      have hn0 : ((n : Int) == 0) = false := by simp; omega
      have hn' : (0 : Int) < n := by omega
      by_cases h7 : t.k = 7
      · have hD3 : Hid (D = rdM t.v.n (rdEs (L.length + 1) [] L)) := by have h := hD2.out; rwa [if_pos h7] at h
        have h7' : (((t.k : Nat) : Int) == 7) = true := by simp; omega
        have hLn : L.length = n - 1 := by have := en.out; simp at this; omega
        have ct : Hid (∀ (W : World) (q : Option Addr) (c9 : Nat), c9 = c - 1 → (1 < n → q = some ⟨b, off + 7, none⟩) → Below w1.heap.size w1 W → Calls Tryz.prog 36 #[.slice q (n - 1) c9] W fun r w' => RsOut W.heap.size W L r w') := fun W q c9 hc9 hq hW => by
          have h9 := ToksAt.drop HT1.out 1 (by simp) q (fun hlt => hq (by have := en.out; omega))
          rw [en.out, ← hc9] at h9
          exact rdevs_any _ L W (ToksAt.below h9 hW) (by omega)
        clear hD2 h7 HT1
        have hc1 : (1 : Int) ≤ n := by omega
        generalize t.k = tk at a0 h7'
        by_cases hc2 : c = 1
        · subst hc2
          obtain rfl : n = 1 := by omega
          have ct1 : Hid (Calls Tryz.prog 36 #[.slice (some ⟨b, off, none⟩) 0 0] w1 fun r w' => RsOut w1.heap.size w1 L r w') := ct.out w1 (some ⟨b, off, none⟩) 0 rfl (fun h => absurd h (by omega)) (Below.refl _ _)
          clear ct hLn hc l4 hn1
          go_wp2_with fail
          refine ct1.out.mono ?_
          rintro r w2 ⟨hB2, ⟨hn9, rfl⟩ | ⟨es, pe, ce, hsome, rfl, hown, hle⟩⟩
          · have hE : Hid (D = (70, 0, [])) := by have h := hD3.out; rw [hn9] at h; exact h
            have p0 : w2.cell? ⟨w.heap.size, 0, none⟩ = some (.int .i64 0) := (hB2.cell (p := ⟨w.heap.size, 0, none⟩) hs1).trans q0
            have p1 : w2.cell? ⟨w.heap.size, 1, none⟩ = some (.slice none 0 0) := (hB2.cell (p := ⟨w.heap.size, 1, none⟩) hs1).trans q1
            have h0 : w2.frozen? ⟨w.heap.size, 0, none⟩ = false := (hB2.frozen (p := ⟨w.heap.size, 0, none⟩) hs1).trans f0
            have h1 : w2.frozen? ⟨w.heap.size, 1, none⟩ = false := (hB2.frozen (p := ⟨w.heap.size, 1, none⟩) hs1).trans f1
            have K2 : Below w.heap.size w w2 := hB1.trans (hB2.mono hB1.size)
            clear ct1 hn9 hD3 a0 a1 a2 a3 a4 a5 a6 q0 q1 f0 f1
            have g0 : ((w2.setCell ⟨w.heap.size, 0, none⟩ (.int .i64 0)).setCell ⟨w.heap.size, 1, none⟩ (.slice none 0 0)).cell? ⟨w.heap.size, 0, none⟩ = some (.int .i64 0) := by simp (maxDischargeDepth := 8) [go_sem, p0]
            have g1 : ((w2.setCell ⟨w.heap.size, 0, none⟩ (.int .i64 0)).setCell ⟨w.heap.size, 1, none⟩ (.slice none 0 0)).cell? ⟨w.heap.size, 1, none⟩ = some (.slice none 0 0) := by simp (maxDischargeDepth := 8) [go_sem, p1]
            have K9 : Below w.heap.size w ((w2.setCell ⟨w.heap.size, 0, none⟩ (.int .i64 0)).setCell ⟨w.heap.size, 1, none⟩ (.slice none 0 0)) := (K2.setCell (p := ⟨w.heap.size, 0, none⟩) (Nat.le_refl _) _).setCell (p := ⟨w.heap.size, 1, none⟩) (Nat.le_refl _) _
            go_wp2
            generalize (w2.setCell ⟨w.heap.size, 0, none⟩ (.int .i64 0)).setCell ⟨w.heap.size, 1, none⟩ (.slice none 0 0) = W9 at g0 g1 K9 ⊢
            refine bodyPost_ret (by simp [results, Tryz.results23, go_sem, g0, g1]; try rfl) rfl ?_
            exact PtOut.no K9 hE.out rfl rfl
          · have hD4 : Hid (D = if 64 < es.length then (3, 0, []) else (0, t.v.n, es)) := by have h := hD3.out; rw [hsome] at h; exact h
            have p0 : w2.cell? ⟨w.heap.size, 0, none⟩ = some (.int .i64 0) := (hB2.cell (p := ⟨w.heap.size, 0, none⟩) hs1).trans q0
            have p1 : w2.cell? ⟨w.heap.size, 1, none⟩ = some (.slice none 0 0) := (hB2.cell (p := ⟨w.heap.size, 1, none⟩) hs1).trans q1
            have h0 : w2.frozen? ⟨w.heap.size, 0, none⟩ = false := (hB2.frozen (p := ⟨w.heap.size, 0, none⟩) hs1).trans f0
            have h1 : w2.frozen? ⟨w.heap.size, 1, none⟩ = false := (hB2.frozen (p := ⟨w.heap.size, 1, none⟩) hs1).trans f1
            have K2 : Below w.heap.size w w2 := hB1.trans (hB2.mono hB1.size)
            have d4 : w2.cell? ⟨b, off + 4, none⟩ = some (.int .i64 t.v.n) := (hB2.cell (p := ⟨b, off + 4, none⟩) hb).trans a4
            have HO : Hid (OwnE w1.heap.size (.slice pe es.length ce) es w2) := hown
            obtain ⟨m, em⟩ : ∃ m : Nat, Hid (es.length = m) := ⟨_, rfl⟩
            rw [em.out] at HO ⊢
            clear ct1 hsome hD3 a0 a1 a2 a3 a4 a5 a6 q0 q1 f0 f1 hown
            by_cases h64 : 64 < m
            · have hE : Hid (D = (3, 0, [])) := by have h := hD4.out; rwa [if_pos (by have := em.out; omega)] at h
              have h64' : (64 : Int) < m := by omega
              clear hD4 d4
              have g0 : ((w2.setCell ⟨w.heap.size, 0, none⟩ (.int .i64 0)).setCell ⟨w.heap.size, 1, none⟩ (.slice none 0 0)).cell? ⟨w.heap.size, 0, none⟩ = some (.int .i64 0) := by simp (maxDischargeDepth := 8) [go_sem, p0]
              have g1 : ((w2.setCell ⟨w.heap.size, 0, none⟩ (.int .i64 0)).setCell ⟨w.heap.size, 1, none⟩ (.slice none 0 0)).cell? ⟨w.heap.size, 1, none⟩ = some (.slice none 0 0) := by simp (maxDischargeDepth := 8) [go_sem, p1]
              have K9 : Below w.heap.size w ((w2.setCell ⟨w.heap.size, 0, none⟩ (.int .i64 0)).setCell ⟨w.heap.size, 1, none⟩ (.slice none 0 0)) := (K2.setCell (p := ⟨w.heap.size, 0, none⟩) (Nat.le_refl _) _).setCell (p := ⟨w.heap.size, 1, none⟩) (Nat.le_refl _) _
              go_wp2
              generalize (w2.setCell ⟨w.heap.size, 0, none⟩ (.int .i64 0)).setCell ⟨w.heap.size, 1, none⟩ (.slice none 0 0) = W9 at g0 g1 K9 ⊢
              refine bodyPost_ret (by simp [results, Tryz.results23, go_sem, g0, g1]; try rfl) rfl ?_
              exact PtOut.no K9 hE.out rfl rfl
            · have hE : Hid (D = (0, t.v.n, es)) := by have h := hD4.out; rwa [if_neg (by have := em.out; omega)] at h
              have h64' : ¬ (64 : Int) < m := by omega
              clear hD4
              generalize t.v.n = tn at d4 hE
              have g0 : ((w2.setCell ⟨w.heap.size, 0, none⟩ (.int .i64 tn)).setCell ⟨w.heap.size, 1, none⟩ (.slice pe m ce)).cell? ⟨w.heap.size, 0, none⟩ = some (.int .i64 tn) := by simp (maxDischargeDepth := 8) [go_sem, p0]
              have g1 : ((w2.setCell ⟨w.heap.size, 0, none⟩ (.int .i64 tn)).setCell ⟨w.heap.size, 1, none⟩ (.slice pe m ce)).cell? ⟨w.heap.size, 1, none⟩ = some (.slice pe m ce) := by simp (maxDischargeDepth := 8) [go_sem, p1]
              have K9 : Below w.heap.size w ((w2.setCell ⟨w.heap.size, 0, none⟩ (.int .i64 tn)).setCell ⟨w.heap.size, 1, none⟩ (.slice pe m ce)) := (K2.setCell (p := ⟨w.heap.size, 0, none⟩) (Nat.le_refl _) _).setCell (p := ⟨w.heap.size, 1, none⟩) (Nat.le_refl _) _
              have O9 : Hid (OwnE w.heap.size (.slice pe m ce) es ((w2.setCell ⟨w.heap.size, 0, none⟩ (.int .i64 tn)).setCell ⟨w.heap.size, 1, none⟩ (.slice pe m ce))) := (own_setE (own_setE HO.out (a := ⟨w.heap.size, 0, none⟩) hs1 _) (a := ⟨w.heap.size, 1, none⟩) hs1 _).base (Nat.le_of_lt hs1)
              go_wp2
              generalize (w2.setCell ⟨w.heap.size, 0, none⟩ (.int .i64 tn)).setCell ⟨w.heap.size, 1, none⟩ (.slice pe m ce) = W9 at g0 g1 K9 O9 ⊢
              refine bodyPost_ret (by simp [results, Tryz.results23, go_sem, g0, g1]; try rfl) rfl ?_
              exact PtOut.yes K9 hE.out em.out.symm rfl O9.out
        · have hc3 : ¬ c = 1 := hc2
          have ct1 : Hid (Calls Tryz.prog 36 #[.slice (some ⟨b, off + 7, none⟩) (n - 1) (c - 1)] w1 fun r w' => RsOut w1.heap.size w1 L r w') := ct.out w1 (some ⟨b, off + 7, none⟩) (c - 1) rfl (fun h => rfl) (Below.refl _ _)
          clear ct hLn hc l4 hn1
          go_wp2_with fail
          refine ct1.out.mono ?_
          rintro r w2 ⟨hB2, ⟨hn9, rfl⟩ | ⟨es, pe, ce, hsome, rfl, hown, hle⟩⟩
          · have hE : Hid (D = (70, 0, [])) := by have h := hD3.out; rw [hn9] at h; exact h
            have p0 : w2.cell? ⟨w.heap.size, 0, none⟩ = some (.int .i64 0) := (hB2.cell (p := ⟨w.heap.size, 0, none⟩) hs1).trans q0
            have p1 : w2.cell? ⟨w.heap.size, 1, none⟩ = some (.slice none 0 0) := (hB2.cell (p := ⟨w.heap.size, 1, none⟩) hs1).trans q1
            have h0 : w2.frozen? ⟨w.heap.size, 0, none⟩ = false := (hB2.frozen (p := ⟨w.heap.size, 0, none⟩) hs1).trans f0
            have h1 : w2.frozen? ⟨w.heap.size, 1, none⟩ = false := (hB2.frozen (p := ⟨w.heap.size, 1, none⟩) hs1).trans f1
            have K2 : Below w.heap.size w w2 := hB1.trans (hB2.mono hB1.size)
            clear ct1 hn9 hD3 a0 a1 a2 a3 a4 a5 a6 q0 q1 f0 f1
            have g0 : ((w2.setCell ⟨w.heap.size, 0, none⟩ (.int .i64 0)).setCell ⟨w.heap.size, 1, none⟩ (.slice none 0 0)).cell? ⟨w.heap.size, 0, none⟩ = some (.int .i64 0) := by simp (maxDischargeDepth := 8) [go_sem, p0]
            have g1 : ((w2.setCell ⟨w.heap.size, 0, none⟩ (.int .i64 0)).setCell ⟨w.heap.size, 1, none⟩ (.slice none 0 0)).cell? ⟨w.heap.size, 1, none⟩ = some (.slice none 0 0) := by simp (maxDischargeDepth := 8) [go_sem, p1]
            have K9 : Below w.heap.size w ((w2.setCell ⟨w.heap.size, 0, none⟩ (.int .i64 0)).setCell ⟨w.heap.size, 1, none⟩ (.slice none 0 0)) := (K2.setCell (p := ⟨w.heap.size, 0, none⟩) (Nat.le_refl _) _).setCell (p := ⟨w.heap.size, 1, none⟩) (Nat.le_refl _) _
            go_wp2
            generalize (w2.setCell ⟨w.heap.size, 0, none⟩ (.int .i64 0)).setCell ⟨w.heap.size, 1, none⟩ (.slice none 0 0) = W9 at g0 g1 K9 ⊢
            refine bodyPost_ret (by simp [results, Tryz.results23, go_sem, g0, g1]; try rfl) rfl ?_
            exact PtOut.no K9 hE.out rfl rfl
          · have hD4 : Hid (D = if 64 < es.length then (3, 0, []) else (0, t.v.n, es)) := by have h := hD3.out; rw [hsome] at h; exact h
            have p0 : w2.cell? ⟨w.heap.size, 0, none⟩ = some (.int .i64 0) := (hB2.cell (p := ⟨w.heap.size, 0, none⟩) hs1).trans q0
            have p1 : w2.cell? ⟨w.heap.size, 1, none⟩ = some (.slice none 0 0) := (hB2.cell (p := ⟨w.heap.size, 1, none⟩) hs1).trans q1
            have h0 : w2.frozen? ⟨w.heap.size, 0, none⟩ = false := (hB2.frozen (p := ⟨w.heap.size, 0, none⟩) hs1).trans f0
            have h1 : w2.frozen? ⟨w.heap.size, 1, none⟩ = false := (hB2.frozen (p := ⟨w.heap.size, 1, none⟩) hs1).trans f1
            have K2 : Below w.heap.size w w2 := hB1.trans (hB2.mono hB1.size)
            have d4 : w2.cell? ⟨b, off + 4, none⟩ = some (.int .i64 t.v.n) := (hB2.cell (p := ⟨b, off + 4, none⟩) hb).trans a4
            have HO : Hid (OwnE w1.heap.size (.slice pe es.length ce) es w2) := hown
            obtain ⟨m, em⟩ : ∃ m : Nat, Hid (es.length = m) := ⟨_, rfl⟩
            rw [em.out] at HO ⊢
            clear ct1 hsome hD3 a0 a1 a2 a3 a4 a5 a6 q0 q1 f0 f1 hown
            by_cases h64 : 64 < m
            · have hE : Hid (D = (3, 0, [])) := by have h := hD4.out; rwa [if_pos (by have := em.out; omega)] at h
              have h64' : (64 : Int) < m := by omega
              clear hD4 d4
              have g0 : ((w2.setCell ⟨w.heap.size, 0, none⟩ (.int .i64 0)).setCell ⟨w.heap.size, 1, none⟩ (.slice none 0 0)).cell? ⟨w.heap.size, 0, none⟩ = some (.int .i64 0) := by simp (maxDischargeDepth := 8) [go_sem, p0]
              have g1 : ((w2.setCell ⟨w.heap.size, 0, none⟩ (.int .i64 0)).setCell ⟨w.heap.size, 1, none⟩ (.slice none 0 0)).cell? ⟨w.heap.size, 1, none⟩ = some (.slice none 0 0) := by simp (maxDischargeDepth := 8) [go_sem, p1]
              have K9 : Below w.heap.size w ((w2.setCell ⟨w.heap.size, 0, none⟩ (.int .i64 0)).setCell ⟨w.heap.size, 1, none⟩ (.slice none 0 0)) := (K2.setCell (p := ⟨w.heap.size, 0, none⟩) (Nat.le_refl _) _).setCell (p := ⟨w.heap.size, 1, none⟩) (Nat.le_refl _) _
              go_wp2
              generalize (w2.setCell ⟨w.heap.size, 0, none⟩ (.int .i64 0)).setCell ⟨w.heap.size, 1, none⟩ (.slice none 0 0) = W9 at g0 g1 K9 ⊢
              refine bodyPost_ret (by simp [results, Tryz.results23, go_sem, g0, g1]; try rfl) rfl ?_
              exact PtOut.no K9 hE.out rfl rfl
            · have hE : Hid (D = (0, t.v.n, es)) := by have h := hD4.out; rwa [if_neg (by have := em.out; omega)] at h
              have h64' : ¬ (64 : Int) < m := by omega
              clear hD4
              generalize t.v.n = tn at d4 hE
              have g0 : ((w2.setCell ⟨w.heap.size, 0, none⟩ (.int .i64 tn)).setCell ⟨w.heap.size, 1, none⟩ (.slice pe m ce)).cell? ⟨w.heap.size, 0, none⟩ = some (.int .i64 tn) := by simp (maxDischargeDepth := 8) [go_sem, p0]
              have g1 : ((w2.setCell ⟨w.heap.size, 0, none⟩ (.int .i64 tn)).setCell ⟨w.heap.size, 1, none⟩ (.slice pe m ce)).cell? ⟨w.heap.size, 1, none⟩ = some (.slice pe m ce) := by simp (maxDischargeDepth := 8) [go_sem, p1]
              have K9 : Below w.heap.size w ((w2.setCell ⟨w.heap.size, 0, none⟩ (.int .i64 tn)).setCell ⟨w.heap.size, 1, none⟩ (.slice pe m ce)) := (K2.setCell (p := ⟨w.heap.size, 0, none⟩) (Nat.le_refl _) _).setCell (p := ⟨w.heap.size, 1, none⟩) (Nat.le_refl _) _
              have O9 : Hid (OwnE w.heap.size (.slice pe m ce) es ((w2.setCell ⟨w.heap.size, 0, none⟩ (.int .i64 tn)).setCell ⟨w.heap.size, 1, none⟩ (.slice pe m ce))) := (own_setE (own_setE HO.out (a := ⟨w.heap.size, 0, none⟩) hs1 _) (a := ⟨w.heap.size, 1, none⟩) hs1 _).base (Nat.le_of_lt hs1)
              go_wp2
              generalize (w2.setCell ⟨w.heap.size, 0, none⟩ (.int .i64 tn)).setCell ⟨w.heap.size, 1, none⟩ (.slice pe m ce) = W9 at g0 g1 K9 O9 ⊢
              refine bodyPost_ret (by simp [results, Tryz.results23, go_sem, g0, g1]; try rfl) rfl ?_
              exact PtOut.yes K9 hE.out em.out.symm rfl O9.out
      · have hE : Hid (D = (70, 0, [])) := by have h := hD2.out; rwa [if_neg h7] at h
        have h7' : (((t.k : Nat) : Int) == 7) = false := by simp; omega
        generalize t.k = tk at a0 h7'
        clear hD2 h7 HT1
        have g0 : ((w1.setCell ⟨w.heap.size, 0, none⟩ (.int .i64 0)).setCell ⟨w.heap.size, 1, none⟩ (.slice none 0 0)).cell? ⟨w.heap.size, 0, none⟩ = some (.int .i64 0) := by simp (maxDischargeDepth := 8) [go_sem, q0]
        have g1 : ((w1.setCell ⟨w.heap.size, 0, none⟩ (.int .i64 0)).setCell ⟨w.heap.size, 1, none⟩ (.slice none 0 0)).cell? ⟨w.heap.size, 1, none⟩ = some (.slice none 0 0) := by simp (maxDischargeDepth := 8) [go_sem, q1]
        have K9 : Below w.heap.size w ((w1.setCell ⟨w.heap.size, 0, none⟩ (.int .i64 0)).setCell ⟨w.heap.size, 1, none⟩ (.slice none 0 0)) := (hB1.setCell (p := ⟨w.heap.size, 0, none⟩) (Nat.le_refl _) _).setCell (p := ⟨w.heap.size, 1, none⟩) (Nat.le_refl _) _
        go_wp2
        generalize (w1.setCell ⟨w.heap.size, 0, none⟩ (.int .i64 0)).setCell ⟨w.heap.size, 1, none⟩ (.slice none 0 0) = W9 at g0 g1 K9 ⊢
        refine bodyPost_ret (by simp [results, Tryz.results23, go_sem, g0, g1]; try rfl) rfl ?_
        exact PtOut.no K9 hE.out rfl rfl
  · have hE : Hid (D = (C, 0, [])) := by have h := hD.out; rwa [if_neg hC] at h
    have hd : Hid (errV C = .iface 74 (.agg #[.int .i64 C])) := errV_ne hC
    rw [hd.out]
    clear hC hT hTl hD
    have g0 : ((w1.setCell ⟨w.heap.size, 0, none⟩ (.int .i64 0)).setCell ⟨w.heap.size, 1, none⟩ (.slice none 0 0)).cell? ⟨w.heap.size, 0, none⟩ = some (.int .i64 0) := by simp (maxDischargeDepth := 8) [go_sem, q0]
    have g1 : ((w1.setCell ⟨w.heap.size, 0, none⟩ (.int .i64 0)).setCell ⟨w.heap.size, 1, none⟩ (.slice none 0 0)).cell? ⟨w.heap.size, 1, none⟩ = some (.slice none 0 0) := by simp (maxDischargeDepth := 8) [go_sem, q1]
    have K9 : Below w.heap.size w ((w1.setCell ⟨w.heap.size, 0, none⟩ (.int .i64 0)).setCell ⟨w.heap.size, 1, none⟩ (.slice none 0 0)) := (hB1.setCell (p := ⟨w.heap.size, 0, none⟩) (Nat.le_refl _) _).setCell (p := ⟨w.heap.size, 1, none⟩) (Nat.le_refl _) _
    go_wp2
    generalize (w1.setCell ⟨w.heap.size, 0, none⟩ (.int .i64 0)).setCell ⟨w.heap.size, 1, none⟩ (.slice none 0 0) = W9 at g0 g1 K9 ⊢
    refine bodyPost_ret (by simp [results, Tryz.results23, go_sem, g0, g1]; try rfl) rfl ?_
    exact PtOut.no K9 hE.out hd.out.symm rfl

end Go.Proofs.YticmebamclacaabGreatDoor

namespace Go.Proofs.YticmebamclacaabGreatDoor
open Go.RowKit LX Go.Shelf
set_option linter.unusedVariables false

theorem kindsAt_nat (L : List Dec) (i : Nat) (h : i < L.length) : kindsAt L (i : Int) = L[i].kinds := by
  unfold kindsAt
  rw [Int.toNat_natCast, List.getD_eq_getElem?_getD, List.getElem?_eq_getElem h]
  rfl
theorem bdrewX {B : Nat} {a w : World} (n : Nat) (h : Below B a w) : Below B a (w.drewN n) := ⟨h.os, h.tape, h.output, h.size, h.block⟩
set_option maxRecDepth 100000 in
set_option maxHeartbeats 4000000 in
theorem cevt_any (A V : Value) (L : List Dec) (e : Evt) (w : World) (hA : SigAt w A L) (hV : RowAt w V e.args) (fx : ∀ v ∈ e.args, v.Fits) (lL : L.length ≤ 9223372036854775807) (lk : ∀ d ∈ L, d.kinds.length ≤ 9223372036854775807) (lv : e.args.length ≤ 9223372036854775807) :
    Calls Tryz.prog 37 #[A, .agg #[.string e.name, V]] w fun r w' => r = .returned (errV (evtE L e)) ∧ Below w.heap.size w w' := by
  have HA : Hid (SigAt w A L) := hA
  have HV : Hid (RowAt w V e.args) := hV
  have LK : Hid (∀ d ∈ L, d.kinds.length ≤ 9223372036854775807) := lk
  obtain ⟨pA, cA, rfl, -, HX0⟩ := hA.form
  obtain ⟨pv, cv, rfl, HY0⟩ := hV.formX
  have HX : Hid (∀ i (hi : i < L.length), ∃ b off u, pA = some ⟨b, off, none⟩ ∧ b < w.heap.size ∧ w.cell? ⟨b, off + i * 2, none⟩ = some (.string L[i].name) ∧ w.cell? ⟨b, off + i * 2 + 1, none⟩ = some u ∧ KAt w u L[i].kinds) := HX0
  have HY : Hid (∀ i (hi : i < e.args.length), ∃ b off, pv = some ⟨b, off, none⟩ ∧ b < w.heap.size ∧ w.cell? ⟨b, off + i * 4, none⟩ = some (.int .i64 e.args[i].k) ∧ w.cell? ⟨b, off + i * 4 + 1, none⟩ = some (.int .i64 e.args[i].n) ∧ w.cell? ⟨b, off + i * 4 + 2, none⟩ = some (.int .i64 e.args[i].d) ∧ w.cell? ⟨b, off + i * 4 + 3, none⟩ = some (.string e.args[i].s)) := HY0
  have cF : Hid (∀ W : World, Below w.heap.size w W → Calls Tryz.prog 39 #[.slice pA L.length cA, .string e.name] W fun e' w' => e' = .returned (.int .i64 (findI e.name L 0)) ∧ Below W.heap.size W w') := fun W hW => find_any _ L e.name W (HA.out.below hW) lL
  have hbd : Hid (0 ≤ findI e.name L 0 → (findI e.name L 0).toNat < L.length) := fun h => by have := findI_bound e.name L 0 h; omega
  have hev : Hid (evtE L e = if valsE e.args = 0 then (if 0 ≤ findI e.name L 0 ∧ kfit (kindsAt L (findI e.name L 0)) e.args = true then 0 else 90) else valsE e.args) := rfl
  clear hA hV HX0 HY0 lk
  obtain ⟨n, en⟩ : ∃ n : Nat, Hid (L.length = n) := ⟨_, rfl⟩
  obtain ⟨m, em⟩ : ∃ m : Nat, Hid (e.args.length = m) := ⟨_, rfl⟩
  obtain ⟨X, eX⟩ : ∃ X : ByteArray, Hid (e.name = X) := ⟨_, rfl⟩
  obtain ⟨I, eI⟩ : ∃ I : Int, Hid (findI X L 0 = I) := ⟨_, rfl⟩
  obtain ⟨E, eE⟩ : ∃ E : Int, Hid (evtE L e = E) := ⟨_, rfl⟩
  rw [eX.out, eI.out] at cF hbd
  rw [eE.out, eX.out, eI.out] at hev
  rw [en.out] at cF lL HA
  rw [em.out] at lv HV
  rw [eE.out, eX.out, en.out, em.out]
  go_enter Tryz.func37, Tryz.ntmps37
  go_wp2
  refine wpX_world ?_
  intro w0 hw0
  have z0 : w0.cell? ⟨w.heap.size, 0, none⟩ = some (.string X) := by rw [hw0]; simp [go_sem]
  have z1 : w0.cell? ⟨w.heap.size, 1, none⟩ = some (.slice pv m cv) := by rw [hw0]; simp [go_sem]
  have zB : Below w.heap.size w w0 := by rw [hw0]; go_grown
  have zs : w.heap.size < w0.heap.size := by rw [hw0]; simp
  clear hw0
  go_loopw [12] (fun i wr => ∃ k : Nat, k ≤ m ∧ i = .int .i64 k ∧ Hid (valsE e.args = valsE (e.args.drop k)) ∧ Below w0.heap.size w0 wr) (fun i _ => m - (intOf i).toNat)
  case atStart => exact ⟨0, Nat.zero_le _, rfl, by rw [List.drop_zero]; exact (show valsE e.args = valsE e.args from rfl), Below.refl _ _⟩
  case round =>
    obtain ⟨k, hk, rfl, hr, hB0⟩ := hrel
    have hB : Below w.heap.size w wr := zB.trans (hB0.mono zB.size)
    have y0 : wr.cell? ⟨w.heap.size, 0, none⟩ = some (.string X) := (hB0.cell (p := ⟨w.heap.size, 0, none⟩) zs).trans z0
    have y1 : wr.cell? ⟨w.heap.size, 1, none⟩ = some (.slice pv m cv) := (hB0.cell (p := ⟨w.heap.size, 1, none⟩) zs).trans z1
    have ys : w.heap.size < wr.heap.size := Nat.lt_of_lt_of_le zs hB0.size
    by_cases hlt : k < m
    · have kx : k < e.args.length := by have := em.out; omega
      obtain ⟨b, off, rfl, hb, r0, r1, r2, r3⟩ := HY.out k kx
      have a0 := (hB.cell (p := ⟨b, off + k * 4, none⟩) hb).trans r0
      have a1 := (hB.cell (p := ⟨b, off + k * 4 + 1, none⟩) hb).trans r1
      have a2 := (hB.cell (p := ⟨b, off + k * 4 + 2, none⟩) hb).trans r2
      have a3 := (hB.cell (p := ⟨b, off + k * 4 + 3, none⟩) hb).trans r3
      have hbr : b < wr.heap.size := Nat.lt_of_lt_of_le hb hB.size
      have f1 := fx e.args[k] (List.getElem_mem kx)
      have hr2 : Hid (valsE e.args = if e.args[k].may = 0 then valsE (e.args.drop (k + 1)) else e.args[k].may) := by
        have h := hr.out
        rw [List.drop_eq_getElem_cons kx] at h
        exact h
      clear r0 r1 r2 r3 hr
      generalize e.args[k] = Y at a0 a1 a2 a3 hr2 f1
      obtain ⟨C, eC⟩ : ∃ C : Int, Hid (Y.may = C) := ⟨_, rfl⟩
      rw [eC.out] at hr2
      have ct : Hid (∀ W : World, Calls Tryz.prog 52 #[.agg #[.int .i64 Y.k, .int .i64 Y.n, .int .i64 Y.d, .string Y.s]] W fun e w' => e = .returned (.int .i64 C) ∧ Below W.heap.size W w') := fun W => by
        have h := check_any Y.k Y.n Y.d Y.s W f1.n1 f1.n2 f1.d1 f1.d2
        rw [show chk Y.k Y.n Y.d Y.s = C from eC.out] at h
        exact h
      have cf : Hid (∀ W : World, Calls Tryz.prog 47 #[.int .i64 C] W fun r w' => r = .returned (errV C) ∧ w' = W) := fun W => failed_any C W
      clear eC
      by_cases hC : C = 0
      · have hr3 : Hid (valsE e.args = valsE (e.args.drop (k + 1))) := by have h := hr2.out; rwa [if_pos hC] at h
        subst hC
        rw [errV_0] at cf
        clear hr2
        go_wp2_with fail
        refine (ct.out _).mono ?_
        rintro e' w1 ⟨rfl, hw1⟩
        obtain ⟨hw2, hn2⟩ := bgX (n := wr.heap.size) (W0 := wr) (by go_grown) (by go_size) hw1
        have hB2 : Below w0.heap.size w0 w1 := hB0.trans (hw2.mono hB0.size)
        clear a0 a1 a2 a3 ct hw1 hw2 hn2
        go_wp2_with fail
        refine (cf.out _).mono ?_
        rintro e' w2 ⟨rfl, rfl⟩
        clear cf y0 y1
        go_wp2
        exact ⟨⟨k + 1, by omega, by go_num, hr3, hB2⟩, by simp [intOf]; omega⟩
      · have hr3 : Hid (E = C) := by
          have h := hev.out
          have h' := hr2.out
          rw [if_neg hC] at h'
          rw [h', if_neg hC] at h
          exact h
        have hd : Hid (errV C = .iface 74 (.agg #[.int .i64 C])) := errV_ne hC
        rw [hd.out] at cf
        clear hr2 hC
        go_wp2_with fail
        refine (ct.out _).mono ?_
        rintro e' w1 ⟨rfl, hw1⟩
        obtain ⟨hw2, hn2⟩ := bgX (n := wr.heap.size) (W0 := wr) (by go_grown) (by go_size) hw1
        have hB2 : Below w.heap.size w w1 := hB.trans (hw2.mono hB.size)
        clear a0 a1 a2 a3 ct hw1 hw2 hn2
        go_wp2_with fail
        refine (cf.out _).mono ?_
        rintro e' w2 ⟨rfl, rfl⟩
        clear cf y0 y1
        go_wp2
        go_ret
        exact ⟨retE hr3.out hd.out.symm, hB2⟩
    · have c2 : ¬ (k : Int) < m := by omega
      have hr3 : Hid (E = if 0 ≤ I ∧ kfit (kindsAt L I) e.args = true then 0 else 90) := by
        have h := hev.out
        have h' := hr.out
        rw [List.drop_eq_nil_of_le (by have := em.out; omega)] at h'
        rw [h'] at h
        exact h
      go_wp2_with fail
      refine (cF.out _ hB).mono ?_
      rintro e' w1 ⟨rfl, hw1⟩
      have hB1 : Below w.heap.size w w1 := hB.trans (hw1.mono hB.size)
      have x1 : w1.cell? ⟨w.heap.size, 1, none⟩ = some (.slice pv m cv) := (hw1.cell (p := ⟨w.heap.size, 1, none⟩) ys).trans y1
      have xs : w.heap.size < w1.heap.size := Nat.lt_of_lt_of_le ys hw1.size
      clear cF y0 y1 z0 z1 hw1
      by_cases hI : I < 0
      · have hr4 : Hid (E = 90) := by have h := hr3.out; rwa [if_neg (by omega)] at h
        clear hr3
        go_upto_region 9 with fail
        go_quiet (fail)
        have K9 : Below w.heap.size w (w1.drewN nq) := bdrewX _ hB1
        go_wp2
        go_ret
        exact ⟨retE hr4.out rfl, K9⟩
      · obtain ⟨i, rfl⟩ : ∃ i : Nat, I = i := ⟨I.toNat, by omega⟩
        have hin : i < L.length := by have h := hbd.out (by omega); simpa using h
        have hi : i < n := by have := en.out; omega
        obtain ⟨b, off, u, rfl, hb, r0, r1, r2⟩ := HX.out i hin
        have a1 := (hB1.cell (p := ⟨b, off + i * 2 + 1, none⟩) hb).trans r1
        have hk2 : Hid (kindsAt L (i : Int) = L[i].kinds) := kindsAt_nat L i hin
        have lki := LK.out _ (List.getElem_mem hin)
        have hK1 : KAt w1 u L[i].kinds := r2.below hB1
        obtain ⟨F, eF⟩ : ∃ F : Bool, Hid (kfit L[i].kinds e.args = F) := ⟨kfit L[i].kinds e.args, (show _ = _ from rfl)⟩
        have hr4 : Hid (E = if F = true then 0 else 90) := by
          have h := hr3.out
          rw [hk2.out, eF.out] at h
          unfold Hid
          rw [h]
          simp
        obtain ⟨pk, ck, rfl, -⟩ := hK1.form
        have ct : Hid (∀ W : World, Below w1.heap.size w1 W → Calls Tryz.prog 53 #[.slice pk L[i].kinds.length ck, .slice pv m cv, .func (.func 54) #[] #[]] W fun e w' => e = .returned (.bool F) ∧ Below W.heap.size W w') := fun W hW => by
          have h := eqk_any _ (.slice pv m cv) L[i].kinds e.args W (hK1.below hW) (HV.out.below (hB1.trans (hW.mono hB1.size))) lki (by have := em.out; omega)
          rw [eF.out] at h
          exact h
        have hbl : b < w1.heap.size := Nat.lt_of_lt_of_le hb hB1.size
        have hnI : ¬ (i : Int) < 0 := by omega
        clear r0 r1 r2 hr3 hK1 eF hk2 hI
        generalize L[i].kinds.length = nk at a1 ct lki
        cases F with
        | true =>
          have hr5 : Hid (E = 0) := hr4.out
          clear hr4
          go_upto_region 9 with fail
          go_region_held3 (fun w' => w'.cell? ⟨b, off + i * 2 + 1, none⟩ = some (.slice pk nk ck) ∧ w'.cell? ⟨w.heap.size, 1, none⟩ = some (.slice pv m cv)) (exact ⟨bclX (n := w1.heap.size) (by go_grown) a1 hbl, bclX (n := w1.heap.size) (by go_grown) x1 xs⟩)
            (first
              | (go_at_call 53; refine (ct.out _ (by go_grown)).mono ?_; rintro e' w2 ⟨rfl, hb2⟩; obtain ⟨hB2, hn2⟩ := bgX (n := w1.heap.size) (W0 := w1) (by go_grown) (by go_size) hb2))
          all_goals
            have K9 : Below w.heap.size w w2 := hB1.trans (hB2.mono hB1.size)
            clear ct a1 x1 hB2 hn2 hb2
            go_wp2
            go_ret
            exact ⟨retE hr5.out rfl, K9⟩
        | false =>
          have hr5 : Hid (E = 90) := hr4.out
          clear hr4
          go_upto_region 9 with fail
          go_region_held3 (fun w' => w'.cell? ⟨b, off + i * 2 + 1, none⟩ = some (.slice pk nk ck) ∧ w'.cell? ⟨w.heap.size, 1, none⟩ = some (.slice pv m cv)) (exact ⟨bclX (n := w1.heap.size) (by go_grown) a1 hbl, bclX (n := w1.heap.size) (by go_grown) x1 xs⟩)
            (first
              | (go_at_call 53; refine (ct.out _ (by go_grown)).mono ?_; rintro e' w2 ⟨rfl, hb2⟩; obtain ⟨hB2, hn2⟩ := bgX (n := w1.heap.size) (W0 := w1) (by go_grown) (by go_size) hb2))
          all_goals
            have K9 : Below w.heap.size w w2 := hB1.trans (hB2.mono hB1.size)
            clear ct a1 x1 hB2 hn2 hb2
            go_wp2
            go_ret
            exact ⟨retE hr5.out rfl, K9⟩

set_option maxRecDepth 100000 in
set_option maxHeartbeats 4000000 in
theorem cpoint_any (A V : Value) (L : List Dec) (t : Int) (es : List Evt) (w : World) (hA : SigAt w A L) (hV : EvsAt w V es) (fx : ∀ e ∈ es, ∀ v ∈ e.args, v.Fits) (lL : L.length ≤ 9223372036854775807) (lk : ∀ d ∈ L, d.kinds.length ≤ 9223372036854775807) (lv : ∀ e ∈ es, e.args.length ≤ 9223372036854775807) (le : es.length ≤ 9223372036854775807) :
    Calls Tryz.prog 25 #[A, .agg #[.int .i64 t, V]] w fun r w' => r = .returned (errV (pointE L t es)) ∧ Below w.heap.size w w' := by
  have HA : Hid (SigAt w A L) := hA
  have cS : Hid (∀ W : World, Below w.heap.size w W → Calls Tryz.prog 14 #[A] W fun e w' => e = .returned (errV (sigE L)) ∧ Below W.heap.size W w') := fun W hW => csig_any A L W (hA.below hW) lL lk
  have cE : Hid (∀ (W : World) (U : Value) (e : Evt), Below w.heap.size w W → e ∈ es → RowAt W U e.args → Calls Tryz.prog 37 #[A, .agg #[.string e.name, U]] W fun r w' => r = .returned (errV (evtE L e)) ∧ Below W.heap.size W w') := fun W U e hW he hU => cevt_any A U L e W (hA.below hW) hU (fx e he) lL lk (lv e he)
  obtain ⟨pA, cA, rfl, -⟩ := hA.form
  obtain ⟨pv, cv, rfl, HY0⟩ := hV.form
  have HY : Hid (∀ i (hi : i < es.length), ∃ b off u, pv = some ⟨b, off, none⟩ ∧ b < w.heap.size ∧ w.cell? ⟨b, off + i * 2, none⟩ = some (.string es[i].name) ∧ w.cell? ⟨b, off + i * 2 + 1, none⟩ = some u ∧ RowAt w u es[i].args) := HY0
  have hp : Hid (pointE L t es = if sigE L = 0 then (if sizeE t es.length = 0 then evtsE L es else sizeE t es.length) else sigE L) := rfl
  clear hA hV HY0 HA fx lk lv
  obtain ⟨n, en⟩ : ∃ n : Nat, Hid (L.length = n) := ⟨_, rfl⟩
  obtain ⟨m, em⟩ : ∃ m : Nat, Hid (es.length = m) := ⟨_, rfl⟩
  obtain ⟨E, eE⟩ : ∃ E : Int, Hid (pointE L t es = E) := ⟨_, rfl⟩
  obtain ⟨C, eC⟩ : ∃ C : Int, Hid (sigE L = C) := ⟨_, rfl⟩
  obtain ⟨Z, eZ⟩ : ∃ Z : Int, Hid (sizeE t m = Z) := ⟨_, rfl⟩
  rw [en.out, eC.out] at cS
  rw [en.out] at cE lL
  rw [eE.out, em.out, eC.out, eZ.out] at hp
  rw [em.out] at le
  rw [eE.out, en.out, em.out]
  have cZ : Hid (∀ W : World, Calls Tryz.prog 32 #[.agg #[.int .i64 t, .slice pv m cv]] W fun e w' => e = .returned (errV Z) ∧ Below W.heap.size W w') := fun W => by
    have h := csize_any t pv m cv W
    rw [eZ.out] at h
    exact h
  go_enter Tryz.func25, Tryz.ntmps25
  by_cases hC : C = 0
  · have hp1 : Hid (E = if Z = 0 then evtsE L es else Z) := by have h := hp.out; rwa [if_pos hC] at h
    subst hC
    rw [errV_0] at cS
    go_wp2_with fail
    refine (cS.out _ (by go_grown)).mono ?_
    rintro e w1 ⟨rfl, hb1⟩
    have b0 : w1.cell? ⟨w.heap.size, 0, none⟩ = some (.int .i64 t) := (hb1.cell (p := ⟨w.heap.size, 0, none⟩) (by simp)).trans (by simp [go_sem])
    have b1 : w1.cell? ⟨w.heap.size, 1, none⟩ = some (.slice pv m cv) := (hb1.cell (p := ⟨w.heap.size, 1, none⟩) (by simp)).trans (by simp [go_sem])
    have hs1 : w.heap.size < w1.heap.size := by have := hb1.size; simp at this; omega
    obtain ⟨hB1, -⟩ := bgX (n := w.heap.size) (W0 := w) (by go_grown) (by go_size) hb1
    clear hb1 cS
    by_cases hZ : Z = 0
    · have hE : Hid (E = evtsE L es) := by have h := hp1.out; rwa [if_pos hZ] at h
      subst hZ
      rw [errV_0] at cZ
      go_wp2_with fail
      refine (cZ.out _).mono ?_
      rintro e w2 ⟨rfl, hb2⟩
      have c1 : w2.cell? ⟨w.heap.size, 1, none⟩ = some (.slice pv m cv) := (hb2.cell (p := ⟨w.heap.size, 1, none⟩) hs1).trans b1
      have hB2 : Below w.heap.size w w2 := hB1.trans (hb2.mono hB1.size)
      clear b0 b1 cZ hb2 hB1
      go_wp2
      go_loopw [23] (fun i wr => ∃ k : Nat, k ≤ m ∧ i = .int .i64 k ∧ Hid (E = evtsE L (es.drop k)) ∧ Below w.heap.size w wr) (fun i _ => m - (intOf i).toNat)
      case atStart => exact ⟨0, Nat.zero_le _, rfl, by rw [List.drop_zero]; exact hE, hB2⟩
      case round =>
        obtain ⟨k, hk, rfl, hr, hBw⟩ := hrel
        by_cases hlt : k < m
        · have kx : k < es.length := by have := em.out; omega
          obtain ⟨b, off, u, rfl, hb, r0, r1, r2⟩ := HY.out k kx
          have a0 := (hBw.cell (p := ⟨b, off + k * 2, none⟩) hb).trans r0
          have a1 := (hBw.cell (p := ⟨b, off + k * 2 + 1, none⟩) hb).trans r1
          have hr2 : Hid (E = if evtE L es[k] = 0 then evtsE L (es.drop (k + 1)) else evtE L es[k]) := by
            have h := hr.out
            rw [List.drop_eq_getElem_cons kx] at h
            exact h
          obtain ⟨D, eD⟩ : ∃ D : Int, Hid (evtE L es[k] = D) := ⟨evtE L es[k], (show _ = _ from rfl)⟩
          have ct : Hid (∀ W : World, Below wr.heap.size wr W → Calls Tryz.prog 37 #[.slice pA n cA, .agg #[.string es[k].name, u]] W fun r w' => r = .returned (errV D) ∧ Below W.heap.size W w') := fun W hW => by
            have hWw := hBw.trans (hW.mono hBw.size)
            have h := cE.out W u es[k] hWw (List.getElem_mem kx) (r2.below hWw)
            rw [eD.out] at h
            exact h
          rw [eD.out] at hr2
          obtain ⟨pu, cu, rfl, -⟩ := r2.formX
          have hbr : b < wr.heap.size := Nat.lt_of_lt_of_le hb hBw.size
          clear r0 r1 r2 hr eD
          generalize es[k].args.length = nk at a1 ct
          generalize es[k].name = X at a0 ct
          by_cases hD : D = 0
          · have hr3 : Hid (E = evtsE L (es.drop (k + 1))) := by have h := hr2.out; rwa [if_pos hD] at h
            subst hD
            rw [errV_0] at ct
            clear hr2
            go_wp2_with fail
            refine (ct.out _ (by go_grown)).mono ?_
            rintro e w3 ⟨rfl, hb3⟩
            obtain ⟨hB3, -⟩ := bgX (n := wr.heap.size) (W0 := wr) (by go_grown) (by go_size) hb3
            have K9 : Below w.heap.size w w3 := hBw.trans (hB3.mono hBw.size)
            clear ct a0 a1 hB3 hb3
            go_wp2
            exact ⟨⟨k + 1, by omega, by go_num, hr3, K9⟩, by simp [intOf]; omega⟩
          · have hr3 : Hid (E = D) := by have h := hr2.out; rwa [if_neg hD] at h
            have hd : Hid (errV D = .iface 74 (.agg #[.int .i64 D])) := errV_ne hD
            rw [hd.out] at ct
            clear hr2 hD
            go_wp2_with fail
            refine (ct.out _ (by go_grown)).mono ?_
            rintro e w3 ⟨rfl, hb3⟩
            obtain ⟨hB3, -⟩ := bgX (n := wr.heap.size) (W0 := wr) (by go_grown) (by go_size) hb3
            have K9 : Below w.heap.size w w3 := hBw.trans (hB3.mono hBw.size)
            clear ct a0 a1 hB3 hb3
            go_wp2
            go_ret
            exact ⟨retE hr3.out hd.out.symm, K9⟩
        · have c2 : ¬ (k : Int) < m := by omega
          have hr3 : Hid (E = 0) := by
            have h := hr.out
            rw [List.drop_eq_nil_of_le (by have := em.out; omega)] at h
            exact h
          go_wp2
          go_ret
          exact ⟨retE hr3.out rfl, hBw⟩
    · have hE : Hid (E = Z) := by have h := hp1.out; rwa [if_neg hZ] at h
      have hd : Hid (errV Z = .iface 74 (.agg #[.int .i64 Z])) := errV_ne hZ
      rw [hd.out] at cZ
      clear hZ
      go_wp2_with fail
      refine (cZ.out _).mono ?_
      rintro e w2 ⟨rfl, hb2⟩
      have hB2 : Below w.heap.size w w2 := hB1.trans (hb2.mono hB1.size)
      clear b0 b1 cZ hb2 hB1
      go_wp2
      go_ret
      exact ⟨retE hE.out hd.out.symm, hB2⟩
  · have hE : Hid (E = C) := by have h := hp.out; rwa [if_neg hC] at h
    have hd : Hid (errV C = .iface 74 (.agg #[.int .i64 C])) := errV_ne hC
    rw [hd.out] at cS
    clear hC
    go_wp2_with fail
    refine (cS.out _ (by go_grown)).mono ?_
    rintro e w1 ⟨rfl, hb1⟩
    obtain ⟨hB1, -⟩ := bgX (n := w.heap.size) (W0 := w) (by go_grown) (by go_size) hb1
    clear hb1 cS
    go_wp2
    go_ret
    exact ⟨retE hE.out hd.out.symm, hB1⟩

set_option maxRecDepth 100000 in
theorem checkpoint_any (A V : Value) (L : List Dec) (t : Int) (es : List Evt) (w : World) (hg : ErrT w) (hA : SigAt w A L) (hV : EvsAt w V es) (fx : ∀ e ∈ es, ∀ v ∈ e.args, v.Fits) (lL : L.length ≤ 9223372036854775807) (lk : ∀ d ∈ L, d.kinds.length ≤ 9223372036854775807) (lv : ∀ e ∈ es, e.args.length ≤ 9223372036854775807) (le : es.length ≤ 9223372036854775807) :
    Calls Tryz.prog 12 #[A, .agg #[.int .i64 t, V]] w fun r w' => r = .returned (.int .i64 (pointE L t es)) ∧ Below w.heap.size w w' := by
  have ct : Hid (∀ W : World, Below w.heap.size w W → Calls Tryz.prog 25 #[A, .agg #[.int .i64 t, V]] W fun e w' => e = .returned (errV (pointE L t es)) ∧ Below W.heap.size W w') := fun W hW => cpoint_any A V L t es W (hA.below hW) (hV.below hW) fx lL lk lv le
  obtain ⟨p, c, rfl, -⟩ := hA.form
  obtain ⟨pv, cv, rfl, -⟩ := hV.form
  generalize pointE L t es = E at *
  clear hA hV lk fx lv
  generalize L.length = n at *
  generalize es.length = m at *
  have cn : Hid (∀ W : World, ErrT W → Calls Tryz.prog 15 #[errV E] W fun r w' => r = .returned (.int .i64 E) ∧ Below W.heap.size W w') := fun W hW => tnumber_any E W hW
  generalize errV E = EV at *
  go_enter Tryz.func12, Tryz.ntmps12
  go_wp2_with fail
  refine (ct.out _ (by go_grown)).mono ?_
  rintro e w1 ⟨rfl, hw1⟩
  obtain ⟨hB1, -⟩ := bgX (n := w.heap.size) (W0 := w) (by go_grown) (by go_size) hw1
  clear ct hw1
  go_wp2_with fail
  refine (cn.out _ (hg.below hB1)).mono ?_
  rintro e w2 ⟨rfl, hw2⟩
  have K : Below w.heap.size w w2 := hB1.trans (hw2.mono hB1.size)
  clear cn hB1 hw2
  go_wp2
  go_ret
  exact ⟨rfl, K⟩

end Go.Proofs.YticmebamclacaabGreatDoor

namespace Go.Proofs.YticmebamclacaabGreatDoor
open Go.RowKit LX Go.Shelf
set_option linter.unusedVariables false

/-- Why events may not be told. -/
def wevsE : List Evt → Int
  | [] => 0
  | e :: l => if wevE e = 0 then wevsE l else wevE e
def evsT : List Evt → List UInt8
  | [] => []
  | e :: l => evtT e ++ evsT l
def evW (e : Evt) : Nat := 301 * e.args.length + e.name.size + 500
def evsW : List Evt → Nat
  | [] => 0
  | e :: l => evW e + evsW l
theorem evsT_snoc (l : List Evt) (v : Evt) : evsT (l ++ [v]) = evsT l ++ evtT v := by
  induction l with
  | nil => simp [evsT]
  | cons x l ih => simp only [List.cons_append, evsT, ih, List.append_assoc]
theorem evsW_snoc (l : List Evt) (v : Evt) : evsW (l ++ [v]) = evsW l + evW v := by
  induction l with
  | nil => simp [evsW]
  | cons x l ih => simp only [List.cons_append, evsW, ih]; omega
theorem evsW_app (l r : List Evt) : evsW (l ++ r) = evsW l + evsW r := by
  induction l with
  | nil => simp [evsW]
  | cons x l ih => simp only [List.cons_append, evsW, ih]; omega
theorem evsW_take (l : List Evt) (k : Nat) (h : k < l.length) : evsW (l.take k) + evW l[k] ≤ evsW l := by
  have e1 : l.take (k + 1) = l.take k ++ [l[k]] := List.take_succ_eq_append_getElem h
  have e2 : evsW l = evsW (l.take (k + 1)) + evsW (l.drop (k + 1)) := by rw [← evsW_app, List.take_append_drop]
  rw [e2, e1, evsW_snoc]
  omega
theorem wevE_vals {e : Evt} (h : wevE e = 0) : nameB e.name = true ∧ valsE e.args = 0 := by
  unfold wevE at h
  by_cases hn : nameB e.name = true
  · rw [if_pos hn] at h; exact ⟨hn, h⟩
  · rw [if_neg hn] at h; cases h
theorem evtT_len {e : Evt} (h : wevE e = 0) (fx : ∀ v ∈ e.args, v.Fits) : (evtT e).length ≤ evW e := by
  obtain ⟨-, hv⟩ := wevE_vals h
  have h1 := argsT_len e.args (fun v hm => ⟨valsE_all hv v hm, fx v hm⟩)
  have h2 : e.name.data.toList.length = e.name.size := by simp
  unfold evtT evW
  simp only [List.length_append, List.length_cons, List.length_nil]
  omega
theorem evsT_len {l : List Evt} (h : ∀ e ∈ l, wevE e = 0) (fx : ∀ e ∈ l, ∀ v ∈ e.args, v.Fits) : (evsT l).length ≤ evsW l := by
  induction l with
  | nil => simp [evsT]
  | cons x l ih =>
    have h1 := evtT_len (h x (by simp)) (fx x (by simp))
    have h2 := ih (fun v hv => h v (by simp [hv])) (fun v hv => fx v (by simp [hv]))
    simp only [evsT, evsW, List.length_append]
    omega
/-- A point's line, and why it has none. -/
def lineT (t : Int) (es : List Evt) : List UInt8 := (64 :: Lib.itoa t) ++ evsT es
def ppE (t : Int) (es : List Evt) : Int := if sizeE t es.length = 0 then (if wevsE es = 0 then (if 4096 < (lineT t es).length then 2 else 0) else wevsE es) else sizeE t es.length
def ppT (t : Int) (es : List Evt) : List UInt8 := if ppE t es = 0 then lineT t es else []
theorem sizeE_ok {t : Int} {n : Nat} (h : sizeE t n = 0) : 0 ≤ t ∧ t ≤ 1099511627776 ∧ n ≤ 64 := by
  unfold sizeE at h
  split at h
  · cases h
  · split at h
    · cases h
    · omega
theorem ret2 {s : ByteArray} {E n : Int} {v : Value} {l : List UInt8} (hs : (⟨l.toArray⟩ : ByteArray) = s) (h : E = n) (hv : v = errV n) : Ending.returned (.tuple #[.string s, v]) = .returned (.tuple #[.string ⟨l.toArray⟩, errV E]) := by rw [h, hv, hs]

set_option maxRecDepth 100000 in
set_option maxHeartbeats 8000000 in
theorem ptext_any (V : Value) (t : Int) (es : List Evt) (w : World) (t1 : -9223372036854775808 ≤ t) (t2 : t ≤ 9223372036854775807) (hV : EvsAt w V es) (ht : Pow w) (fx : ∀ e ∈ es, ∀ v ∈ e.args, v.Fits) (lv : ∀ e ∈ es, e.args.length ≤ 9223372036854775807) (le : es.length ≤ 9223372036854775807) (hl : evsW es + 1000 ≤ 140737488355328) :
    Calls Tryz.prog 22 #[.agg #[.int .i64 t, V]] w fun r w' => r = .returned (.tuple #[.string ⟨(ppT t es).toArray⟩, errV (ppE t es)]) ∧ Below w.heap.size w w' := by
  obtain ⟨pv, cv, rfl, HY0⟩ := hV.form
  have HY : Hid (∀ i (hi : i < es.length), ∃ b off u, pv = some ⟨b, off, none⟩ ∧ b < w.heap.size ∧ w.cell? ⟨b, off + i * 2, none⟩ = some (.string es[i].name) ∧ w.cell? ⟨b, off + i * 2 + 1, none⟩ = some u ∧ RowAt w u es[i].args) := HY0
  have HT : Hid (Pow w) := ht
  have hp : Hid (ppE t es = if sizeE t es.length = 0 then (if wevsE es = 0 then (if 4096 < (lineT t es).length then 2 else 0) else wevsE es) else sizeE t es.length) := rfl
  have hq : Hid (ppT t es = if ppE t es = 0 then lineT t es else []) := rfl
  have lI := Lib.itoa_length_le t t1 t2
  clear hV HY0 ht
  obtain ⟨m, em⟩ : ∃ m : Nat, Hid (es.length = m) := ⟨_, rfl⟩
  obtain ⟨E, eE⟩ : ∃ E : Int, Hid (ppE t es = E) := ⟨_, rfl⟩
  obtain ⟨Q, eQ⟩ : ∃ Q : List UInt8, Hid (ppT t es = Q) := ⟨_, rfl⟩
  obtain ⟨Z, eZ⟩ : ∃ Z : Int, Hid (sizeE t m = Z) := ⟨_, rfl⟩
  rw [eE.out, em.out, eZ.out] at hp
  rw [eE.out, eQ.out] at hq
  rw [em.out] at le
  rw [eE.out, eQ.out, em.out]
  have cZ : Hid (∀ W : World, Calls Tryz.prog 32 #[.agg #[.int .i64 t, .slice pv m cv]] W fun e w' => e = .returned (errV Z) ∧ Below W.heap.size W w') := fun W => by
    have h := csize_any t pv m cv W
    rw [eZ.out] at h
    exact h
  go_enter Tryz.func22, Tryz.ntmps22
  by_cases hZ : Z = 0
  · have hp1 : Hid (E = if wevsE es = 0 then (if 4096 < (lineT t es).length then 2 else 0) else wevsE es) := by have h := hp.out; rwa [if_pos hZ] at h
    have h64 : m ≤ 64 := (sizeE_ok (eZ.out.trans hZ)).2.2
    subst hZ
    rw [errV_0] at cZ
    obtain ⟨A, eA⟩ : ∃ A : ByteArray, Hid (⟨(Lib.itoa t).toArray⟩ = A) := ⟨_, rfl⟩
    obtain ⟨S, eS⟩ : ∃ S : ByteArray, Hid (S = (⟨#[64]⟩ : ByteArray) ++ A) := ⟨_, rfl⟩
    have sA : A.size ≤ 21 := by rw [← eA.out]; show (Lib.itoa t).toArray.size ≤ 21; simpa using lI
    have x1 : ∀ W : World, (Op.stringOp .add ⟨#[64]⟩ A).run Tryz.prog W = .ok (.string S) W := fun W => by
      rw [run_string_add_sum W _ _ (by have : (⟨#[64]⟩ : ByteArray).size = 1 := rfl
                                       omega), eS.out]
    have sS : S.size ≤ 22 := by
      rw [eS.out, ByteArray.size_append]
      have : (⟨#[64]⟩ : ByteArray).size = 1 := rfl
      omega
    have lS : Hid (S.data.toList = 64 :: Lib.itoa t) := by unfold Hid; rw [eS.out, ← eA.out]; simp
    have cI : Hid (∀ W : World, Pow W → Calls Tryz.prog 33 #[.int .i64 t, .int .i64 10] W fun e w' => e = .returned (.string A) ∧ Below W.heap.size W w') := fun W hW => by
      refine (Tryz.strconv_FormatInt_10 t t1 t2 W hW).mono ?_
      rintro e w1 ⟨rfl, k, os, rfl⟩
      rw [eA.out]
      exact ⟨rfl, below_grow W k os⟩
    go_wp2_with fail
    refine (cZ.out _).mono ?_
    rintro e w1 ⟨rfl, hb1⟩
    have b0 : w1.cell? ⟨w.heap.size, 0, none⟩ = some (.int .i64 t) := (hb1.cell (p := ⟨w.heap.size, 0, none⟩) (by simp)).trans (by simp [go_sem])
    have b1 : w1.cell? ⟨w.heap.size, 1, none⟩ = some (.slice pv m cv) := (hb1.cell (p := ⟨w.heap.size, 1, none⟩) (by simp)).trans (by simp [go_sem])
    have hs1 : w.heap.size < w1.heap.size := by have := hb1.size; simp at this; omega
    obtain ⟨hB1, -⟩ := bgX (n := w.heap.size) (W0 := w) (by go_grown) (by go_size) hb1
    clear hb1 cZ
    go_wp2_with fail
    refine (cI.out _ (HT.out.below (hB1.trans (Below.mono (B := w1.heap.size) (by go_grown) hB1.size)))).mono ?_
    rintro e w2 ⟨rfl, hb2⟩
    have HB2 : Hid (Bld w1.heap.size w1.heap.size [] w2) := by
      have h0 : Bld w1.heap.size w1.heap.size [] (w1.alloc (.cells #[.pointer none, .slice none 0 0] 53)) := Lib.fresh_isBuilder _ _ w1
      exact h0.below hb2
    have hs2 : w1.heap.size < w2.heap.size := by have := hb2.size; simp at this; omega
    have c1 : w2.cell? ⟨w.heap.size, 1, none⟩ = some (.slice pv m cv) := (hb2.cell (p := ⟨w.heap.size, 1, none⟩) (by simp; omega)).trans (by rw [World.cell?_alloc_lt _ _ ⟨w.heap.size, 1, none⟩ hs1]; exact b1)
    obtain ⟨hB2, -⟩ := bgX (n := w1.heap.size) (W0 := w1) (by go_grown) (by go_size) hb2
    clear hb2 cI b0 b1
    go_wp2_with fail
    refine (wsB w1.heap.size w1.heap.size [] S _ HB2.out (by simp; omega) (by omega)).mono ?_
    rintro e w3 ⟨rfl, hb3, hB3, -⟩
    have d1 : w3.cell? ⟨w.heap.size, 1, none⟩ = some (.slice pv m cv) := (hB3.cell (p := ⟨w.heap.size, 1, none⟩) hs1).trans c1
    have K3 : Below w1.heap.size w1 w3 := hB2.trans hB3
    have HB3 : Hid (Bld w1.heap.size w1.heap.size (64 :: Lib.itoa t) w3) := by rw [← lS.out]; exact hb3
    have hs3 : w1.heap.size < w3.heap.size := Nat.lt_of_lt_of_le hs2 hB3.size
    clear hb3 hB3 hB2 HB2 c1 x1
    go_wp2
    go_loopw [22] (fun i wr => ∃ k : Nat, k ≤ m ∧ i = .int .i64 k ∧ Hid (wevsE es = wevsE (es.drop k)) ∧ Hid (∀ v ∈ es.take k, wevE v = 0) ∧ Hid (Bld w1.heap.size w1.heap.size ((64 :: Lib.itoa t) ++ evsT (es.take k)) wr) ∧ Below w1.heap.size w1 wr) (fun i _ => m - (intOf i).toNat)
    case atStart => exact ⟨0, Nat.zero_le _, rfl, by rw [List.drop_zero]; exact (show wevsE es = wevsE es from rfl), (fun v hv => by simp at hv), by simpa [evsT, Hid] using HB3.out, K3⟩
    case round =>
      obtain ⟨k, hk, rfl, hr, hok, hbl, hBw⟩ := hrel
      have lT : (evsT (es.take k)).length ≤ evsW (es.take k) := evsT_len hok.out (fun e he => fx e (List.mem_of_mem_take he))
      have lG : ((64 :: Lib.itoa t) ++ evsT (es.take k)).length ≤ evsW (es.take k) + 22 := by
        rw [List.length_append, List.length_cons]
        omega
      have hBww : Below w.heap.size w wr := hB1.trans (hBw.mono hB1.size)
      by_cases hlt : k < m
      · have kx : k < es.length := by have := em.out; omega
        obtain ⟨b, off, u, rfl, hb, r0, r1, r2⟩ := HY.out k kx
        have a0 := (hBww.cell (p := ⟨b, off + k * 2, none⟩) hb).trans r0
        have a1 := (hBww.cell (p := ⟨b, off + k * 2 + 1, none⟩) hb).trans r1
        have hr2 : Hid (wevsE es = if wevE es[k] = 0 then wevsE (es.drop (k + 1)) else wevE es[k]) := by
          have h := hr.out
          rw [List.drop_eq_getElem_cons kx] at h
          exact h
        have hbl2 : Hid (∀ W, Bld w1.heap.size w1.heap.size ((64 :: Lib.itoa t) ++ evsT (es.take k) ++ evtT es[k]) W → Bld w1.heap.size w1.heap.size ((64 :: Lib.itoa t) ++ evsT (es.take (k + 1))) W) := fun W h => by
          rw [List.take_succ_eq_append_getElem kx, evsT_snoc, ← List.append_assoc]
          exact h
        have hok2 : Hid (wevE es[k] = 0 → ∀ v ∈ es.take (k + 1), wevE v = 0) := fun hz v hv => by
          rw [List.take_succ_eq_append_getElem kx] at hv
          rcases List.mem_append.1 hv with hv | hv
          · exact hok.out v hv
          · rw [List.mem_singleton] at hv; rw [hv]; exact hz
        have hwk := evsW_take es k kx
        obtain ⟨D, eD⟩ : ∃ D : Int, Hid (wevE es[k] = D) := ⟨wevE es[k], (show _ = _ from rfl)⟩
        have HBL : Hid (Bld w1.heap.size w1.heap.size ((64 :: Lib.itoa t) ++ evsT (es.take k)) wr) := hbl
        have ct : Hid (∀ W : World, Below wr.heap.size wr W → Calls Tryz.prog 34 #[.pointer (some ⟨w1.heap.size, 0, none⟩), .agg #[.string es[k].name, u]] W fun r w' => r = .returned (errV D) ∧ Below w1.heap.size W w' ∧ (D = 0 → Bld w1.heap.size w1.heap.size ((64 :: Lib.itoa t) ++ evsT (es.take k) ++ evtT es[k]) w')) := fun W hW => by
          have h := wev_any w1.heap.size w1.heap.size ((64 :: Lib.itoa t) ++ evsT (es.take k)) es[k] u w W (hBww.trans (hW.mono hBww.size)) (Nat.le_of_lt hs1) (Nat.le_trans hBw.size hW.size) (HBL.out.below hW) r2 HT.out (fx _ (List.getElem_mem kx)) (lv _ (List.getElem_mem kx)) (by unfold evW at hwk; omega)
          rw [eD.out] at h
          exact h
        rw [eD.out] at hr2 hok2
        obtain ⟨pu, cu, rfl, -⟩ := r2.formX
        clear r0 r1 r2 hr eD hok hbl HBL lG lT
        generalize es[k].args.length = nk at a1 ct
        generalize (64 :: Lib.itoa t) ++ evsT (es.take k) ++ evtT es[k] = G at ct hbl2
        generalize es[k].name = X at a0 ct
        by_cases hD : D = 0
        · have hr3 : Hid (wevsE es = wevsE (es.drop (k + 1))) := by have h := hr2.out; rwa [if_pos hD] at h
          have hok3 : Hid (∀ v ∈ es.take (k + 1), wevE v = 0) := hok2.out hD
          subst hD
          rw [errV_0] at ct
          clear hr2 hok2
          go_wp2_with fail
          refine (ct.out _ (by go_grown)).mono ?_
          rintro e w4 ⟨rfl, hb4, hg4⟩
          have K4 : Below w1.heap.size w1 w4 := hBw.trans (Below.trans (Below.mono (B := wr.heap.size) (by go_grown) hBw.size) hb4)
          have HB4 : Hid (Bld w1.heap.size w1.heap.size ((64 :: Lib.itoa t) ++ evsT (es.take (k + 1))) w4) := hbl2.out w4 (hg4 (by first | trivial | rfl))
          clear ct a0 a1 hb4 hg4 hbl2
          go_wp2
          exact ⟨⟨k + 1, by omega, by go_num, hr3, hok3, HB4, K4⟩, by simp [intOf]; omega⟩
        · have hr3 : Hid (wevsE es = D) := by have h := hr2.out; rwa [if_neg hD] at h
          have hE : Hid (E = D) := by
            have h := hp1.out
            rw [hr3.out, if_neg hD] at h
            exact h
          have hQ : Hid (Q = []) := by have h := hq.out; rwa [if_neg (by rw [hE.out]; exact hD)] at h
          have hd : Hid (errV D = .iface 74 (.agg #[.int .i64 D])) := errV_ne hD
          rw [hd.out] at ct
          clear hr2 hD hok2
          go_wp2_with fail
          refine (ct.out _ (by go_grown)).mono ?_
          rintro e w4 ⟨rfl, hb4, -⟩
          have K4 : Below w1.heap.size w1 w4 := hBw.trans (Below.trans (Below.mono (B := wr.heap.size) (by go_grown) hBw.size) hb4)
          have K5 : Below w.heap.size w w4 := hB1.trans (K4.mono hB1.size)
          clear ct a0 a1 hb4 hbl2
          go_wp2
          go_ret2
          exact ⟨ret2 (by rw [hQ.out]) hE.out hd.out.symm, K5⟩
      · have c2 : ¬ (k : Int) < m := by omega
        have hr3 : Hid (wevsE es = 0) := by
          have h := hr.out
          rw [List.drop_eq_nil_of_le (by have := em.out; omega)] at h
          exact h
        have hall : es.take k = es := List.take_of_length_le (by have := em.out; omega)
        rw [hall] at hbl
        have HBL : Hid (Bld w1.heap.size w1.heap.size (lineT t es) wr) := hbl
        have hE1 : Hid (E = if 4096 < (lineT t es).length then 2 else 0) := by have h := hp1.out; rwa [if_pos hr3.out] at h
        have cL : Hid (Calls Tryz.prog 35 #[.pointer (some ⟨w1.heap.size, 0, none⟩)] wr fun e w' => e = .returned (.int .i64 (lineT t es).length) ∧ w' = wr) := by
          have h := Tryz.Builder_Len w1.heap.size w1.heap.size _ wr HBL.out
          rw [Lib.byteCells_length] at h
          exact h
        have cT : Hid (Calls Tryz.prog 19 #[.pointer (some ⟨w1.heap.size, 0, none⟩)] wr fun e w' => e = .returned (.string ⟨(lineT t es).toArray⟩) ∧ Below w1.heap.size wr w') := Tryz.Builder_String_any w1.heap.size w1.heap.size _ wr HBL.out hBw.size
        clear hbl hall lT lG hr hok HBL
        generalize hN : (lineT t es).length = N at cL hE1
        have hN' : Hid ((lineT t es).length = N) := hN
        clear hN
        generalize lineT t es = LT at cT hq hN'
        by_cases h4 : 4096 < N
        · have hE : Hid (E = 2) := by have h := hE1.out; rwa [if_pos h4] at h
          have hQ : Hid (Q = []) := by have h := hq.out; rwa [if_neg (by rw [hE.out]; decide)] at h
          have h4' : (4096 : Int) < N := by omega
          go_wp2_with fail
          refine cL.out.mono ?_
          rintro e w4 ⟨rfl, rfl⟩
          clear cL cT
          go_wp2
          go_ret2
          exact ⟨ret2 (by rw [hQ.out]) hE.out rfl, hBww⟩
        · have hE : Hid (E = 0) := by have h := hE1.out; rwa [if_neg h4] at h
          have hQ : Hid (Q = LT) := by have h := hq.out; rwa [if_pos hE.out] at h
          have h4' : ¬ (4096 : Int) < N := by omega
          go_wp2_with fail
          refine cL.out.mono ?_
          rintro e w4 ⟨rfl, rfl⟩
          clear cL
          go_wp2_with fail
          refine cT.out.mono ?_
          rintro e w5 ⟨rfl, hb5⟩
          have K5 : Below w.heap.size w w5 := hBww.trans (hb5.mono (Nat.le_of_lt hs1))
          clear cT hb5
          go_wp2
          go_ret2
          exact ⟨ret2 (by rw [hQ.out]) hE.out rfl, K5⟩
  · have hE : Hid (E = Z) := by have h := hp.out; rwa [if_neg hZ] at h
    have hQ : Hid (Q = []) := by have h := hq.out; rwa [if_neg (by rw [hE.out]; exact hZ)] at h
    have hd : Hid (errV Z = .iface 74 (.agg #[.int .i64 Z])) := errV_ne hZ
    rw [hd.out] at cZ
    clear hZ
    go_wp2_with fail
    refine (cZ.out _).mono ?_
    rintro e w1 ⟨rfl, hb1⟩
    obtain ⟨hB1, -⟩ := bgX (n := w.heap.size) (W0 := w) (by go_grown) (by go_size) hb1
    clear hb1 cZ
    go_wp2
    go_ret2
    exact ⟨ret2 (by rw [hQ.out]) hE.out hd.out.symm, hB1⟩

set_option maxRecDepth 100000 in
theorem ppoint_any (V : Value) (t : Int) (es : List Evt) (w : World) (hg : ErrT w) (t1 : -9223372036854775808 ≤ t) (t2 : t ≤ 9223372036854775807) (hV : EvsAt w V es) (ht : Pow w) (fx : ∀ e ∈ es, ∀ v ∈ e.args, v.Fits) (lv : ∀ e ∈ es, e.args.length ≤ 9223372036854775807) (le : es.length ≤ 9223372036854775807) (hl : evsW es + 1000 ≤ 140737488355328) :
    Calls Tryz.prog 8 #[.agg #[.int .i64 t, V]] w fun r w' => r = .returned (.tuple #[.string ⟨(ppT t es).toArray⟩, .int .i64 (ppE t es)]) ∧ Below w.heap.size w w' := by
  have ct : Hid (∀ W : World, Below w.heap.size w W → Calls Tryz.prog 22 #[.agg #[.int .i64 t, V]] W fun r w' => r = .returned (.tuple #[.string ⟨(ppT t es).toArray⟩, errV (ppE t es)]) ∧ Below W.heap.size W w') := fun W hW => ptext_any V t es W t1 t2 (hV.below hW) (ht.below hW) fx lv le hl
  obtain ⟨pv, cv, rfl, -⟩ := hV.form
  generalize (⟨(ppT t es).toArray⟩ : ByteArray) = Q at *
  generalize ppE t es = E at *
  clear hV fx lv hl
  generalize es.length = m at *
  have cn : Hid (∀ W : World, ErrT W → Calls Tryz.prog 15 #[errV E] W fun r w' => r = .returned (.int .i64 E) ∧ Below W.heap.size W w') := fun W hW => tnumber_any E W hW
  generalize errV E = EV at *
  go_enter Tryz.func8, Tryz.ntmps8
  go_wp2_with fail
  refine (ct.out _ (by go_grown)).mono ?_
  rintro e w1 ⟨rfl, hw1⟩
  obtain ⟨hB1, -⟩ := bgX (n := w.heap.size) (W0 := w) (by go_grown) (by go_size) hw1
  clear ct hw1
  go_wp2_with fail
  refine (cn.out _ (hg.below hB1)).mono ?_
  rintro e w2 ⟨rfl, hw2⟩
  have K : Below w.heap.size w w2 := hB1.trans (hw2.mono hB1.size)
  clear cn hB1 hw2
  go_wp2
  go_ret2
  exact ⟨rfl, K⟩

end Go.Proofs.YticmebamclacaabGreatDoor

namespace Go.Proofs.YticmebamclacaabGreatDoor
open Go.RowKit Go.Shelf
set_option linter.unusedVariables false

theorem empty_of {s : ByteArray} (h : s.toList = []) : s = ⟨#[]⟩ := by
  rw [toList_data] at h
  exact ba_eq h
theorem pure_of {v : Val} (h : v.may = 0) : pureB v.k v.n v.d v.s = true := by
  unfold Val.may chk at h
  split at h
  · omega
  · rename_i g
    simpa using g
theorem pref_itoa (n : Int) (r : List UInt8) : Lib.hasPrefix (Lib.itoa n ++ r) [34] = false := by
  obtain ⟨c, q, e⟩ := List.exists_cons_of_ne_nil (itoa_ne n)
  have hc := itoa_no (n := n) (c := c) (by rw [e]; simp)
  rw [e]
  simp only [Lib.hasPrefix, List.cons_append, List.isPrefixOf]
  have : (34 == c) = false := by simp; intro g; rw [← g] at hc; revert hc; decide
  simp [this]
theorem itoa_cut (n : Int) : ∀ c ∈ Lib.itoa n, c.toNat ≠ 47 := fun c hc => by have := itoa_no hc; omega
theorem suff_quote (l : List UInt8) : Lib.hasSuffix (l ++ [34]) [34] = true ∧ Lib.trimSuffix (l ++ [34]) [34] = l := by
  have h1 : Lib.hasSuffix (l ++ [34]) [34] = true := by
    unfold Lib.hasSuffix
    rw [List.isSuffixOf_iff_suffix]
    exact List.suffix_append _ _
  refine ⟨h1, ?_⟩
  unfold Lib.trimSuffix
  rw [if_pos h1]
  simp

/-- A value's text is taken for it. -/
theorem gss_text {v : Val} (h : v.may = 0) (f : v.Fits) : gss (vtext v.k v.n v.d v.s) = (v, true) := by
  obtain ⟨k, n, dd, s⟩ := v
  rcases Val.cases h with ⟨a, p, q⟩ | ⟨a, p, q⟩ | ⟨a, p, q⟩
  · dsimp only at a p q ⊢
    subst a p
    rw [empty_of q]
    have e0 : vtext 1 n 0 ⟨#[]⟩ = Lib.itoa n := by simp [vtext]
    have e1 := pref_itoa n []
    rw [List.append_nil] at e1
    rw [e0]
    unfold gss
    rw [e1, cutL_none _ (itoa_cut n), pint_of f.n1 f.n2]
    rfl
  · dsimp only at a p q ⊢
    subst a
    rw [empty_of q]
    have e0 : vtext 2 n dd ⟨#[]⟩ = Lib.itoa n ++ 47 :: Lib.itoa dd := by simp [vtext]
    rw [e0]
    unfold gss
    rw [pref_itoa, cutL_some _ _ (itoa_cut n)]
    simp only [Bool.false_eq_true, if_false, Bool.true_eq_false]
    rw [pint_of f.n1 f.n2, pint_of f.d1 f.d2]
    rfl
  · dsimp only at a p q ⊢
    subst a p q
    have e0 : vtext 3 0 0 s = 34 :: (inside s.data.toList ++ [34]) := by simp [vtext, quoted]
    rw [e0]
    unfold gss
    have e1 : Lib.hasPrefix (34 :: (inside s.data.toList ++ [34])) [34] = true := by simp [Lib.hasPrefix, List.isPrefixOf]
    obtain ⟨e2, e3⟩ := suff_quote (inside s.data.toList)
    rw [e1]
    simp only [if_true, List.drop_succ_cons, List.drop_zero]
    unfold unqS
    rw [e2, e3]
    simp only [if_true]
    rw [unq_inside]
    rfl
theorem prs_text {v : Val} (h : v.may = 0) (f : v.Fits) : prs (vtext v.k v.n v.d v.s) = (v, 0) := by
  have hp := pure_of h
  unfold Val.may at h
  unfold prs
  rw [gss_text h f]
  dsimp only
  rw [if_pos ⟨rfl, hp, rfl⟩, if_pos h]
theorem prs_fits (l : List UInt8) : (prs l).1.Fits := by
  unfold prs
  split
  · split
    · exact gss_fits l
    · exact ⟨by simp, by simp, by simp, by simp⟩
  · exact ⟨by simp, by simp, by simp, by simp⟩
/-- What is read has just this text. -/
theorem prs_back {l : List UInt8} (h : (prs l).2 = 0) : (prs l).1.may = 0 ∧ vtext (prs l).1.k (prs l).1.n (prs l).1.d (prs l).1.s = l := by
  unfold prs at h ⊢
  split at h
  · rename_i g
    rw [if_pos g]
    split at h
    · rename_i c
      rw [if_pos c]
      exact ⟨c, g.2.2⟩
    · rename_i c
      exact absurd h c
  · cases h
theorem text_len {v : Val} (h : v.may = 0) (f : v.Fits) : (vtext v.k v.n v.d v.s).length ≤ 300 := by
  have h1 := Lib.itoa_length_le v.n f.n1 f.n2
  have h2 := Lib.itoa_length_le v.d f.d1 f.d2
  have h3 := inside_len v.s.data.toList
  have h4 := chk_size h
  have h5 : v.s.data.toList.length = v.s.size := by simp
  unfold vtext
  split
  · omega
  · split
    · simp; omega
    · simp [quoted]; omega

end Go.Proofs.YticmebamclacaabGreatDoor

namespace Go.Proofs.YticmebamclacaabGreatDoor
open Go.RowKit LX Go.Shelf
set_option linter.unusedVariables false

/-- A token without its place. -/
def tri (t : Tok Val) : Nat × List UInt8 × Val := (t.k, t.x, t.v)
/-- A text is cut into tokens, wherever it begins. -/
def TK (l : List UInt8) (M : List (Tok Val)) : Prop := ∀ p, ∃ L, T sdB l p = (L, none) ∧ L.map tri = M.map tri
theorem TK.nil : TK [] [] := fun p => ⟨[], rfl, rfl⟩
theorem TK.blank {c : UInt8} {l : List UInt8} {M : List (Tok Val)} (hc : blk c = true) (h : TK l M) : TK (c :: l) M := fun p => by
  obtain ⟨L, h1, h2⟩ := h (p + 1)
  exact ⟨L, by rw [T_blank sdB l p hc]; exact h1, h2⟩
theorem TK.tok {x r : List UInt8} {k : Nat} {v : Val} {M : List (Tok Val)} {q : Nat} (hk : k ≠ 0) (hx : x ≠ []) (hh : hd x ≠ 32 ∧ hd x ≠ 10) (hb : beh (x ++ r) = (k, x.length)) (hs : sdB k x = (v, true)) (h : TK r M) : TK (x ++ r) (⟨k, q, x, v⟩ :: M) := fun p => by
  obtain ⟨L, h1, h2⟩ := h (p + x.length)
  have hd1 : hd (x ++ r) = hd x := by
    cases x with
    | nil => exact absurd rfl hx
    | cons c t => rfl
  have ht : (x ++ r).take x.length = x := by simp
  have hdr : (x ++ r).drop x.length = r := by simp
  have hf : fine sdB (x ++ r) := ⟨by rw [hb]; exact hk, by rw [hb]; show (sdB k ((x ++ r).take x.length)).2 = true; rw [ht, hs]⟩
  have e := T_tok' sdB (l := x ++ r) p (by cases x <;> simp_all) (by rw [hd1]; exact hh.1) (by rw [hd1]; exact hh.2) hf
  rw [hb] at e
  have e2 : tokAt sdB (x ++ r) p = ⟨k, p, x, v⟩ := by
    unfold tokAt
    rw [hb]
    show (⟨k, p, (x ++ r).take x.length, (sdB k ((x ++ r).take x.length)).1⟩ : Tok Val) = _
    rw [ht, hs]
  refine ⟨⟨k, p, x, v⟩ :: L, ?_, ?_⟩
  · rw [e, e2]
    show ((_ : Tok Val) :: (T sdB ((x ++ r).drop x.length) (p + x.length)).1, (T sdB ((x ++ r).drop x.length) (p + x.length)).2) = _
    rw [hdr, h1]
  · simp only [List.map_cons, h2]
    rfl

theorem run_all {f : Nat → Bool} {t r : List UInt8} (h : ∀ c ∈ t, f c.toNat = true) (hr : f (hd r) = false) : run f (t ++ r) = t.length := by
  induction t with
  | nil =>
    cases r with
    | nil => rfl
    | cons c s => show (if f c.toNat then _ else 0) = 0; rw [if_neg (by have : f c.toNat = false := hr; rw [this]; simp)]
  | cons c t ih =>
    show (if f c.toNat then run f (t ++ r) + 1 else 0) = _
    rw [if_pos (h c (by simp)), ih (fun x hx => h x (by simp [hx]))]
    rfl
theorem inAll_mem {l : List UInt8} (h : inAll l = true) : ∀ c ∈ l, inwN c.toNat = true := by
  induction l with
  | nil => simp
  | cons c t ih =>
    unfold inAll at h
    simp only [Bool.and_eq_true] at h
    intro x hx
    rcases List.mem_cons.1 hx with rfl | hx
    · exact h.1
    · exact ih h.2 x hx
/-- What may stand behind a word or a number. -/
def Ends (r : List UInt8) : Prop := hd r = 0 ∨ hd r = 32 ∨ hd r = 41 ∨ hd r = 10
theorem Ends.inw {r : List UInt8} (h : Ends r) : inwN (hd r) = false := by
  rcases h with h | h | h | h <;> rw [h] <;> rfl
theorem Ends.dig {r : List UInt8} (h : Ends r) : digN (hd r) = false := by
  rcases h with h | h | h | h <;> rw [h] <;> rfl
theorem name_parts {x : List UInt8} (h : nameL x = true) : 1 ≤ x.length ∧ x.length ≤ 16 ∧ lowN (hd x) = true ∧ inAll x = true := by
  unfold nameL at h
  simp only [Bool.and_eq_true, decide_eq_true_eq] at h
  exact ⟨h.1.1.1.1, h.1.1.1.2, h.1.1.2, h.2⟩
/-- A word of small letters, digits and low lines. -/
theorem TK.word {x r : List UInt8} {M : List (Tok Val)} {q : Nat} (h1 : 1 ≤ x.length) (h16 : x.length ≤ 16) (hl : lowN (hd x) = true) (ha : inAll x = true) (hr : Ends r) (h : TK r M) : TK (x ++ r) (⟨3, q, x, zeroV⟩ :: M) := by
  cases x with
  | nil => simp at h1
  | cons c t =>
    have hl' : lowN c.toNat = true := hl
    have hb : 97 ≤ c.toNat ∧ c.toNat ≤ 122 := by simpa [lowN] using hl'
    refine TK.tok (by decide) (by simp) ⟨by show c.toNat ≠ 32; omega, by show c.toNat ≠ 10; omega⟩ ?_ ?_ h
    · rw [List.cons_append, beh_cons, if_neg (by omega), if_neg (by omega), if_pos hl']
      rw [run_all (fun x hx => inAll_mem ha x (by simp [hx])) hr.inw]
      simp
      omega
    · show (zeroV, decide ((c :: t).length ≤ 16)) = _
      rw [decide_eq_true h16]
theorem TK.open_ {r : List UInt8} {M : List (Tok Val)} {q : Nat} (h : TK r M) : TK (40 :: r) (⟨1, q, [40], zeroV⟩ :: M) := TK.tok (x := [40]) (by decide) (by simp) (by decide) rfl rfl h
theorem TK.close_ {r : List UInt8} {M : List (Tok Val)} {q : Nat} (h : TK r M) : TK (41 :: r) (⟨2, q, [41], zeroV⟩ :: M) := TK.tok (x := [41]) (by decide) (by simp) (by decide) rfl rfl h
theorem dig_mem {u : Nat} : ∀ c ∈ Lib.decDigits u, digN c.toNat = true := fun c hc => by
  have := dec_digit u c hc
  simp [digN, this]
/-- A time. -/
theorem TK.time {t : Int} {r : List UInt8} {M : List (Tok Val)} {q : Nat} (h0 : 0 ≤ t) (h1 : t ≤ 1099511627776) (hr : Ends r) (h : TK r M) : TK ((64 :: Lib.itoa t) ++ r) (⟨7, q, 64 :: Lib.itoa t, ⟨1, t, 0, ⟨#[]⟩⟩⟩ :: M) := by
  have hi : Lib.itoa t = Lib.decDigits t.toNat := by unfold Lib.itoa; rw [if_neg (by omega)]
  refine TK.tok (by decide) (by simp) ⟨by show (64 : UInt8).toNat ≠ 32; decide, by show (64 : UInt8).toNat ≠ 10; decide⟩ ?_ ?_ h
  · rw [List.cons_append, beh_cons]
    rw [if_neg (by decide), if_neg (by decide), if_neg (by decide), if_neg (by simp [digN]), if_neg (by simp), if_neg (by decide), if_neg (by decide), if_neg (by decide), if_pos (by decide), hi, run_all dig_mem hr.dig]
    simp
    omega
  · show numB (Lib.itoa t) = _
    have hv : (⟨1, t, 0, ⟨#[]⟩⟩ : Val).may = 0 := by
      unfold Val.may chk pureB
      simp
      decide
    have hp := prs_text hv ⟨by show -9223372036854775808 ≤ t; omega, by show t ≤ 9223372036854775807; omega, by show (-9223372036854775808 : Int) ≤ 0; decide, by show (0 : Int) ≤ 9223372036854775807; decide⟩
    have hx : vtext (1 : Int) t 0 ⟨#[]⟩ = Lib.itoa t := if_pos rfl
    have hp' : prs (Lib.itoa t) = (⟨1, t, 0, ⟨#[]⟩⟩, 0) := by rw [← hx]; exact hp
    unfold numB
    rw [hp', if_pos ⟨rfl, rfl, h0, h1⟩]

end Go.Proofs.YticmebamclacaabGreatDoor

namespace Go.Proofs.YticmebamclacaabGreatDoor
open Go.RowKit LX Go.Shelf
set_option linter.unusedVariables false

theorem numLen_dig {t r : List UInt8} (ht : ∀ c ∈ t, digN c.toNat = true) (hr : digN (hd r) = false) (h47 : hd r ≠ 47) : numLen (t ++ r) = t.length := by
  unfold numLen
  rw [run_all ht hr]
  rw [if_neg (by simp [h47])]
theorem numLen_frac {t u r : List UInt8} (ht : ∀ c ∈ t, digN c.toNat = true) (hu : ∀ c ∈ u, digN c.toNat = true) (h0 : u ≠ []) (hr : digN (hd r) = false) : numLen (t ++ 47 :: (u ++ r)) = t.length + 1 + u.length := by
  have e1 : run digN (t ++ 47 :: (u ++ r)) = t.length := run_all ht rfl
  have e2 : (t ++ 47 :: (u ++ r)).drop t.length = 47 :: (u ++ r) := by simp
  have e3 : (t ++ 47 :: (u ++ r)).drop (t.length + 1) = u ++ r := by
    rw [← List.drop_drop, e2]
    rfl
  have e4 : digN (hd (u ++ r)) = true := by
    cases u with
    | nil => exact absurd rfl h0
    | cons c s => exact hu c (by simp)
  unfold numLen
  rw [e1, e2, e3, if_pos ⟨rfl, e4⟩, run_all hu hr]
theorem beh_number {c : UInt8} {t : List UInt8} (hc : digN c.toNat = true ∨ (c.toNat = 45 ∧ digN (hd t) = true)) : beh (c :: t) = (6, 1 + numLen t) := by
  rw [beh_cons]
  rcases hc with h | ⟨h, h'⟩
  · have hb : 48 ≤ c.toNat ∧ c.toNat ≤ 57 := by simpa [digN] using h
    rw [if_neg (by omega), if_neg (by omega), if_neg (by simp [lowN]; omega), if_pos (by simp [h])]
  · rw [if_neg (by omega), if_neg (by omega), if_neg (by simp [lowN, h]), if_pos (by simp [h, h'])]
theorem Ends.ne47 {r : List UInt8} (h : Ends r) : hd r ≠ 47 := by
  rcases h with h | h | h | h <;> rw [h] <;> decide
theorem hd_app {x r : List UInt8} (h : x ≠ []) : hd (x ++ r) = hd x := by
  cases x with
  | nil => exact absurd rfl h
  | cons c t => rfl
theorem dec_hd (u : Nat) : digN (hd (Lib.decDigits u)) = true := by
  cases h : Lib.decDigits u with
  | nil => exact absurd h (dec_ne u)
  | cons c t => exact dig_mem (u := u) c (by rw [h]; simp)
/-- What stands at the head of a number's text. -/
theorem itoa_hd (n : Int) : digN (hd (Lib.itoa n)) = true ∨ hd (Lib.itoa n) = 45 := by
  unfold Lib.itoa
  split
  · exact Or.inr rfl
  · exact Or.inl (dec_hd _)
/-- A whole number, or a fraction, is cut off whole. -/
theorem beh_itoa {n : Int} {m r : List UInt8} (hm : ∀ t : List UInt8, (∀ c ∈ t, digN c.toNat = true) → numLen (t ++ (m ++ r)) = t.length + m.length) : beh ((Lib.itoa n ++ m) ++ r) = (6, (Lib.itoa n ++ m).length) := by
  unfold Lib.itoa
  split
  · have e : (45 :: Lib.decDigits n.natAbs ++ m) ++ r = 45 :: (Lib.decDigits n.natAbs ++ (m ++ r)) := by simp
    rw [e, beh_number (Or.inr ⟨rfl, by rw [hd_app (dec_ne _)]; exact dec_hd _⟩), hm _ dig_mem]
    simp
    omega
  · cases h : Lib.decDigits n.toNat with
    | nil => exact absurd h (dec_ne _)
    | cons c t =>
      have hd1 : ∀ x ∈ c :: t, digN x.toNat = true := fun x hx => dig_mem (u := n.toNat) x (by rw [h]; exact hx)
      have e : (c :: t ++ m) ++ r = c :: (t ++ (m ++ r)) := by simp
      rw [e, beh_number (Or.inl (hd1 c (by simp))), hm t (fun x hx => hd1 x (by simp [hx]))]
      simp
      omega
theorem hexd_ne (q : Nat) (h : q < 16) : (hexd q).toNat ≠ 34 ∧ (hexd q).toNat ≠ 92 := by
  have : q = 0 ∨ q = 1 ∨ q = 2 ∨ q = 3 ∨ q = 4 ∨ q = 5 ∨ q = 6 ∨ q = 7 ∨ q = 8 ∨ q = 9 ∨ q = 10 ∨ q = 11 ∨ q = 12 ∨ q = 13 ∨ q = 14 ∨ q = 15 := by omega
  rcases this with rfl | rfl | rfl | rfl | rfl | rfl | rfl | rfl | rfl | rfl | rfl | rfl | rfl | rfl | rfl | rfl <;> decide
theorem qend_stepX {c : UInt8} {m : List UInt8} (h1 : c.toNat ≠ 34) (h2 : c.toNat ≠ 92) : qend false (c :: m) = (qend false m).map (· + 1) := by
  show (if c.toNat = 34 then some 1 else (qend (c.toNat == 92) m).map (· + 1)) = _
  rw [if_neg h1, show (c.toNat == 92) = false by simpa using h2]
theorem qend_back {c : UInt8} {m : List UInt8} : qend false (92 :: c :: m) = (qend false m).map (· + 2) := by
  show (if (92 : UInt8).toNat = 34 then some 1 else (qend ((92 : UInt8).toNat == 92) (c :: m)).map (· + 1)) = _
  rw [if_neg (by decide), show ((92 : UInt8).toNat == 92) = true by decide]
  show ((qend false m).map (· + 1)).map (· + 1) = _
  cases qend false m <;> rfl
theorem qend_esc (c : UInt8) (m : List UInt8) : qend false (esc c ++ m) = (qend false m).map (· + (esc c).length) := by
  unfold esc
  split
  · show qend false (92 :: c :: m) = _
    rw [qend_back]
    rfl
  · rename_i h
    split
    · show qend false (c :: m) = _
      rw [qend_stepX (fun e => h (Or.inl e)) (fun e => h (Or.inr e))]
      rfl
    · have hc := c.toNat_lt
      show qend false (92 :: 120 :: hexd (c.toNat / 16) :: hexd (c.toNat % 16) :: m) = _
      have k1 := hexd_ne (c.toNat / 16) (by omega)
      have k2 := hexd_ne (c.toNat % 16) (by omega)
      rw [qend_back, qend_stepX k1.1 k1.2, qend_stepX k2.1 k2.2]
      cases qend false m <;> rfl
theorem qend_inside (s r : List UInt8) : qend false (inside s ++ 34 :: r) = some ((inside s).length + 1) := by
  induction s with
  | nil => rfl
  | cons c s ih =>
    have e : inside (c :: s) = esc c ++ inside s := rfl
    rw [e, List.append_assoc, qend_esc, ih]
    simp
    omega
theorem beh_quoted (s r : List UInt8) : beh (quoted s ++ r) = (6, (quoted s).length) := by
  have e : quoted s ++ r = 34 :: (inside s ++ 34 :: r) := by simp [quoted]
  rw [e, beh_cons]
  rw [if_neg (by decide), if_neg (by decide), if_neg (by decide), if_neg (by simp [digN]), if_neg (by simp), if_neg (by decide), if_neg (by decide), if_pos (by decide), qend_inside]
  simp [quoted]
  omega
theorem may_cases {v : Val} (h : v.may = 0) : (v.k = 1) ∨ (v.k = 2 ∧ mayB v.n v.d = true) ∨ v.k = 3 := by
  unfold Val.may chk at h
  by_cases hp : pureB v.k v.n v.d v.s = false
  · rw [if_pos hp] at h; cases h
  have hp : pureB v.k v.n v.d v.s = true := by simpa using hp
  unfold pureB at hp
  by_cases h1 : v.k = 1
  · exact Or.inl h1
  rw [if_neg h1] at hp
  by_cases h2 : v.k = 2
  · rw [if_pos h2] at hp
    simp only [Bool.and_eq_true] at hp
    exact Or.inr (Or.inl ⟨h2, hp.1⟩)
  rw [if_neg h2] at hp
  by_cases h3 : v.k = 3
  · exact Or.inr (Or.inr h3)
  · rw [if_neg h3] at hp; cases hp

end Go.Proofs.YticmebamclacaabGreatDoor

namespace Go.Proofs.YticmebamclacaabGreatDoor
open Go.RowKit LX Go.Shelf
set_option linter.unusedVariables false

theorem text_hd {v : Val} (hm : v.may = 0) : v.text ≠ [] ∧ (digN (hd v.text) = true ∨ hd v.text = 45 ∨ hd v.text = 34) := by
  unfold Val.text vtext
  rcases may_cases hm with h | ⟨h, _⟩ | h
  · rw [if_pos h]
    refine ⟨itoa_ne _, ?_⟩
    rcases itoa_hd v.n with h | h
    · exact Or.inl h
    · exact Or.inr (Or.inl h)
  · rw [if_neg (by omega), if_pos h]
    refine ⟨by simp, ?_⟩
    rw [hd_app (itoa_ne _)]
    rcases itoa_hd v.n with h | h
    · exact Or.inl h
    · exact Or.inr (Or.inl h)
  · rw [if_neg (by omega), if_neg (by omega)]
    exact ⟨by simp [quoted], Or.inr (Or.inr rfl)⟩
theorem text_beh {v : Val} (hm : v.may = 0) {r : List UInt8} (hr : Ends r) : beh (v.text ++ r) = (6, v.text.length) := by
  unfold Val.text vtext
  rcases may_cases hm with h | ⟨h, hd2⟩ | h
  · rw [if_pos h]
    have e := beh_itoa (n := v.n) (m := []) (r := r) (fun t ht => by rw [List.nil_append, numLen_dig ht hr.dig hr.ne47]; rfl)
    simpa using e
  · rw [if_neg (by omega), if_pos h]
    have hp := (may_of hd2).1
    have hi : Lib.itoa v.d = Lib.decDigits v.d.toNat := by unfold Lib.itoa; rw [if_neg (by omega)]
    rw [hi]
    refine beh_itoa (n := v.n) (m := 47 :: Lib.decDigits v.d.toNat) (r := r) (fun t ht => ?_)
    rw [List.cons_append, numLen_frac ht dig_mem (dec_ne _) hr.dig]
    simp
    omega
  · rw [if_neg (by omega), if_neg (by omega)]
    exact beh_quoted _ _
theorem TK.val {v : Val} {r : List UInt8} {M : List (Tok Val)} {q : Nat} (hm : v.may = 0) (f : v.Fits) (hr : Ends r) (h : TK r M) : TK (v.text ++ r) (⟨6, q, v.text, v⟩ :: M) := by
  obtain ⟨h1, h2⟩ := text_hd hm
  refine TK.tok (by decide) h1 ?_ (text_beh hm hr) ?_ h
  · rcases h2 with h2 | h2 | h2
    · have : 48 ≤ hd v.text ∧ hd v.text ≤ 57 := by simpa [digN] using h2
      omega
    · omega
    · omega
  · show ((prs v.text).1, decide ((prs v.text).2 = 0)) = _
    have := prs_text hm f
    unfold Val.text
    rw [this]
    rfl

/-- The tokens of values, of an event, of events. -/
def valTk (v : Val) : Tok Val := ⟨6, 0, v.text, v⟩
def evTk (e : Evt) : List (Tok Val) := ⟨1, 0, [40], zeroV⟩ :: ⟨3, 0, e.name.data.toList, zeroV⟩ :: (e.args.map valTk ++ [⟨2, 0, [41], zeroV⟩])
def evsTk : List Evt → List (Tok Val)
  | [] => []
  | e :: l => evTk e ++ evsTk l
theorem args_ends (l : List Val) (r : List UInt8) : Ends (argsT l ++ 41 :: r) := by
  cases l with
  | nil => exact Or.inr (Or.inr (Or.inl rfl))
  | cons v l => exact Or.inr (Or.inl rfl)
theorem evs_ends (l : List Evt) : Ends (evsT l) := by
  cases l with
  | nil => exact Or.inl rfl
  | cons v l => exact Or.inr (Or.inl rfl)
theorem TK.args {l : List Val} {r : List UInt8} {M : List (Tok Val)} (hv : ∀ v ∈ l, v.may = 0 ∧ v.Fits) (h : TK r M) : TK (argsT l ++ 41 :: r) (l.map valTk ++ ⟨2, 0, [41], zeroV⟩ :: M) := by
  induction l with
  | nil => exact TK.close_ h
  | cons v l ih =>
    have e : argsT (v :: l) ++ 41 :: r = 32 :: (v.text ++ (argsT l ++ 41 :: r)) := by simp [argsT]
    rw [e]
    exact TK.blank rfl (TK.val (hv v (by simp)).1 (hv v (by simp)).2 (args_ends l r) (ih (fun x hx => hv x (by simp [hx]))))
theorem TK.evs {l : List Evt} (h : ∀ e ∈ l, nameB e.name = true ∧ ∀ v ∈ e.args, v.may = 0 ∧ v.Fits) : TK (evsT l) (evsTk l) := by
  induction l with
  | nil => exact TK.nil
  | cons e l ih =>
    have ih := ih (fun x hx => h x (by simp [hx]))
    obtain ⟨hn, hv⟩ := h e (by simp)
    obtain ⟨n1, n2, n3, n4⟩ := name_parts hn
    have e1 : evsT (e :: l) = 32 :: 40 :: (e.name.data.toList ++ (argsT e.args ++ 41 :: evsT l)) := by simp [evsT, evtT]
    have e2 : evsTk (e :: l) = ⟨1, 0, [40], zeroV⟩ :: ⟨3, 0, e.name.data.toList, zeroV⟩ :: (e.args.map valTk ++ ⟨2, 0, [41], zeroV⟩ :: evsTk l) := by simp [evsTk, evTk]
    rw [e1, e2]
    exact TK.blank rfl (TK.open_ (TK.word n1 n2 n3 n4 (args_ends _ _) (TK.args hv ih)))
theorem TK.line {t : Int} {es : List Evt} (h0 : 0 ≤ t) (h1 : t ≤ 1099511627776) (h : ∀ e ∈ es, nameB e.name = true ∧ ∀ v ∈ e.args, v.may = 0 ∧ v.Fits) : TK (lineT t es) (⟨7, 0, 64 :: Lib.itoa t, ⟨1, t, 0, ⟨#[]⟩⟩⟩ :: evsTk es) := TK.time h0 h1 (evs_ends es) (TK.evs h)

theorem rdA_tri {L M : List (Tok Val)} (h : L.map tri = M.map tri) (acc : List Val) (i : Nat) : rdA acc i L = rdA acc i M := by
  induction L generalizing M acc i with
  | nil =>
    cases M with
    | nil => rfl
    | cons => simp at h
  | cons t L ih =>
    cases M with
    | nil => simp at h
    | cons u M =>
      simp only [List.map_cons, List.cons.injEq] at h
      obtain ⟨h1, h2⟩ := h
      unfold tri at h1
      injection h1 with k1 k2
      injection k2 with k2 k3
      unfold rdA
      rw [k1, k2, k3, ih h2]
theorem rdE_tri {L M : List (Tok Val)} (h : L.map tri = M.map tri) : rdE L = rdE M := by
  match L, M, h with
  | [], [], _ => rfl
  | [], _ :: _, h => simp at h
  | _ :: _, [], h => simp at h
  | [_], [_], _ => rfl
  | [_], _ :: _ :: _, h => simp at h
  | _ :: _ :: _, [_], h => simp at h
  | a :: b :: L, a' :: b' :: M, h =>
    simp only [List.map_cons, List.cons.injEq] at h
    obtain ⟨h1, h2, h3⟩ := h
    unfold tri at h1 h2
    injection h1 with k1 k2
    injection k2 with k2 k3
    injection h2 with j1 j2
    injection j2 with j2 j3
    show (if a.x = [40] ∧ nameL b.x = true then (rdA [] 2 L).map (fun p => ((⟨⟨b.x.toArray⟩, p.1⟩ : Evt), p.2)) else none) = (if a'.x = [40] ∧ nameL b'.x = true then (rdA [] 2 M).map (fun p => ((⟨⟨b'.x.toArray⟩, p.1⟩ : Evt), p.2)) else none)
    rw [k2, j2, rdA_tri h3]
theorem tri_len {L M : List (Tok Val)} (h : L.map tri = M.map tri) : L.length = M.length := by simpa using congrArg List.length h
theorem rdEs_tri {f : Nat} {acc : List Evt} {L M : List (Tok Val)} (h : L.map tri = M.map tri) : rdEs f acc L = rdEs f acc M := by
  induction f generalizing acc L M with
  | zero => rfl
  | succ f ih =>
    have hl := tri_len h
    by_cases h0 : L.length = 0
    · rw [rdEs_end h0, rdEs_end (by omega)]
    · cases hE : rdE L with
      | none => rw [rdEs_none (by omega) hE, rdEs_none (by omega) (by rw [← rdE_tri h]; exact hE)]
      | some p =>
        obtain ⟨e, n⟩ := p
        rw [rdEs_some (by omega) hE, rdEs_some (by omega) (by rw [← rdE_tri h]; exact hE)]
        exact ih (by rw [List.map_drop, List.map_drop, h])
theorem rdA_args {l : List Val} {M : List (Tok Val)} (hv : ∀ v ∈ l, v.may = 0) (acc : List Val) (i : Nat) : rdA acc i (l.map valTk ++ ⟨2, 0, [41], zeroV⟩ :: M) = some (acc ++ l, i + l.length + 1) := by
  induction l generalizing acc i with
  | nil =>
    show (if ([41] : List UInt8) = [41] then some (acc, i + 1) else _) = _
    rw [if_pos rfl]
    simp
  | cons v l ih =>
    have hx : v.text ≠ [41] := fun e => by
      have := (text_hd (hv v (by simp))).2
      rw [e] at this
      revert this
      decide
    show (if (valTk v).x = [41] then some (acc, i + 1) else if (valTk v).k = 6 then rdA (acc ++ [(valTk v).v]) (i + 1) (l.map valTk ++ ⟨2, 0, [41], zeroV⟩ :: M) else none) = _
    rw [if_neg (show ¬ (valTk v).x = [41] from hx), if_pos (show (valTk v).k = 6 from rfl), ih (fun x h => hv x (by simp [h]))]
    show some (acc ++ [v] ++ l, i + 1 + l.length + 1) = _
    simp
    omega
theorem rdE_ev {e : Evt} {M : List (Tok Val)} (hn : nameB e.name = true) (hv : ∀ v ∈ e.args, v.may = 0) : rdE (evTk e ++ M) = some (e, (evTk e).length) := by
  have e1 : evTk e ++ M = ⟨1, 0, [40], zeroV⟩ :: ⟨3, 0, e.name.data.toList, zeroV⟩ :: (e.args.map valTk ++ ⟨2, 0, [41], zeroV⟩ :: M) := by simp [evTk]
  rw [e1]
  show (if ([40] : List UInt8) = [40] ∧ nameL e.name.data.toList = true then (rdA [] 2 (e.args.map valTk ++ ⟨2, 0, [41], zeroV⟩ :: M)).map (fun p => ((⟨⟨e.name.data.toList.toArray⟩, p.1⟩ : Evt), p.2)) else none) = _
  rw [if_pos ⟨rfl, hn⟩, rdA_args hv]
  simp [evTk]
  omega
theorem rdEs_evs {l : List Evt} (h : ∀ e ∈ l, nameB e.name = true ∧ ∀ v ∈ e.args, v.may = 0) (f : Nat) (acc : List Evt) (hf : (evsTk l).length < f) : rdEs f acc (evsTk l) = some (acc ++ l) := by
  induction l generalizing f acc with
  | nil => rw [rdEs_end rfl]; simp
  | cons e l ih =>
    obtain ⟨f, rfl⟩ : ∃ g, f = g + 1 := ⟨f - 1, by omega⟩
    obtain ⟨hn, hv⟩ := h e (by simp)
    have e1 : evsTk (e :: l) = evTk e ++ evsTk l := rfl
    have hl : 0 < (evTk e).length := by simp [evTk]
    rw [e1] at hf ⊢
    rw [List.length_append] at hf
    rw [rdEs_some (by rw [List.length_append]; omega) (rdE_ev hn hv)]
    rw [List.drop_left, ih (fun x hx => h x (by simp [hx])) f _ (by omega)]
    simp
/-- A point's line, read, is the point. -/
theorem back_point {t : Int} {es : List Evt} (hE : ppE t es = 0) (fx : ∀ e ∈ es, ∀ v ∈ e.args, v.Fits) : rdP ⟨(ppT t es).toArray⟩ = (0, t, es) := by
  unfold ppT
  rw [if_pos hE]
  unfold ppE at hE
  by_cases h1 : sizeE t es.length = 0
  case neg => rw [if_neg h1] at hE; exact absurd hE h1
  rw [if_pos h1] at hE
  by_cases h2 : wevsE es = 0
  case neg => rw [if_neg h2] at hE; exact absurd hE h2
  rw [if_pos h2] at hE
  have h3 : ¬ 4096 < (lineT t es).length := fun h => by rw [if_pos h] at hE; cases hE
  obtain ⟨s1, s2, s3⟩ := sizeE_ok h1
  have hw : ∀ e ∈ es, nameB e.name = true ∧ ∀ v ∈ e.args, v.may = 0 := by
    clear hE h1 h3 s3 fx
    induction es with
    | nil => simp
    | cons e l ih =>
      have hw1 : wevE e = 0 := by
        by_cases h : wevE e = 0
        · exact h
        · have h2' : (if wevE e = 0 then wevsE l else wevE e) = 0 := h2
          rw [if_neg h] at h2'; exact absurd h2' h
      have h2' : wevsE l = 0 := by
        have h2' : (if wevE e = 0 then wevsE l else wevE e) = 0 := h2
        rwa [if_pos hw1] at h2'
      obtain ⟨n1, n2⟩ := wevE_vals hw1
      intro x hx
      rcases List.mem_cons.1 hx with rfl | hx
      · exact ⟨n1, valsE_all n2⟩
      · exact ih h2' x hx
  obtain ⟨L, k1, k2⟩ := TK.line s1 s2 (es := es) (fun e he => ⟨(hw e he).1, fun v hv => ⟨(hw e he).2 v hv, fx e he v hv⟩⟩) 0
  unfold rdP
  have hc : cutE ⟨(lineT t es).toArray⟩ = 0 := by
    unfold cutE
    rw [if_neg (by show ¬ 4096 < (lineT t es).toArray.size; simpa using h3)]
    have : T sdB (⟨(lineT t es).toArray⟩ : ByteArray).data.toList 0 = (L, none) := k1
    rw [this]
    rfl
  have ht : tks ⟨(lineT t es).toArray⟩ = L := by
    unfold tks
    have : T sdB (⟨(lineT t es).toArray⟩ : ByteArray).data.toList 0 = (L, none) := k1
    rw [this]
  rw [if_pos hc, ht]
  cases L with
  | nil => simp at k2
  | cons a L =>
    simp only [List.map_cons, List.cons.injEq] at k2
    obtain ⟨q1, q2⟩ := k2
    unfold tri at q1
    injection q1 with j1 j2
    injection j2 with j2 j3
    show (if a.k = 7 then rdM a.v.n (rdEs (L.length + 1) [] L) else (70, 0, [])) = _
    rw [if_pos j1, rdEs_tri q2, rdEs_evs hw _ _ (by rw [tri_len q2]; omega), j3]
    show (if 64 < ([] ++ es).length then _ else _) = _
    rw [if_neg (by simp; omega)]
    simp

end Go.Proofs.YticmebamclacaabGreatDoor
