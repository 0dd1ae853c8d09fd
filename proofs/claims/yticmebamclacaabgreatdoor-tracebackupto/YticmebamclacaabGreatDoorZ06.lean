/- What the laws' own few calls answer. -/
import Derived.Test.YticmebamclacaabGreatDoorZ05
import Derived.Test.YticmebamclacaabGreatDoorZ02
import Derived.Lib.SplitLaws
import Derived.WalkKit
import Derived.Handy
import Derived.Deep.RegionWith
import Derived.Laws.StructEq

namespace Go.Proofs.YticmebamclacaabGreatDoor
open Go.RowKit LX Go.Shelf
set_option linter.unusedVariables false

/-- The kind that a word names. -/
def koL (x : List UInt8) : Int := if x = [105, 110, 116] then 1 else if x = [114, 97, 116] then 2 else if x = [115, 116, 114] then 3 else 0
set_option maxHeartbeats 1000000 in
theorem kindof_any (x : List UInt8) (w : World) :
    Calls Tryz.prog 66 #[.string ⟨x.toArray⟩] w fun e w' => e = .returned (.int .i64 (koL x)) ∧ w' = w := by
  have c1 : Hid (∀ W : World, Calls Tryz.prog 17 #[.int .i64 1] W fun e w' => e = .returned (.string ⟨#[105, 110, 116]⟩) ∧ w' = W) := fun W => kword_any 1 W
  have c2 : Hid (∀ W : World, Calls Tryz.prog 17 #[.int .i64 2] W fun e w' => e = .returned (.string ⟨#[114, 97, 116]⟩) ∧ w' = W) := fun W => kword_any 2 W
  have c3 : Hid (∀ W : World, Calls Tryz.prog 17 #[.int .i64 3] W fun e w' => e = .returned (.string ⟨#[115, 116, 114]⟩) ∧ w' = W) := fun W => kword_any 3 W
  by_cases h1 : x = [105, 110, 116]
  · subst h1
    go_enter Tryz.func66, Tryz.ntmps66
    go_wp2
    refine wp_loop_rounds 1 ?_
    rw [rounds_succ]
    go_wp2_with fail
    refine (c1.out _).mono ?_
    rintro e w1 ⟨rfl, rfl⟩
    go_wp2
    go_ret
    exact ⟨rfl, rfl⟩
  have y1 : (([105, 110, 116] : List UInt8) == (⟨x.toArray⟩ : ByteArray).toList) = false := by rw [ByteArray.toList_eq]; simpa using fun h => h1 h.symm
  by_cases h2 : x = [114, 97, 116]
  · subst h2
    go_enter Tryz.func66, Tryz.ntmps66
    go_wp2
    refine wp_loop_rounds 2 ?_
    rw [rounds_succ]
    go_wp2_with fail
    refine (c1.out _).mono ?_
    rintro e w1 ⟨rfl, rfl⟩
    go_wp2
    rw [rounds_succ]
    go_wp2_with fail
    refine (c2.out _).mono ?_
    rintro e w1 ⟨rfl, rfl⟩
    go_wp2
    go_ret
    exact ⟨rfl, rfl⟩
  have y2 : (([114, 97, 116] : List UInt8) == (⟨x.toArray⟩ : ByteArray).toList) = false := by rw [ByteArray.toList_eq]; simpa using fun h => h2 h.symm
  by_cases h3 : x = [115, 116, 114]
  · subst h3
    go_enter Tryz.func66, Tryz.ntmps66
    go_wp2
    refine wp_loop_rounds 3 ?_
    rw [rounds_succ]
    go_wp2_with fail
    refine (c1.out _).mono ?_
    rintro e w1 ⟨rfl, rfl⟩
    go_wp2
    rw [rounds_succ]
    go_wp2_with fail
    refine (c2.out _).mono ?_
    rintro e w1 ⟨rfl, rfl⟩
    go_wp2
    rw [rounds_succ]
    go_wp2_with fail
    refine (c3.out _).mono ?_
    rintro e w1 ⟨rfl, rfl⟩
    go_wp2
    go_ret
    exact ⟨rfl, rfl⟩
  have y3 : (([115, 116, 114] : List UInt8) == (⟨x.toArray⟩ : ByteArray).toList) = false := by rw [ByteArray.toList_eq]; simpa using fun h => h3 h.symm
  have hz : Hid (koL x = 0) := by unfold Hid koL; rw [if_neg h1, if_neg h2, if_neg h3]
  rw [hz.out]
  generalize (⟨x.toArray⟩ : ByteArray) = X at y1 y2 y3 ⊢
  clear h1 h2 h3
  go_enter Tryz.func66, Tryz.ntmps66
  go_wp2
  refine wp_loop_rounds 4 ?_
  rw [rounds_succ]
  go_wp2_with fail
  refine (c1.out _).mono ?_
  rintro e w1 ⟨rfl, rfl⟩
  go_wp2
  rw [rounds_succ]
  go_wp2_with fail
  refine (c2.out _).mono ?_
  rintro e w1 ⟨rfl, rfl⟩
  go_wp2
  rw [rounds_succ]
  go_wp2_with fail
  refine (c3.out _).mono ?_
  rintro e w1 ⟨rfl, rfl⟩
  go_wp2
  rw [rounds_succ]
  go_wp2
  go_ret
  exact ⟨rfl, rfl⟩

/-- Kinds of the call's own. -/
def kcells (ks : List Int) : List Value := ks.map fun k => .int .i64 k
def OwnK (B : Nat) (v : Value) (ks : List Int) (w : World) : Prop := w.ownsRow B 3 1 v ks.length (kcells ks)
theorem OwnK.at {B : Nat} {v : Value} {ks : List Int} {w : World} (h : OwnK B v ks w) : KAt w v ks := by
  have h' : w.ownsRow B 3 1 v ks.length (kcells ks) := h
  obtain ⟨hl, ⟨e, hn⟩ | ⟨g, cap, cur, rfl, hg1, hg2, -⟩⟩ := h
  · exact ⟨none, 0, by rw [e, hn], Or.inl (List.length_eq_zero_iff.1 hn)⟩
  · refine ⟨_, _, rfl, Or.inr ⟨g, 0, rfl, (Array.getElem?_eq_some_iff.1 hg2).1, fun i hi => ?_⟩⟩
    rw [Nat.zero_add, h'.cellAt _ (by omega)]
    simp [kcells, hi]
theorem OwnK.form {B : Nat} {v : Value} {ks : List Int} {w : World} (h : OwnK B v ks w) : ∃ p n c, v = .slice p n c := by
  obtain ⟨-, ⟨e, hn⟩ | ⟨g, cap, cur, e, -⟩⟩ := h
  · exact ⟨_, _, _, e⟩
  · exact ⟨_, _, _, e⟩
theorem OwnK.len {B : Nat} {p : Option Addr} {n c : Nat} {ks : List Int} {w : World} (h : OwnK B (.slice p n c) ks w) : n = ks.length := by
  obtain ⟨-, ⟨e, hn⟩ | ⟨g, cap, cur, e, -⟩⟩ := h
  · injection e with _ e _; omega
  · injection e with _ e _
theorem inI : (Tryz.prog.info? 3).map (fun i => (i.zero, i.size, i.bytes)) = some (some (.int .i64 0), 1, 8) := by kernel_rfl

def rdK (acc : List Int) : List (Tok Val) → Option (List Int)
  | [] => some acc
  | t :: l => if koL t.x = 0 then none else rdK (acc ++ [koL t.x]) l
def rdD : List (Tok Val) → Option Dec
  | [] => none
  | t :: l => if nameL t.x = true then (rdK [] l).map (fun ks => ⟨⟨t.x.toArray⟩, ks⟩) else none
/-- What readDecl answers. -/
def DdOut (N : Nat) (w : World) (L : List (Tok Val)) (r : Ending) (w' : World) : Prop := Below N w w' ∧ ((rdD L = none ∧ r = .returned (.tuple #[.agg #[.string ⟨#[]⟩, .slice none 0 0], .iface 74 (.agg #[.int .i64 70])])) ∨
      (∃ d p c, rdD L = some d ∧ r = .returned (.tuple #[.agg #[.string d.name, .slice p d.kinds.length c], .nilIface]) ∧ OwnK (N + 2) (.slice p d.kinds.length c) d.kinds w'))
theorem DdOut.no {N : Nat} {w w' : World} {L : List (Tok Val)} {r : Ending} (hb : Below N w w') (h : rdD L = none) (hr : r = .returned (.tuple #[.agg #[.string ⟨#[]⟩, .slice none 0 0], .iface 74 (.agg #[.int .i64 70])])) : DdOut N w L r w' := ⟨hb, Or.inl ⟨h, hr⟩⟩
theorem DdOut.yes {N : Nat} {w w' : World} {L : List (Tok Val)} {r : Ending} {nm : ByteArray} {ks : List Int} {p : Option Addr} {m c : Nat} (hb : Below N w w') (h : rdD L = some ⟨nm, ks⟩) (ho : OwnK (N + 2) (.slice p m c) ks w') (hr : r = .returned (.tuple #[.agg #[.string nm, .slice p m c], .nilIface])) : DdOut N w L r w' := by
  have hm := ho.len
  subst hm
  exact ⟨hb, Or.inr ⟨⟨nm, ks⟩, p, c, h, hr, ho⟩⟩
/-- What stands behind one kind more. -/
theorem dk_step {w W W2 : World} {B ev n : Nat} {nm : ByteArray} {V v' : Value} {acc : List Int} {K : Int} {o : Obj} (hev : W.heap[ev]? = some (.cells #[.string nm, V] 42 (0, 0))) (hlt : ev < B) (hBW : B ≤ W.heap.size) (h0 : Below n w W) (hn : n ≤ ev)
    (hown : W.ownsRow B 3 1 V acc.length (kcells acc))
    (h2 : W2.ownsRow B 3 1 v' (acc.length + 1) (kcells acc ++ [.int .i64 K])) (h3 : (W.alloc o).grownBy W2 V.ownBlock) :
    ∃ p m c, v' = .slice p m c ∧ W2.cell? ⟨ev, 1, none⟩ = some V ∧ W2.frozen? ⟨ev, 1, none⟩ = false ∧
      (W2.setCell ⟨ev, 1, none⟩ v').heap[ev]? = some (.cells #[.string nm, v'] 42 (0, 0)) ∧ OwnK B v' (acc ++ [K]) (W2.setCell ⟨ev, 1, none⟩ v') ∧ Below n w (W2.setCell ⟨ev, 1, none⟩ v') ∧ B ≤ (W2.setCell ⟨ev, 1, none⟩ v').heap.size ∧ (∀ k, k < B → k ≠ ev → (W2.setCell ⟨ev, 1, none⟩ v').heap[k]? = W.heap[k]?) := by
  have hne : ∀ k, k < B → V.ownBlock ≠ some k := fun k hk e => by have := (World.ownsRow.lt hown k e).1; omega
  have keep : ∀ k, k < B → W2.heap[k]? = W.heap[k]? := fun k hk => by
    have e1 := h3.block k (by simp; omega) (fun e => hne k hk e.symm)
    rw [e1]
    show (W.heap.push _)[k]? = _
    rw [Array.getElem?_push, if_neg (by omega)]
  have hev2 : W2.heap[ev]? = some (.cells #[.string nm, V] 42 (0, 0)) := (keep ev hlt).trans hev
  obtain ⟨p, m, c, rfl⟩ : ∃ p m c, v' = .slice p m c := by
    obtain ⟨-, ⟨e, hn⟩ | ⟨g, cap, cur, e, -⟩⟩ := h2
    · exact ⟨_, _, _, e⟩
    · exact ⟨_, _, _, e⟩
  have hB2 : Below n w W2 := Below.grown (h0.alloc (by omega) _) h3 (by simp; omega) (fun q hq => by have := (World.ownsRow.lt hown q hq).1; omega)
  have hs2 : B ≤ W2.heap.size := Nat.le_trans hBW (Nat.le_trans (by simp) h3.size)
  have hg := grownBy_setX W2 ev 1 (.slice p m c)
  refine ⟨p, m, c, rfl, ?_, Lib.frozen_of_heap hev2 1, ?_, ?_, ?_, ?_, ?_⟩
  · rw [Lib.cell_of_heap hev2]; rfl
  · show (W2.heap.modify ev _)[ev]? = _
    rw [Array.getElem?_modify, if_pos rfl, hev2]
    rfl
  · unfold OwnK kcells
    rw [List.map_append, List.length_append]
    exact ownsRow_setCell_below h2 (a := ⟨ev, 1, none⟩) hlt _
  · exact hB2.grown hg (by omega) (fun q hq => by injection hq with hq; omega)
  · exact Nat.le_trans hs2 hg.size
  · intro k hk hke
    exact (hg.block k (by omega) (fun e => hke (by injection e))).trans (keep k hk)

set_option maxRecDepth 100000 in
set_option maxHeartbeats 2000000 in
theorem rddecl_any (V : Value) (t : Tok Val) (l : List (Tok Val)) (w : World) (hV : ToksAt w V (t :: l)) (lL : (t :: l).length ≤ 16384) :
    Calls Tryz.prog 48 #[V] w fun r w' => DdOut w.heap.size w (t :: l) r w' := by
  obtain ⟨p, c, rfl, hc, HX0⟩ := hV.form
  have HX : Hid (∀ i (hi : i < (t :: l).length), ∃ b off, p = some ⟨b, off, none⟩ ∧ b < w.heap.size ∧ TokC w b (off + i * 7) (t :: l)[i]) := HX0
  have hE : Hid (rdD (t :: l) = if nameL t.x = true then (rdK [] l).map (fun ks => ⟨⟨t.x.toArray⟩, ks⟩) else none) := rfl
  clear hV HX0
  obtain ⟨i0, hi, hz0, hz1, hz2⟩ := info_parts inI
  obtain ⟨b, off, rfl, hb, T0⟩ := HX.out 0 (by simp)
  have y0 := T0.2.2.1
  simp only [Nat.zero_mul, Nat.add_zero, List.getElem_cons_zero] at y0
  clear T0
  obtain ⟨n, en⟩ : ∃ n : Nat, Hid (l.length = n) := ⟨_, rfl⟩
  have hlen : (t :: l).length = n + 1 := by rw [List.length_cons, en.out]
  rw [hlen] at hc lL ⊢
  clear hlen
  have n0 : (0 : Int) < ((n + 1 : Nat) : Int) := by omega
  have n1 : (1 : Int) ≤ ((n + 1 : Nat) : Int) := by omega
  have cN : Hid (∀ W : World, Calls Tryz.prog 38 #[.string ⟨t.x.toArray⟩] W fun e' w' => e' = .returned (.bool (nameL t.x)) ∧ w' = W) := fun W => name_any ⟨t.x.toArray⟩ W
  cases hN : nameL t.x with
  | false =>
    have hE2 : Hid (rdD (t :: l) = none) := by have h := hE.out; rwa [if_neg (by rw [hN]; simp)] at h
    rw [hN] at cN
    generalize (⟨t.x.toArray⟩ : ByteArray) = X1 at y0 cN
    go_enter Tryz.func48, Tryz.ntmps48
    go_wp2_with fail
    refine (cN.out _).mono ?_
    rintro e' w1 ⟨rfl, rfl⟩
    go_wp2
    refine bodyPost_ret (by simp [results, Tryz.results48, go_sem]; try rfl) rfl ?_
    exact DdOut.no (by go_grown) hE2.out rfl
  | true =>
    have hE2 : Hid (rdD (t :: l) = (rdK [] l).map (fun ks => ⟨⟨t.x.toArray⟩, ks⟩)) := by have h := hE.out; rwa [if_pos hN] at h
    rw [hN] at cN
    generalize (⟨t.x.toArray⟩ : ByteArray) = X1 at y0 cN hE2
    clear hE hN
    by_cases hc1 : c = 1
    · subst hc1
      obtain rfl : n = 0 := by omega
      have HTK : Hid (∀ k (hk : k < l.length), TokC w b (off + k * 7) l[k]) := fun k hk => absurd hk (by have := en.out; omega)
      clear hc HTK
      have hE3 : Hid (rdD (t :: l) = some ⟨X1, []⟩) := by
        have h0 : l = [] := List.length_eq_zero_iff.1 en.out
        have h := hE2.out
        rw [h0] at h ⊢
        exact h
      go_enter Tryz.func48, Tryz.ntmps48
      go_wp2_with fail
      refine (cN.out _).mono ?_
      rintro e' w1 ⟨rfl, rfl⟩
      clear cN
      go_wp2
      refine wpX_world ?_
      intro W1 hW1
      have e0 : W1.cell? ⟨w.heap.size + 1, 0, none⟩ = some (.string X1) := by rw [hW1]; simp [go_sem]
      have e1 : W1.cell? ⟨w.heap.size + 1, 1, none⟩ = some (.slice none 0 0) := by rw [hW1]; simp [go_sem]
      have q0 : W1.cell? ⟨w.heap.size, 0, none⟩ = some (.string ⟨#[]⟩) := by rw [hW1]; simp [go_sem]
      have q1 : W1.cell? ⟨w.heap.size, 1, none⟩ = some (.slice none 0 0) := by rw [hW1]; simp [go_sem]
      have f0 : W1.frozen? ⟨w.heap.size, 0, none⟩ = false := by rw [hW1]; simp [go_sem]
      have f1 : W1.frozen? ⟨w.heap.size, 1, none⟩ = false := by rw [hW1]; simp [go_sem]
      have hB : Below w.heap.size w W1 := by rw [hW1]; go_grown
      clear hW1
      have g0 : ((W1.setCell ⟨w.heap.size, 0, none⟩ (.string X1)).setCell ⟨w.heap.size, 1, none⟩ (.slice none 0 0)).cell? ⟨w.heap.size, 0, none⟩ = some (.string X1) := by simp (maxDischargeDepth := 8) [go_sem, q0]
      have g1 : ((W1.setCell ⟨w.heap.size, 0, none⟩ (.string X1)).setCell ⟨w.heap.size, 1, none⟩ (.slice none 0 0)).cell? ⟨w.heap.size, 1, none⟩ = some (.slice none 0 0) := by simp (maxDischargeDepth := 8) [go_sem, q1]
      have K9 : Below w.heap.size w ((W1.setCell ⟨w.heap.size, 0, none⟩ (.string X1)).setCell ⟨w.heap.size, 1, none⟩ (.slice none 0 0)) := (hB.setCell (p := ⟨w.heap.size, 0, none⟩) (Nat.le_refl _) _).setCell (p := ⟨w.heap.size, 1, none⟩) (Nat.le_refl _) _
      refine wp_loop_rounds 1 ?_
      rw [rounds_succ]
      go_wp2
      generalize (W1.setCell ⟨w.heap.size, 0, none⟩ (.string X1)).setCell ⟨w.heap.size, 1, none⟩ (.slice none 0 0) = W9 at g0 g1 K9 ⊢
      refine bodyPost_ret (by simp [results, Tryz.results48, go_sem, g0, g1]; try rfl) rfl ?_
      exact DdOut.yes K9 hE3.out ⟨rfl, .inl ⟨rfl, rfl⟩⟩ rfl
    · have HTK : Hid (∀ k (hk : k < l.length), TokC w b (off + 7 + k * 7) l[k]) := fun k hk => by
        obtain ⟨b', off', q, -, h⟩ := HX.out (k + 1) (by simp; omega)
        injection q with q
        injection q with qa qb qc
        subst qa qb
        rw [List.getElem_cons_succ] at h
        rw [show off + 7 + k * 7 = off + (k + 1) * 7 by omega]
        exact h
      go_enter Tryz.func48, Tryz.ntmps48
      go_wp2_with fail
      refine (cN.out _).mono ?_
      rintro e' w1 ⟨rfl, rfl⟩
      clear cN
      go_wp2
      go_loopw [23] (fun i wr => ∃ (k : Nat) (acc : List Int) (V : Value), k ≤ n ∧ acc.length = k ∧ i = .int .i64 k ∧ Hid (rdK [] l = rdK acc (l.drop k)) ∧ Hid (wr.heap[w.heap.size + 1]? = some (.cells #[.string X1, V] 42 (0, 0))) ∧ Hid (wr.heap[w.heap.size]? = some (.cells #[.string ⟨#[]⟩, .slice none 0 0] 42 (0, 0))) ∧ Hid (OwnK (w.heap.size + 2) V acc wr) ∧ Below w.heap.size w wr ∧ w.heap.size + 2 ≤ wr.heap.size) (fun i _ => n - (intOf i).toNat)
      case atStart =>
        refine ⟨0, [], .slice none 0 0, Nat.zero_le _, rfl, rfl, (show rdK [] l = rdK [] l from rfl), ?_, ?_, ?_, by go_grown, by simp⟩
        · unfold Hid
          show ((w.heap.push _).push _)[w.heap.size + 1]? = _
          rw [Array.getElem?_push, if_pos (by simp)]
        · unfold Hid
          show ((w.heap.push _).push _)[w.heap.size]? = _
          rw [Array.getElem?_push, if_neg (by simp), Array.getElem?_push, if_pos rfl]
        · exact ⟨rfl, .inl ⟨rfl, rfl⟩⟩
      case round =>
        obtain ⟨k, acc, V, hk, hac0, rfl, hr, hev, hres, hown, hB, hsz⟩ := hrel
        have HAC : Hid (acc.length = k) := hac0
        clear hac0
        have e0 : wr.cell? ⟨w.heap.size + 1, 0, none⟩ = some (.string X1) := by rw [Lib.cell_of_heap hev.out]; rfl
        have e1 : wr.cell? ⟨w.heap.size + 1, 1, none⟩ = some V := by rw [Lib.cell_of_heap hev.out]; rfl
        have q0 : wr.cell? ⟨w.heap.size, 0, none⟩ = some (.string ⟨#[]⟩) := by rw [Lib.cell_of_heap hres.out]; rfl
        have q1 : wr.cell? ⟨w.heap.size, 1, none⟩ = some (.slice none 0 0) := by rw [Lib.cell_of_heap hres.out]; rfl
        have f0 : wr.frozen? ⟨w.heap.size, 0, none⟩ = false := Lib.frozen_of_heap hres.out 0
        have f1 : wr.frozen? ⟨w.heap.size, 1, none⟩ = false := Lib.frozen_of_heap hres.out 1
        have hz9 : w.heap.size + 1 < wr.heap.size := by omega
        have hz8 : w.heap.size < wr.heap.size := by omega
        obtain ⟨pV, nV, cV, rfl⟩ := hown.out.form
        by_cases hlt : k < n
        · have kx : k < l.length := by have := en.out; omega
          have TK2 := (HTK.out k kx).below hB hb
          have hr2 : Hid (rdK [] l = if koL l[k].x = 0 then none else rdK (acc ++ [koL l[k].x]) (l.drop (k + 1))) := by
            have h := hr.out
            rw [List.drop_eq_getElem_cons kx] at h
            exact h
          have cK : Hid (∀ W : World, Calls Tryz.prog 66 #[.string ⟨l[k].x.toArray⟩] W fun e w' => e = .returned (.int .i64 (koL l[k].x)) ∧ w' = W) := fun W => kindof_any _ W
          clear hr
          generalize l[k] = u at TK2 hr2 cK
          obtain ⟨a0, a1, a2, a3, a4, a5, a6⟩ := TK2
          generalize (⟨u.x.toArray⟩ : ByteArray) = XT at a2 cK
          generalize koL u.x = K at cK hr2
          have hlt' : (k : Int) < n := by omega
          by_cases hK : K = 0
          · have hr3 : Hid (rdK [] l = none) := by have h := hr2.out; rwa [if_pos hK] at h
            have hE3 : Hid (rdD (t :: l) = none) := by have h := hE2.out; rw [hr3.out] at h; exact h
            subst hK
            clear hr2
            go_wp2_with fail
            refine (cK.out _).mono ?_
            rintro e' w2 ⟨rfl, rfl⟩
            clear cK
            dsimp only
            have hA : Below wr.heap.size wr (wr.alloc (.cells #[.int .i64 u.k, .int .i64 u.at_, .string XT, .int .i64 u.v.k, .int .i64 u.v.n, .int .i64 u.v.d, .string u.v.s] 93)) := by go_grown
            have hzA : wr.heap.size < (wr.alloc (.cells #[.int .i64 u.k, .int .i64 u.at_, .string XT, .int .i64 u.v.k, .int .i64 u.v.n, .int .i64 u.v.d, .string u.v.s] 93)).heap.size := by simp
            generalize wr.alloc (.cells #[.int .i64 u.k, .int .i64 u.at_, .string XT, .int .i64 u.v.k, .int .i64 u.v.n, .int .i64 u.v.d, .string u.v.s] 93) = W0 at hA hzA ⊢
            have HEV : Hid (W0.heap[w.heap.size + 1]? = some (.cells #[.string X1, .slice pV nV cV] 42 (0, 0))) := (hA.block _ hz9).trans hev.out
            have HRS : Hid (W0.heap[w.heap.size]? = some (.cells #[.string ⟨#[]⟩, .slice none 0 0] 42 (0, 0))) := (hA.block _ hz8).trans hres.out
            have HOW : Hid (W0.ownsRow (w.heap.size + 2) 3 1 (.slice pV nV cV) acc.length (kcells acc)) := own_belX hown.out hA
            have E1 : W0.cell? ⟨w.heap.size + 1, 1, none⟩ = some (.slice pV nV cV) := by rw [Lib.cell_of_heap HEV.out]; rfl
            have Q0 : W0.cell? ⟨w.heap.size, 0, none⟩ = some (.string ⟨#[]⟩) := by rw [Lib.cell_of_heap HRS.out]; rfl
            have Q1 : W0.cell? ⟨w.heap.size, 1, none⟩ = some (.slice none 0 0) := by rw [Lib.cell_of_heap HRS.out]; rfl
            have F0 : W0.frozen? ⟨w.heap.size, 0, none⟩ = false := Lib.frozen_of_heap HRS.out 0
            have F1 : W0.frozen? ⟨w.heap.size, 1, none⟩ = false := Lib.frozen_of_heap HRS.out 1
            have KB : Below w.heap.size w W0 := hB.trans (hA.mono hB.size)
            have KZ : w.heap.size + 2 ≤ W0.heap.size := by omega
            clear e0 e1 q0 q1 f0 f1
            have g0 : ((W0.setCell ⟨w.heap.size, 0, none⟩ (.string ⟨#[]⟩)).setCell ⟨w.heap.size, 1, none⟩ (.slice none 0 0)).cell? ⟨w.heap.size, 0, none⟩ = some (.string ⟨#[]⟩) := by simp (maxDischargeDepth := 8) [go_sem, Q0]
            have g1 : ((W0.setCell ⟨w.heap.size, 0, none⟩ (.string ⟨#[]⟩)).setCell ⟨w.heap.size, 1, none⟩ (.slice none 0 0)).cell? ⟨w.heap.size, 1, none⟩ = some (.slice none 0 0) := by simp (maxDischargeDepth := 8) [go_sem, Q1]
            have K9 : Below w.heap.size w ((W0.setCell ⟨w.heap.size, 0, none⟩ (.string ⟨#[]⟩)).setCell ⟨w.heap.size, 1, none⟩ (.slice none 0 0)) := (KB.setCell (p := ⟨w.heap.size, 0, none⟩) (Nat.le_refl _) _).setCell (p := ⟨w.heap.size, 1, none⟩) (Nat.le_refl _) _
            go_wp2
            generalize (W0.setCell ⟨w.heap.size, 0, none⟩ (.string ⟨#[]⟩)).setCell ⟨w.heap.size, 1, none⟩ (.slice none 0 0) = W9 at g0 g1 K9 ⊢
            refine bodyPost_ret (by simp [results, Tryz.results48, go_sem, g0, g1]; try rfl) rfl ?_
            exact DdOut.no K9 hE3.out rfl
          · have hr3 : Hid (rdK [] l = rdK (acc ++ [K]) (l.drop (k + 1))) := by have h := hr2.out; rwa [if_neg hK] at h
            have hK' : (K == 0) = false := by simpa using hK
            clear hr2
            go_wp2_with fail
            refine (cK.out _).mono ?_
            rintro e' w2 ⟨rfl, rfl⟩
            clear cK a0 a1 a2 a3 a4 a5 a6
            dsimp only
            have hA : Below wr.heap.size wr (wr.alloc (.cells #[.int .i64 u.k, .int .i64 u.at_, .string XT, .int .i64 u.v.k, .int .i64 u.v.n, .int .i64 u.v.d, .string u.v.s] 93)) := by go_grown
            have hzA : wr.heap.size < (wr.alloc (.cells #[.int .i64 u.k, .int .i64 u.at_, .string XT, .int .i64 u.v.k, .int .i64 u.v.n, .int .i64 u.v.d, .string u.v.s] 93)).heap.size := by simp
            generalize wr.alloc (.cells #[.int .i64 u.k, .int .i64 u.at_, .string XT, .int .i64 u.v.k, .int .i64 u.v.n, .int .i64 u.v.d, .string u.v.s] 93) = W0 at hA hzA ⊢
            have HEV : Hid (W0.heap[w.heap.size + 1]? = some (.cells #[.string X1, .slice pV nV cV] 42 (0, 0))) := (hA.block _ hz9).trans hev.out
            have HRS : Hid (W0.heap[w.heap.size]? = some (.cells #[.string ⟨#[]⟩, .slice none 0 0] 42 (0, 0))) := (hA.block _ hz8).trans hres.out
            have HOW : Hid (W0.ownsRow (w.heap.size + 2) 3 1 (.slice pV nV cV) acc.length (kcells acc)) := own_belX hown.out hA
            have E1 : W0.cell? ⟨w.heap.size + 1, 1, none⟩ = some (.slice pV nV cV) := by rw [Lib.cell_of_heap HEV.out]; rfl
            have Q0 : W0.cell? ⟨w.heap.size, 0, none⟩ = some (.string ⟨#[]⟩) := by rw [Lib.cell_of_heap HRS.out]; rfl
            have Q1 : W0.cell? ⟨w.heap.size, 1, none⟩ = some (.slice none 0 0) := by rw [Lib.cell_of_heap HRS.out]; rfl
            have F0 : W0.frozen? ⟨w.heap.size, 0, none⟩ = false := Lib.frozen_of_heap HRS.out 0
            have F1 : W0.frozen? ⟨w.heap.size, 1, none⟩ = false := Lib.frozen_of_heap HRS.out 1
            have KB : Below w.heap.size w W0 := hB.trans (hA.mono hB.size)
            have KZ : w.heap.size + 2 ≤ W0.heap.size := by omega
            clear e0 e1 q0 q1 f0 f1
            have hkb : acc.length ≤ 16384 := by have := HAC.out; omega
            go_wp2_with (at_builtin; refine wpList_append_own _ rfl _ _ 40 rfl (w.heap.size + 2) 3 i0 (.int .i64 0) 1 8 Tryz.underlying40 hi hz0 hz1 hz2 rfl (by decide) _ _ _ rfl (World.ownsRow.alloc HOW.out _) ⟨W0.heap.size, 0, none⟩ 1 1 [.int .i64 K] rfl rfl ?c1 ?c2 ?c3 ?c4 ?c5 ?_)
            case c1 => (intro j z hj; rw [Addr.add_lit]; (rcases j with _ | j) <;> simp at hj; subst hj; simp (maxDischargeDepth := 12) [go_sem])
            case c2 => (intro z hz; simp at hz; subst hz; rfl)
            case c3 => unfold maxLen; omega
            case c4 => omega
            case c5 => simp; omega
            intro v' w4 hown' hgrow _
            obtain ⟨pv2, mv2, cv2, rfl, z1, z2, z3, z4, z5, z6, z7⟩ := dk_step (w := w) (n := w.heap.size) (ev := w.heap.size + 1) (K := K) HEV.out (by omega) KZ KB (by omega) HOW.out hown' hgrow
            have Z3 : Hid ((w4.setCell ⟨w.heap.size + 1, 1, none⟩ (.slice pv2 mv2 cv2)).heap[w.heap.size + 1]? = some (.cells #[.string X1, .slice pv2 mv2 cv2] 42 (0, 0))) := z3
            have Z4 : Hid (OwnK (w.heap.size + 2) (.slice pv2 mv2 cv2) (acc ++ [K]) (w4.setCell ⟨w.heap.size + 1, 1, none⟩ (.slice pv2 mv2 cv2))) := z4
            have Z7 : Hid ((w4.setCell ⟨w.heap.size + 1, 1, none⟩ (.slice pv2 mv2 cv2)).heap[w.heap.size]? = some (.cells #[.string ⟨#[]⟩, .slice none 0 0] 42 (0, 0))) := (z7 w.heap.size (by omega) (by omega)).trans HRS.out
            have hl9 : (acc ++ [K]).length = k + 1 := by rw [List.length_append, HAC.out]; rfl
            have HL9 : Hid ((acc ++ [K]).length = k + 1) := hl9
            clear hown' hgrow z3 z4 z7 HEV HRS HOW hl9 hkb
            go_wp2
            exact ⟨⟨k + 1, acc ++ [K], .slice pv2 mv2 cv2, by omega, HL9.out, by go_num, hr3, Z3, Z7, Z4, z5, z6⟩, by simp [intOf]; omega⟩
        · have c2 : ¬ (k : Int) < n := by omega
          have hr3 : Hid (rdK [] l = some acc) := by
            have h := hr.out
            rw [List.drop_eq_nil_of_le (by have := en.out; omega)] at h
            exact h
          have hE3 : Hid (rdD (t :: l) = some ⟨X1, acc⟩) := by have h := hE2.out; rw [hr3.out] at h; exact h
          have g0 : ((wr.setCell ⟨w.heap.size, 0, none⟩ (.string X1)).setCell ⟨w.heap.size, 1, none⟩ (.slice pV nV cV)).cell? ⟨w.heap.size, 0, none⟩ = some (.string X1) := by simp (maxDischargeDepth := 8) [go_sem, q0]
          have g1 : ((wr.setCell ⟨w.heap.size, 0, none⟩ (.string X1)).setCell ⟨w.heap.size, 1, none⟩ (.slice pV nV cV)).cell? ⟨w.heap.size, 1, none⟩ = some (.slice pV nV cV) := by simp (maxDischargeDepth := 8) [go_sem, q1]
          have K9 : Below w.heap.size w ((wr.setCell ⟨w.heap.size, 0, none⟩ (.string X1)).setCell ⟨w.heap.size, 1, none⟩ (.slice pV nV cV)) := (hB.setCell (p := ⟨w.heap.size, 0, none⟩) (Nat.le_refl _) _).setCell (p := ⟨w.heap.size, 1, none⟩) (Nat.le_refl _) _
          have O9 : Hid (OwnK (w.heap.size + 2) (.slice pV nV cV) acc ((wr.setCell ⟨w.heap.size, 0, none⟩ (.string X1)).setCell ⟨w.heap.size, 1, none⟩ (.slice pV nV cV))) := ownsRow_setCell_below (ownsRow_setCell_below hown.out (a := ⟨w.heap.size, 0, none⟩) (by simp) _) (a := ⟨w.heap.size, 1, none⟩) (by simp) _
          go_wp2
          generalize (wr.setCell ⟨w.heap.size, 0, none⟩ (.string X1)).setCell ⟨w.heap.size, 1, none⟩ (.slice pV nV cV) = W9 at g0 g1 K9 O9 ⊢
          refine bodyPost_ret (by simp [results, Tryz.results48, go_sem, g0, g1]; try rfl) rfl ?_
          exact DdOut.yes K9 hE3.out O9.out rfl

end Go.Proofs.YticmebamclacaabGreatDoor

namespace Go.Proofs.YticmebamclacaabGreatDoor
open Go.RowKit LX Go.Shelf
set_option linter.unusedVariables false

/-- The cells of declarations of the call's own. -/
def DcC (B : Nat) (w : World) : List Dec → List Value → Prop
  | [], [] => True
  | e :: es, a :: b :: zs => a = .string e.name ∧ OwnK B b e.kinds w ∧ DcC B w es zs
  | _, _ => False
theorem DcC.snoc {B : Nat} {w : World} {es : List Dec} {zs : List Value} {e : Dec} {b : Value} (h : DcC B w es zs) (hb : OwnK B b e.kinds w) : DcC B w (es ++ [e]) (zs ++ [.string e.name, b]) := by
  induction es generalizing zs with
  | nil =>
    match zs, h with
    | [], _ => exact ⟨rfl, hb, trivial⟩
  | cons x es ih =>
    match zs, h with
    | a :: b' :: zs, h => exact ⟨h.1, h.2.1, ih h.2.2⟩
theorem DcC.mono {B : Nat} {w w' : World} (k : ∀ b xs, OwnK B b xs w → OwnK B b xs w') {es : List Dec} {zs : List Value} (h : DcC B w es zs) : DcC B w' es zs := by
  induction es generalizing zs with
  | nil =>
    match zs, h with
    | [], _ => trivial
  | cons x es ih =>
    match zs, h with
    | a :: b' :: zs, h => exact ⟨h.1, k _ _ h.2.1, ih h.2.2⟩
theorem DcC.get {B : Nat} {w : World} {es : List Dec} {zs : List Value} (h : DcC B w es zs) (i : Nat) (hi : i < es.length) : zs[i * 2]? = some (.string es[i].name) ∧ ∃ u, zs[i * 2 + 1]? = some u ∧ OwnK B u es[i].kinds w := by
  induction es generalizing zs i with
  | nil => simp at hi
  | cons x es ih =>
    match zs, h with
    | a :: b' :: zs, h =>
      cases i with
      | zero => exact ⟨by rw [h.1]; rfl, b', rfl, h.2.1⟩
      | succ i =>
        have g := ih h.2.2 i (by simpa using hi)
        rw [show (i + 1) * 2 = i * 2 + 2 by omega]
        exact g
theorem DcC.len {B : Nat} {w : World} {es : List Dec} {zs : List Value} (h : DcC B w es zs) : zs.length = es.length * 2 := by
  induction es generalizing zs with
  | nil =>
    match zs, h with
    | [], _ => rfl
  | cons x es ih =>
    match zs, h with
    | a :: b' :: zs, h => simp only [List.length_cons, ih h.2.2]; omega
/-- Declarations of the call's own. -/
def OwnG (B : Nat) (v : Value) (es : List Dec) (w : World) : Prop := ∃ zs, w.ownsRow B 42 2 v es.length zs ∧ DcC B w es zs
theorem OwnG.form {B : Nat} {v : Value} {es : List Dec} {w : World} (h : OwnG B v es w) : ∃ p c, v = .slice p es.length c := by
  obtain ⟨zs, ⟨-, ⟨e, hn⟩ | ⟨g, cap, cur, e, -⟩⟩, -⟩ := h
  · exact ⟨none, 0, by rw [e, hn]⟩
  · exact ⟨_, _, e⟩
theorem OwnG.at {B : Nat} {v : Value} {es : List Dec} {w : World} (h : OwnG B v es w) : SigAt w v es := by
  obtain ⟨zs, h, hc⟩ := h
  have h' := h
  obtain ⟨hl, ⟨e, hn⟩ | ⟨g, cap, cur, rfl, hg1, hg2, hg3, hg4⟩⟩ := h
  · exact ⟨none, 0, by rw [e, hn], by omega, Or.inl (List.length_eq_zero_iff.1 hn)⟩
  · refine ⟨_, _, rfl, by omega, Or.inr ⟨g, 0, rfl, (Array.getElem?_eq_some_iff.1 hg2).1, fun i hi => ?_⟩⟩
    obtain ⟨c0, u, c1, ho⟩ := hc.get i hi
    refine ⟨u, ?_, ?_, ho.at⟩
    · rw [Nat.zero_add, h'.cellAt _ (by omega)]; exact c0
    · rw [Nat.zero_add, h'.cellAt _ (by omega)]; exact c1
theorem OwnG.below {B : Nat} {v : Value} {es : List Dec} {w w' : World} (h : OwnG B v es w) (hb : Below w.heap.size w w') : OwnG B v es w' := by
  obtain ⟨zs, h, hc⟩ := h
  exact ⟨zs, own_belX h hb, hc.mono fun b xs k => own_belX k hb⟩

/-- One declaration more. -/
theorem sig_step {w2 w4 : World} {B : Nat} {v v' u : Value} {es : List Dec} {e : Dec} {zs : List Value} (h2 : B ≤ w2.heap.size) (ho : w2.ownsRow B 42 2 v es.length zs) (hc : DcC B w2 es zs) (hu : OwnK B u e.kinds w2)
    (h4 : w4.ownsRow B 42 2 v' (es.length + 1) (zs ++ [.string e.name, u])) (hg : w2.grownBy w4 v.ownBlock) : OwnG B v' (es ++ [e]) w4 := by
  refine ⟨zs ++ [.string e.name, u], by rw [List.length_append]; exact h4, ?_⟩
  have k : ∀ b xs, OwnK B b xs w2 → OwnK B b xs w4 := fun b xs hb => World.ownsRow.kept hb hg (own_ne2X hb ho (by decide))
  exact (hc.mono k).snoc (k _ _ hu)


theorem inD : (Tryz.prog.info? 42).map (fun i => (i.zero, i.size, i.bytes)) = some (some (.agg #[.string ⟨#[]⟩, .slice none 0 0]), 2, 40) := by kernel_rfl
/-- A signature, and a line's tokens: an error's number, or the declaration more. -/
def wdD (A : List Dec) : Option Dec → Int × List Dec
  | none => (70, [])
  | some d => if 6 < d.kinds.length ∨ A.length = 32 then (3, []) else if 0 ≤ findI d.name A 0 then (1, []) else (0, A ++ [d])
/-- What withDecl answers. -/
def WdOut (B : Nat) (w : World) (D : Int × List Dec) (r : Ending) (w' : World) : Prop := Below B w w' ∧ ∃ p c, r = .returned (.tuple #[.slice p D.2.length c, errV D.1]) ∧ OwnG B (.slice p D.2.length c) D.2 w'
theorem WdOut.no {B : Nat} {w w' : World} {D : Int × List Dec} {r : Ending} {E : Int} {v : Value} (hb : Below B w w') (h : D = (E, [])) (hv : v = errV E) (hr : r = .returned (.tuple #[.slice none 0 0, v])) : WdOut B w D r w' := by
  subst h hv
  exact ⟨hb, none, 0, hr, [], ⟨rfl, .inl ⟨rfl, rfl⟩⟩, trivial⟩
theorem WdOut.yes {B : Nat} {w w' : World} {D : Int × List Dec} {r : Ending} {es : List Dec} {p : Option Addr} {m c : Nat} (hb : Below B w w') (h : D = (0, es)) (hm : m = es.length) (ho : OwnG B (.slice p m c) es w') (hr : r = .returned (.tuple #[.slice p m c, .nilIface])) : WdOut B w D r w' := by
  subst h hm
  exact ⟨hb, p, c, hr, ho⟩

set_option maxRecDepth 100000 in
set_option maxHeartbeats 2000000 in
theorem wdecl_any (B : Nat) (A V : Value) (L : List Dec) (t : Tok Val) (l : List (Tok Val)) (w : World) (hB : B ≤ w.heap.size) (hA : OwnG B A L w) (hV : ToksAt w V (t :: l)) (lL : (t :: l).length ≤ 16384) (lA : L.length ≤ 32) :
    Calls Tryz.prog 31 #[A, V] w fun r w' => WdOut B w (wdD L (rdD (t :: l))) r w' := by
  have HA : Hid (OwnG B A L w) := hA
  have cR : Hid (Calls Tryz.prog 48 #[V] w fun r w' => DdOut w.heap.size w (t :: l) r w') := rddecl_any V t l w hV lL
  obtain ⟨i0, hi, hz0, hz1, hz2⟩ := info_parts inD
  obtain ⟨pa, ca, rfl⟩ := hA.form
  obtain ⟨pt, ct, rfl, -⟩ := hV.form
  clear hA hV lL
  generalize hO : rdD (t :: l) = O
  have HO : Hid (rdD (t :: l) = O) := hO
  clear hO
  obtain ⟨D, eD⟩ : ∃ D, Hid (wdD L O = D) := ⟨_, rfl⟩
  obtain ⟨m, em⟩ : ∃ m : Nat, Hid (L.length = m) := ⟨_, rfl⟩
  generalize (t :: l).length = nt at *
  rw [eD.out]
  rw [em.out] at HA lA ⊢
  go_enter Tryz.func31, Tryz.ntmps31
  go_wp2_with fail
  refine cR.out.mono ?_
  rintro r w1 ⟨hB1, ⟨hn, rfl⟩ | ⟨d, p, c, hsome, rfl, hown⟩⟩
  · have hE : Hid (D = (70, [])) := by rw [← eD.out, ← HO.out, hn]; rfl
    have K1 : Below B w w1 := hB1.mono hB
    clear cR hn HO eD
    go_wp2
    go_ret2
    exact WdOut.no (K1.alloc (Nat.le_trans hB hB1.size) _) hE.out rfl rfl
  · have hE0 : Hid (D = if 6 < d.kinds.length ∨ L.length = 32 then (3, []) else if 0 ≤ findI d.name L 0 then (1, []) else (0, L ++ [d])) := by rw [← eD.out, ← HO.out, hsome]; rfl
    have HA1 : Hid (OwnG B (.slice pa m ca) L w1) := HA.out.below hB1
    have HK1 : Hid (OwnK B (.slice p d.kinds.length c) d.kinds w1) := own_baseX hown (by omega)
    have K1 : Below B w w1 := hB1.mono hB
    have z1 : B ≤ w1.heap.size := Nat.le_trans hB hB1.size
    have cF : Hid (∀ W : World, Below w1.heap.size w1 W → Calls Tryz.prog 39 #[.slice pa m ca, .string d.name] W fun e' w' => e' = .returned (.int .i64 (findI d.name L 0)) ∧ Below W.heap.size W w') := fun W hW => find_any _ L d.name W (HA1.out.at.below hW) (by have := em.out; omega)
    clear cR hsome HO eD hown HA hB1
    obtain ⟨nk, enk⟩ : ∃ nk : Nat, Hid (d.kinds.length = nk) := ⟨_, rfl⟩
    obtain ⟨X, eX⟩ : ∃ X : ByteArray, Hid (d.name = X) := ⟨_, rfl⟩
    obtain ⟨I, eI⟩ : ∃ I : Int, Hid (findI X L 0 = I) := ⟨_, rfl⟩
    rw [enk.out, em.out, eX.out, eI.out] at hE0
    rw [eX.out, eI.out] at cF
    rw [enk.out] at HK1
    rw [enk.out, eX.out]
    by_cases h6 : 6 < nk
    · have hE : Hid (D = (3, [])) := by have h := hE0.out; rwa [if_pos (Or.inl h6)] at h
      have h6' : (6 : Int) < nk := by omega
      clear hE0 cF
      go_wp2
      go_ret2
      exact WdOut.no (K1.alloc z1 _) hE.out rfl rfl
    · have h6' : ¬ (6 : Int) < nk := by omega
      by_cases h32 : m = 32
      · have hE : Hid (D = (3, [])) := by have h := hE0.out; rwa [if_pos (Or.inr h32)] at h
        subst h32
        clear hE0 cF
        go_wp2
        go_ret2
        exact WdOut.no (K1.alloc z1 _) hE.out rfl rfl
      · have hE1 : Hid (D = if 0 ≤ I then (1, []) else (0, L ++ [d])) := by have h := hE0.out; rwa [if_neg (by omega)] at h
        have h32' : ((m : Int) == 32) = false := by simp; omega
        clear hE0
        go_wp2_with fail
        refine (cF.out _ (by go_grown)).mono ?_
        rintro e' w2 ⟨rfl, hb2⟩
        have d0 : w2.cell? ⟨w1.heap.size, 0, none⟩ = some (.string X) := (hb2.cell (p := ⟨w1.heap.size, 0, none⟩) (by simp)).trans (by simp [go_sem])
        have d1 : w2.cell? ⟨w1.heap.size, 1, none⟩ = some (.slice p nk c) := (hb2.cell (p := ⟨w1.heap.size, 1, none⟩) (by simp)).trans (by simp [go_sem])
        obtain ⟨hB2, -⟩ := bgX (n := w1.heap.size) (W0 := w1) (by go_grown) (by go_size) hb2
        have K2 : Below B w w2 := K1.trans (hB2.mono z1)
        have z2 : B ≤ w2.heap.size := Nat.le_trans z1 hB2.size
        have HA2 : Hid (OwnG B (.slice pa m ca) L w2) := HA1.out.below hB2
        have HK2 : Hid (OwnK B (.slice p nk c) d.kinds w2) := own_belX HK1.out hB2
        clear hb2 hB2 cF HA1 HK1
        by_cases hI : 0 ≤ I
        · have hE : Hid (D = (1, [])) := by have h := hE1.out; rwa [if_pos hI] at h
          clear hE1
          go_wp2
          go_ret2
          exact WdOut.no K2 hE.out rfl rfl
        · have hE : Hid (D = (0, L ++ [d])) := by have h := hE1.out; rwa [if_neg hI] at h
          have hI' : I < 0 := by omega
          clear hE1
          obtain ⟨zs, ho, hcc⟩ := HA2.out
          have HC2 : Hid (w2.ownsRow B 42 2 (.slice pa m ca) m zs) := by have h := ho; rwa [em.out] at h
          have HCC : Hid (DcC B w2 L zs) := hcc
          clear ho hcc HA2
          go_wp2_with (at_builtin; refine wpList_append_own _ rfl _ _ 22 rfl B 42 i0 (.agg #[.string ⟨#[]⟩, .slice none 0 0]) 2 40 Tryz.underlying22 hi hz0 hz1 hz2 rfl (by decide) _ _ _ rfl (World.ownsRow.alloc HC2.out _) ⟨w2.heap.size, 0, none⟩ 1 1 [.string X, .slice p nk c] rfl rfl ?c1 ?c2 ?c3 ?c4 ?c5 ?_)
          case c1 => (intro j u hj; rw [Addr.add_lit]; (rcases j with _ | _ | j) <;> simp at hj <;> subst hj <;> simp (maxDischargeDepth := 12) [go_sem])
          case c2 => (intro u hu; simp at hu; rcases hu with rfl | rfl <;> rfl)
          case c3 => unfold maxLen; omega
          case c4 => omega
          case c5 => simp; omega
          intro v' w4 hown' hgrow _
          have hA1 : Below B w (w2.alloc (.cells #[.string X, .slice p nk c] 42)) := K2.alloc z2 _
          have K4 : Below B w w4 := Below.grown hA1 hgrow (by simp; omega) (fun q hq => (World.ownsRow.lt HC2.out q hq).1)
          have HO4 : Hid (OwnG B v' (L ++ [d]) w4) := by
            refine sig_step (zs := zs) (u := .slice p nk c) (by simp; omega) (World.ownsRow.alloc (by rw [em.out]; exact HC2.out) _) (HCC.out.mono fun b xs k => World.ownsRow.alloc k _) (World.ownsRow.alloc HK2.out _) ?_ hgrow
            rw [em.out, eX.out]
            exact hown'
          clear hown' hgrow hA1 HC2 HCC HK2
          obtain ⟨pv, cv, rfl⟩ := HO4.out.form
          obtain ⟨n9, en9⟩ : ∃ n9 : Nat, Hid ((L ++ [d]).length = n9) := ⟨_, rfl⟩
          rw [en9.out] at HO4 ⊢
          go_wp2
          go_ret2
          exact WdOut.yes K4 hE.out en9.out.symm HO4.out rfl

end Go.Proofs.YticmebamclacaabGreatDoor



namespace Go.Proofs.YticmebamclacaabGreatDoor
open Go.RowKit Go.Shelf
set_option linter.unusedVariables false

theorem inS : (Tryz.prog.info? 9).map (fun i => (i.zero, i.size, i.bytes)) = some (some (.string ByteArray.empty), 1, 16) := by kernel_rfl
/-- The lines of a text. -/
def linesB (s : ByteArray) : List ByteArray := Lib.splitB ⟨#[10]⟩ 0 (Lib.countB s ⟨#[10]⟩) s
theorem linesB_len (s : ByteArray) : (linesB s).length = Lib.countB s ⟨#[10]⟩ + 1 := Lib.splitB_all ⟨#[10]⟩ (by decide) 0 _ s rfl

set_option maxHeartbeats 1000000 in
theorem lines_any (s : ByteArray) (w : World) (hs : s.size ≤ 16384) :
    Calls Tryz.prog 29 #[.string s, .string ⟨#[10]⟩] w fun e w' => e = .returned (.slice (some ⟨w.heap.size, 0, none⟩) (linesB s).length (linesB s).length) ∧ w' = w.alloc (.cells ((linesB s).map Value.string).toArray 9) := by
  have hlen := linesB_len s
  have hC : Calls Tryz.prog 63 #[.string s, .string ⟨#[10]⟩] w fun e w' => e = .returned (.int .i64 (Lib.countB s ⟨#[10]⟩)) ∧ w' = w := by
    refine (Tryz.strings_Count_one s 10 w).mono fun e w' ⟨he, hw⟩ => ⟨?_, hw⟩
    rw [he]
    show _ = Ending.returned (Value.int .i64 ((Lib.count s.data.toList [10] : Nat) : Int))
    rw [Lib.count_one]
    rfl
  have hI : ∀ (x : ByteArray) (c : Array Value), x.size ≤ s.size → Calls Tryz.prog 64 #[.string x, .string ⟨#[10]⟩] (w.alloc (.cells c 9)) fun e w' => e = .returned (.int .i64 (Lib.indexB x ⟨#[10]⟩)) ∧ w' = w.alloc (.cells c 9) := fun x c hx => by
    refine (Tryz.strings_Index_one x 10 _).mono fun e w' ⟨he, hw⟩ => ⟨?_, hw⟩
    rw [he]
    show _ = Ending.returned (Value.int .i64 (Lib.index x.data.toList [10]))
    rw [Lib.index_one]
  have hle := Lib.countB_le ⟨#[10]⟩ (by decide) s.size s (Nat.le_refl _)
  have c := Any.strings_genSplit_core Tryz.lays221 inS s ⟨#[10]⟩ 0 (-1) (Lib.countB s ⟨#[10]⟩ + 1) w (by omega) (by decide) (Nat.zero_le _) hI hC (by decide) (by decide) (by rw [if_pos (by decide)]; omega)
  rw [Nat.add_sub_cancel] at c
  have e2 : Lib.cellsOf (Lib.splitB ⟨#[10]⟩ 0 (Lib.countB s ⟨#[10]⟩) s) (Lib.countB s ⟨#[10]⟩ + 1) = ((linesB s).map Value.string).toArray := by rw [← hlen]; exact Lib.cellsOf_full _
  rw [e2] at c
  have c' : Hid (Calls Tryz.prog 45 #[.string s, .string ⟨#[10]⟩, .int .i64 0, .int .i64 (-1)] w fun e w' => e = .returned (.slice (some ⟨w.heap.size, 0, none⟩) (linesB s).length (linesB s).length) ∧ w' = w.alloc (.cells ((linesB s).map Value.string).toArray 9)) := by
    rw [hlen]
    have h := c
    rw [show (Lib.splitB ⟨#[10]⟩ 0 (Lib.countB s ⟨#[10]⟩) s).length = Lib.countB s ⟨#[10]⟩ + 1 from hlen] at h
    exact h
  clear c e2 hle hI hC hlen
  generalize (linesB s).length = n at c' ⊢
  generalize ((linesB s).map Value.string).toArray = cs at c' ⊢
  go_enter Tryz.func29, Tryz.ntmps29
  go_wp2_with fail
  refine c'.out.mono ?_
  rintro e w' ⟨rfl, rfl⟩
  clear c'
  go_wp2
  go_ret
  exact ⟨rfl, rfl⟩
end Go.Proofs.YticmebamclacaabGreatDoor

namespace Go.Proofs.YticmebamclacaabGreatDoor
open Go.RowKit LX Go.Shelf
set_option linter.unusedVariables false

/-- What lines say behind a signature: an error's number, its line, the declarations. -/
def rdT (A : List Dec) : List (Tok Val) → Int × List Dec
  | [] => (0, A)
  | t :: l => wdD A (rdD (t :: l))
def rdS (A : List Dec) (i : Nat) : List ByteArray → Int × Int × List Dec
  | [] => (0, 0, A)
  | x :: ls => if cutE x = 0 then (if (rdT A (tks x)).1 = 0 then rdS (rdT A (tks x)).2 (i + 1) ls else ((rdT A (tks x)).1, (i : Int) + 1, [])) else (cutE x, (i : Int) + 1, [])
/-- What a text says. -/
def rsg (s : ByteArray) : Int × Int × List Dec := if 16384 < s.size then (2, 0, []) else rdS [] 0 (linesB s)
theorem wdD_len {A : List Dec} {o : Option Dec} (hA : A.length ≤ 32) : (wdD A o).2.length ≤ 32 := by
  unfold wdD
  cases o with
  | none => simp
  | some d =>
    dsimp only
    by_cases h1 : 6 < d.kinds.length ∨ A.length = 32
    · rw [if_pos h1]; simp
    · rw [if_neg h1]
      by_cases h2 : 0 ≤ findI d.name A 0
      · rw [if_pos h2]; simp
      · rw [if_neg h2]; simp; omega
theorem tks_len {s : ByteArray} (h : cutE s = 0) : (tks s).length ≤ 4096 := by
  unfold cutE at h
  have h1 : ¬ 4096 < s.size := fun hh => by rw [if_pos hh] at h; cases h
  have h2 := T_lenX s.data.toList.length s.data.toList (Nat.le_refl _) 0
  have h3 : s.data.toList.length = s.size := by simp
  unfold tks
  omega
theorem OwnG.base {N N' : Nat} {w : World} {v : Value} {es : List Dec} (h : OwnG N' v es w) (hN : N ≤ N') : OwnG N v es w := by
  obtain ⟨zs, h1, h2⟩ := h
  refine ⟨zs, own_baseX h1 hN, ?_⟩
  clear h1
  induction es generalizing zs with
  | nil =>
    match zs, h2 with
    | [], _ => trivial
  | cons x es ih =>
    match zs, h2 with
    | a :: b :: zs, h2 => exact ⟨h2.1, own_baseX h2.2.1 hN, ih zs h2.2.2⟩
/-- The error that readSignature answers. -/
def sgV (E l : Int) : Value := if E = 0 then .nilIface else if l = 0 then .iface 74 (.agg #[.int .i64 E]) else lineV l E
/-- What readSignature answers. -/
def SgOut (N : Nat) (w : World) (D : Int × Int × List Dec) (r : Ending) (w' : World) : Prop := Below N w w' ∧ ∃ p c, r = .returned (.tuple #[.slice p D.2.2.length c, sgV D.1 D.2.1]) ∧ OwnG N (.slice p D.2.2.length c) D.2.2 w'
theorem SgOut.no {N : Nat} {w w' : World} {D : Int × Int × List Dec} {r : Ending} {E l : Int} {v : Value} (hb : Below N w w') (h : D = (E, l, [])) (hv : v = sgV E l) (hr : r = .returned (.tuple #[.slice none 0 0, v])) : SgOut N w D r w' := by
  subst h hv
  exact ⟨hb, none, 0, hr, [], ⟨rfl, .inl ⟨rfl, rfl⟩⟩, trivial⟩
theorem SgOut.yes {N : Nat} {w w' : World} {D : Int × Int × List Dec} {r : Ending} {es : List Dec} {p : Option Addr} {m c : Nat} (hb : Below N w w') (h : D = (0, 0, es)) (hm : m = es.length) (ho : OwnG N (.slice p m c) es w') (hr : r = .returned (.tuple #[.slice p m c, .nilIface])) : SgOut N w D r w' := by
  subst h hm
  exact ⟨hb, p, c, hr, ho⟩
theorem sgV_line {E : Int} {i : Nat} (h : ¬ E = 0) : sgV E ((i : Int) + 1) = lineV ((i : Int) + 1) E := by
  unfold sgV
  rw [if_neg h, if_neg (by omega)]

set_option maxRecDepth 100000 in
set_option maxHeartbeats 2000000 in
theorem rdsig_any (s : ByteArray) (w : World) (ht : Pow w) (he : Errs w) (h8 : 9 ≤ w.heap.size) :
    Calls Tryz.prog 20 #[.string s] w fun r w' => SgOut w.heap.size w (rsg s) r w' := by
  by_cases h : 16384 < s.size
  · have hE : Hid (rsg s = (2, 0, [])) := if_pos h
    have h' : (16384 : Int) < s.size := by omega
    generalize rsg s = D at *
    go_enter Tryz.func20, Tryz.ntmps20
    go_wp2
    go_ret2
    exact SgOut.no (Below.refl _ _) hE.out rfl rfl
  · have hE : Hid (rsg s = rdS [] 0 (linesB s)) := if_neg h
    have h' : ¬ (16384 : Int) < s.size := by omega
    have cS : Hid (Calls Tryz.prog 29 #[.string s, .string ⟨#[10]⟩] w fun e w' => e = .returned (.slice (some ⟨w.heap.size, 0, none⟩) (linesB s).length (linesB s).length) ∧ w' = w.alloc (.cells ((linesB s).map Value.string).toArray 9)) := lines_any s w (by omega)
    have cC : Hid (∀ (x : ByteArray) (W : World), Below w.heap.size w W → Calls Tryz.prog 30 #[.string x] W fun r w' => ∃ p n c, r = .returned (.tuple #[.slice p n c, errV (cutE x)]) ∧ Below W.heap.size W w' ∧ (cutE x = 0 → ToksAt w' (.slice p n c) (tks x))) := fun x W hW => cut_any x W (ht.below hW) (he.below hW h8) (Nat.le_trans h8 hW.size)
    have hln : (linesB s).length ≤ 16385 := by
      rw [linesB_len]
      have := Lib.countB_le ⟨#[10]⟩ (by decide) s.size s (Nat.le_refl _)
      omega
    clear h ht he h8
    generalize rsg s = D at *
    generalize linesB s = LS at *
    obtain ⟨n, en⟩ : ∃ n : Nat, Hid (LS.length = n) := ⟨_, rfl⟩
    rw [en.out] at cS hln
    go_enter Tryz.func20, Tryz.ntmps20
    go_wp2_with fail
    refine cS.out.mono ?_
    rintro e w1 ⟨rfl, hw1⟩
    have HC : Hid (∀ i (hi : i < LS.length), w1.cell? ⟨w.heap.size, i, none⟩ = some (.string LS[i])) := fun i hi => by
      rw [hw1, World.cell?_alloc_at _ _ _ _ rfl]
      simp [hi]
    have hB1 : Below w.heap.size w w1 := by rw [hw1]; go_grown
    have hs1 : w1.heap.size = w.heap.size + 1 := by rw [hw1]; simp
    have HS1 : Hid (w1.heap.size = w.heap.size + 1) := hs1
    have z1 : w.heap.size < w1.heap.size := by omega
    clear hw1 cS hs1
    go_wp2
    go_loopw [4, 17] (fun v4 v17 wr => ∃ (k : Nat) (A : List Dec), k ≤ n ∧ v17 = .int .i64 k ∧ Hid (D = rdS A k (LS.drop k)) ∧ A.length ≤ 32 ∧ Hid (OwnG w1.heap.size v4 A wr) ∧ Below w1.heap.size w1 wr) (fun _ v17 _ => n - (intOf v17).toNat)
    case atStart => exact ⟨0, [], Nat.zero_le _, rfl, by rw [List.drop_zero]; exact hE, by simp, ⟨[], ⟨rfl, .inl ⟨rfl, rfl⟩⟩, trivial⟩, Below.refl _ _⟩
    case round =>
      obtain ⟨k, A, hk, rfl, hr, hA, hO, hB⟩ := hrel
      obtain ⟨p4, c4, rfl⟩ := hO.out.form
      have KW : Below w.heap.size w wr := hB1.trans (hB.mono hB1.size)
      by_cases hlt : k < n
      · have kx : k < LS.length := by have := en.out; omega
        have a0 := (hB.cell (p := ⟨w.heap.size, k, none⟩) z1).trans (HC.out k kx)
        have hr2 : Hid (D = if cutE LS[k] = 0 then (if (rdT A (tks LS[k])).1 = 0 then rdS (rdT A (tks LS[k])).2 (k + 1) (LS.drop (k + 1)) else ((rdT A (tks LS[k])).1, (k : Int) + 1, [])) else (cutE LS[k], (k : Int) + 1, [])) := by
          have h := hr.out
          rw [List.drop_eq_getElem_cons kx] at h
          exact h
        have ct := cC.out LS[k] wr KW
        have hTl := @tks_len LS[k]
        clear hr
        generalize LS[k] = x at a0 hr2 ct hTl
        have CT : Hid (Calls Tryz.prog 30 #[.string x] wr fun r w' => ∃ p n c, r = .returned (.tuple #[.slice p n c, errV (cutE x)]) ∧ Below wr.heap.size wr w' ∧ (cutE x = 0 → ToksAt w' (.slice p n c) (tks x))) := ct
        have HTL : Hid (cutE x = 0 → (tks x).length ≤ 4096) := hTl
        clear ct hTl
        generalize cutE x = C at hr2 CT HTL
        generalize tks x = TL at hr2 CT HTL
        have hlt' : (k : Int) < n := by omega
        have zr : w1.heap.size ≤ wr.heap.size := hB.size
        obtain ⟨m, em⟩ : ∃ m : Nat, Hid (A.length = m) := ⟨_, rfl⟩
        have HO : Hid (OwnG w1.heap.size (.slice p4 m c4) A wr) := by have h := hO.out; rwa [em.out] at h
        rw [em.out] at hA ⊢
        clear hO
        by_cases hC : C = 0
        · have hr3 : Hid (D = if (rdT A TL).1 = 0 then rdS (rdT A TL).2 (k + 1) (LS.drop (k + 1)) else ((rdT A TL).1, (k : Int) + 1, [])) := by have h := hr2.out; rwa [if_pos hC] at h
          have l4 := HTL.out hC
          subst hC
          rw [errV_0] at CT
          clear hr2 HTL
          go_wp2_with fail
          refine CT.out.mono ?_
          rintro r w2 ⟨p, nt, c, rfl, hB2, hT⟩
          have hT2 := hT (by first | trivial | rfl)
          have K2 : Below w1.heap.size w1 w2 := hB.trans (hB2.mono zr)
          have HO2 : Hid (OwnG w1.heap.size (.slice p4 m c4) A w2) := HO.out.below hB2
          have z2 : w1.heap.size ≤ w2.heap.size := Nat.le_trans zr hB2.size
          obtain ⟨p', c', e9, -⟩ := hT2.form
          injection e9 with e1 e2 e3
          subst e1 e2 e3
          clear CT HO hT a0
          cases TL with
          | nil =>
            have hr4 : Hid (D = rdS A (k + 1) (LS.drop (k + 1))) := hr3.out
            simp only [List.length_nil]
            clear hr3 hT2 l4
            go_wp2
            exact ⟨⟨k + 1, A, by omega, by go_num, hr4, by have := em.out; omega, by rw [← em.out] at HO2 ⊢; exact HO2, K2⟩, by simp [intOf]; omega⟩
          | cons t l =>
            have cW : Hid (Calls Tryz.prog 31 #[.slice p4 m c4, .slice p (t :: l).length c] w2 fun r w' => WdOut w1.heap.size w2 (wdD A (rdD (t :: l))) r w') := wdecl_any w1.heap.size _ _ A t l w2 z2 HO2.out hT2 (by omega) (by have := em.out; omega)
            have hr4 : Hid (D = if (wdD A (rdD (t :: l))).1 = 0 then rdS (wdD A (rdD (t :: l))).2 (k + 1) (LS.drop (k + 1)) else ((wdD A (rdD (t :: l))).1, (k : Int) + 1, [])) := hr3.out
            have hwl : (wdD A (rdD (t :: l))).2.length ≤ 32 := wdD_len (by have := em.out; omega)
            have hnl : (0 : Int) < (t :: l).length := by first | (simp; done) | (simp; omega)
            generalize (t :: l).length = nl at *
            generalize wdD A (rdD (t :: l)) = G at cW hr4 hwl
            obtain ⟨E, G2⟩ := G
            dsimp only at hr4 hwl
            clear hr3 hT2 HO2
            go_wp2_with fail
            refine cW.out.mono ?_
            rintro r w3 ⟨hB3, p3, c3, rfl, ho3⟩
            have K3 : Below w1.heap.size w1 w3 := K2.trans hB3
            dsimp only at ho3 ⊢
            have HO3 : Hid (OwnG w1.heap.size (.slice p3 G2.length c3) G2 w3) := ho3
            clear cW ho3 hB3
            obtain ⟨g2, eg2⟩ : ∃ g2 : Nat, Hid (G2.length = g2) := ⟨_, rfl⟩
            rw [eg2.out] at HO3 ⊢
            by_cases hEz : E = 0
            · have hr5 : Hid (D = rdS G2 (k + 1) (LS.drop (k + 1))) := by have h := hr4.out; rwa [if_pos hEz] at h
              subst hEz
              rw [errV_0]
              clear hr4
              go_wp2
              exact ⟨⟨k + 1, G2, by omega, by go_num, hr5, hwl, by rw [← eg2.out] at HO3 ⊢; exact HO3, K3⟩, by simp [intOf]; omega⟩
            · have hr5 : Hid (D = (E, (k : Int) + 1, [])) := by have h := hr4.out; rwa [if_neg hEz] at h
              have hd : Hid (errV E = .iface 74 (.agg #[.int .i64 E])) := errV_ne hEz
              have hv : Hid (sgV E ((k : Int) + 1) = lineV ((k : Int) + 1) E) := sgV_line hEz
              rw [hd.out]
              clear hr4 hEz
              go_wp2
              go_ret2
              exact SgOut.no (hB1.trans (K3.mono hB1.size)) hr5.out hv.out.symm rfl
        · have hr3 : Hid (D = (C, (k : Int) + 1, [])) := by have h := hr2.out; rwa [if_neg hC] at h
          have hd : Hid (errV C = .iface 74 (.agg #[.int .i64 C])) := errV_ne hC
          have hv : Hid (sgV C ((k : Int) + 1) = lineV ((k : Int) + 1) C) := sgV_line hC
          rw [hd.out] at CT
          clear hr2 hC HTL
          go_wp2_with fail
          refine CT.out.mono ?_
          rintro r w2 ⟨p, nt, c, rfl, hB2, -⟩
          have K2 : Below w.heap.size w w2 := KW.trans (hB2.mono KW.size)
          clear CT a0
          go_wp2
          go_ret2
          exact SgOut.no K2 hr3.out hv.out.symm rfl
      · have c2 : ¬ (k : Int) < n := by omega
        have hr3 : Hid (D = (0, 0, A)) := by
          have h := hr.out
          rw [List.drop_eq_nil_of_le (by have := en.out; omega)] at h
          exact h
        obtain ⟨m, em⟩ : ∃ m : Nat, Hid (A.length = m) := ⟨_, rfl⟩
        have HO : Hid (OwnG w.heap.size (.slice p4 m c4) A wr) := by have h := hO.out; rw [em.out] at h; exact h.base (Nat.le_of_lt z1)
        rw [em.out]
        clear hO
        go_wp2
        go_ret2
        exact SgOut.yes KW hr3.out em.out.symm HO.out rfl

end Go.Proofs.YticmebamclacaabGreatDoor

namespace Go.Proofs.YticmebamclacaabGreatDoor
open Go.RowKit Go.Shelf
set_option linter.unusedVariables false

/-- A text ahead of the first line. -/
def onto (x : List UInt8) : List (List UInt8) → List (List UInt8)
  | [] => [x]
  | y :: r => (x ++ y) :: r
/-- A text's lines: what stands ahead of each byte 10, and behind the last. -/
def fl : List UInt8 → List (List UInt8)
  | [] => [[]]
  | c :: t => if c = 10 then [] :: fl t else onto [c] (fl t)
theorem fl_split : ∀ (s : List UInt8) (k : Nat), Lib.count s [10] = k → Lib.splitK [10] 0 k s = fl s
  | [], k, h => by
    have : Lib.count [] [10] = 0 := by rw [Lib.count_one]; rfl
    rw [this] at h
    subst h
    rfl
  | c :: t, k, h => by
    by_cases hc : c = 10
    · subst hc
      rw [Lib.count_cons_eq] at h
      obtain ⟨j, rfl⟩ : ∃ j, k = j + 1 := ⟨k - 1, by omega⟩
      have ih := fl_split t j (by omega)
      have hi : Lib.index (10 :: t) [10] = 0 := by rw [Lib.index_one]; unfold Lib.indexByte; simp
      unfold Lib.splitK
      rw [hi]
      unfold fl
      rw [if_pos rfl, ← ih]
      simp
    · rw [Lib.count_cons_ne _ _ _ hc] at h
      have hi : Lib.index (c :: t) [10] = if Lib.index t [10] = -1 then -1 else Lib.index t [10] + 1 := by
        rw [Lib.index_one, Lib.index_one]
        conv => lhs; unfold Lib.indexByte
        rw [if_neg (by simpa using hc)]
        by_cases h1 : Lib.indexByte t 10 = -1
        · rw [if_pos h1, if_pos (by simpa using h1)]
        · rw [if_neg h1, if_neg (by simpa using h1)]
      have ih := fl_split t k h
      have hf : fl (c :: t) = onto [c] (fl t) := by
        show (if c = 10 then _ else _) = _
        rw [if_neg hc]
      rw [hf, ← ih]
      cases k with
      | zero => rfl
      | succ j =>
        have hge := Lib.indexByte_ge t 10
        rw [← Lib.index_one] at hge
        have hm : ¬ Lib.index t [10] = -1 := fun e => by rw [Lib.count_miss e] at h; omega
        rw [if_neg hm] at hi
        unfold Lib.splitK
        rw [if_neg (by rw [hi]; simp; omega), if_neg (by simpa using hm), hi]
        obtain ⟨q, hq⟩ : ∃ q : Nat, Lib.index t [10] = q := ⟨(Lib.index t [10]).toNat, by omega⟩
        rw [hq, show ((q : Int) + 1).toNat = q + 1 by omega, show ((q : Int)).toNat = q by omega]
        simp [onto]
theorem linesB_fl (s : ByteArray) : (linesB s).map (·.data.toList) = fl s.data.toList := by
  unfold linesB
  rw [Lib.splitB_data]
  exact fl_split s.data.toList _ rfl
theorem linesB_eq (s : ByteArray) : linesB s = (fl s.data.toList).map fun l => ⟨l.toArray⟩ := by
  rw [← linesB_fl, List.map_map]
  conv => lhs; rw [← List.map_id (linesB s)]
  apply List.map_congr_left
  intro x _
  simp

end Go.Proofs.YticmebamclacaabGreatDoor

namespace Go.Proofs.YticmebamclacaabGreatDoor
open Go.RowKit LX Go.Shelf
set_option linter.unusedVariables false

/-- An empty line more says nothing more. -/
theorem rdS_empty (A : List Dec) (i : Nat) (L : List ByteArray) : rdS A i (L ++ [⟨#[]⟩]) = rdS A i L := by
  induction L generalizing A i with
  | nil =>
    have h1 : cutE ⟨#[]⟩ = 0 := rfl
    have h2 : tks ⟨#[]⟩ = [] := rfl
    show rdS A i [⟨#[]⟩] = _
    unfold rdS
    rw [if_pos h1, h2]
    rfl
  | cons x l ih =>
    rw [List.cons_append]
    unfold rdS
    by_cases h1 : cutE x = 0
    · rw [if_pos h1, if_pos h1]
      by_cases h2 : (rdT A (tks x)).1 = 0
      · rw [if_pos h2, if_pos h2, ih]
      · rw [if_neg h2, if_neg h2]
    · rw [if_neg h1, if_neg h1]

end Go.Proofs.YticmebamclacaabGreatDoor

namespace Go.Proofs.YticmebamclacaabGreatDoor
open Go.RowKit LX Go.Shelf
set_option linter.unusedVariables false

def kindsT : List Int → List UInt8
  | [] => []
  | k :: l => (32 :: kwL k) ++ kindsT l
def decT (d : Dec) : List UInt8 := d.name.data.toList ++ kindsT d.kinds ++ [10]
def sigT : List Dec → List UInt8
  | [] => []
  | d :: l => decT d ++ sigT l
def psT (L : List Dec) : List UInt8 := if sigE L = 0 then sigT L else []
theorem kindsT_snoc (l : List Int) (v : Int) : kindsT (l ++ [v]) = kindsT l ++ (32 :: kwL v) := by
  induction l with
  | nil => simp [kindsT]
  | cons x l ih => simp only [List.cons_append, kindsT, ih, List.append_assoc]
theorem sigT_snoc (l : List Dec) (v : Dec) : sigT (l ++ [v]) = sigT l ++ decT v := by
  induction l with
  | nil => simp [sigT]
  | cons x l ih => simp only [List.cons_append, sigT, ih, List.append_assoc]
theorem kwL_len (k : Int) : (kwL k).length ≤ 3 := by
  unfold kwL
  split
  · simp
  · split
    · simp
    · split <;> simp
theorem kindsT_len (l : List Int) : (kindsT l).length ≤ 4 * l.length := by
  induction l with
  | nil => simp [kindsT]
  | cons x l ih =>
    have := kwL_len x
    simp only [kindsT, List.length_append, List.length_cons]
    omega
/-- A declaration that is not too long. -/
def Short (d : Dec) : Prop := d.name.size ≤ 16 ∧ d.kinds.length ≤ 6
theorem declE_short {A : List Dec} {d : Dec} (h : declE A d = 0) : Short d := by
  unfold declE at h
  by_cases h1 : nameB d.name = false ∨ 0 ≤ findI d.name A 0
  · rw [if_pos h1] at h; cases h
  · rw [if_neg h1] at h
    by_cases h2 : 6 < d.kinds.length
    · rw [if_pos h2] at h; cases h
    · refine ⟨?_, by omega⟩
      have hn : nameB d.name = true := by
        cases hb : nameB d.name with
        | true => rfl
        | false => exact absurd (Or.inl hb) h1
      have := nameL_len (l := d.name.data.toList) hn
      simpa using this
theorem sigO_short {A l : List Dec} (h : sigO A l = 0) : ∀ d ∈ l, Short d := by
  induction l generalizing A with
  | nil => intro d hd; cases hd
  | cons x l ih =>
    unfold sigO at h
    by_cases hx : declE A x = 0
    · rw [if_pos hx] at h
      intro d hd
      rcases List.mem_cons.1 hd with rfl | hd
      · exact declE_short hx
      · exact ih h d hd
    · rw [if_neg hx] at h; exact absurd h hx
theorem sigE_short {L : List Dec} (h : sigE L = 0) : L.length ≤ 32 ∧ ∀ d ∈ L, Short d := by
  unfold sigE at h
  by_cases h1 : 32 < L.length
  · rw [if_pos h1] at h; cases h
  · rw [if_neg h1] at h; exact ⟨by omega, sigO_short h⟩
theorem decT_len {d : Dec} (h : Short d) : (decT d).length ≤ 41 := by
  obtain ⟨h1, h2⟩ := h
  have := kindsT_len d.kinds
  have e : d.name.data.toList.length = d.name.size := by simp
  unfold decT
  simp only [List.length_append, List.length_cons, List.length_nil]
  omega
theorem sigT_len {l : List Dec} (h : ∀ d ∈ l, Short d) : (sigT l).length ≤ 41 * l.length := by
  induction l with
  | nil => simp [sigT]
  | cons x l ih =>
    have h1 := decT_len (h x (by simp))
    have h2 := ih (fun v hv => h v (by simp [hv]))
    simp only [sigT, List.length_append, List.length_cons]
    omega
theorem ret3 {s : ByteArray} {E n : Int} {l : List UInt8} (hs : (⟨l.toArray⟩ : ByteArray) = s) (h : E = n) : Ending.returned (.tuple #[.string s, .int .i64 n]) = .returned (.tuple #[.string ⟨l.toArray⟩, .int .i64 E]) := by rw [h, hs]

set_option maxRecDepth 100000 in
set_option maxHeartbeats 8000000 in
theorem psig_any (A : Value) (L : List Dec) (w : World) (hg : ErrT w) (hA : SigAt w A L) (lL : L.length ≤ 9223372036854775807) (lk : ∀ d ∈ L, d.kinds.length ≤ 9223372036854775807) :
    Calls Tryz.prog 5 #[A] w fun r w' => r = .returned (.tuple #[.string ⟨(psT L).toArray⟩, .int .i64 (sigE L)]) ∧ Below w.heap.size w w' := by
  have cS : Hid (Calls Tryz.prog 14 #[A] w fun e w' => e = .returned (errV (sigE L)) ∧ Below w.heap.size w w') := csig_any A L w hA lL lk
  obtain ⟨p, c, rfl, -, HX0⟩ := hA.form
  have HX : Hid (∀ i (hi : i < L.length), ∃ b off u, p = some ⟨b, off, none⟩ ∧ b < w.heap.size ∧ w.cell? ⟨b, off + i * 2, none⟩ = some (.string L[i].name) ∧ w.cell? ⟨b, off + i * 2 + 1, none⟩ = some u ∧ KAt w u L[i].kinds) := HX0
  have hq : Hid (psT L = if sigE L = 0 then sigT L else []) := rfl
  have hsh : Hid (sigE L = 0 → L.length ≤ 32 ∧ ∀ d ∈ L, Short d) := sigE_short
  clear hA HX0 lk
  obtain ⟨m, em⟩ : ∃ m : Nat, Hid (L.length = m) := ⟨_, rfl⟩
  obtain ⟨E, eE⟩ : ∃ E : Int, Hid (sigE L = E) := ⟨_, rfl⟩
  obtain ⟨Q, eQ⟩ : ∃ Q : List UInt8, Hid (psT L = Q) := ⟨_, rfl⟩
  rw [eE.out, eQ.out] at hq
  rw [eE.out, em.out] at cS hsh
  rw [em.out] at lL
  rw [eE.out, eQ.out, em.out]
  go_enter Tryz.func5, Tryz.ntmps5
  by_cases hE : E = 0
  · have hQ : Hid (Q = sigT L) := by have h := hq.out; rwa [if_pos hE] at h
    obtain ⟨h32, hall⟩ := hsh.out hE
    have HS : Hid (∀ d ∈ L, Short d) := hall
    have eE0 : Hid (E = 0) := hE
    clear hall hsh
    rw [hE, errV_0] at cS
    clear hE
    go_wp2_with fail
    refine cS.out.mono ?_
    rintro e w1 ⟨rfl, hB1⟩
    clear cS
    have HB1 : Hid (Bld w1.heap.size w1.heap.size [] (w1.alloc (.cells #[.pointer none, .slice none 0 0] 53))) := Lib.fresh_isBuilder _ _ w1
    go_wp2
    go_loopw [18] (fun i wr => ∃ k : Nat, k ≤ m ∧ i = .int .i64 k ∧ Hid (Bld w1.heap.size w1.heap.size (sigT (L.take k)) wr) ∧ Below w1.heap.size w1 wr ∧ w1.heap.size < wr.heap.size) (fun i _ => m - (intOf i).toNat)
    case atStart => exact ⟨0, Nat.zero_le _, rfl, HB1, by go_grown, by simp⟩
    case round =>
      obtain ⟨k, hk, rfl, hbl, hBw, hsz⟩ := hrel
      have lT : (sigT (L.take k)).length ≤ 41 * k := by
        have h := sigT_len (l := L.take k) (fun v hv => HS.out v (List.mem_of_mem_take hv))
        rw [List.length_take, Nat.min_eq_left (by have := em.out; omega)] at h
        exact h
      have hBww : Below w.heap.size w wr := hB1.trans (hBw.mono hB1.size)
      by_cases hlt : k < m
      · have kx : k < L.length := by have := em.out; omega
        obtain ⟨b, off, u, rfl, hb, r0, r1, r2⟩ := HX.out k kx
        have a0 := (hBww.cell (p := ⟨b, off + k * 2, none⟩) hb).trans r0
        have a1 := (hBww.cell (p := ⟨b, off + k * 2 + 1, none⟩) hb).trans r1
        have hbl2 : Hid (∀ W, Bld w1.heap.size w1.heap.size (sigT (L.take k) ++ decT L[k]) W → Bld w1.heap.size w1.heap.size (sigT (L.take (k + 1))) W) := fun W h => by
          rw [List.take_succ_eq_append_getElem kx, sigT_snoc]
          exact h
        obtain ⟨s1, s2⟩ := HS.out _ (List.getElem_mem kx)
        have hdec : Hid (decT L[k] = L[k].name.data.toList ++ kindsT L[k].kinds ++ [10]) := rfl
        obtain ⟨pu, cu, rfl, HK0⟩ := r2.form
        have HK : Hid (∀ i (hi : i < L[k].kinds.length), ∃ b off, pu = some ⟨b, off, none⟩ ∧ b < w.heap.size ∧ w.cell? ⟨b, off + i, none⟩ = some (.int .i64 L[k].kinds[i])) := HK0
        clear r0 r1 r2 HK0
        generalize decT L[k] = DT at hbl2 hdec
        generalize L[k].name = X at a0 s1 hdec
        generalize L[k].kinds = ks at a1 s2 hdec HK
        have HBL : Hid (Bld w1.heap.size w1.heap.size (sigT (L.take k)) wr) := hbl
        generalize sigT (L.take k) = G at HBL hbl2 lT
        obtain ⟨n, en⟩ : ∃ n : Nat, Hid (ks.length = n) := ⟨_, rfl⟩
        rw [en.out] at a1 s2
        clear hbl
        go_wp2_with fail
        refine (wsB w1.heap.size w1.heap.size G X _ (HBL.out.below (by go_grown)) (by omega) (by simp; omega)).mono ?_
        rintro e w2 ⟨rfl, hb2, hB2, hK2⟩
        have c1 : w2.cell? ⟨wr.heap.size, 1, none⟩ = some (.slice pu n cu) := by
          have hh := hK2 wr.heap.size #[.string X, .slice pu n cu] 42 (0, 0) (by simp) (by omega) (heap_allocX _ _) (by decide)
          rw [Lib.cell_of_heap (hh.trans (heap_allocX _ _))]
          rfl
        have K2 : Below w1.heap.size w1 w2 := hBw.trans (Below.trans (Below.mono (B := wr.heap.size) (by go_grown) hBw.size) hB2)
        have z2 : w1.heap.size < w2.heap.size := by have := hB2.size; simp at this; omega
        have HB2 : Hid (Bld w1.heap.size w1.heap.size (G ++ X.data.toList) w2) := hb2
        have lG : (G ++ X.data.toList).length ≤ 41 * k + 16 := by
          have e : X.data.toList.length = X.size := by simp
          rw [List.length_append]
          omega
        clear hb2 hB2 hK2 HBL a0 a1
        go_wp2
        go_loopw [28] (fun i wr => ∃ j : Nat, j ≤ n ∧ i = .int .i64 j ∧ Hid (Bld w1.heap.size w1.heap.size (G ++ X.data.toList ++ kindsT (ks.take j)) wr) ∧ Below w1.heap.size w1 wr ∧ w1.heap.size < wr.heap.size) (fun i _ => n - (intOf i).toNat)
        case atStart => exact ⟨0, Nat.zero_le _, rfl, by simpa [kindsT, Hid] using HB2.out, K2, z2⟩
        case round =>
          obtain ⟨j, hj, rfl, hbl, hBq, hzq⟩ := hrel
          have lK : (kindsT (ks.take j)).length ≤ 4 * j := by
            have h := kindsT_len (ks.take j)
            rw [List.length_take, Nat.min_eq_left (by have := en.out; omega)] at h
            exact h
          have lH : (G ++ X.data.toList ++ kindsT (ks.take j)).length ≤ 41 * k + 16 + 4 * j := by
            rw [List.length_append]
            omega
          have hBqq : Below w.heap.size w wr := hB1.trans (hBq.mono hB1.size)
          by_cases hlj : j < n
          · have jx : j < ks.length := by have := en.out; omega
            obtain ⟨b2, off2, rfl, hb2, q0⟩ := HK.out j jx
            have g0 := (hBqq.cell (p := ⟨b2, off2 + j, none⟩) hb2).trans q0
            have hbl3 : Hid (∀ W, Bld w1.heap.size w1.heap.size (G ++ X.data.toList ++ kindsT (ks.take j) ++ (32 :: kwL ks[j])) W → Bld w1.heap.size w1.heap.size (G ++ X.data.toList ++ kindsT (ks.take (j + 1))) W) := fun W h => by
              rw [List.take_succ_eq_append_getElem jx, kindsT_snoc, ← List.append_assoc]
              exact h
            clear q0
            generalize ks[j] = K at g0 hbl3
            have cK : Hid (∀ W : World, Calls Tryz.prog 17 #[.int .i64 K] W fun e w' => e = .returned (.string ⟨(kwL K).toArray⟩) ∧ w' = W) := fun W => kword_any K W
            have lw := kwL_len K
            obtain ⟨TX, eT⟩ : ∃ TX : ByteArray, Hid (⟨(kwL K).toArray⟩ = TX) := ⟨_, rfl⟩
            obtain ⟨S2, eS2⟩ : ∃ S2 : ByteArray, Hid (S2 = (⟨#[32]⟩ : ByteArray) ++ TX) := ⟨_, rfl⟩
            have sT : TX.size = (kwL K).length := by rw [← eT.out]; show (kwL K).toArray.size = _; simp
            have x2 : ∀ W : World, (Op.stringOp .add ⟨#[32]⟩ TX).run Tryz.prog W = .ok (.string S2) W := fun W => by
              rw [run_string_add_sum W _ _ (by have : (⟨#[32]⟩ : ByteArray).size = 1 := rfl
                                               omega), eS2.out]
            have sS2 : S2.size = 1 + (kwL K).length := by rw [eS2.out, ByteArray.size_append, sT]; rfl
            have lS2 : Hid (S2.data.toList = 32 :: kwL K) := by unfold Hid; rw [eS2.out, ← eT.out]; simp
            rw [eT.out] at cK
            have HBL : Hid (Bld w1.heap.size w1.heap.size (G ++ X.data.toList ++ kindsT (ks.take j)) wr) := hbl
            generalize G ++ X.data.toList ++ kindsT (ks.take j) = G2 at HBL hbl3 lH
            clear eT eS2 sT hbl
            go_wp2_with fail
            refine (cK.out _).mono ?_
            rintro e w3 ⟨rfl, rfl⟩
            clear cK
            go_wp2_with fail
            refine (wsB w1.heap.size w1.heap.size G2 S2 _ HBL.out (by omega) (by omega)).mono ?_
            rintro e w4 ⟨rfl, hb4, hB4, -⟩
            have K4 : Below w1.heap.size w1 w4 := hBq.trans hB4
            have z4 : w1.heap.size < w4.heap.size := Nat.lt_of_lt_of_le hzq hB4.size
            rw [lS2.out] at hb4
            have HB4 : Hid (Bld w1.heap.size w1.heap.size (G ++ X.data.toList ++ kindsT (ks.take (j + 1))) w4) := hbl3.out w4 hb4
            clear HBL hb4 hB4 x2 hbl3 g0
            go_wp2
            exact ⟨⟨j + 1, by omega, by go_num, HB4, K4, z4⟩, by simp [intOf]; omega⟩
          · have c2 : ¬ (j : Int) < n := by omega
            have hal : ks.take j = ks := List.take_of_length_le (by have := en.out; omega)
            rw [hal] at hbl lH
            have HBL : Hid (Bld w1.heap.size w1.heap.size (G ++ X.data.toList ++ kindsT ks) wr) := hbl
            clear hbl hal lK
            go_wp2_with fail
            refine (wbB w1.heap.size w1.heap.size _ 10 _ HBL.out (by omega) (by omega)).mono ?_
            rintro e w4 ⟨rfl, hb4, hB4⟩
            have K4 : Below w1.heap.size w1 w4 := hBq.trans hB4
            have z4 : w1.heap.size < w4.heap.size := Nat.lt_of_lt_of_le hzq hB4.size
            have HB4 : Hid (Bld w1.heap.size w1.heap.size (sigT (L.take (k + 1))) w4) := hbl2.out w4 (by rw [hdec.out, ← List.append_assoc, ← List.append_assoc]; exact hb4)
            clear HBL hb4 hB4 lH
            go_wp2
            exact ⟨⟨k + 1, by omega, by go_num, HB4, K4, z4⟩, by simp [intOf]; omega⟩
      · have c2 : ¬ (k : Int) < m := by omega
        have hall : L.take k = L := List.take_of_length_le (by have := em.out; omega)
        rw [hall] at hbl
        have cT : Hid (Calls Tryz.prog 19 #[.pointer (some ⟨w1.heap.size, 0, none⟩)] wr fun e w' => e = .returned (.string ⟨(sigT L).toArray⟩) ∧ Below w1.heap.size wr w') := Tryz.Builder_String_any w1.heap.size w1.heap.size _ wr hbl.out hBw.size
        clear hbl hall lT
        generalize sigT L = LT at cT hQ
        go_wp2_with fail
        refine cT.out.mono ?_
        rintro e w5 ⟨rfl, hb5⟩
        have K5 : Below w.heap.size w w5 := hBww.trans (hb5.mono hB1.size)
        clear cT hb5
        go_wp2
        go_ret2
        exact ⟨ret3 (by rw [hQ.out]) eE0.out, K5⟩
  · have hQ : Hid (Q = []) := by have h := hq.out; rwa [if_neg hE] at h
    have hd : Hid (errV E = .iface 74 (.agg #[.int .i64 E])) := errV_ne hE
    have cn : Hid (∀ W : World, ErrT W → Calls Tryz.prog 15 #[errV E] W fun r w' => r = .returned (.int .i64 E) ∧ Below W.heap.size W w') := fun W hW => tnumber_any E W hW
    rw [hd.out] at cS cn
    clear hE
    go_wp2_with fail
    refine cS.out.mono ?_
    rintro e w1 ⟨rfl, hB1⟩
    clear cS
    go_wp2_with fail
    refine (cn.out _ (hg.below hB1)).mono ?_
    rintro e w2 ⟨rfl, hw2⟩
    have K : Below w.heap.size w w2 := hB1.trans (hw2.mono hB1.size)
    clear cn hw2
    go_wp2
    go_ret2
    exact ⟨ret3 (by rw [hQ.out]) rfl, K⟩

end Go.Proofs.YticmebamclacaabGreatDoor

namespace Go.Proofs.YticmebamclacaabGreatDoor
set_option linter.unusedVariables false

theorem findI_neg (x : ByteArray) (L : List Dec) (k : Nat) : findI x L k < 0 ↔ ∀ d ∈ L, d.name ≠ x := by
  induction L generalizing k with
  | nil => simp [findI]
  | cons d l ih =>
    rw [findI_cons]
    by_cases h : d.name = x
    · rw [if_pos h]
      constructor
      · intro h'; omega
      · intro h'; exact absurd h (h' d List.mem_cons_self)
    · rw [if_neg h, ih]
      constructor
      · intro h' e he
        rcases List.mem_cons.1 he with rfl | he
        · exact h
        · exact h' e he
      · intro h' e he; exact h' e (List.mem_cons_of_mem _ he)
/-- What a declaration must be, whatever stands beside it. -/
def okD (d : Dec) : Prop := nameB d.name = true ∧ d.kinds.length ≤ 6 ∧ kindsE d.kinds = 0
theorem declE_ok (A : List Dec) (d : Dec) : declE A d = 0 ↔ okD d ∧ ∀ a ∈ A, a.name ≠ d.name := by
  unfold declE okD
  rw [← findI_neg d.name A 0]
  by_cases h1 : nameB d.name = false ∨ 0 ≤ findI d.name A 0
  · rw [if_pos h1]
    constructor
    · intro h; omega
    · rintro ⟨⟨a, _, _⟩, b⟩
      rcases h1 with h1 | h1
      · rw [h1] at a; cases a
      · omega
  · rw [if_neg h1]
    have a1 : nameB d.name = true := by
      cases h : nameB d.name with
      | true => rfl
      | false => exact absurd (Or.inl h) h1
    have a2 : findI d.name A 0 < 0 := by
      by_cases h : 0 ≤ findI d.name A 0
      · exact absurd (Or.inr h) h1
      · omega
    by_cases h6 : 6 < d.kinds.length
    · rw [if_pos h6]
      constructor
      · intro h; omega
      · rintro ⟨⟨_, a, _⟩, _⟩; omega
    · rw [if_neg h6]
      exact ⟨fun h => ⟨⟨a1, by omega, h⟩, a2⟩, fun h => h.1.2.2⟩
theorem sigO_ok (A L : List Dec) : sigO A L = 0 ↔ (∀ d ∈ L, okD d) ∧ (∀ d ∈ L, ∀ a ∈ A, a.name ≠ d.name) ∧ L.Pairwise (fun a b => a.name ≠ b.name) := by
  induction L generalizing A with
  | nil => simp [sigO]
  | cons d l ih =>
    rw [sigO]
    by_cases hd : declE A d = 0
    · rw [if_pos hd, ih (A ++ [d])]
      obtain ⟨o, f⟩ := (declE_ok A d).1 hd
      constructor
      · rintro ⟨h1, h2, h3⟩
        refine ⟨?_, ?_, ?_⟩
        · intro e he
          rcases List.mem_cons.1 he with rfl | he
          · exact o
          · exact h1 e he
        · intro e he a ha
          rcases List.mem_cons.1 he with rfl | he
          · exact f a ha
          · exact h2 e he a (List.mem_append_left _ ha)
        · exact List.pairwise_cons.2 ⟨fun e he => h2 e he d (by simp), h3⟩
      · rintro ⟨h1, h2, h3⟩
        obtain ⟨p1, p2⟩ := List.pairwise_cons.1 h3
        refine ⟨fun e he => h1 e (List.mem_cons_of_mem _ he), ?_, p2⟩
        intro e he a ha
        rcases List.mem_append.1 ha with ha | ha
        · exact h2 e (List.mem_cons_of_mem _ he) a ha
        · rw [List.mem_singleton.1 ha]; exact p1 e he
    · rw [if_neg hd]
      constructor
      · intro h; exact absurd h hd
      · rintro ⟨h1, h2, h3⟩
        exact absurd ((declE_ok A d).2 ⟨h1 d List.mem_cons_self, h2 d List.mem_cons_self⟩) hd
theorem sigE_ok (L : List Dec) : sigE L = 0 ↔ L.length ≤ 32 ∧ (∀ d ∈ L, okD d) ∧ L.Pairwise (fun a b => a.name ≠ b.name) := by
  unfold sigE
  by_cases h : 32 < L.length
  · rw [if_pos h]
    constructor
    · intro h'; omega
    · rintro ⟨h', _⟩; omega
  · rw [if_neg h, sigO_ok]
    constructor
    · rintro ⟨h1, _, h3⟩; exact ⟨by omega, h1, h3⟩
    · rintro ⟨_, h1, h3⟩; exact ⟨h1, by simp, h3⟩
end Go.Proofs.YticmebamclacaabGreatDoor

namespace Go.Proofs.YticmebamclacaabGreatDoor
open Go.RowKit LX Go.Shelf
set_option linter.unusedVariables false

theorem fl_line {x r : List UInt8} (h : ∀ c ∈ x, c ≠ 10) : fl (x ++ 10 :: r) = x :: fl r := by
  induction x with
  | nil => show (if (10 : UInt8) = 10 then [] :: fl r else _) = _; rw [if_pos rfl]
  | cons c t ih =>
    show (if c = 10 then _ else onto [c] (fl (t ++ 10 :: r))) = _
    rw [if_neg (h c (by simp)), ih (fun y hy => h y (by simp [hy]))]
    rfl
/-- A declaration's line. -/
def lnT (d : Dec) : List UInt8 := d.name.data.toList ++ kindsT d.kinds
theorem no10_name {x : List UInt8} (h : nameL x = true) : ∀ c ∈ x, c ≠ 10 := fun c hc e => by
  have := inAll_mem (name_parts h).2.2.2 c hc
  rw [e] at this
  revert this
  decide
theorem kw_cases {k : Int} (h : 1 ≤ k ∧ k ≤ 3) : kwL k = [105, 110, 116] ∧ k = 1 ∨ kwL k = [114, 97, 116] ∧ k = 2 ∨ kwL k = [115, 116, 114] ∧ k = 3 := by
  have : k = 1 ∨ k = 2 ∨ k = 3 := by omega
  rcases this with rfl | rfl | rfl
  · exact Or.inl ⟨rfl, rfl⟩
  · exact Or.inr (Or.inl ⟨rfl, rfl⟩)
  · exact Or.inr (Or.inr ⟨rfl, rfl⟩)
theorem kindsE_all {ks : List Int} (h : kindsE ks = 0) : ∀ k ∈ ks, 1 ≤ k ∧ k ≤ 3 := by
  induction ks with
  | nil => simp
  | cons k l ih =>
    have h' : (if 1 ≤ k ∧ k ≤ 3 then kindsE l else 20) = 0 := h
    by_cases hk : 1 ≤ k ∧ k ≤ 3
    · rw [if_pos hk] at h'
      intro x hx
      rcases List.mem_cons.1 hx with rfl | hx
      · exact hk
      · exact ih h' x hx
    · rw [if_neg hk] at h'; cases h'
theorem no10_kinds {ks : List Int} (h : ∀ k ∈ ks, 1 ≤ k ∧ k ≤ 3) : ∀ c ∈ kindsT ks, c ≠ 10 := by
  induction ks with
  | nil => intro c hc; cases hc
  | cons k l ih =>
    intro c hc
    have hc : c ∈ (32 :: kwL k) ++ kindsT l := hc
    rcases List.mem_append.1 hc with hc | hc
    · rcases kw_cases (h k (by simp)) with ⟨e, -⟩ | ⟨e, -⟩ | ⟨e, -⟩ <;> rw [e] at hc <;> (intro e2; subst e2; revert hc; decide)
    · exact ih (fun x hx => h x (by simp [hx])) c hc
theorem fl_sig {L : List Dec} (h : ∀ d ∈ L, okD d) : fl (sigT L) = L.map lnT ++ [[]] := by
  induction L with
  | nil => rfl
  | cons d l ih =>
    obtain ⟨h1, h2, h3⟩ := h d (by simp)
    have e : sigT (d :: l) = lnT d ++ 10 :: sigT l := by
      show decT d ++ sigT l = _
      simp [decT, lnT]
    rw [e, fl_line, ih (fun x hx => h x (by simp [hx]))]
    · rfl
    · intro c hc
      rcases List.mem_append.1 hc with hc | hc
      · exact no10_name h1 c hc
      · exact no10_kinds (kindsE_all h3) c hc
def kwTk (k : Int) : Tok Val := ⟨3, 0, kwL k, zeroV⟩
theorem kinds_ends (ks : List Int) : Ends (kindsT ks) := by
  cases ks with
  | nil => exact Or.inl rfl
  | cons v l => exact Or.inr (Or.inl rfl)
theorem TK.kinds {ks : List Int} (h : ∀ k ∈ ks, 1 ≤ k ∧ k ≤ 3) : TK (kindsT ks) (ks.map kwTk) := by
  induction ks with
  | nil => exact TK.nil
  | cons k l ih =>
    have e : kindsT (k :: l) = 32 :: (kwL k ++ kindsT l) := rfl
    rw [e]
    refine TK.blank rfl (TK.word ?_ ?_ ?_ ?_ (kinds_ends l) (ih (fun x hx => h x (by simp [hx])))) <;>
      (rcases kw_cases (h k (by simp)) with ⟨e, -⟩ | ⟨e, -⟩ | ⟨e, -⟩ <;> rw [e] <;> decide)
theorem TK.decl {d : Dec} (h : okD d) : TK (lnT d) (⟨3, 0, d.name.data.toList, zeroV⟩ :: d.kinds.map kwTk) := by
  obtain ⟨n1, n2, n3, n4⟩ := name_parts h.1
  exact TK.word n1 n2 n3 n4 (kinds_ends _) (TK.kinds (kindsE_all h.2.2))
theorem koL_kw {k : Int} (h : 1 ≤ k ∧ k ≤ 3) : koL (kwL k) = k := by
  rcases kw_cases h with ⟨e, e2⟩ | ⟨e, e2⟩ | ⟨e, e2⟩ <;> rw [e, e2] <;> decide
theorem rdK_tri {L M : List (Tok Val)} (h : L.map tri = M.map tri) (acc : List Int) : rdK acc L = rdK acc M := by
  induction L generalizing M acc with
  | nil =>
    cases M with
    | nil => rfl
    | cons => simp at h
  | cons t L ih =>
    cases M with
    | nil => simp at h
    | cons u M =>
      simp only [List.map_cons, List.cons.injEq] at h
      obtain ⟨h1, h2⟩ := h
      unfold tri at h1
      injection h1 with k1 k2
      injection k2 with k2 k3
      unfold rdK
      rw [k2, ih h2]
theorem rdK_kinds {ks : List Int} (h : ∀ k ∈ ks, 1 ≤ k ∧ k ≤ 3) (acc : List Int) : rdK acc (ks.map kwTk) = some (acc ++ ks) := by
  induction ks generalizing acc with
  | nil => simp [rdK]
  | cons k l ih =>
    have hk := koL_kw (h k (by simp))
    have h1 := h k (by simp)
    show (if koL (kwL k) = 0 then none else rdK (acc ++ [koL (kwL k)]) (l.map kwTk)) = _
    rw [hk, if_neg (by omega), ih (fun x hx => h x (by simp [hx]))]
    simp
theorem lnT_len {d : Dec} (h : okD d) : (lnT d).length ≤ 4096 := by
  have h1 := (name_parts h.1).2.1
  have h2 := kindsT_len d.kinds
  have h3 := h.2.1
  unfold lnT
  rw [List.length_append]
  omega
/-- One line of a signature's text. -/
theorem back_line {A : List Dec} {d : Dec} (h : declE A d = 0) (hA : A.length < 32) : cutE ⟨(lnT d).toArray⟩ = 0 ∧ rdT A (tks ⟨(lnT d).toArray⟩) = (0, A ++ [d]) := by
  obtain ⟨o, f⟩ := (declE_ok A d).1 h
  obtain ⟨L, k1, k2⟩ := TK.decl o 0
  have k1' : T sdB (⟨(lnT d).toArray⟩ : ByteArray).data.toList 0 = (L, none) := k1
  refine ⟨?_, ?_⟩
  · unfold cutE
    rw [if_neg (by show ¬ 4096 < (lnT d).toArray.size; have := lnT_len o; simp; omega), k1']
    rfl
  · have ht : tks ⟨(lnT d).toArray⟩ = L := by unfold tks; rw [k1']
    rw [ht]
    cases L with
    | nil => simp at k2
    | cons a L =>
      simp only [List.map_cons, List.cons.injEq] at k2
      obtain ⟨q1, q2⟩ := k2
      unfold tri at q1
      injection q1 with j1 j2
      injection j2 with j2 j3
      have j2 : a.x = d.name.data.toList := j2
      have hn : nameL d.name.data.toList = true := o.1
      have hd : rdD (a :: L) = some d := by
        show (if nameL a.x = true then (rdK [] L).map (fun ks => (⟨⟨a.x.toArray⟩, ks⟩ : Dec)) else none) = _
        rw [j2, if_pos hn, rdK_tri q2, rdK_kinds (kindsE_all o.2.2)]
        simp
      show wdD A (rdD (a :: L)) = _
      rw [hd]
      show (if 6 < d.kinds.length ∨ A.length = 32 then (3, []) else if 0 ≤ findI d.name A 0 then (1, []) else (0, A ++ [d])) = _
      have hf := (findI_neg d.name A 0).2 f
      have ho := o.2.1
      rw [if_neg (by omega), if_neg (by omega)]
theorem back_lines (L : List Dec) : ∀ (A : List Dec) (i : Nat), sigO A L = 0 → A.length + L.length ≤ 32 → rdS A i (L.map fun d => ⟨(lnT d).toArray⟩) = (0, 0, A ++ L) := by
  induction L with
  | nil => intro A i _ _; simp [rdS]
  | cons d l ih =>
    intro A i h hl
    have h' : (if declE A d = 0 then sigO (A ++ [d]) l else declE A d) = 0 := h
    have hd : declE A d = 0 := by
      by_cases hd : declE A d = 0
      · exact hd
      · rw [if_neg hd] at h'; exact absurd h' hd
    rw [if_pos hd] at h'
    simp only [List.length_cons] at hl
    obtain ⟨b1, b2⟩ := back_line hd (by omega)
    show (if cutE ⟨(lnT d).toArray⟩ = 0 then (if (rdT A (tks ⟨(lnT d).toArray⟩)).1 = 0 then rdS (rdT A (tks ⟨(lnT d).toArray⟩)).2 (i + 1) (l.map fun d => ⟨(lnT d).toArray⟩) else ((rdT A (tks ⟨(lnT d).toArray⟩)).1, (i : Int) + 1, [])) else (cutE ⟨(lnT d).toArray⟩, (i : Int) + 1, [])) = _
    rw [if_pos b1, b2, if_pos rfl, ih _ _ h' (by rw [List.length_append]; simp; omega)]
    simp
/-- A signature's text, read, is the signature. -/
theorem back_sig {L : List Dec} (h : sigE L = 0) : rsg ⟨(psT L).toArray⟩ = (0, 0, L) := by
  have hp : psT L = sigT L := if_pos h
  obtain ⟨s1, s2⟩ := sigE_short h
  have s3 := sigT_len s2
  obtain ⟨o1, o2, -⟩ := (sigE_ok L).1 h
  unfold rsg
  rw [hp, if_neg (by show ¬ 16384 < (sigT L).toArray.size; simp; omega), linesB_eq]
  have e : fl (⟨(sigT L).toArray⟩ : ByteArray).data.toList = L.map lnT ++ [[]] := fl_sig o2
  rw [e, List.map_append]
  show rdS [] 0 (_ ++ [⟨#[]⟩]) = _
  rw [rdS_empty, List.map_map]
  have hs : sigO [] L = 0 := by
    unfold sigE at h
    rwa [if_neg (by omega)] at h
  exact back_lines L [] 0 hs (by simp; omega)

theorem good_val {t : Tok Val} (h : LX.Good sdB t) (hk : t.k = 6) : t.v.may = 0 ∧ t.v.Fits := by
  have hs := h.s
  rw [hk] at hs
  have hs : ((prs t.x).1, decide ((prs t.x).2 = 0)) = (t.v, true) := hs
  injection hs with h1 h2
  have h2 : (prs t.x).2 = 0 := of_decide_eq_true h2
  rw [← h1]
  exact ⟨(prs_back h2).1, prs_fits _⟩
theorem rdA_good {L : List (Tok Val)} (hg : ∀ t ∈ L, LX.Good sdB t) {acc a : List Val} {i n : Nat} (h : rdA acc i L = some (a, n)) (ha : ∀ v ∈ acc, v.may = 0 ∧ v.Fits) : ∀ v ∈ a, v.may = 0 ∧ v.Fits := by
  induction L generalizing acc i with
  | nil => cases h
  | cons t l ih =>
    unfold rdA at h
    by_cases h1 : t.x = [41]
    · rw [if_pos h1] at h
      injection h with h
      injection h with e1 e2
      subst e1
      exact ha
    · rw [if_neg h1] at h
      by_cases h2 : t.k = 6
      · rw [if_pos h2] at h
        refine ih (fun x hx => hg x (by simp [hx])) h (fun v hv => ?_)
        rcases List.mem_append.1 hv with hv | hv
        · exact ha v hv
        · rw [List.mem_singleton.1 hv]; exact good_val (hg t (by simp)) h2
      · rw [if_neg h2] at h; cases h
def okE (e : Evt) : Prop := nameB e.name = true ∧ ∀ v ∈ e.args, v.may = 0 ∧ v.Fits
theorem rdE_good {L : List (Tok Val)} (hg : ∀ t ∈ L, LX.Good sdB t) {e : Evt} {n : Nat} (h : rdE L = some (e, n)) : okE e := by
  match L, hg, h with
  | t0 :: t1 :: l, hg, h =>
    have h : (if t0.x = [40] ∧ nameL t1.x = true then (rdA [] 2 l).map (fun p => ((⟨⟨t1.x.toArray⟩, p.1⟩ : Evt), p.2)) else none) = some (e, n) := h
    by_cases h1 : t0.x = [40] ∧ nameL t1.x = true
    · rw [if_pos h1] at h
      obtain ⟨⟨a, k⟩, q1, q2⟩ := Option.map_eq_some_iff.1 h
      injection q2 with e1 e2
      subst e1
      exact ⟨h1.2, rdA_good (fun t ht => hg t (by simp [ht])) q1 (by simp)⟩
    · rw [if_neg h1] at h; cases h
theorem rdEs_good {f : Nat} {acc es : List Evt} {L : List (Tok Val)} (hg : ∀ t ∈ L, LX.Good sdB t) (h : rdEs f acc L = some es) (ha : ∀ e ∈ acc, okE e) : ∀ e ∈ es, okE e := by
  induction f generalizing acc L with
  | zero =>
    have h : some acc = some es := h
    injection h with h
    subst h
    exact ha
  | succ f ih =>
    by_cases h0 : L.length = 0
    · rw [rdEs_end h0] at h
      injection h with h
      subst h
      exact ha
    · cases hE : rdE L with
      | none => rw [rdEs_none (by omega) hE] at h; cases h
      | some p =>
        obtain ⟨e, n⟩ := p
        rw [rdEs_some (by omega) hE] at h
        refine ih (fun t ht => hg t (List.mem_of_mem_drop ht)) h (fun x hx => ?_)
        rcases List.mem_append.1 hx with hx | hx
        · exact ha x hx
        · rw [List.mem_singleton.1 hx]; exact rdE_good hg hE
theorem wevsE_ok {es : List Evt} (h : ∀ e ∈ es, okE e) : wevsE es = 0 := by
  induction es with
  | nil => rfl
  | cons e l ih =>
    have h1 : wevE e = 0 := by
      unfold wevE
      rw [if_pos (h e (by simp)).1]
      have hv := (h e (by simp)).2
      generalize e.args = vs at hv
      induction vs with
      | nil => rfl
      | cons v vs ih2 =>
        show (if v.may = 0 then valsE vs else v.may) = 0
        rw [if_pos (hv v (by simp)).1]
        exact ih2 (fun x hx => hv x (by simp [hx]))
    show (if wevE e = 0 then wevsE l else wevE e) = 0
    rw [if_pos h1]
    exact ih (fun x hx => h x (by simp [hx]))
/-- What is read from a line: nothing, or a point that may be printed but for its length. -/
theorem read_ok (s : ByteArray) : (rdP s).1 ≠ 0 ∧ (rdP s).2 = (0, []) ∨ (rdP s).1 = 0 ∧ sizeE (rdP s).2.1 (rdP s).2.2.length = 0 ∧ ∀ e ∈ (rdP s).2.2, okE e := by
  unfold rdP
  by_cases hc : cutE s = 0
  case neg => rw [if_neg hc]; exact Or.inl ⟨hc, rfl⟩
  rw [if_pos hc]
  have hg := T_good sdB s.data.toList.length s.data.toList (Nat.le_refl _) 0
  have hg : ∀ t ∈ tks s, LX.Good sdB t := hg
  generalize tks s = TL at hg
  cases TL with
  | nil => exact Or.inl ⟨by show (70 : Int) ≠ 0; decide, rfl⟩
  | cons t L =>
    have H : rdL (t :: L) = (70, 0, []) ∨ rdL (t :: L) = (3, 0, []) ∨ ∃ es, rdL (t :: L) = (0, t.v.n, es) ∧ sizeE t.v.n es.length = 0 ∧ ∀ e ∈ es, okE e := by
      have e : rdL (t :: L) = if t.k = 7 then rdM t.v.n (rdEs (L.length + 1) [] L) else (70, 0, []) := rfl
      rw [e]
      by_cases h7 : t.k = 7
      case neg => rw [if_neg h7]; exact Or.inl rfl
      rw [if_pos h7]
      cases hE : rdEs (L.length + 1) [] L with
      | none => exact Or.inl rfl
      | some es =>
        have ho := rdEs_good (fun x hx => hg x (by simp [hx])) hE (by simp)
        have e2 : rdM t.v.n (some es) = if 64 < es.length then (3, 0, []) else (0, t.v.n, es) := rfl
        rw [e2]
        by_cases h64 : 64 < es.length
        · rw [if_pos h64]; exact Or.inr (Or.inl rfl)
        rw [if_neg h64]
        refine Or.inr (Or.inr ⟨es, rfl, ?_, ho⟩)
        have hs := (hg t (by simp)).s
        rw [h7] at hs
        have hs : numB (t.x.drop 1) = (t.v, true) := hs
        unfold numB at hs
        by_cases hn : (prs (t.x.drop 1)).2 = 0 ∧ (prs (t.x.drop 1)).1.k = 1 ∧ 0 ≤ (prs (t.x.drop 1)).1.n ∧ (prs (t.x.drop 1)).1.n ≤ 1099511627776
        · rw [if_pos hn] at hs
          injection hs with e1 _
          rw [e1] at hn
          unfold sizeE
          rw [if_neg (by omega), if_neg (by omega)]
        · rw [if_neg hn] at hs
          injection hs with _ e2
          cases e2
    rcases H with h | h | ⟨es, h, h1, h2⟩
    · rw [h]; exact Or.inl ⟨by decide, rfl⟩
    · rw [h]; exact Or.inl ⟨by decide, rfl⟩
    · rw [h]; exact Or.inr ⟨rfl, h1, h2⟩

end Go.Proofs.YticmebamclacaabGreatDoor

namespace Go.Proofs.YticmebamclacaabGreatDoor
open Go.RowKit LX Go.Shelf
set_option linter.unusedVariables false

theorem PpOut.mk {N N' : Nat} {w w' : World} {D1 D2 : Int} {D3 : List Evt} {r : Ending} {p : Option Addr} {m c : Nat} (hb : Below N w w') (hm : m = D3.length) (hN : N ≤ N') (ho : OwnE N' (.slice p m c) D3 w') (hr : r = .returned (.tuple #[.agg #[.int .i64 D2, .slice p m c], .int .i64 D1])) : PpOut N w (D1, D2, D3) r w' := by
  subst hm
  exact ⟨hb, p, c, hr, ho.base hN⟩
set_option maxRecDepth 100000 in
set_option maxHeartbeats 2000000 in
theorem parsept_any (s : ByteArray) (w : World) (ht : Pow w) (he : Errs w) (h8 : 9 ≤ w.heap.size) (hg : ErrT w) :
    Calls Tryz.prog 9 #[.string s] w fun r w' => PpOut w.heap.size w (rdP s) r w' := by
  have ct : Hid (∀ W : World, Below w.heap.size w W → Calls Tryz.prog 23 #[.string s] W fun r w' => PtOut W.heap.size W (rdP s) r w') := fun W hW => rdpt_any s W (ht.below hW) (he.below hW h8) (Nat.le_trans h8 hW.size)
  generalize rdP s = D at *
  obtain ⟨D1, D2, D3⟩ := D
  have cn : Hid (∀ W : World, ErrT W → Calls Tryz.prog 15 #[errV D1] W fun r w' => r = .returned (.int .i64 D1) ∧ Below W.heap.size W w') := fun W hW => tnumber_any D1 W hW
  clear ht he h8
  go_enter Tryz.func9, Tryz.ntmps9
  go_wp2_with fail
  refine (ct.out _ (by go_grown)).mono ?_
  rintro r w1 ⟨hb1, p, c, rfl, ho⟩
  dsimp only
  have q0 : w1.cell? ⟨w.heap.size, 0, none⟩ = some (.int .i64 0) := (hb1.cell (p := ⟨w.heap.size, 0, none⟩) (by simp)).trans (by simp [go_sem])
  have q1 : w1.cell? ⟨w.heap.size, 1, none⟩ = some (.slice none 0 0) := (hb1.cell (p := ⟨w.heap.size, 1, none⟩) (by simp)).trans (by simp [go_sem])
  have f0 : w1.frozen? ⟨w.heap.size, 0, none⟩ = false := (hb1.frozen (p := ⟨w.heap.size, 0, none⟩) (by simp)).trans (by simp [go_sem])
  have f1 : w1.frozen? ⟨w.heap.size, 1, none⟩ = false := (hb1.frozen (p := ⟨w.heap.size, 1, none⟩) (by simp)).trans (by simp [go_sem])
  have hs1 : w.heap.size < w1.heap.size := by have := hb1.size; simp at this; omega
  obtain ⟨hB1, -⟩ := bgX (n := w.heap.size) (W0 := w) (by go_grown) (by go_size) hb1
  have HO : Hid (OwnE (w.heap.size + 1) (.slice p D3.length c) D3 w1) := ho.base (by simp)
  clear hb1 ct ho
  obtain ⟨m, em⟩ : ∃ m : Nat, Hid (D3.length = m) := ⟨_, rfl⟩
  have HG : Hid (ErrT w1) := hg.below hB1
  rw [em.out] at HO ⊢
  generalize errV D1 = EV at *
  go_upto_region 2 with fail
  refine wpX_world ?_
  intro W0 hW0
  have d0 : W0.cell? ⟨w1.heap.size, 0, none⟩ = some (.int .i64 D2) := by rw [hW0]; simp [go_sem]
  have d1 : W0.cell? ⟨w1.heap.size, 1, none⟩ = some (.slice p m c) := by rw [hW0]; simp [go_sem]
  have k0 : Below w1.heap.size w1 W0 := by rw [hW0]; go_grown
  have k1 : w1.heap.size < W0.heap.size := by rw [hW0]; simp
  clear hW0
  have Q0 : Hid (∀ W, Below W0.heap.size W0 W → W.cell? ⟨w.heap.size, 0, none⟩ = some (.int .i64 0) ∧ W.cell? ⟨w.heap.size, 1, none⟩ = some (.slice none 0 0) ∧ W.frozen? ⟨w.heap.size, 0, none⟩ = false ∧ W.frozen? ⟨w.heap.size, 1, none⟩ = false ∧ W.cell? ⟨w1.heap.size, 0, none⟩ = some (.int .i64 D2) ∧ W.cell? ⟨w1.heap.size, 1, none⟩ = some (.slice p m c) ∧ Below w.heap.size w W ∧ OwnE (w.heap.size + 1) (.slice p m c) D3 W) := fun W hW => by
    have hx := k0.trans (hW.mono k0.size)
    exact ⟨(hx.cell (p := ⟨w.heap.size, 0, none⟩) hs1).trans q0, (hx.cell (p := ⟨w.heap.size, 1, none⟩) hs1).trans q1, (hx.frozen (p := ⟨w.heap.size, 0, none⟩) hs1).trans f0, (hx.frozen (p := ⟨w.heap.size, 1, none⟩) hs1).trans f1, (hW.cell (p := ⟨w1.heap.size, 0, none⟩) k1).trans d0, (hW.cell (p := ⟨w1.heap.size, 1, none⟩) k1).trans d1, hB1.trans (hx.mono hB1.size), HO.out.below hx⟩
  have HG0 : Hid (ErrT W0) := HG.out.below k0
  go_region_with (go_at_call 15; refine (cn.out _ (HG0.out.below (by go_grown))).mono ?_; rintro e w2 ⟨rfl, hb2⟩; obtain ⟨hB2, -⟩ := bgX (n := W0.heap.size) (W0 := W0) (by go_grown) (by go_size) hb2; clear hb2; obtain ⟨x0, x1, x2, x3, x4, x5, x6, x7⟩ := Q0.out w2 hB2)
  all_goals
    have g0 : ((w2.setCell ⟨w.heap.size, 0, none⟩ (.int .i64 D2)).setCell ⟨w.heap.size, 1, none⟩ (.slice p m c)).cell? ⟨w.heap.size, 0, none⟩ = some (.int .i64 D2) := by simp (maxDischargeDepth := 8) [go_sem, x0]
    have g1 : ((w2.setCell ⟨w.heap.size, 0, none⟩ (.int .i64 D2)).setCell ⟨w.heap.size, 1, none⟩ (.slice p m c)).cell? ⟨w.heap.size, 1, none⟩ = some (.slice p m c) := by simp (maxDischargeDepth := 8) [go_sem, x1]
    have K9 : Below w.heap.size w ((w2.setCell ⟨w.heap.size, 0, none⟩ (.int .i64 D2)).setCell ⟨w.heap.size, 1, none⟩ (.slice p m c)) := (x6.setCell (p := ⟨w.heap.size, 0, none⟩) (Nat.le_refl _) _).setCell (p := ⟨w.heap.size, 1, none⟩) (Nat.le_refl _) _
    have O9 : Hid (OwnE (w.heap.size + 1) (.slice p m c) D3 ((w2.setCell ⟨w.heap.size, 0, none⟩ (.int .i64 D2)).setCell ⟨w.heap.size, 1, none⟩ (.slice p m c))) := own_setE (own_setE x7 (a := ⟨w.heap.size, 0, none⟩) (by simp) _) (a := ⟨w.heap.size, 1, none⟩) (by simp) _
    go_wp2
    generalize (w2.setCell ⟨w.heap.size, 0, none⟩ (.int .i64 D2)).setCell ⟨w.heap.size, 1, none⟩ (.slice p m c) = W9 at g0 g1 K9 O9 ⊢
    refine bodyPost_ret (by simp [results, Tryz.results9, go_sem, g0, g1]; try rfl) rfl ?_
    exact PpOut.mk K9 em.out.symm (by omega) O9.out rfl

end Go.Proofs.YticmebamclacaabGreatDoor

namespace Go.Proofs.YticmebamclacaabGreatDoor
open Go.RowKit LX Go.Shelf Go.Extern.Stop Go.Stop Go.Extern
set_option linter.unusedVariables false

set_option maxRecDepth 100000 in
set_option maxHeartbeats 2000000 in
theorem wrong_any (E l : Int) (w : World) (hg : ErrT w) (hl : E = 0 → l = 0) :
    Calls Tryz.prog 21 #[sgV E l] w fun r w' => r = .returned (.agg #[.int .i64 E, .int .i64 l]) ∧ Below w.heap.size w w' := by
  by_cases hE : E = 0
  · have hl0 := hl hE
    subst hE hl0
    have hv : sgV 0 0 = .nilIface := rfl
    rw [hv]
    have cn : Hid (∀ W : World, ErrT W → Calls Tryz.prog 15 #[.nilIface] W fun r w' => r = .returned (.int .i64 0) ∧ Below W.heap.size W w') := fun W hW => tnumber_any 0 W hW
    clear hv hl
    go_enter Tryz.func21, Tryz.ntmps21
    go_wp2_with (first | (go_at_call 27; refine (as_nil _ _).mono ?_; rintro e w' ⟨rfl, rfl⟩) | fail)
    refine (cn.out _ (hg.below (by go_grown))).mono ?_
    rintro e w1 ⟨rfl, hb1⟩
    have q0 : w1.cell? ⟨w.heap.size, 0, none⟩ = some (.int .i64 0) := (hb1.cell (p := ⟨w.heap.size, 0, none⟩) (by first | (simp; done) | (simp; omega))).trans (by simp [go_sem])
    have q1 : w1.cell? ⟨w.heap.size, 1, none⟩ = some (.int .i64 0) := (hb1.cell (p := ⟨w.heap.size, 1, none⟩) (by first | (simp; done) | (simp; omega))).trans (by simp [go_sem])
    have f0 : w1.frozen? ⟨w.heap.size, 0, none⟩ = false := (hb1.frozen (p := ⟨w.heap.size, 0, none⟩) (by first | (simp; done) | (simp; omega))).trans (by simp [go_sem])
    have f1 : w1.frozen? ⟨w.heap.size, 1, none⟩ = false := (hb1.frozen (p := ⟨w.heap.size, 1, none⟩) (by first | (simp; done) | (simp; omega))).trans (by simp [go_sem])
    obtain ⟨hB1, -⟩ := bgX (n := w.heap.size) (W0 := w) (by go_grown) (by go_size) hb1
    clear hb1 cn
    have g0 : ((w1.setCell ⟨w.heap.size, 0, none⟩ (.int .i64 0)).setCell ⟨w.heap.size, 1, none⟩ (.int .i64 0)).cell? ⟨w.heap.size, 0, none⟩ = some (.int .i64 0) := by simp (maxDischargeDepth := 8) [go_sem, q0]
    have g1 : ((w1.setCell ⟨w.heap.size, 0, none⟩ (.int .i64 0)).setCell ⟨w.heap.size, 1, none⟩ (.int .i64 0)).cell? ⟨w.heap.size, 1, none⟩ = some (.int .i64 0) := by simp (maxDischargeDepth := 8) [go_sem, q1]
    have K9 : Below w.heap.size w ((w1.setCell ⟨w.heap.size, 0, none⟩ (.int .i64 0)).setCell ⟨w.heap.size, 1, none⟩ (.int .i64 0)) := (hB1.setCell (p := ⟨w.heap.size, 0, none⟩) (Nat.le_refl _) _).setCell (p := ⟨w.heap.size, 1, none⟩) (Nat.le_refl _) _
    go_wp2
    generalize (w1.setCell ⟨w.heap.size, 0, none⟩ (.int .i64 0)).setCell ⟨w.heap.size, 1, none⟩ (.int .i64 0) = W9 at g0 g1 K9 ⊢
    refine bodyPost_ret (by simp [results, Tryz.results21, go_sem, g0, g1]; try rfl) rfl ?_
    exact ⟨rfl, K9⟩
  · by_cases hl0 : l = 0
    · subst hl0
      have hv : sgV E 0 = errV E := by unfold sgV errV; rw [if_neg hE, if_neg hE, if_pos rfl]
      have cn : Hid (∀ W : World, ErrT W → Calls Tryz.prog 15 #[errV E] W fun r w' => r = .returned (.int .i64 E) ∧ Below W.heap.size W w') := fun W hW => tnumber_any E W hW
      rw [hv]
      rw [errV_ne hE] at cn ⊢
      clear hv hl hE
      go_enter Tryz.func21, Tryz.ntmps21
      go_wp2_with (first | (go_at_call 27; refine (as_missF E _ _ (hg.below (by go_grown))).mono ?_; rintro e w' ⟨rfl, rfl⟩) | fail)
      refine (cn.out _ (hg.below (by go_grown))).mono ?_
      rintro e w1 ⟨rfl, hb1⟩
      have q0 : w1.cell? ⟨w.heap.size, 0, none⟩ = some (.int .i64 0) := (hb1.cell (p := ⟨w.heap.size, 0, none⟩) (by first | (simp; done) | (simp; omega))).trans (by simp [go_sem])
      have q1 : w1.cell? ⟨w.heap.size, 1, none⟩ = some (.int .i64 0) := (hb1.cell (p := ⟨w.heap.size, 1, none⟩) (by first | (simp; done) | (simp; omega))).trans (by simp [go_sem])
      have f0 : w1.frozen? ⟨w.heap.size, 0, none⟩ = false := (hb1.frozen (p := ⟨w.heap.size, 0, none⟩) (by first | (simp; done) | (simp; omega))).trans (by simp [go_sem])
      have f1 : w1.frozen? ⟨w.heap.size, 1, none⟩ = false := (hb1.frozen (p := ⟨w.heap.size, 1, none⟩) (by first | (simp; done) | (simp; omega))).trans (by simp [go_sem])
      obtain ⟨hB1, -⟩ := bgX (n := w.heap.size) (W0 := w) (by go_grown) (by go_size) hb1
      clear hb1 cn
      have g0 : ((w1.setCell ⟨w.heap.size, 0, none⟩ (.int .i64 E)).setCell ⟨w.heap.size, 1, none⟩ (.int .i64 0)).cell? ⟨w.heap.size, 0, none⟩ = some (.int .i64 E) := by simp (maxDischargeDepth := 8) [go_sem, q0]
      have g1 : ((w1.setCell ⟨w.heap.size, 0, none⟩ (.int .i64 E)).setCell ⟨w.heap.size, 1, none⟩ (.int .i64 0)).cell? ⟨w.heap.size, 1, none⟩ = some (.int .i64 0) := by simp (maxDischargeDepth := 8) [go_sem, q1]
      have K9 : Below w.heap.size w ((w1.setCell ⟨w.heap.size, 0, none⟩ (.int .i64 E)).setCell ⟨w.heap.size, 1, none⟩ (.int .i64 0)) := (hB1.setCell (p := ⟨w.heap.size, 0, none⟩) (Nat.le_refl _) _).setCell (p := ⟨w.heap.size, 1, none⟩) (Nat.le_refl _) _
      go_wp2
      generalize (w1.setCell ⟨w.heap.size, 0, none⟩ (.int .i64 E)).setCell ⟨w.heap.size, 1, none⟩ (.int .i64 0) = W9 at g0 g1 K9 ⊢
      refine bodyPost_ret (by simp [results, Tryz.results21, go_sem, g0, g1]; try rfl) rfl ?_
      exact ⟨rfl, K9⟩
    · have hv : sgV E l = lineV l E := by unfold sgV; rw [if_neg hE, if_neg hl0]
      have cn : Hid (∀ W : World, ErrT W → Calls Tryz.prog 15 #[lineV l E] W fun r w' => r = .returned (.int .i64 E) ∧ Below W.heap.size W w') := fun W hW => tnumber_line l E W hW
      rw [hv]
      clear hv hl hE hl0
      go_enter Tryz.func21, Tryz.ntmps21
      go_upto_region 4 with (first | (go_at_call 27; refine (as_hitL l 0 (.iface 74 (.agg #[.int .i64 E])) .nilIface (w.heap.size + 1) _ (hg.below (by go_grown)) (by simp) (by simp) (by simp) (by simp) ⟨_, _, rfl⟩).mono ?_; rintro e w' ⟨rfl, rfl⟩))
      refine wpX_world ?_
      intro W0 hW0
      have d0 : W0.cell? ⟨w.heap.size + 1, 0, none⟩ = some (.int .i64 l) := by rw [hW0]; simp (maxDischargeDepth := 12) [go_sem]
      have q0 : W0.cell? ⟨w.heap.size, 0, none⟩ = some (.int .i64 0) := by rw [hW0]; simp (maxDischargeDepth := 12) [go_sem]
      have q1 : W0.cell? ⟨w.heap.size, 1, none⟩ = some (.int .i64 0) := by rw [hW0]; simp (maxDischargeDepth := 12) [go_sem]
      have f0 : W0.frozen? ⟨w.heap.size, 0, none⟩ = false := by rw [hW0]; simp (maxDischargeDepth := 12) [go_sem]
      have f1 : W0.frozen? ⟨w.heap.size, 1, none⟩ = false := by rw [hW0]; simp (maxDischargeDepth := 12) [go_sem]
      have k0 : Below w.heap.size w W0 := by rw [hW0]; go_grown
      have k1 : w.heap.size + 1 < W0.heap.size := by rw [hW0]; first | (simp; done) | (simp; omega)
      clear hW0
      have HG : Hid (ErrT W0) := hg.below k0
      have Q0 : Hid (∀ W, Below W0.heap.size W0 W → W.cell? ⟨w.heap.size, 0, none⟩ = some (.int .i64 0) ∧ W.cell? ⟨w.heap.size, 1, none⟩ = some (.int .i64 0) ∧ W.frozen? ⟨w.heap.size, 0, none⟩ = false ∧ W.frozen? ⟨w.heap.size, 1, none⟩ = false ∧ W.cell? ⟨w.heap.size + 1, 0, none⟩ = some (.int .i64 l) ∧ Below w.heap.size w W) := fun W hW =>
        ⟨(hW.cell (p := ⟨w.heap.size, 0, none⟩) (by first | (simp; done) | (simp; omega))).trans q0, (hW.cell (p := ⟨w.heap.size, 1, none⟩) (by first | (simp; done) | (simp; omega))).trans q1, (hW.frozen (p := ⟨w.heap.size, 0, none⟩) (by first | (simp; done) | (simp; omega))).trans f0, (hW.frozen (p := ⟨w.heap.size, 1, none⟩) (by first | (simp; done) | (simp; omega))).trans f1, (hW.cell (p := ⟨w.heap.size + 1, 0, none⟩) k1).trans d0, k0.trans (hW.mono k0.size)⟩
      go_region_with (go_at_call 15; refine (cn.out _ (HG.out.below (by go_grown))).mono ?_; rintro e w1 ⟨rfl, hb1⟩; obtain ⟨hB1, -⟩ := bgX (n := W0.heap.size) (W0 := W0) (by go_grown) (by go_size) hb1; clear hb1; obtain ⟨x0, x1, x2, x3, x4, x5⟩ := Q0.out w1 hB1)
      all_goals
        have g0 : ((w1.setCell ⟨w.heap.size, 0, none⟩ (.int .i64 E)).setCell ⟨w.heap.size, 1, none⟩ (.int .i64 l)).cell? ⟨w.heap.size, 0, none⟩ = some (.int .i64 E) := by simp (maxDischargeDepth := 8) [go_sem, x0]
        have g1 : ((w1.setCell ⟨w.heap.size, 0, none⟩ (.int .i64 E)).setCell ⟨w.heap.size, 1, none⟩ (.int .i64 l)).cell? ⟨w.heap.size, 1, none⟩ = some (.int .i64 l) := by simp (maxDischargeDepth := 8) [go_sem, x1]
        have K9 : Below w.heap.size w ((w1.setCell ⟨w.heap.size, 0, none⟩ (.int .i64 E)).setCell ⟨w.heap.size, 1, none⟩ (.int .i64 l)) := (x5.setCell (p := ⟨w.heap.size, 0, none⟩) (Nat.le_refl _) _).setCell (p := ⟨w.heap.size, 1, none⟩) (Nat.le_refl _) _
        go_wp2
        generalize (w1.setCell ⟨w.heap.size, 0, none⟩ (.int .i64 E)).setCell ⟨w.heap.size, 1, none⟩ (.int .i64 l) = W9 at g0 g1 K9 ⊢
        refine bodyPost_ret (by simp [results, Tryz.results21, go_sem, g0, g1]; try rfl) rfl ?_
        exact ⟨rfl, K9⟩

theorem own_setG {w : World} {N : Nat} {v : Value} {es : List Dec} (h : OwnG N v es w) {a : Addr} (ha : a.block < N) (u : Value) : OwnG N v es (w.setCell a u) := by
  obtain ⟨zs, h1, h2⟩ := h
  exact ⟨zs, ownsRow_setCell_below h1 ha u, h2.mono fun b xs k => ownsRow_setCell_below k ha u⟩
/-- What ParseSignature answers. -/
def PsOut (N : Nat) (w : World) (D : Int × Int × List Dec) (r : Ending) (w' : World) : Prop := Below N w w' ∧ ∃ p c, r = .returned (.tuple #[.slice p D.2.2.length c, .agg #[.int .i64 D.1, .int .i64 D.2.1]]) ∧ OwnG N (.slice p D.2.2.length c) D.2.2 w'
theorem PsOut.mk {N : Nat} {w w' : World} {D1 D2 : Int} {D3 : List Dec} {r : Ending} {p : Option Addr} {m c : Nat} (hb : Below N w w') (hm : m = D3.length) (ho : OwnG N (.slice p m c) D3 w') (hr : r = .returned (.tuple #[.slice p m c, .agg #[.int .i64 D1, .int .i64 D2]])) : PsOut N w (D1, D2, D3) r w' := by
  subst hm
  exact ⟨hb, p, c, hr, ho⟩
theorem rdS_zero (A : List Dec) (i : Nat) (L : List ByteArray) (h : (rdS A i L).1 = 0) : (rdS A i L).2.1 = 0 := by
  induction L generalizing A i with
  | nil => rfl
  | cons x ls ih =>
    unfold rdS at h ⊢
    by_cases h1 : cutE x = 0
    · rw [if_pos h1] at h ⊢
      by_cases h2 : (rdT A (tks x)).1 = 0
      · rw [if_pos h2] at h ⊢; exact ih _ _ h
      · rw [if_neg h2] at h; exact absurd h h2
    · rw [if_neg h1] at h; exact absurd h h1
theorem rsg_zero (s : ByteArray) (h : (rsg s).1 = 0) : (rsg s).2.1 = 0 := by
  unfold rsg at h ⊢
  by_cases h1 : 16384 < s.size
  · rw [if_pos h1] at h; cases h
  · rw [if_neg h1] at h ⊢; exact rdS_zero _ _ _ h

set_option maxRecDepth 100000 in
set_option maxHeartbeats 2000000 in
theorem parsesig_any (s : ByteArray) (w : World) (ht : Pow w) (he : Errs w) (h8 : 9 ≤ w.heap.size) (hg : ErrT w) :
    Calls Tryz.prog 6 #[.string s] w fun r w' => PsOut w.heap.size w (rsg s) r w' := by
  have ct : Hid (∀ W : World, Below w.heap.size w W → Calls Tryz.prog 20 #[.string s] W fun r w' => SgOut W.heap.size W (rsg s) r w') := fun W hW => rdsig_any s W (ht.below hW) (he.below hW h8) (Nat.le_trans h8 hW.size)
  have hz := rsg_zero s
  generalize rsg s = D at *
  obtain ⟨D1, D2, D3⟩ := D
  dsimp only at hz
  have cn : Hid (∀ W : World, ErrT W → Calls Tryz.prog 21 #[sgV D1 D2] W fun r w' => r = .returned (.agg #[.int .i64 D1, .int .i64 D2]) ∧ Below W.heap.size W w') := fun W hW => wrong_any D1 D2 W hW hz
  clear ht he h8
  go_enter Tryz.func6, Tryz.ntmps6
  go_wp2_with fail
  refine (ct.out _ (by go_grown)).mono ?_
  rintro r w1 ⟨hb1, p, c, rfl, ho⟩
  dsimp only
  have q0 : w1.cell? ⟨w.heap.size, 0, none⟩ = some (.int .i64 0) := (hb1.cell (p := ⟨w.heap.size, 0, none⟩) (by first | (simp; done) | (simp; omega))).trans (by simp [go_sem])
  have q1 : w1.cell? ⟨w.heap.size, 1, none⟩ = some (.int .i64 0) := (hb1.cell (p := ⟨w.heap.size, 1, none⟩) (by first | (simp; done) | (simp; omega))).trans (by simp [go_sem])
  have f0 : w1.frozen? ⟨w.heap.size, 0, none⟩ = false := (hb1.frozen (p := ⟨w.heap.size, 0, none⟩) (by first | (simp; done) | (simp; omega))).trans (by simp [go_sem])
  have f1 : w1.frozen? ⟨w.heap.size, 1, none⟩ = false := (hb1.frozen (p := ⟨w.heap.size, 1, none⟩) (by first | (simp; done) | (simp; omega))).trans (by simp [go_sem])
  have hs1 : w.heap.size < w1.heap.size := by have := hb1.size; simp at this; omega
  obtain ⟨hB1, -⟩ := bgX (n := w.heap.size) (W0 := w) (by go_grown) (by go_size) hb1
  have HO : Hid (OwnG (w.heap.size + 1) (.slice p D3.length c) D3 w1) := ho.base (by simp)
  clear hb1 ct ho
  obtain ⟨m, em⟩ : ∃ m : Nat, Hid (D3.length = m) := ⟨_, rfl⟩
  rw [em.out] at HO ⊢
  have cn2 : Hid (Calls Tryz.prog 21 #[sgV D1 D2] w1 fun r w' => r = .returned (.agg #[.int .i64 D1, .int .i64 D2]) ∧ Below w1.heap.size w1 w') := cn.out w1 (hg.below hB1)
  clear cn
  generalize sgV D1 D2 = EV at *
  go_wp2_with fail
  refine cn2.out.mono ?_
  rintro r w2 ⟨rfl, hb2⟩
  have p0 : w2.cell? ⟨w.heap.size, 0, none⟩ = some (.int .i64 0) := (hb2.cell (p := ⟨w.heap.size, 0, none⟩) hs1).trans q0
  have p1 : w2.cell? ⟨w.heap.size, 1, none⟩ = some (.int .i64 0) := (hb2.cell (p := ⟨w.heap.size, 1, none⟩) hs1).trans q1
  have h0 : w2.frozen? ⟨w.heap.size, 0, none⟩ = false := (hb2.frozen (p := ⟨w.heap.size, 0, none⟩) hs1).trans f0
  have h1 : w2.frozen? ⟨w.heap.size, 1, none⟩ = false := (hb2.frozen (p := ⟨w.heap.size, 1, none⟩) hs1).trans f1
  have K2 : Below w.heap.size w w2 := hB1.trans (hb2.mono hB1.size)
  have HO2 : Hid (OwnG (w.heap.size + 1) (.slice p m c) D3 w2) := HO.out.below hb2
  clear cn2 q0 q1 f0 f1 HO hb2
  have g0 : ((w2.setCell ⟨w.heap.size, 0, none⟩ (.int .i64 D1)).setCell ⟨w.heap.size, 1, none⟩ (.int .i64 D2)).cell? ⟨w.heap.size, 0, none⟩ = some (.int .i64 D1) := by simp (maxDischargeDepth := 8) [go_sem, p0]
  have g1 : ((w2.setCell ⟨w.heap.size, 0, none⟩ (.int .i64 D1)).setCell ⟨w.heap.size, 1, none⟩ (.int .i64 D2)).cell? ⟨w.heap.size, 1, none⟩ = some (.int .i64 D2) := by simp (maxDischargeDepth := 8) [go_sem, p1]
  have K9 : Below w.heap.size w ((w2.setCell ⟨w.heap.size, 0, none⟩ (.int .i64 D1)).setCell ⟨w.heap.size, 1, none⟩ (.int .i64 D2)) := (K2.setCell (p := ⟨w.heap.size, 0, none⟩) (Nat.le_refl _) _).setCell (p := ⟨w.heap.size, 1, none⟩) (Nat.le_refl _) _
  have O9 : Hid (OwnG w.heap.size (.slice p m c) D3 ((w2.setCell ⟨w.heap.size, 0, none⟩ (.int .i64 D1)).setCell ⟨w.heap.size, 1, none⟩ (.int .i64 D2))) := (own_setG (own_setG HO2.out (a := ⟨w.heap.size, 0, none⟩) (by simp) _) (a := ⟨w.heap.size, 1, none⟩) (by simp) _).base (by omega)
  go_wp2
  generalize (w2.setCell ⟨w.heap.size, 0, none⟩ (.int .i64 D1)).setCell ⟨w.heap.size, 1, none⟩ (.int .i64 D2) = W9 at g0 g1 K9 O9 ⊢
  refine bodyPost_ret (by simp [results, Tryz.results6, go_sem, g0, g1]; try rfl) rfl ?_
  exact PsOut.mk K9 em.out.symm O9.out rfl

end Go.Proofs.YticmebamclacaabGreatDoor

namespace Go.Proofs.YticmebamclacaabGreatDoor
open Go.RowKit LX Go.Shelf
set_option linter.unusedVariables false

set_option maxRecDepth 100000 in
set_option maxHeartbeats 4000000 in
theorem rssame_yes (A B : Value) (L : List Dec) (w : World) (hA : SigAt w A L) (hB : SigAt w B L) (lL : L.length ≤ 9223372036854775807) (lk : ∀ d ∈ L, d.kinds.length ≤ 9223372036854775807) :
    Calls Tryz.prog 7 #[A, B] w fun r w' => r = .returned (.bool true) ∧ Below w.heap.size w w' := by
  obtain ⟨p, c, rfl, -, HX0⟩ := hA.form
  obtain ⟨q, c', rfl, -, HY0⟩ := hB.form
  have HX : Hid (∀ i (hi : i < L.length), ∃ b off u, p = some ⟨b, off, none⟩ ∧ b < w.heap.size ∧ w.cell? ⟨b, off + i * 2, none⟩ = some (.string L[i].name) ∧ w.cell? ⟨b, off + i * 2 + 1, none⟩ = some u ∧ KAt w u L[i].kinds) := HX0
  have HY : Hid (∀ i (hi : i < L.length), ∃ b off u, q = some ⟨b, off, none⟩ ∧ b < w.heap.size ∧ w.cell? ⟨b, off + i * 2, none⟩ = some (.string L[i].name) ∧ w.cell? ⟨b, off + i * 2 + 1, none⟩ = some u ∧ KAt w u L[i].kinds) := HY0
  have LK : Hid (∀ d ∈ L, d.kinds.length ≤ 9223372036854775807) := lk
  clear hA hB HX0 HY0 lk
  obtain ⟨n, en⟩ : ∃ n : Nat, Hid (L.length = n) := ⟨_, rfl⟩
  rw [en.out] at lL ⊢
  go_enter Tryz.func7, Tryz.ntmps7
  go_wp2
  go_loopw [5] (fun i wr => ∃ k : Nat, k ≤ n ∧ i = .int .i64 k ∧ Below w.heap.size w wr) (fun i _ => n - (intOf i).toNat)
  case atStart => exact ⟨0, Nat.zero_le _, rfl, Below.refl _ _⟩
  case round =>
    obtain ⟨k, hk, rfl, hBw⟩ := hrel
    by_cases hlt : k < n
    · have kx : k < L.length := by have := en.out; omega
      obtain ⟨b, off, u, rfl, hb, r0, r1, r2⟩ := HX.out k kx
      obtain ⟨b', off', u', rfl, hb', s0, s1, s2⟩ := HY.out k kx
      have a0 := (hBw.cell (p := ⟨b, off + k * 2, none⟩) hb).trans r0
      have a1 := (hBw.cell (p := ⟨b, off + k * 2 + 1, none⟩) hb).trans r1
      have d0 := (hBw.cell (p := ⟨b', off' + k * 2, none⟩) hb').trans s0
      have d1 := (hBw.cell (p := ⟨b', off' + k * 2 + 1, none⟩) hb').trans s1
      have hlt' : (k : Int) < n := by omega
      have lkk := LK.out _ (List.getElem_mem kx)
      obtain ⟨pu, cu, hu, HK0⟩ := r2.form
      obtain ⟨pu', cu', hu', HJ0⟩ := s2.form
      subst hu hu'
      have HK : Hid (∀ i (hi : i < L[k].kinds.length), ∃ b off, pu = some ⟨b, off, none⟩ ∧ b < w.heap.size ∧ w.cell? ⟨b, off + i, none⟩ = some (.int .i64 L[k].kinds[i])) := HK0
      have HJ : Hid (∀ i (hi : i < L[k].kinds.length), ∃ b off, pu' = some ⟨b, off, none⟩ ∧ b < w.heap.size ∧ w.cell? ⟨b, off + i, none⟩ = some (.int .i64 L[k].kinds[i])) := HJ0
      have hbr : b < wr.heap.size := Nat.lt_of_lt_of_le hb hBw.size
      have hbr' : b' < wr.heap.size := Nat.lt_of_lt_of_le hb' hBw.size
      clear r0 r1 r2 s0 s1 s2 HK0 HJ0
      generalize L[k].name = X at a0 d0
      generalize L[k].kinds = ks at a1 d1 HK HJ lkk
      obtain ⟨m, em⟩ : ∃ m : Nat, Hid (ks.length = m) := ⟨_, rfl⟩
      rw [em.out] at a1 d1 lkk
      have hq : (X.toList == X.toList) = true := by simp
      have hq2 : (X.toList != X.toList) = false := by simp
      have hm2 : ((m : Int) != m) = false := by simp
      go_upto_region 6 with fail
      go_quiet (fail)
      have a1' : Hid (wr.cell? ⟨b, off + k * 2 + 1, none⟩ = some (.slice pu m cu)) := a1
      have d1' : Hid (wr.cell? ⟨b', off' + k * 2 + 1, none⟩ = some (.slice pu' m cu')) := d1
      have hZ : Hid (Below wr.heap.size wr (wr.drewN nq)) := bdrewX _ (Below.refl _ _)
      have hBO : Hid (Below w.heap.size w wr) := hBw
      obtain ⟨w5, ew5⟩ : ∃ w5, Hid (wr = w5) := ⟨wr, (show wr = wr from rfl)⟩
      rw [ew5.out] at a1' d1' hZ hBO hbr hbr' ⊢
      clear a0 a1 d0 d1 hBw ew5
      go_wp2
      go_loopw [6] (fun i wr => ∃ j : Nat, j ≤ m ∧ i = .int .i64 j ∧ Below w5.heap.size w5 wr) (fun i _ => m - (intOf i).toNat)
      case atStart => exact ⟨0, Nat.zero_le _, rfl, hZ.out⟩
      case round =>
        obtain ⟨j, hj, rfl, hB5⟩ := hrel
        have hB9 : Below w.heap.size w wr := hBO.out.trans (hB5.mono hBO.out.size)
        have x1 := (hB5.cell (p := ⟨b, off + k * 2 + 1, none⟩) hbr).trans a1'.out
        have x2 := (hB5.cell (p := ⟨b', off' + k * 2 + 1, none⟩) hbr').trans d1'.out
        by_cases hjm : j < m
        · have jx : j < ks.length := by have := em.out; omega
          obtain ⟨b1, off1, rfl, hb1, q0⟩ := HK.out j jx
          obtain ⟨b2, off2, rfl, hb2, q1⟩ := HJ.out j jx
          have g0 := (hB9.cell (p := ⟨b1, off1 + j, none⟩) hb1).trans q0
          have g1 := (hB9.cell (p := ⟨b2, off2 + j, none⟩) hb2).trans q1
          have hjm' : (j : Int) < m := by omega
          clear q0 q1
          generalize ks[j] = K at g0 g1
          have hK2 : (K != K) = false := by simp
          go_upto_region 11 with fail
          go_quiet (fail)
          have K8 : Below w5.heap.size w5 (wr.drewN nq) := bdrewX _ hB5
          clear g0 g1 x1 x2
          go_wp2
          exact ⟨⟨j + 1, by omega, by go_num, K8⟩, by simp [intOf]; omega⟩
        · have c2 : ¬ (j : Int) < m := by omega
          go_wp2
          exact ⟨⟨k + 1, by omega, by go_num, hB9⟩, by simp [intOf]; omega⟩
    · have c2 : ¬ (k : Int) < n := by omega
      go_wp2
      go_ret
      exact ⟨rfl, hBw⟩

end Go.Proofs.YticmebamclacaabGreatDoor

namespace Go.Proofs.YticmebamclacaabGreatDoor
open Go.RowKit LX Go.Shelf
set_option linter.unusedVariables false

set_option maxRecDepth 100000 in
theorem dvsame_yes (k n d : Int) (s : ByteArray) (w : World) :
    Calls Tryz.prog 24 #[.agg #[.int .i64 k, .int .i64 n, .int .i64 d, .string s], .agg #[.int .i64 k, .int .i64 n, .int .i64 d, .string s]] w fun e w' => e = .returned (.bool true) ∧ Below w.heap.size w w' := by
  have hs : (s.toList == s.toList) = true := by simp
  go_enter Tryz.func24, Tryz.ntmps24
  go_wp2
  go_ret
  exact ⟨by first | rfl | simp, by go_grown⟩

set_option maxRecDepth 100000 in
set_option maxHeartbeats 4000000 in
theorem rpsame_yes (t : Int) (A B : Value) (es : List Evt) (w : World) (hA : EvsAt w A es) (hB : EvsAt w B es) (lL : es.length ≤ 9223372036854775807) (lk : ∀ d ∈ es, d.args.length ≤ 9223372036854775807) :
    Calls Tryz.prog 10 #[.agg #[.int .i64 t, A], .agg #[.int .i64 t, B]] w fun r w' => r = .returned (.bool true) ∧ Below w.heap.size w w' := by
  obtain ⟨p, c, rfl, HX0⟩ := hA.form
  obtain ⟨q, c', rfl, HY0⟩ := hB.form
  have HX : Hid (∀ i (hi : i < es.length), ∃ b off u, p = some ⟨b, off, none⟩ ∧ b < w.heap.size ∧ w.cell? ⟨b, off + i * 2, none⟩ = some (.string es[i].name) ∧ w.cell? ⟨b, off + i * 2 + 1, none⟩ = some u ∧ RowAt w u es[i].args) := HX0
  have HY : Hid (∀ i (hi : i < es.length), ∃ b off u, q = some ⟨b, off, none⟩ ∧ b < w.heap.size ∧ w.cell? ⟨b, off + i * 2, none⟩ = some (.string es[i].name) ∧ w.cell? ⟨b, off + i * 2 + 1, none⟩ = some u ∧ RowAt w u es[i].args) := HY0
  have LK : Hid (∀ d ∈ es, d.args.length ≤ 9223372036854775807) := lk
  clear hA hB HX0 HY0 lk
  obtain ⟨n, en⟩ : ∃ n : Nat, Hid (es.length = n) := ⟨_, rfl⟩
  rw [en.out] at lL ⊢
  go_enter Tryz.func10, Tryz.ntmps10
  go_wp2
  refine wpX_world ?_
  intro w0 hw0
  have z1 : w0.cell? ⟨w.heap.size, 1, none⟩ = some (.slice p n c) := by rw [hw0]; simp [go_sem]
  have z2 : w0.cell? ⟨w.heap.size + 1, 1, none⟩ = some (.slice q n c') := by rw [hw0]; simp [go_sem]
  have zB : Below w.heap.size w w0 := by rw [hw0]; go_grown
  have zs : w.heap.size + 1 < w0.heap.size := by rw [hw0]; simp
  clear hw0
  go_loopw [5] (fun i wr => ∃ k : Nat, k ≤ n ∧ i = .int .i64 k ∧ Below w0.heap.size w0 wr) (fun i _ => n - (intOf i).toNat)
  case atStart => exact ⟨0, Nat.zero_le _, rfl, Below.refl _ _⟩
  case round =>
    obtain ⟨k, hk, rfl, hB0⟩ := hrel
    have hBw : Below w.heap.size w wr := zB.trans (hB0.mono zB.size)
    have y1 : wr.cell? ⟨w.heap.size, 1, none⟩ = some (.slice p n c) := (hB0.cell (p := ⟨w.heap.size, 1, none⟩) (Nat.lt_of_succ_lt zs)).trans z1
    have y2 : wr.cell? ⟨w.heap.size + 1, 1, none⟩ = some (.slice q n c') := (hB0.cell (p := ⟨w.heap.size + 1, 1, none⟩) zs).trans z2
    have ys : w.heap.size + 1 < wr.heap.size := Nat.lt_of_lt_of_le zs hB0.size
    by_cases hlt : k < n
    · have kx : k < es.length := by have := en.out; omega
      obtain ⟨b, off, u, rfl, hb, r0, r1, r2⟩ := HX.out k kx
      obtain ⟨b', off', u', rfl, hb', s0, s1, s2⟩ := HY.out k kx
      have a0 := (hBw.cell (p := ⟨b, off + k * 2, none⟩) hb).trans r0
      have a1 := (hBw.cell (p := ⟨b, off + k * 2 + 1, none⟩) hb).trans r1
      have d0 := (hBw.cell (p := ⟨b', off' + k * 2, none⟩) hb').trans s0
      have d1 := (hBw.cell (p := ⟨b', off' + k * 2 + 1, none⟩) hb').trans s1
      have hlt' : (k : Int) < n := by omega
      have lkk := LK.out _ (List.getElem_mem kx)
      obtain ⟨pu, cu, hu, HK0⟩ := r2.formX
      obtain ⟨pu', cu', hu', HJ0⟩ := s2.formX
      subst hu hu'
      have HK : Hid (∀ i (hi : i < es[k].args.length), ∃ b off, pu = some ⟨b, off, none⟩ ∧ b < w.heap.size ∧ w.cell? ⟨b, off + i * 4, none⟩ = some (.int .i64 es[k].args[i].k) ∧ w.cell? ⟨b, off + i * 4 + 1, none⟩ = some (.int .i64 es[k].args[i].n) ∧ w.cell? ⟨b, off + i * 4 + 2, none⟩ = some (.int .i64 es[k].args[i].d) ∧ w.cell? ⟨b, off + i * 4 + 3, none⟩ = some (.string es[k].args[i].s)) := HK0
      have HJ : Hid (∀ i (hi : i < es[k].args.length), ∃ b off, pu' = some ⟨b, off, none⟩ ∧ b < w.heap.size ∧ w.cell? ⟨b, off + i * 4, none⟩ = some (.int .i64 es[k].args[i].k) ∧ w.cell? ⟨b, off + i * 4 + 1, none⟩ = some (.int .i64 es[k].args[i].n) ∧ w.cell? ⟨b, off + i * 4 + 2, none⟩ = some (.int .i64 es[k].args[i].d) ∧ w.cell? ⟨b, off + i * 4 + 3, none⟩ = some (.string es[k].args[i].s)) := HJ0
      have hbr : b < wr.heap.size := Nat.lt_of_lt_of_le hb hBw.size
      have hbr' : b' < wr.heap.size := Nat.lt_of_lt_of_le hb' hBw.size
      clear r0 r1 r2 s0 s1 s2 HK0 HJ0
      generalize es[k].name = X at a0 d0
      generalize es[k].args = vs at a1 d1 HK HJ lkk
      obtain ⟨m, em⟩ : ∃ m : Nat, Hid (vs.length = m) := ⟨_, rfl⟩
      rw [em.out] at a1 d1 lkk
      have hq : (X.toList == X.toList) = true := by simp
      have nb : b ≠ wr.heap.size := by omega
      have nb' : b' ≠ wr.heap.size := by omega
      go_wp2
      refine wpX_world ?_
      intro w4 hw4
      have q1 : w4.cell? ⟨wr.heap.size, 1, none⟩ = some (.slice pu m cu) := by rw [hw4]; simp [go_sem]
      have q2 : w4.cell? ⟨wr.heap.size + 1, 1, none⟩ = some (.slice pu' m cu') := by rw [hw4]; simp [go_sem]
      have qB : Below wr.heap.size wr w4 := by rw [hw4]; go_grown
      have qs : wr.heap.size + 1 < w4.heap.size := by rw [hw4]; simp
      clear hw4
      have hBX : Below w.heap.size w w4 := hBw.trans (qB.mono hBw.size)
      have hBY : Below w0.heap.size w0 w4 := hB0.trans (qB.mono hB0.size)
      obtain ⟨N0, eN0⟩ : ∃ N0 : Nat, Hid (wr.heap.size = N0) := ⟨_, rfl⟩
      rw [eN0.out] at q1 q2 qs ⊢
      clear hbr hbr' qB eN0 a0 a1 d0 d1 y1 y2 nb nb'
      go_loopw [8] (fun i wr => ∃ j : Nat, j ≤ m ∧ i = .int .i64 j ∧ Below w4.heap.size w4 wr) (fun i _ => m - (intOf i).toNat)
      case atStart => exact ⟨0, Nat.zero_le _, rfl, Below.refl _ _⟩
      case round =>
        obtain ⟨j, hj, rfl, hB5⟩ := hrel
        have hB9 : Below w.heap.size w wr := hBX.trans (hB5.mono hBX.size)
        have x1 := (hB5.cell (p := ⟨N0, 1, none⟩) (Nat.lt_of_succ_lt qs)).trans q1
        have x2 := (hB5.cell (p := ⟨N0 + 1, 1, none⟩) qs).trans q2
        by_cases hjm : j < m
        · have jx : j < vs.length := by have := em.out; omega
          obtain ⟨b1, off1, rfl, hb1, k0, k1, k2, k3⟩ := HK.out j jx
          obtain ⟨b2, off2, rfl, hb2, l0, l1, l2, l3⟩ := HJ.out j jx
          have g0 := (hB9.cell (p := ⟨b1, off1 + j * 4, none⟩) hb1).trans k0
          have g1 := (hB9.cell (p := ⟨b1, off1 + j * 4 + 1, none⟩) hb1).trans k1
          have g2 := (hB9.cell (p := ⟨b1, off1 + j * 4 + 2, none⟩) hb1).trans k2
          have g3 := (hB9.cell (p := ⟨b1, off1 + j * 4 + 3, none⟩) hb1).trans k3
          have f0 := (hB9.cell (p := ⟨b2, off2 + j * 4, none⟩) hb2).trans l0
          have f1 := (hB9.cell (p := ⟨b2, off2 + j * 4 + 1, none⟩) hb2).trans l1
          have f2 := (hB9.cell (p := ⟨b2, off2 + j * 4 + 2, none⟩) hb2).trans l2
          have f3 := (hB9.cell (p := ⟨b2, off2 + j * 4 + 3, none⟩) hb2).trans l3
          have hjm' : (j : Int) < m := by omega
          have e1 : b1 < wr.heap.size := Nat.lt_of_lt_of_le hb1 hB9.size
          have e2 : b2 < wr.heap.size := Nat.lt_of_lt_of_le hb2 hB9.size
          have n1 : N0 < wr.heap.size := Nat.lt_of_lt_of_le (Nat.lt_of_succ_lt qs) hB5.size
          have n2 : N0 + 1 < wr.heap.size := Nat.lt_of_lt_of_le qs hB5.size
          clear k0 k1 k2 k3 l0 l1 l2 l3
          generalize vs[j] = Y at g0 g1 g2 g3 f0 f1 f2 f3
          have ct : Hid (∀ W : World, Calls Tryz.prog 24 #[.agg #[.int .i64 Y.k, .int .i64 Y.n, .int .i64 Y.d, .string Y.s], .agg #[.int .i64 Y.k, .int .i64 Y.n, .int .i64 Y.d, .string Y.s]] W fun e w' => e = .returned (.bool true) ∧ Below W.heap.size W w') := fun W => dvsame_yes Y.k Y.n Y.d Y.s W
          go_upto_region 13 with fail
          go_region_held3 (fun w' => (w'.cell? ⟨b1, off1 + j * 4, none⟩ = some (.int .i64 Y.k) ∧ w'.cell? ⟨b1, off1 + j * 4 + 1, none⟩ = some (.int .i64 Y.n) ∧ w'.cell? ⟨b1, off1 + j * 4 + 2, none⟩ = some (.int .i64 Y.d) ∧ w'.cell? ⟨b1, off1 + j * 4 + 3, none⟩ = some (.string Y.s)) ∧ (w'.cell? ⟨b2, off2 + j * 4, none⟩ = some (.int .i64 Y.k) ∧ w'.cell? ⟨b2, off2 + j * 4 + 1, none⟩ = some (.int .i64 Y.n) ∧ w'.cell? ⟨b2, off2 + j * 4 + 2, none⟩ = some (.int .i64 Y.d) ∧ w'.cell? ⟨b2, off2 + j * 4 + 3, none⟩ = some (.string Y.s)) ∧ w'.cell? ⟨N0, 1, none⟩ = some (.slice (some ⟨b1, off1, none⟩) m cu) ∧ w'.cell? ⟨N0 + 1, 1, none⟩ = some (.slice (some ⟨b2, off2, none⟩) m cu'))
            (exact ⟨⟨bclX (n := wr.heap.size) (by go_grown) g0 e1, bclX (n := wr.heap.size) (by go_grown) g1 e1, bclX (n := wr.heap.size) (by go_grown) g2 e1, bclX (n := wr.heap.size) (by go_grown) g3 e1⟩, ⟨bclX (n := wr.heap.size) (by go_grown) f0 e2, bclX (n := wr.heap.size) (by go_grown) f1 e2, bclX (n := wr.heap.size) (by go_grown) f2 e2, bclX (n := wr.heap.size) (by go_grown) f3 e2⟩, bclX (n := wr.heap.size) (by go_grown) x1 n1, bclX (n := wr.heap.size) (by go_grown) x2 n2⟩)
            (first
              | (go_at_call 24; refine (ct.out _).mono ?_; rintro e' w6 ⟨rfl, hb6⟩; obtain ⟨hB6, hn6⟩ := bgX (n := wr.heap.size) (W0 := wr) (by go_grown) (by go_size) hb6))
          all_goals
            have K8 : Below w4.heap.size w4 w6 := hB5.trans (hB6.mono hB5.size)
            clear ct g0 g1 g2 g3 f0 f1 f2 f3 x1 x2 hB6 hn6 hb6
            go_wp2
            exact ⟨⟨j + 1, by omega, by go_num, K8⟩, by simp [intOf]; omega⟩
        · have c2 : ¬ (j : Int) < m := by omega
          have K8 : Below w0.heap.size w0 wr := hBY.trans (hB5.mono hBY.size)
          go_wp2
          exact ⟨⟨k + 1, by omega, by go_num, K8⟩, by simp [intOf]; omega⟩
    · have c2 : ¬ (k : Int) < n := by omega
      go_wp2
      go_ret
      exact ⟨rfl, hBw⟩

end Go.Proofs.YticmebamclacaabGreatDoor

namespace Go.Proofs.YticmebamclacaabGreatDoor
open Go.RowKit LX Go.Shelf
set_option maxRecDepth 100000

abbrev s1 : ByteArray := ⟨#[112, 32, 105, 110, 116, 10, 10, 113, 32, 105, 110, 116, 32, 115, 116, 114]⟩
abbrev s2 : ByteArray := ⟨#[112, 32, 105, 110, 116, 10, 112]⟩
abbrev s3 : ByteArray := ⟨#[64, 53, 32, 40, 112, 32, 49, 41, 32, 40, 113, 32, 50, 32, 34, 120, 34, 41]⟩
abbrev s4 : ByteArray := ⟨#[53]⟩
def lvL : List Dec := [⟨⟨#[112]⟩, [1]⟩, ⟨⟨#[113]⟩, [1, 3]⟩]
def lvE : List Evt := [⟨⟨#[112]⟩, [⟨1, 1, 0, ⟨#[]⟩⟩]⟩, ⟨⟨#[113]⟩, [⟨1, 2, 0, ⟨#[]⟩⟩, ⟨3, 0, 0, ⟨#[120]⟩⟩]⟩]
theorem lv1 : rsg s1 = (0, 0, lvL) := by kernel_rfl
theorem lv2 : rsg s2 = (1, 2, []) := by kernel_rfl
theorem lv3 : rdP s3 = (0, 5, lvE) := by kernel_rfl
theorem lv4 : rdP s4 = (70, 0, []) := by kernel_rfl
theorem lv5 : ppT 5 lvE = s3.data.toList := by kernel_rfl
theorem lv6 : ppE 5 lvE = 0 := by kernel_rfl
theorem lv7 : pointE lvL 5 lvE = 0 := by kernel_rfl
theorem lv8 : pointE (lvL.take 1) 5 lvE = 90 := by kernel_rfl
end Go.Proofs.YticmebamclacaabGreatDoor

namespace Go.Proofs.YticmebamclacaabGreatDoor
open Go.RowKit LX Go.Shelf
set_option linter.unusedVariables false

/-- What the library's variables hold. -/
structure Env (w : World) : Prop where
  pow : Pow w
  errs : Errs w
  size : 9 ≤ w.heap.size
  err : ErrT w
theorem Env.below {w W : World} (h : Env w) (hb : Below w.heap.size w W) : Env W := ⟨h.pow.below hb, h.errs.below hb h.size, Nat.le_trans h.size hb.size, h.err.below hb⟩

set_option maxRecDepth 100000 in
set_option maxHeartbeats 2000000 in
theorem trlive_any (w : World) (he : Env w) :
    Calls Tryz.prog 11 #[] w fun r w' => r = .returned (.bool true) ∧ Below w.heap.size w w' := by
  have c1 : Hid (∀ W : World, Below w.heap.size w W → Calls Tryz.prog 6 #[.string s1] W fun r w' => Below W.heap.size W w' ∧ ∃ p c, r = .returned (.tuple #[.slice p 2 c, .agg #[.int .i64 0, .int .i64 0]]) ∧ OwnG W.heap.size (.slice p 2 c) lvL w') := fun W hW => by
    have e := he.below hW
    have h := parsesig_any s1 W e.pow e.errs e.size e.err
    rw [lv1] at h
    exact h
  have c2 : Hid (∀ W : World, Below w.heap.size w W → Calls Tryz.prog 6 #[.string s2] W fun r w' => Below W.heap.size W w' ∧ ∃ p c, r = .returned (.tuple #[.slice p 0 c, .agg #[.int .i64 1, .int .i64 2]])) := fun W hW => by
    have e := he.below hW
    have h := parsesig_any s2 W e.pow e.errs e.size e.err
    rw [lv2] at h
    exact h.mono fun r w' ⟨k1, p, c, k2, _⟩ => ⟨k1, p, c, k2⟩
  have c3 : Hid (∀ W : World, Below w.heap.size w W → Calls Tryz.prog 9 #[.string s3] W fun r w' => Below W.heap.size W w' ∧ ∃ p c, r = .returned (.tuple #[.agg #[.int .i64 5, .slice p 2 c], .int .i64 0]) ∧ OwnE W.heap.size (.slice p 2 c) lvE w') := fun W hW => by
    have e := he.below hW
    have h := parsept_any s3 W e.pow e.errs e.size e.err
    rw [lv3] at h
    exact h
  have c4 : Hid (∀ W : World, Below w.heap.size w W → Calls Tryz.prog 9 #[.string s4] W fun r w' => Below W.heap.size W w' ∧ ∃ p c, r = .returned (.tuple #[.agg #[.int .i64 0, .slice p 0 c], .int .i64 70])) := fun W hW => by
    have e := he.below hW
    have h := parsept_any s4 W e.pow e.errs e.size e.err
    rw [lv4] at h
    exact h.mono fun r w' ⟨k1, p, c, k2, _⟩ => ⟨k1, p, c, k2⟩
  have fx : ∀ e ∈ lvE, ∀ v ∈ e.args, v.Fits := by
    intro e he v hv
    simp only [lvE, List.mem_cons, List.not_mem_nil, or_false] at he
    rcases he with rfl | rfl
    · simp only [List.mem_cons, List.not_mem_nil, or_false] at hv
      subst hv
      exact ⟨by decide, by decide, by decide, by decide⟩
    · simp only [List.mem_cons, List.not_mem_nil, or_false] at hv
      rcases hv with rfl | rfl
      · exact ⟨by decide, by decide, by decide, by decide⟩
      · exact ⟨by decide, by decide, by decide, by decide⟩
  have lv : ∀ e ∈ lvE, e.args.length ≤ 9223372036854775807 := by
    intro e he
    simp only [lvE, List.mem_cons, List.not_mem_nil, or_false] at he
    rcases he with rfl | rfl <;> decide
  have lk : ∀ d ∈ lvL, d.kinds.length ≤ 9223372036854775807 := by
    intro e he
    simp only [lvL, List.mem_cons, List.not_mem_nil, or_false] at he
    rcases he with rfl | rfl <;> decide
  have c5 : Hid (∀ (W : World) (p : Option Addr) (c : Nat), Below w.heap.size w W → EvsAt W (.slice p 2 c) lvE → Calls Tryz.prog 8 #[.agg #[.int .i64 5, .slice p 2 c]] W fun r w' => r = .returned (.tuple #[.string s3, .int .i64 0]) ∧ Below W.heap.size W w') := fun W p c hW hE => by
    have e := he.below hW
    have h := ppoint_any (.slice p 2 c) 5 lvE W e.err (by decide) (by decide) hE e.pow fx lv (by decide) (by decide)
    rw [lv5, lv6] at h
    exact h
  have c6 : Hid (∀ (W : World) (p q : Option Addr) (c d : Nat), Below w.heap.size w W → SigAt W (.slice q 2 d) lvL → EvsAt W (.slice p 2 c) lvE → Calls Tryz.prog 12 #[.slice q 2 d, .agg #[.int .i64 5, .slice p 2 c]] W fun r w' => r = .returned (.int .i64 0) ∧ Below W.heap.size W w') := fun W p q c d hW hS hE => by
    have e := he.below hW
    have h := checkpoint_any (.slice q 2 d) (.slice p 2 c) lvL 5 lvE W e.err hS hE fx (by decide) lk lv (by decide)
    rw [lv7] at h
    exact h
  have c7 : Hid (∀ (W : World) (p q : Option Addr) (c d : Nat), Below w.heap.size w W → SigAt W (.slice q 2 d) lvL → EvsAt W (.slice p 2 c) lvE → Calls Tryz.prog 12 #[.slice q 1 d, .agg #[.int .i64 5, .slice p 2 c]] W fun r w' => r = .returned (.int .i64 90) ∧ Below W.heap.size W w') := fun W p q c d hW hS hE => by
    have e := he.below hW
    have h := checkpoint_any (.slice q 1 d) (.slice p 2 c) (lvL.take 1) 5 lvE W e.err (hS.take 1 (by decide)) hE fx (by decide) (fun x hx => lk x (List.mem_of_mem_take hx)) lv (by decide)
    rw [lv8] at h
    exact h
  clear he fx lv lk
  go_enter Tryz.func11, Tryz.ntmps11
  go_wp2_with fail
  refine (c1.out _ (Below.refl _ _)).mono ?_
  rintro r w1 ⟨hB1, p1, d1, rfl, hO1⟩
  have HO1 : Hid (SigAt w1 (.slice p1 2 d1) lvL) := hO1.at
  have hd2 : 2 ≤ d1 := by
    obtain ⟨p1', d1', e1, hd1, -⟩ := HO1.out.form
    injection e1 with _ _ e1
    subst e1
    exact hd1
  have hd3 : (1 : Int) ≤ d1 := by omega
  clear hO1 c1
  go_wp2_with fail
  refine (c2.out _ (hB1.trans (Below.mono (B := w1.heap.size) (by go_grown) hB1.size))).mono ?_
  rintro r w2 ⟨hb2, p2, d2, rfl⟩
  have w0 : w2.cell? ⟨w1.heap.size, 0, none⟩ = some (.int .i64 0) := (hb2.cell (p := ⟨w1.heap.size, 0, none⟩) (by simp)).trans (by simp [go_sem])
  have w0' : w2.cell? ⟨w1.heap.size, 1, none⟩ = some (.int .i64 0) := (hb2.cell (p := ⟨w1.heap.size, 1, none⟩) (by simp)).trans (by simp [go_sem])
  have hs2 : w1.heap.size < w2.heap.size := by have := hb2.size; simp at this; omega
  obtain ⟨hB2, -⟩ := bgX (n := w1.heap.size) (W0 := w1) (by go_grown) (by go_size) hb2
  have K2 : Below w.heap.size w w2 := hB1.trans (hB2.mono hB1.size)
  have HO2 : Hid (SigAt w2 (.slice p1 2 d1) lvL) := HO1.out.below hB2
  clear hb2 c2 HO1 hB1
  go_wp2_with fail
  refine (c3.out _ (K2.trans (Below.mono (B := w2.heap.size) (by go_grown) K2.size))).mono ?_
  rintro r w3 ⟨hb3, p3, d3, rfl, hE3⟩
  have v0 : w3.cell? ⟨w2.heap.size, 0, none⟩ = some (.int .i64 1) := (hb3.cell (p := ⟨w2.heap.size, 0, none⟩) (by simp)).trans (by simp [go_sem])
  have v0' : w3.cell? ⟨w2.heap.size, 1, none⟩ = some (.int .i64 2) := (hb3.cell (p := ⟨w2.heap.size, 1, none⟩) (by simp)).trans (by simp [go_sem])
  have hs3 : w2.heap.size < w3.heap.size := by have := hb3.size; simp at this; omega
  obtain ⟨hB3, -⟩ := bgX (n := w2.heap.size) (W0 := w2) (by go_grown) (by go_size) hb3
  have K3 : Below w.heap.size w w3 := K2.trans (hB3.mono K2.size)
  have HO3 : Hid (SigAt w3 (.slice p1 2 d1) lvL) := HO2.out.below hB3
  have HE3 : Hid (EvsAt w3 (.slice p3 2 d3) lvE) := hE3.at
  have u0 := (hB3.cell (p := ⟨w1.heap.size, 0, none⟩) hs2).trans w0
  have u0' := (hB3.cell (p := ⟨w1.heap.size, 1, none⟩) hs2).trans w0'
  clear hb3 c3 HO2 hE3 w0 w0' hB2 K2
  go_wp2_with fail
  refine (c5.out _ _ _ (K3.trans (Below.mono (B := w3.heap.size) (by go_grown) K3.size)) (HE3.out.below (by go_grown))).mono ?_
  rintro r w4 ⟨rfl, hb4⟩
  have t0 : w4.cell? ⟨w3.heap.size, 0, none⟩ = some (.int .i64 5) := (hb4.cell (p := ⟨w3.heap.size, 0, none⟩) (by simp)).trans (by simp [go_sem])
  have t1 : w4.cell? ⟨w3.heap.size, 1, none⟩ = some (.slice p3 2 d3) := (hb4.cell (p := ⟨w3.heap.size, 1, none⟩) (by simp)).trans (by simp [go_sem])
  have hs4 : w3.heap.size < w4.heap.size := by have := hb4.size; simp at this; omega
  obtain ⟨hB4, -⟩ := bgX (n := w3.heap.size) (W0 := w3) (by go_grown) (by go_size) hb4
  have K4 : Below w.heap.size w w4 := K3.trans (hB4.mono K3.size)
  have hs13 : w1.heap.size < w3.heap.size := Nat.lt_of_lt_of_le hs2 hB3.size
  clear hb4 c5
  go_wp2_with fail
  refine (c4.out _ K4).mono ?_
  rintro r w5 ⟨hB5, p5, d5, rfl⟩
  have KB : Below w3.heap.size w3 w5 := hB4.trans (hB5.mono hB4.size)
  have K5 : Below w.heap.size w w5 := K4.trans (hB5.mono K4.size)
  have y0 := (KB.cell (p := ⟨w1.heap.size, 0, none⟩) hs13).trans u0
  have y0' := (KB.cell (p := ⟨w1.heap.size, 1, none⟩) hs13).trans u0'
  have x0 := (KB.cell (p := ⟨w2.heap.size, 0, none⟩) hs3).trans v0
  have x0' := (KB.cell (p := ⟨w2.heap.size, 1, none⟩) hs3).trans v0'
  have z0 := (hB5.cell (p := ⟨w3.heap.size, 0, none⟩) hs4).trans t0
  have z1 := (hB5.cell (p := ⟨w3.heap.size, 1, none⟩) hs4).trans t1
  have HO5 : Hid (SigAt w5 (.slice p1 2 d1) lvL) := HO3.out.below KB
  have HE5 : Hid (EvsAt w5 (.slice p3 2 d3) lvE) := HE3.out.below KB
  have hs15 : w1.heap.size < w5.heap.size := Nat.lt_of_lt_of_le hs13 KB.size
  have hs25 : w2.heap.size < w5.heap.size := Nat.lt_of_lt_of_le hs3 KB.size
  have hs35 : w3.heap.size < w5.heap.size := Nat.lt_of_lt_of_le hs4 hB5.size
  clear c4 HO3 HE3 u0 u0' v0 v0' t0 t1 hB4 hB5 KB K4 K3 hB3 hs13 hs4 hs3 hs2
  go_upto_region 7 with fail
  refine wpX_world ?_
  intro W0 hW0
  have kA : Below w5.heap.size w5 W0 := by rw [hW0]; go_grown
  clear hW0
  have d0 := (kA.cell (p := ⟨w3.heap.size, 0, none⟩) hs35).trans z0
  have d1' := (kA.cell (p := ⟨w3.heap.size, 1, none⟩) hs35).trans z1
  have k1 : w3.heap.size < W0.heap.size := Nat.lt_of_lt_of_le hs35 kA.size
  have K0 : Below w.heap.size w W0 := K5.trans (kA.mono K5.size)
  have C6 : Hid (∀ W : World, Below W0.heap.size W0 W → Calls Tryz.prog 12 #[.slice p1 2 d1, .agg #[.int .i64 5, .slice p3 2 d3]] W fun r w' => r = .returned (.int .i64 0) ∧ Below W.heap.size W w') := fun W hW => c6.out W _ _ _ _ (K0.trans (hW.mono K0.size)) ((HO5.out.below kA).below hW) ((HE5.out.below kA).below hW)
  have C7 : Hid (∀ W : World, Below W0.heap.size W0 W → Calls Tryz.prog 12 #[.slice p1 1 d1, .agg #[.int .i64 5, .slice p3 2 d3]] W fun r w' => r = .returned (.int .i64 90) ∧ Below W.heap.size W w') := fun W hW => c7.out W _ _ _ _ (K0.trans (hW.mono K0.size)) ((HO5.out.below kA).below hW) ((HE5.out.below kA).below hW)
  clear c6 c7 HO5 HE5 kA z0 z1 y0 y0' x0 x0' hs15 hs25 hs35 K5
  go_region_held3 (fun w' => w'.cell? ⟨w3.heap.size, 0, none⟩ = some (.int .i64 5) ∧ w'.cell? ⟨w3.heap.size, 1, none⟩ = some (.slice p3 2 d3)) (exact ⟨bclX (n := W0.heap.size) (by go_grown) d0 k1, bclX (n := W0.heap.size) (by go_grown) d1' k1⟩)
    (first
      | (go_at_call_of 12 (Value.slice p1 2 d1); refine (C6.out _ (by go_grown)).mono ?_; rintro e v1 ⟨rfl, hb1⟩; obtain ⟨hX1, hn1⟩ := bgX (n := W0.heap.size) (W0 := W0) (by go_grown) (by go_size) hb1)
      | (go_at_call_of 12 (Value.slice p1 1 d1); refine (C7.out _ (by go_grown)).mono ?_; rintro e v2 ⟨rfl, hb2⟩; obtain ⟨hX2, hn2⟩ := bgX (n := W0.heap.size) (W0 := W0) (by go_grown) (by go_size) hb2))
  all_goals
    go_wp2
    go_ret
    exact ⟨rfl, K0.trans (Below.mono (B := W0.heap.size) (by go_grown) K0.size)⟩

end Go.Proofs.YticmebamclacaabGreatDoor
