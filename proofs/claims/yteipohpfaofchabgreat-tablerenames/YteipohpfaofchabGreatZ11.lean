/- How much a table that came in may hold, by the bulk of what is read. -/
import Derived.Test.YteipohpfaofchabGreatZ10
import Derived.Test.YteipohpfaofchabGreatZ08
import Derived.SizedLaws
import Derived.Test.YteipohpfaofchabGreatRows
import Derived.Test.YteipohpfaofchabGreatZ07

namespace Go.Proofs.YteipohpfaofchabGreat
open Go.RowKit Go.Shelf Go.Sort
set_option linter.unusedVariables false

theorem renE_zero {vs fr tr : List ByteArray} {rs : List (List Val)} (h : renE vs rs fr tr = 0) : tabChk vs rs = 0 ∧ colsO vs [] fr = some (colsAt vs fr) ∧ ofChk (renV vs (colsAt vs fr) tr) rs = 0 := by
  unfold renE at h
  by_cases h1 : tabChk vs rs = 0
  · rw [if_pos h1] at h
    by_cases h2 : fr.length = tr.length
    · rw [if_pos h2] at h
      cases hc : colsO vs [] fr with
      | none => rw [hc] at h; cases h
      | some cs =>
        rw [hc] at h
        have e := (colsO_at hc).1
        rw [List.nil_append] at e
        subst e
        exact ⟨h1, rfl, h⟩
    · rw [if_neg h2] at h; cases h
  · rw [if_neg h1] at h; exact absurd h h1
theorem ren_bounds {vs fr tr : List ByteArray} {rs : List (List Val)} {E : Int} (he : renE vs rs fr tr = E) (fx : ∀ r ∈ rs, ∀ v ∈ r, v.Fits) (lu : rs.length ≤ 5864062014805) :
    (∀ r ∈ (if E = 0 then ofRows (renV vs (colsAt vs fr) tr) rs else []), ∀ v ∈ r, v.Fits) ∧ (if E = 0 then madeS (renV vs (colsAt vs fr) tr) else []).length ≤ 9223372036854775807 ∧ (if E = 0 then ofRows (renV vs (colsAt vs fr) tr) rs else []).length ≤ 9223372036854775807 ∧ ∀ r ∈ (if E = 0 then ofRows (renV vs (colsAt vs fr) tr) rs else []), r.length ≤ 9223372036854775807 := by
  by_cases h : E = 0
  · have h0 := (renE_zero (he.trans h)).2.2
    rw [h]
    exact told_bounds (E := 0) h0.symm fx lu
  · rw [if_neg h, if_neg h]
    simp
theorem rename_told {V R A B : Value} {vs fr tr : List ByteArray} {us : List Value} {rs : List (List Val)} {w : World} (hT : TabAt w V R vs us rs) (hA : StrsAt w A fr) (hB : StrsAt w B tr) (lf : fr.length ≤ 9223372036854775807) (lt : tr.length ≤ 9223372036854775807) :
    Calls Tryz.prog 16 #[.agg #[V, R], A, B] w (TellsT w.heap.size (renE vs rs fr tr) (madeS (renV vs (colsAt vs fr) tr)) (ofRows (renV vs (colsAt vs fr) tr) rs) w) := by
  refine (rename_any hT hA hB lf lt).mono ?_
  rintro e w' ⟨t, rfl, h1, h2, hb⟩
  refine TellsT.of (fun h => ?_) h2 hb
  obtain ⟨cs, hc, ht⟩ := h1 h
  rw [(renE_zero h).2.1] at hc
  injection hc with hc
  rw [hc]
  exact ht

set_option maxRecDepth 100000 in
set_option maxHeartbeats 8000000 in
theorem trenames_any {V R A B : Value} {vs fr tr : List ByteArray} {us : List Value} {rs : List (List Val)} (w : World) (hT : TabAt w V R vs us rs) (hA : StrsAt w A fr) (hB : StrsAt w B tr) (capA : ∀ p n c, A = .slice p n c → n ≤ c) (lf : fr.length ≤ 9223372036854775807) (lt : tr.length ≤ 9223372036854775807)
    (bv : vs.length * 16 ≤ 140737488355328) (bs : ∀ r ∈ rs, r.length * 40 ≤ 140737488355328) :
    Calls Tryz.prog 4 #[.agg #[V, R], A, B] w fun e w' => e = .returned (.bool true) ∧ Below w.heap.size w w' := by
  have hTR : TabRows w R rs := tab_of_vals hT.vals hT.rows
  have many : rs.length ≤ 5864062014805 := by have := hT.many; have := hT.rows.1; omega
  obtain ⟨E, eE⟩ : ∃ E : Int, Hid (renE vs rs fr tr = E) := ⟨_, rfl⟩
  obtain ⟨vs2, ev⟩ : ∃ vs2, Hid (madeS (renV vs (colsAt vs fr) tr) = vs2) := ⟨_, rfl⟩
  obtain ⟨L2, eL⟩ : ∃ L2, Hid (ofRows (renV vs (colsAt vs fr) tr) rs = L2) := ⟨_, rfl⟩
  have c1 : Hid (∀ W : World, Below w.heap.size w W → Calls Tryz.prog 8 #[.agg #[V, R]] W fun e w' => ∃ pa na ca pb nb cb, e = .returned (.agg #[.slice pa na ca, .slice pb nb cb]) ∧ OwnT W.heap.size (.agg #[.slice pa na ca, .slice pb nb cb]) vs rs w' ∧ Below W.heap.size W w') := fun W hW => copied_two (hT.vars.below hW) (hTR.below hW) bv (by omega) bs
  have c2 : Hid (∀ W : World, Below w.heap.size w W → Calls Tryz.prog 16 #[.agg #[V, R], A, B] W (TellsT W.heap.size E vs2 L2 W)) := fun W hW => by
    have h := rename_told (hT.below hW) (hA.below hW) (hB.below hW) lf lt
    rwa [eE.out, ev.out, eL.out] at h
  have c3 : Hid (∀ (W : World) (U Q : Value), Below w.heap.size w W → OwnT w.heap.size (.agg #[U, Q]) vs rs W → Calls Tryz.prog 17 #[.agg #[U, Q], A, B] W (TellsT W.heap.size E vs2 L2 W)) := fun W U Q hW h1 => by
    have h := drename_any (own_two h1).1 (own_two h1).2 hT.fits hT.long hT.names many (hA.below hW) (hB.below hW) capA lf lt
    rwa [eE.out, ev.out, eL.out] at h
  have c4 : Hid (∀ (W : World) (B B' : Nat) (t u : Value), TabO B E vs2 L2 t W → TabO B' E vs2 L2 u W → B ≤ W.heap.size → Calls Tryz.prog 13 #[t, .int .i64 E, u, .int .i64 E] W fun e w' => e = .returned (.bool true) ∧ Below B W w') := fun W B B' t u h1 h2 hB => by
    obtain ⟨g1, g2, g3, g4⟩ := ren_bounds eE.out hT.fits many
    rw [ev.out] at g2
    rw [eL.out] at g1 g3 g4
    exact is_any h1 h2 hB g1 g2 g3 g4
  have c5 : Hid (∀ (W : World) (U Q : Value), Below w.heap.size w W → OwnT w.heap.size (.agg #[U, Q]) vs rs W → Calls Tryz.prog 15 #[.agg #[V, R], .agg #[U, Q]] W fun e w' => e = .returned (.bool true) ∧ Below W.heap.size W w') := fun W U Q hW h1 => by
    have h := dsame_any (hT.vars.below hW) (own_two h1).1 (hTR.below hW) (own_two h1).2 hT.names hT.names hT.fits hT.fits hT.long (by omega) (by omega)
    rw [rowsS_refl, show decide (vs = vs) = true by simp] at h
    exact h
  obtain ⟨p1, k1, p2, k2, eV, eR⟩ := hT.forms
  obtain ⟨p3, k3, eA⟩ := hA.form
  obtain ⟨p4, k4, eB⟩ := hB.form
  subst eV eR eA eB
  generalize vs.length = n1 at *
  generalize us.length = n2 at *
  generalize fr.length = n3 at *
  generalize tr.length = n4 at *
  clear hT hTR hA hB capA bv bs eE ev eL many lf lt
  go_enter Tryz.func4, Tryz.ntmps4
  go_wp2_with fail
  refine (c1.out _ (by go_grown)).mono ?_
  rintro e w1 ⟨xa, ja, da, xb, jb, db, rfl, ht, hb1⟩
  have VA : Hid (Var w1 w.heap.size (.slice p1 n1 k1) (.slice p2 n2 k2)) := (Var.made w _ _).below hb1
  have K1 : Below w.heap.size w w1 := by
    obtain ⟨hw1, -⟩ := bg0 (n := w.heap.size) (W0 := w) (by go_grown) (by go_size) hb1
    exact hw1
  have HX : Hid (OwnT w.heap.size (.agg #[.slice xa ja da, .slice xb jb db]) vs rs w1) := ht.base (by simp)
  clear ht c1 hb1
  go_upto_region 2 with fail
  refine wp_world ?_
  intro W1 hW1
  have H1 : Below w1.heap.size w1 W1 := by rw [hW1]; go_grown
  have VX1 : Hid (Var W1 w1.heap.size (.slice xa ja da) (.slice xb jb db)) := by rw [hW1]; exact Var.made _ _ _
  clear hW1
  have KK1 : Below w.heap.size w W1 := K1.trans (H1.mono K1.size)
  have VA1 : Hid (Var W1 w.heap.size (.slice p1 n1 k1) (.slice p2 n2 k2)) := VA.out.below H1
  have HX1 : Hid (OwnT w.heap.size (.agg #[.slice xa ja da, .slice xb jb db]) vs rs W1) := HX.out.grown H1
  obtain ⟨gx, egx⟩ : ∃ gx, Hid (w1.heap.size = gx) := ⟨_, rfl⟩
  rw [egx.out] at VX1 ⊢
  clear HX H1 K1 VA
  have a0 := VA1.out.c0
  have a1 := VA1.out.c1
  go_wp2_with fail
  refine (c2.out _ (by exact KK1)).mono ?_
  rintro e w2 ⟨ta, ra, la, tb, rb, lb, rfl, ht, hb2⟩
  have HT : Hid (TabO W1.heap.size E vs2 L2 (.agg #[.slice ta ra la, .slice tb rb lb]) w2) := ht
  clear ht c2 a0 a1
  go_upto_region 3 with fail
  refine wp_world ?_
  intro W2 hW2
  have H2 : Below w2.heap.size w2 W2 := by rw [hW2]; go_grown
  have VT2 : Hid (Var W2 w2.heap.size (.slice ta ra la) (.slice tb rb lb)) := by rw [hW2]; exact Var.made _ _ _
  clear hW2
  have L2' : Below W1.heap.size W1 W2 := hb2.trans (H2.mono hb2.size)
  have HT2 : Hid (TabO W1.heap.size E vs2 L2 (.agg #[.slice ta ra la, .slice tb rb lb]) W2) := HT.out.grown H2
  have VX2 : Hid (Var W2 gx (.slice xa ja da) (.slice xb jb db)) := VX1.out.below L2'
  have HX2 : Hid (OwnT w.heap.size (.agg #[.slice xa ja da, .slice xb jb db]) vs rs W2) := HX1.out.grown L2'
  have KK2 : Below w.heap.size w W2 := KK1.trans (L2'.mono KK1.size)
  obtain ⟨gt, egt⟩ : ∃ gt, Hid (w2.heap.size = gt) := ⟨_, rfl⟩
  rw [egt.out] at VT2 ⊢
  clear HT H2 hb2
  have a0 := VX2.out.c0
  have a1 := VX2.out.c1
  go_wp2_with fail
  refine (c3.out _ _ _ (by exact KK2) HX2.out).mono ?_
  rintro e w3 ⟨oa, sa, qa, ob, sb, qb, rfl, ht, hb3⟩
  have HU : Hid (TabO W2.heap.size E vs2 L2 (.agg #[.slice oa sa qa, .slice ob sb qb]) w3) := ht
  clear ht c3 a0 a1
  go_upto_region 4 with fail
  refine wp_world ?_
  intro W3 hW3
  have H3 : Below w3.heap.size w3 W3 := by rw [hW3]; go_grown
  have VU3 : Hid (Var W3 w3.heap.size (.slice oa sa qa) (.slice ob sb qb)) := by rw [hW3]; exact Var.made _ _ _
  clear hW3
  have L3 : Below W2.heap.size W2 W3 := hb3.trans (H3.mono hb3.size)
  have HU3 : Hid (TabO W2.heap.size E vs2 L2 (.agg #[.slice oa sa qa, .slice ob sb qb]) W3) := HU.out.grown H3
  have VT3 : Hid (Var W3 gt (.slice ta ra la) (.slice tb rb lb)) := VT2.out.below L3
  have HT3 : Hid (TabO W1.heap.size E vs2 L2 (.agg #[.slice ta ra la, .slice tb rb lb]) W3) := HT2.out.grown L3
  obtain ⟨gu, egu⟩ : ∃ gu, Hid (w3.heap.size = gu) := ⟨_, rfl⟩
  rw [egu.out] at VU3 ⊢
  have M3 : Below W1.heap.size W1 W3 := L2'.trans (L3.mono L2'.size)
  clear HU H3 hb3 L3 L2' HT2 VT2 VX2 HX2 KK2
  have a0 := VT3.out.c0
  have a1 := VT3.out.c1
  have b0 := VU3.out.c0
  have b1 := VU3.out.c1
  go_wp2_with fail
  refine (c4.out _ _ _ _ _ HT3.out HU3.out M3.size).mono ?_
  rintro e w4 ⟨rfl, hb4⟩
  have M4 : Below W1.heap.size W1 w4 := M3.trans hb4
  have K4 : Below w.heap.size w w4 := KK1.trans (M4.mono KK1.size)
  have VA4 : Hid (Var w4 w.heap.size (.slice p1 n1 k1) (.slice p2 n2 k2)) := VA1.out.below M4
  have VX4 : Hid (Var w4 gx (.slice xa ja da) (.slice xb jb db)) := VX1.out.below M4
  have HX4 : Hid (OwnT w.heap.size (.agg #[.slice xa ja da, .slice xb jb db]) vs rs w4) := HX1.out.grown M4
  clear a0 a1 b0 b1 hb4 M3 M4 HT3 HU3 VT3 VU3 VA1 VX1 HX1 KK1 c4
  go_wp2_with fail
  refine (tlive_any _).mono ?_
  rintro e w5 ⟨rfl, hb5⟩
  have K5 : Below w.heap.size w w5 := K4.trans (hb5.mono K4.size)
  have VA5 : Hid (Var w5 w.heap.size (.slice p1 n1 k1) (.slice p2 n2 k2)) := VA4.out.below hb5
  have VX5 : Hid (Var w5 gx (.slice xa ja da) (.slice xb jb db)) := VX4.out.below hb5
  have HX5 : Hid (OwnT w.heap.size (.agg #[.slice xa ja da, .slice xb jb db]) vs rs w5) := HX4.out.grown hb5
  clear hb5 K4 VA4 VX4 HX4
  have a0 := VA5.out.c0
  have a1 := VA5.out.c1
  have b0 := VX5.out.c0
  have b1 := VX5.out.c1
  go_wp2_with fail
  refine (c5.out _ _ _ (by exact K5) HX5.out).mono ?_
  rintro e w6 ⟨rfl, hb6⟩
  have K6 : Below w.heap.size w w6 := K5.trans (hb6.mono K5.size)
  clear hb6 K5 VA5 VX5 HX5 a0 a1 b0 b1 c5
  go_wp2
  go_ret
  exact ⟨rfl, K6⟩

end Go.Proofs.YteipohpfaofchabGreat

namespace Go.Proofs.YteipohpfaofchabGreat
open Go.Joins Go.ChangeShapes Go.WideShapes Go.ChangeAt Go.RowKit Go.Deep
set_option linter.unusedVariables false
set_option maxRecDepth 100000

theorem wAll_mem {H : Type} {P : Program} {e : TypeId} : ∀ {l : List (DataW H)} {d : DataW H} {k : Nat}, d ∈ l → k ∈ d.weights P e → k ∈ DataW.weightsAll P e l
  | [], _, _, h, _ => by cases h
  | x :: l, d, k, h, hk => by
    rw [DataW.weightsAll]
    rcases List.mem_cons.1 h with rfl | h
    · exact List.mem_append_left _ hk
    · exact List.mem_append_right _ (wAll_mem h hk)
theorem bytesStr : Tryz.prog.bytesOf 9 = 16 := by kernel_rfl
theorem bytesRow : Tryz.prog.bytesOf 40 = 24 := by kernel_rfl
theorem bytesVal2 : Tryz.prog.bytesOf 57 = 40 := by kernel_rfl
/-- No part of it weighs more than a call may hold. -/
def Light {H : Type} (t : TypeId) (d : DataW H) : Prop := ∀ k ∈ d.weights Tryz.prog t, k ≤ 140737488355328

theorem opens_strs {H : Type} {enc : TypeId × Value → H} {w : World} {sp : Nat → Bool} {held : Bool} {n : Nat} {v : Value} {x : DataW H × List MemPlace} (h : DataW.trod enc Tryz.prog w 0 sp held n 22 [v] = some x) (hlt : ∀ y ∈ x.2, y.block < w.heap.size) :
    ∃ vs : List ByteArray, StrsAt w v vs ∧ vs.length ≤ 9223372036854775807 ∧ (∀ p n c, v = .slice p n c → n ≤ c) ∧ (Light 22 x.1 → vs.length * 16 ≤ 140737488355328) := by
  rcases open_slice1 Tryz.underlying22 (by kernel_rfl) h with ⟨hcs, hx⟩ | ⟨a, len, cap, m, n', V, D, Pl, hcs, hb, hl, hm, em, hx, he⟩
  · injection hcs with hcs
    subst hcs
    exact ⟨[], ⟨none, 0, rfl, Or.inl rfl⟩, by simp, (fun p n c e => by injection e with _ e1 e2; omega), fun _ => by simp⟩
  · injection hcs with hcs
    subst hcs hx
    have hlm : len ≤ m := by rw [em]; split <;> omega
    have each : ∀ i, i < len → ∃ s : ByteArray, w.cell? (a.add i) = some (.string s) := fun i hi => by
      obtain ⟨h1, h2⟩ := he i (by omega)
      obtain ⟨s, e3, _, _⟩ := DataW.trod_string Tryz.underlying9 h2
      injection e3 with e3
      exact ⟨s, e3 ▸ h1⟩
    obtain ⟨f, hf⟩ := choose_lt each
    refine ⟨(List.range len).map f, ⟨some a, cap, by simp, ?_⟩, by simp; unfold maxLen at hm; omega, (fun p n c e => by injection e with _ e1 e2; omega), (fun hL => by
      have h := hL ((((List.range len).map D).length + ((List.range (m - len)).map fun j => D (len + j)).length) * Tryz.prog.bytesOf 9) (by simp only [DataW.weights, Tryz.underlying22]; exact List.mem_cons_self)
      rw [bytesStr] at h
      simp only [List.length_map, List.length_range] at h ⊢
      omega)⟩
    by_cases h0 : len = 0
    · exact Or.inl (by simp [h0])
    · right
      obtain ⟨b, off, spot⟩ := a
      have hspot : spot = none := by simpa [Addr.add] using World.cell?_spot (hf 0 (by omega))
      subst hspot
      refine ⟨b, off, rfl, hlt (.cell b off) (List.mem_append_left _ (row_mem (s := none) (by omega))), ?_⟩
      intro i hi
      have hi' : i < len := by simpa using hi
      have c0 := hf i hi'
      simp only [add_plain] at c0
      simpa using c0

theorem opens_vrow {H : Type} {enc : TypeId × Value → H} {w : World} {sp : Nat → Bool} {held : Bool} {n : Nat} {v : Value} {x : DataW H × List MemPlace} (h : DataW.trod enc Tryz.prog w 0 sp held n 40 [v] = some x) (hlt : ∀ y ∈ x.2, y.block < w.heap.size) :
    ∃ xs : List Val, RowAt w v xs ∧ (∀ y ∈ xs, y.Fits) ∧ xs.length ≤ 9223372036854775807 ∧ (∀ p n c, v = .slice p n c → n ≤ c) ∧ (Light 40 x.1 → xs.length * 40 ≤ 140737488355328) := by
  rcases open_slice Tryz.underlying40 h with ⟨hcs, hx⟩ | ⟨a, len, cap, m, n', D, Pl, hcs, hb, hl, hm, em, hx, he⟩
  · injection hcs with hcs
    subst hcs
    exact ⟨[], ⟨none, 0, rfl, Or.inl rfl⟩, by simp, by simp, (fun p n c e => by injection e with _ e1 e2; omega), fun _ => by simp⟩
  · injection hcs with hcs
    subst hcs hx
    have hlm : len ≤ m := by rw [em]; split <;> omega
    have each : ∀ i, i < len → ∃ X : Val, X.Fits ∧ w.cell? ((a.add (i * 4)).add 0) = some (.int .i64 X.k) ∧ w.cell? ((a.add (i * 4)).add 1) = some (.int .i64 X.n) ∧ w.cell? ((a.add (i * 4)).add 2) = some (.int .i64 X.d) ∧ w.cell? ((a.add (i * 4)).add 3) = some (.string X.s) := fun i hi => by
      obtain ⟨cs, h1, h2⟩ := he i (by omega)
      rw [cellsVal] at h1
      exact open_val h1 h2
    obtain ⟨f, hf⟩ := choose_lt each
    refine ⟨(List.range len).map f, ⟨some a, cap, by simp, ?_⟩, ?_, by simp; unfold maxLen at hm; omega, (fun p n c e => by injection e with _ e1 e2; omega), (fun hL => by
      have h := hL ((((List.range len).map D).length + ((List.range (m - len)).map fun j => D (len + j)).length) * Tryz.prog.bytesOf 57) (by simp only [DataW.weights, Tryz.underlying40]; exact List.mem_cons_self)
      rw [bytesVal2] at h
      simp only [List.length_map, List.length_range] at h ⊢
      omega)⟩
    · by_cases h0 : len = 0
      · exact Or.inl (by simp [h0])
      · right
        obtain ⟨b, off, spot⟩ := a
        have hspot : spot = none := by simpa [Addr.add] using World.cell?_spot (hf 0 (by omega)).2.1
        subst hspot
        refine ⟨b, off, rfl, hlt (.cell b off) (List.mem_append_left _ (row_mem (s := none) (by rw [cellsVal]; omega))), ?_⟩
        intro i hi
        have hi' : i < len := by simpa using hi
        obtain ⟨_, c0, c1, c2, c3⟩ := hf i hi'
        simp only [add_plain, Nat.add_zero] at c0 c1 c2 c3
        simp only [List.getElem_map, List.getElem_range]
        exact ⟨c0, c1, c2, c3⟩
    · intro y hy
      simp at hy
      obtain ⟨i, hi, rfl⟩ := hy
      exact (hf i hi).1

theorem opens_rows {H : Type} {enc : TypeId × Value → H} {w : World} {sp : Nat → Bool} {held : Bool} {n : Nat} {v : Value} {x : DataW H × List MemPlace} (h : DataW.trod enc Tryz.prog w 0 sp held n 23 [v] = some x) (hlt : ∀ y ∈ x.2, y.block < w.heap.size) :
    ∃ rs : List (List Val), TabRows w v rs ∧ (∀ r ∈ rs, ∀ y ∈ r, y.Fits) ∧ (∀ r ∈ rs, r.length ≤ 9223372036854775807) ∧ rs.length ≤ 9223372036854775807 ∧ (∀ p n c, v = .slice p n c → n ≤ c) ∧ (Light 23 x.1 → rs.length * 24 ≤ 140737488355328 ∧ ∀ r ∈ rs, r.length * 40 ≤ 140737488355328) := by
  rcases open_slice1 Tryz.underlying23 (by kernel_rfl) h with ⟨hcs, hx⟩ | ⟨a, len, cap, m, n', V, D, Pl, hcs, hb, hl, hm, em, hx, he⟩
  · injection hcs with hcs
    subst hcs
    exact ⟨[], ⟨none, 0, rfl, Or.inl rfl⟩, by simp, by simp, by simp, (fun p n c e => by injection e with _ e1 e2; omega), fun _ => ⟨by simp, by simp⟩⟩
  · injection hcs with hcs
    subst hcs hx
    have hlm : len ≤ m := by rw [em]; split <;> omega
    have each : ∀ i, i < len → ∃ xs : List Val, w.cell? (a.add i) = some (V i) ∧ RowAt w (V i) xs ∧ (∀ y ∈ xs, y.Fits) ∧ xs.length ≤ 9223372036854775807 ∧ (Light 40 (D i) → xs.length * 40 ≤ 140737488355328) := fun i hi => by
      obtain ⟨h1, h2⟩ := he i (by omega)
      obtain ⟨xs, r1, r2, r3, _, r5⟩ := opens_vrow h2 (fun y hy => hlt y (List.mem_append_right _ (List.mem_flatMap.2 ⟨i, by simp; omega, hy⟩)))
      exact ⟨xs, h1, r1, r2, r3, r5⟩
    obtain ⟨f, hf⟩ := choose_lt each
    refine ⟨(List.range len).map f, ⟨some a, cap, by simp, ?_⟩, ?_, ?_, by simp; unfold maxLen at hm; omega, (fun p n c e => by injection e with _ e1 e2; omega), (fun hL => ⟨by
      have h := hL ((((List.range len).map D).length + ((List.range (m - len)).map fun j => D (len + j)).length) * Tryz.prog.bytesOf 40) (by simp only [DataW.weights, Tryz.underlying23]; exact List.mem_cons_self)
      rw [bytesRow] at h
      simp only [List.length_map, List.length_range] at h ⊢
      omega, fun r hr => by
      simp at hr
      obtain ⟨i, hi, rfl⟩ := hr
      refine (hf i hi).2.2.2.2 (fun k hk => hL k ?_)
      simp only [DataW.weights, Tryz.underlying23]
      exact List.mem_cons_of_mem _ (List.mem_append_left _ (wAll_mem (List.mem_map.2 ⟨i, by simpa using hi, rfl⟩) hk))⟩)⟩
    · by_cases h0 : len = 0
      · exact Or.inl (by simp [h0])
      · right
        obtain ⟨b, off, spot⟩ := a
        have hspot : spot = none := by simpa [Addr.add] using World.cell?_spot (hf 0 (by omega)).1
        subst hspot
        refine ⟨b, off, rfl, hlt (.cell b off) (List.mem_append_left _ (row_mem (s := none) (by omega))), ?_⟩
        intro i hi
        have hi' : i < len := by simpa using hi
        obtain ⟨c0, c1, _⟩ := hf i hi'
        simp only [add_plain] at c0
        refine ⟨_, c0, ?_⟩
        simpa using c1
    · intro r hr
      simp at hr
      obtain ⟨i, hi, rfl⟩ := hr
      exact (hf i hi).2.2.1
    · intro r hr
      simp at hr
      obtain ⟨i, hi, rfl⟩ := hr
      exact (hf i hi).2.2.2.1

theorem opens_tab {H : Type} {enc : TypeId × Value → H} {W : World} {r : Reach} {b0 : Nat} {v : Value} {d : DataW H} {p : List MemPlace} (hv : Value.okWide Tryz.prog W r b0 25 v) (h : DataW.Trod enc Tryz.prog W 0 (fun _ => true) true 25 v d p) (hlt : ∀ y ∈ p, y.block < W.heap.size) :
    ∃ V R vs rs, v = .agg #[V, R] ∧ StrsAt W V vs ∧ vs.length ≤ 9223372036854775807 ∧ (∀ p n c, V = .slice p n c → n ≤ c) ∧ TabRows W R rs ∧ (∀ r ∈ rs, ∀ y ∈ r, y.Fits) ∧ (∀ r ∈ rs, r.length ≤ 9223372036854775807) ∧ rs.length ≤ 9223372036854775807 ∧ (∀ p n c, R = .slice p n c → n ≤ c) ∧ (Light 25 d → vs.length * 16 ≤ 140737488355328 ∧ rs.length * 24 ≤ 140737488355328 ∧ ∀ r ∈ rs, r.length * 40 ≤ 140737488355328) := by
  obtain ⟨V, R, y0, y1, n, rfl, ed, rfl, h0, h1⟩ := open_agg2 Tryz.underlying25 (by kernel_rfl) (by kernel_rfl) hv h
  obtain ⟨vs, a1, a2, a3, a4⟩ := opens_strs h0 (fun y hy => hlt y (List.mem_append_left _ hy))
  obtain ⟨rs, c1, c2, c3, c4, c5, c6⟩ := opens_rows h1 (fun y hy => hlt y (List.mem_append_right _ hy))
  refine ⟨V, R, vs, rs, rfl, a1, a2, a3, c1, c2, c3, c4, c5, fun hL => ?_⟩
  rw [ed] at hL
  have e : DataW.weights Tryz.prog 25 (.agg [y0.1, y1.1]) = y0.1.weights Tryz.prog 22 ++ (y1.1.weights Tryz.prog 23 ++ []) := by
    simp only [DataW.weights, Tryz.underlying25]
    rfl
  have h1' := c6 (fun k hk => hL k (by rw [e]; exact List.mem_append_right _ (List.mem_append_left _ hk)))
  exact ⟨a4 (fun k hk => hL k (by rw [e]; exact List.mem_append_left _ hk)), h1'⟩

end Go.Proofs.YteipohpfaofchabGreat

namespace Go.Proofs.YteipohpfaofchabGreat
open Go.Joins Go.ChangeShapes Go.WideShapes Go.ChangeAt Go.RowKit Go.Deep
set_option linter.unusedVariables false
set_option maxRecDepth 100000

theorem bulk_one {H : Type} (d : DataW H) : 1 ≤ Rows.uptoBulk d := by
  cases d with
  | lit l => cases l <;> simp [Rows.uptoBulk]
  | _ => simp [Rows.uptoBulk]
theorem bulk_part {H : Type} {d : DataW H} : ∀ {l : List (DataW H)}, d ∈ l → Rows.uptoBulk d ≤ Rows.uptoBulkAll l
  | [], h => by cases h
  | x :: l, h => by
    rw [Rows.uptoBulkAll]
    rcases List.mem_cons.1 h with rfl | h
    · omega
    · have := bulk_part h
      omega
theorem bulk_len {H : Type} : ∀ l : List (DataW H), l.length ≤ Rows.uptoBulkAll l
  | [] => by simp
  | x :: l => by
    rw [Rows.uptoBulkAll, List.length_cons]
    have := bulk_len l
    have := bulk_one x
    omega
theorem bulk_elems {H : Type} (elems spare : List (DataW H)) : Rows.uptoBulkAll elems + 1 ≤ Rows.uptoBulk (.slice elems spare) := by
  rw [Rows.uptoBulk]
  omega
/-- A slice that came in is no longer than the bulk. -/
theorem bulk_slice {H : Type} {enc : TypeId × Value → H} {w : World} {sp : Nat → Bool} {held : Bool} {n : Nat} {t e : TypeId} (ht : Tryz.prog.underlying t = some (.slice e)) {v : Value} {x : DataW H × List MemPlace} (h : DataW.trod enc Tryz.prog w 0 sp held n t [v] = some x) : ∀ p m c, v = .slice p m c → m ≤ Rows.uptoBulk x.1 := by
  rcases open_slice ht h with ⟨hcs, hx⟩ | ⟨a, len, cap, m, n', D, Pl, hcs, hb, hl, hm, em, hx, he⟩
  · injection hcs with hcs
    subst hcs
    intro p m c e
    injection e with _ e _
    omega
  · injection hcs with hcs
    subst hcs hx
    intro p k c e
    injection e with _ e _
    have h1 := bulk_elems ((List.range len).map D) ((List.range (m - len)).map fun j => D (len + j))
    have h2 := bulk_len ((List.range len).map D)
    rw [List.length_map, List.length_range] at h2
    show k ≤ Rows.uptoBulk (.slice _ _)
    omega
theorem bulk_rows {H : Type} {enc : TypeId × Value → H} {w : World} {sp : Nat → Bool} {held : Bool} {n : Nat} {v : Value} {x : DataW H × List MemPlace} (h : DataW.trod enc Tryz.prog w 0 sp held n 23 [v] = some x) {rs : List (List Val)} (hT : TabRows w v rs) : rs.length ≤ Rows.uptoBulk x.1 ∧ ∀ r ∈ rs, r.length ≤ Rows.uptoBulk x.1 := by
  obtain ⟨p, c, ev, hr⟩ := hT
  refine ⟨bulk_slice Tryz.underlying23 h _ _ _ ev, fun r hm => ?_⟩
  rcases hr with hr | ⟨b, off, rfl, hb, hr⟩
  · subst hr; cases hm
  obtain ⟨i, hi, rfl⟩ := List.getElem_of_mem hm
  rcases open_slice1 Tryz.underlying23 (by kernel_rfl) h with ⟨hcs, hx⟩ | ⟨a, len, cap, m, n', V, D, Pl, hcs, hb2, hl, hm2, em, hx, he⟩
  · injection hcs with hcs
    rw [hcs] at ev
    injection ev with _ e _
    omega
  · injection hcs with hcs
    rw [hcs] at ev
    injection ev with e1 e2 e3
    injection e1 with e1
    subst hx e1 e2
    have hlm : rs.length ≤ m := by rw [em]; split <;> omega
    obtain ⟨u, g1, g2⟩ := hr i hi
    obtain ⟨h1, h2⟩ := he i (by omega)
    rw [add_plain, g1] at h1
    injection h1 with h1
    subst h1
    obtain ⟨pu, cu, eu⟩ := g2.form
    have h3 := bulk_slice Tryz.underlying40 h2 _ _ _ eu
    have h4 := bulk_part (l := (List.range rs.length).map D) (d := D i) (List.mem_map.2 ⟨i, by simpa using hi, rfl⟩)
    have h5 := bulk_elems ((List.range rs.length).map D) ((List.range (m - rs.length)).map fun j => D (rs.length + j))
    show _ ≤ Rows.uptoBulk (.slice _ _)
    dsimp only at h3
    omega
theorem bulk_tab {H : Type} {enc : TypeId × Value → H} {W : World} {r : Reach} {b0 : Nat} {V R : Value} {d : DataW H} {p : List MemPlace} (hv : Value.okWide Tryz.prog W r b0 25 (.agg #[V, R])) (h : DataW.Trod enc Tryz.prog W 0 (fun _ => true) true 25 (.agg #[V, R]) d p) {vs : List ByteArray} {rs : List (List Val)} (h1 : StrsAt W V vs) (h2 : TabRows W R rs) : vs.length ≤ Rows.uptoBulk d ∧ rs.length ≤ Rows.uptoBulk d ∧ ∀ r ∈ rs, r.length ≤ Rows.uptoBulk d := by
  obtain ⟨V', R', y0, y1, n, e, ed, rfl, g0, g1⟩ := open_agg2 Tryz.underlying25 (by kernel_rfl) (by kernel_rfl) hv h
  injection e with e
  injection e with e
  simp only [List.cons.injEq, and_true] at e
  obtain ⟨rfl, rfl⟩ := e
  obtain ⟨pv, cv, ev⟩ := h1.form
  have k1 := bulk_slice Tryz.underlying22 g0 _ _ _ ev
  obtain ⟨k2, k3⟩ := bulk_rows g1 h2
  have e : Rows.uptoBulk d = Rows.uptoBulk y0.1 + (Rows.uptoBulk y1.1 + 0) + 1 := by rw [ed, Rows.uptoBulk, Rows.uptoBulkAll, Rows.uptoBulkAll, Rows.uptoBulkAll]
  refine ⟨by omega, by omega, fun r hr => ?_⟩
  have := k3 r hr
  omega
/-- Rows that came in, by the values that the cells hold. -/
theorem vals_in {W : World} {r : Reach} {base : Nat} {v : Value} {rs : List (List Val)} (ok : Cell.okWide Tryz.prog W r base 23 v) (h : TabRows W v rs) : ∃ us, ValsAt W v us ∧ RowsOf W us rs := by
  obtain ⟨p, c, rfl, h | ⟨b, off, rfl, hb, hr⟩⟩ := h
  · subst h
    cases p with
    | none => exact ⟨[], Or.inl ⟨c, rfl, rfl⟩, rfl, fun i h => absurd h (Nat.not_lt_zero _)⟩
    | some a =>
      obtain ⟨b, off, spot⟩ := a
      have hs : spot = none := by
        simp only [Cell.okWide, Cell.ok, Tryz.underlying23, World.has] at ok
        exact ok.2.2.2.1
      subst hs
      exact ⟨[], Or.inr ⟨b, off, c, rfl, Or.inl rfl, fun i h => absurd h (Nat.not_lt_zero _)⟩, rfl, fun i h => absurd h (Nat.not_lt_zero _)⟩
  · obtain ⟨f, hf⟩ := choose_lt (n := rs.length) (p := fun i v => W.cell? ⟨b, off + i, none⟩ = some v ∧ ∀ h : i < rs.length, RowAt W v rs[i]) (fun i hi => by
      obtain ⟨v, h1, h2⟩ := hr i hi
      exact ⟨v, h1, fun _ => h2⟩)
    refine ⟨(List.range rs.length).map f, Or.inr ⟨b, off, c, by simp, Or.inr hb, fun i h => ?_⟩, by simp, fun i h g => ?_⟩
    · rw [List.getElem_map, List.getElem_range]
      exact (hf i (by simpa using h)).1
    · rw [List.getElem_map, List.getElem_range]
      exact (hf i g).2 g
theorem cellT : Tryz.prog.cellTypes Tryz.prog.depth 25 = some [22, 23] := by kernel_rfl
theorem tab_cell {W : World} {r : Reach} {base : Nat} {V R : Value} (hv : Value.okWide Tryz.prog W r base 25 (.agg #[V, R])) : Cell.okWide Tryz.prog W r base 23 R := by
  simp only [Value.okWide, Tryz.underlying25] at hv
  obtain ⟨cs, e, -, ts, e1, -, h⟩ := hv
  rw [cellT] at e1
  injection e1 with e1
  injection e with e
  subst e e1
  obtain ⟨u, h1, h2⟩ := h 1 R rfl
  injection h1 with h1
  subst h1
  exact h2
/-- A table that came in, as the walks ask for it. -/
theorem openu_tab {H : Type} {enc : TypeId × Value → H} {W : World} {r : Reach} {b0 : Nat} {v : Value} {d : DataW H} {p : List MemPlace} (hv : Value.okWide Tryz.prog W r b0 25 v) (h : DataW.Trod enc Tryz.prog W 0 (fun _ => true) true 25 v d p) (hlt : ∀ y ∈ p, y.block < W.heap.size) (hk : Rows.uptoBulk d ≤ 1048576) :
    ∃ V R vs us rs, v = .agg #[V, R] ∧ TabAt W V R vs us rs ∧ (∀ p n c, V = .slice p n c → n ≤ c) ∧ (∀ p n c, R = .slice p n c → n ≤ c) ∧ vs.length ≤ 1048576 ∧ rs.length ≤ 1048576 ∧ ∀ r ∈ rs, r.length ≤ 1048576 := by
  obtain ⟨V, R, vs, rs, rfl, a1, a2, a3, a4, a5, a6, a7, a8⟩ := open_tab hv h hlt
  obtain ⟨k1, k2, k3⟩ := bulk_tab hv h a1 a4
  obtain ⟨us, u1, u2⟩ := vals_in (tab_cell hv) a4
  exact ⟨V, R, vs, us, rs, rfl, ⟨a1, u1, u2, a5, a6, a2, by have := u2.1; omega, fun u hu => u2.slices u hu⟩, a3, a8, by omega, by omega, fun r hr => by have := k3 r hr; omega⟩

end Go.Proofs.YteipohpfaofchabGreat
