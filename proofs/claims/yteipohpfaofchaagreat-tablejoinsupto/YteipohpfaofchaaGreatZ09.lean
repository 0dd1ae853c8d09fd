/- The document's side: a row laid into rows that rise. -/
import Derived.Test.YteipohpfaofchaaGreatZ08
import Derived.Test.YteipohpfaofchaaGreatZ06

namespace Go.Proofs.YteipohpfaofchaaGreat
open Go.RowKit Go.Shelf Go.Sort
set_option linter.unusedVariables false

theorem strs_lit (W : World) (x y : ByteArray) : StrsAt (W.alloc (.cells #[.string x, .string y] 9)) (.slice (some ⟨W.heap.size, 0, none⟩) 2 2) [x, y] := by
  refine ⟨_, 2, rfl, Or.inr ⟨W.heap.size, 0, rfl, by simp, fun i hi => ?_⟩⟩
  rw [Nat.zero_add]
  refine cell_of_heap (heap_alloc W _) i ?_
  rcases i with _ | _ | i
  · rfl
  · rfl
  · simp at hi; omega
/-- A table in a variable. -/
def Var (W : World) (g : Nat) (V R : Value) : Prop := W.heap[g]? = some (.cells #[V, R] 25 (0, 0))
theorem Var.below {W W' : World} {g : Nat} {V R : Value} (h : Var W g V R) (hb : Below W.heap.size W W') : Var W' g V R := (hb.block _ (Array.getElem?_eq_some_iff.1 h).1).trans h
theorem Var.c0 {W : World} {g : Nat} {V R : Value} (h : Var W g V R) : W.cell? ⟨g, 0, none⟩ = some V := cell_of_heap h 0 rfl
theorem Var.c1 {W : World} {g : Nat} {V R : Value} (h : Var W g V R) : W.cell? ⟨g, 1, none⟩ = some R := cell_of_heap h 1 rfl
theorem Var.made (W : World) (V R : Value) : Var (W.alloc (.cells #[V, R] 25)) W.heap.size V R := heap_alloc W _
theorem re_below {B : Nat} {a b a' b' : World} (h : Below B a b) (h1 : a'.heap = a.heap := by rfl) (h2 : b'.heap = b.heap := by rfl) (h3 : a'.os = a.os ∧ a'.tape = a.tape ∧ a'.output = a.output := by exact ⟨rfl, rfl, rfl⟩) (h4 : b'.os = b.os ∧ b'.tape = b.tape ∧ b'.output = b.output := by exact ⟨rfl, rfl, rfl⟩) : Below B a' b' :=
  ⟨h4.1.trans (h.os.trans h3.1.symm), h4.2.1.trans (h.tape.trans h3.2.1.symm), h4.2.2.trans (h.output.trans h3.2.2.symm), by rw [h1, h2]; exact h.size, fun k hk => by rw [h1, h2]; exact h.block k hk⟩
theorem at_size {P : Nat → Prop} {n g : Nat} (h : P n) (e : n = g) : P g := e ▸ h
theorem var_set {W : World} {g : Nat} {a b V R : Value} (h : Var W g a b) : Var ((W.setCell ⟨g, 0, none⟩ V).setCell ⟨g, 1, none⟩ R) g V R := by
  unfold Var at *
  rw [setCell_eq, setCell_eq]
  show ((W.heap.modify _ _).modify _ _)[_]? = _
  rw [Array.getElem?_modify, if_pos rfl, Array.getElem?_modify, if_pos rfl, h]
  rfl
def Lit (W : World) (g : Nat) : Prop := W.heap[g]? = some (.cells #[.int .i64 1, .int .i64 2] 2 (0, 0))
theorem Lit.below {W W' : World} {g : Nat} (h : Lit W g) (hb : Below W.heap.size W W') : Lit W' g := (hb.block _ (Array.getElem?_eq_some_iff.1 h).1).trans h
theorem hold_of {W W' : World} {g : Nat} {V R : Value} (hb : Below W.heap.size W W') (a0 : W.cell? ⟨g, 0, none⟩ = some V) (a1 : W.cell? ⟨g, 1, none⟩ = some R) (hg : g < W.heap.size) : W'.cell? ⟨g, 0, none⟩ = some V ∧ W'.cell? ⟨g, 1, none⟩ = some R := ⟨(hb.cell (p := ⟨g, 0, none⟩) hg).trans a0, (hb.cell (p := ⟨g, 1, none⟩) hg).trans a1⟩
theorem fA : ∀ r ∈ xyR lA, ∀ v ∈ r, v.Fits := xyR_fits (by intro x hx; simp [lA] at hx; omega)
theorem gA : ∀ r ∈ xyR lA, r.length ≤ 9223372036854775807 := fun r hr => by have := (xyR_len lA).1 r hr; omega

set_option maxRecDepth 100000 in
set_option maxHeartbeats 8000000 in
theorem tlive_any (w : World) : Calls Tryz.prog 10 #[] w fun e w' => e = .returned (.bool true) ∧ Below w.heap.size w w' := by
  have X1 : Hid (∀ W : World, Calls Tryz.prog 31 #[.slice (some ⟨W.heap.size, 0, none⟩) 6 6] (W.alloc (.cells #[.int .i64 1, .int .i64 1, .int .i64 1, .int .i64 2, .int .i64 2, .int .i64 1] 2)) fun e w' => ∃ p c p' c', e = .returned (.agg #[.slice p 2 c, .slice p' 3 c']) ∧ OwnT W.heap.size (.agg #[.slice p 2 c, .slice p' 3 c']) [nX, nY] (xyR lA) w' ∧ Below W.heap.size W w') := fun W => xy_lit lA (by decide) W
  go_enter Tryz.func10, Tryz.ntmps10
  go_wp2_with fail
  refine (X1.out _).mono ?_
  rintro e w1 ⟨p1, c1, p2, c2, rfl, ot1, hb1⟩
  obtain ⟨us1, ta1⟩ := own_tab ot1 fA gA (by decide) (by decide)
  have TA : Hid (TabAt w1 (.slice p1 2 c1) (.slice p2 3 c2) [nX, nY] us1 (xyR lA)) := ta1
  clear ot1 ta1 X1
  have K1 : Below w.heap.size w w1 := hb1
  clear hb1
  go_upto_region 2 with fail
  refine wp_world ?_
  intro W1 hW1
  have V1 : Hid (Var W1 w1.heap.size (.slice p1 2 c1) (.slice p2 3 c2)) := by rw [hW1]; exact Var.made _ _ _
  have H1 : Below w1.heap.size w1 W1 := by rw [hW1]; go_grown
  clear hW1
  have TA1 : Hid (TabAt W1 (.slice p1 2 c1) (.slice p2 3 c2) [nX, nY] us1 (xyR lA)) := TA.out.below H1
  have K2 : Below w.heap.size w W1 := K1.trans (H1.mono K1.size)
  generalize w1.heap.size = ga at V1 ⊢
  clear TA K1 H1
  have C2 : Hid (Calls Tryz.prog 32 #[.agg #[.slice p1 2 c1, .slice p2 3 c2], .slice (some ⟨W1.heap.size, 0, none⟩) 2 2, .slice (some ⟨W1.heap.size + 1, 0, none⟩) 2 2] ((W1.alloc (.cells #[.string ⟨#[120]⟩, .string ⟨#[121]⟩] 9)).alloc (.cells #[.string ⟨#[121]⟩, .string ⟨#[122]⟩] 9)) fun e w' => ∃ p c p' c', e = .returned (.tuple #[.agg #[.slice p 2 c, .slice p' 3 c'], .int .i64 0]) ∧ (∃ us, TabAt w' (.slice p 2 c) (.slice p' 3 c') [nY, nZ] us (xyR lA)) ∧ Below W1.heap.size W1 w') := by
    have hb1 : Below W1.heap.size W1 (W1.alloc (.cells #[.string ⟨#[120]⟩, .string ⟨#[121]⟩] 9)) := (Below.refl _ _).alloc (Nat.le_refl _) _
    have hb2 : Below (W1.alloc (.cells #[.string ⟨#[120]⟩, .string ⟨#[121]⟩] 9)).heap.size (W1.alloc (.cells #[.string ⟨#[120]⟩, .string ⟨#[121]⟩] 9)) ((W1.alloc (.cells #[.string ⟨#[120]⟩, .string ⟨#[121]⟩] 9)).alloc (.cells #[.string ⟨#[121]⟩, .string ⟨#[122]⟩] 9)) := (Below.refl _ _).alloc (Nat.le_refl _) _
    have hb3 := hb1.trans (hb2.mono hb1.size)
    have s1 : StrsAt _ _ [nX, nY] := (strs_lit W1 nX nY).below hb2
    have s2 : StrsAt _ _ [nY, nZ] := strs_lit (W1.alloc (.cells #[.string ⟨#[120]⟩, .string ⟨#[121]⟩] 9)) nY nZ
    rw [show (W1.alloc (.cells #[.string ⟨#[120]⟩, .string ⟨#[121]⟩] 9)).heap.size = W1.heap.size + 1 by simp] at s2
    refine (rename_any (TA1.out.below hb3) s1 s2 (by decide) (by decide)).mono ?_
    rintro e w' ⟨t, rfl, h1, -, hb⟩
    obtain ⟨cs, hcs, ht⟩ := h1 k_ren
    rw [k_col] at hcs
    injection hcs with hcs
    subst hcs
    rw [k_renT.1, k_renT.2] at ht
    obtain ⟨p, c, p', c', rfl⟩ := own_forms ht
    refine ⟨p, c, p', c', by rw [k_ren]; rfl, own_tab ht fA gA (by decide) (by decide), hb3.trans (hb.mono hb3.size)⟩
  have a0 := V1.out.c0
  have a1 := V1.out.c1
  go_wp2_with fail
  refine C2.out.mono ?_
  rintro e w2 ⟨p3, c3, p4, c4, rfl, ⟨us2, tb⟩, hb2⟩
  have V2 : Hid (Var w2 ga (.slice p1 2 c1) (.slice p2 3 c2)) := V1.out.below hb2
  have TA2 : Hid (TabAt w2 (.slice p1 2 c1) (.slice p2 3 c2) [nX, nY] us1 (xyR lA)) := TA1.out.below hb2
  have TB2 : Hid (TabAt w2 (.slice p3 2 c3) (.slice p4 3 c4) [nY, nZ] us2 (xyR lA)) := tb
  have K3 : Below w.heap.size w w2 := K2.trans (hb2.mono K2.size)
  clear a0 a1 C2 tb hb2 V1 TA1 K2
  go_upto_region 5 with fail
  refine wp_world ?_
  intro W2 hW2
  have VB : Hid (Var W2 w2.heap.size (.slice p3 2 c3) (.slice p4 3 c4)) := by rw [hW2]; exact Var.made _ _ _
  have H2 : Below w2.heap.size w2 W2 := by rw [hW2]; go_grown
  clear hW2
  have VA : Hid (Var W2 ga (.slice p1 2 c1) (.slice p2 3 c2)) := V2.out.below H2
  have TA3 : Hid (TabAt W2 (.slice p1 2 c1) (.slice p2 3 c2) [nX, nY] us1 (xyR lA)) := TA2.out.below H2
  have TB3 : Hid (TabAt W2 (.slice p3 2 c3) (.slice p4 3 c4) [nY, nZ] us2 (xyR lA)) := TB2.out.below H2
  have K4 : Below w.heap.size w W2 := K3.trans (H2.mono K3.size)
  generalize w2.heap.size = gb at VB ⊢
  clear V2 TA2 TB2 K3 H2
  have C3 : Hid (Calls Tryz.prog 27 #[.agg #[.slice p1 2 c1, .slice p2 3 c2], .agg #[.slice p3 2 c3, .slice p4 3 c4]] W2 fun e w' => ∃ p c p' c', e = .returned (.tuple #[.agg #[.slice p 3 c, .slice p' 5 c'], .int .i64 0]) ∧ Below W2.heap.size W2 w') := by
    refine (join_any TA3.out TB3.out (by rw [k_join.2.2.2]; decide)).mono ?_
    rintro e w' ⟨t, rfl, h1, -, hb⟩
    have ht := h1 k_join.1
    obtain ⟨p, c, p', c', rfl⟩ := own_forms ht
    refine ⟨p, c, p', c', ?_, hb⟩
    rw [k_join.1, k_join.2.1, k_join.2.2.1]
  have a0 := VA.out.c0
  have a1 := VA.out.c1
  have b0 := VB.out.c0
  have b1 := VB.out.c1
  go_wp2_with fail
  refine C3.out.mono ?_
  rintro e w3 ⟨p5, c5, p6, c6, rfl, hb3⟩
  have VA3 : Hid (Var w3 ga (.slice p1 2 c1) (.slice p2 3 c2)) := VA.out.below hb3
  have TA4 : Hid (TabAt w3 (.slice p1 2 c1) (.slice p2 3 c2) [nX, nY] us1 (xyR lA)) := TA3.out.below hb3
  have K5 : Below w.heap.size w w3 := K4.trans (hb3.mono K4.size)
  clear a0 a1 b0 b1 C3 hb3 VA VB TA3 TB3 K4
  go_upto_region 6 with fail
  refine wp_world ?_
  intro W3 hW3
  have VJ : Hid (Var W3 w3.heap.size (.slice p5 3 c5) (.slice p6 5 c6)) := by rw [hW3]; exact Var.made _ _ _
  have H3 : Below w3.heap.size w3 W3 := by rw [hW3]; go_grown
  clear hW3
  have VA4 : Hid (Var W3 ga (.slice p1 2 c1) (.slice p2 3 c2)) := VA3.out.below H3
  have TA5 : Hid (TabAt W3 (.slice p1 2 c1) (.slice p2 3 c2) [nX, nY] us1 (xyR lA)) := TA4.out.below H3
  have K6 : Below w.heap.size w W3 := K5.trans (H3.mono K5.size)
  generalize w3.heap.size = gj at VJ ⊢
  clear VA3 TA4 K5 H3
  have a0 := VA4.out.c0
  have a1 := VA4.out.c1
  have C4 : Hid (∀ (W : World) (g : Nat), Lit W g → Calls Tryz.prog 31 #[.slice (some ⟨g, 0, none⟩) 2 2] W fun e w' => ∃ p c p' c', e = .returned (.agg #[.slice p 2 c, .slice p' 1 c']) ∧ (∃ us, TabAt w' (.slice p 2 c) (.slice p' 1 c') [nX, nY] us (xyR [1, 2])) ∧ Below W.heap.size W w') := fun W g hg => by
    refine (xy_any g 0 2 [1, 2] W (Array.getElem?_eq_some_iff.1 hg).1 (fun i h => ?_) (by decide)).mono ?_
    · rw [Nat.zero_add]
      refine cell_of_heap hg i ?_
      rcases i with _ | _ | i
      · rfl
      · rfl
      · simp at h; omega
    · rintro e w' ⟨t, rfl, ht, hb⟩
      obtain ⟨p, c, p', c', rfl⟩ := own_forms ht
      exact ⟨p, c, p', c', rfl, own_tab ht (xyR_fits (by intro x hx; simp at hx; omega)) (fun r hr => by have := (xyR_len [1, 2]).1 r hr; omega) (by decide) (by decide), hb⟩
  have C5 : Hid (∀ (W : World) (q1 : Option Addr) (d1 : Nat) (q2 : Option Addr) (d2 : Nat), Below W3.heap.size W3 W → (∃ us, TabAt W (.slice q1 2 d1) (.slice q2 1 d2) [nX, nY] us (xyR [1, 2])) → Calls Tryz.prog 29 #[.agg #[.slice p1 2 c1, .slice p2 3 c2], .agg #[.slice q1 2 d1, .slice q2 1 d2]] W fun e w' => ∃ pn cn pm cm, e = .returned (.tuple #[.agg #[.slice pn 2 cn, .slice pm 2 cm], .int .i64 0]) ∧ OwnT W.heap.size (.agg #[.slice pn 2 cn, .slice pm 2 cm]) [nX, nY] (xyR [1, 1, 2, 1]) w' ∧ Below W.heap.size W w') := fun W q1 d1 q2 d2 hW ⟨us, hx⟩ => by
    refine (anti_any (TA5.out.below hW) hx).mono ?_
    rintro e w' ⟨t, rfl, h1, -, hb⟩
    have ht := h1 k_anti.1
    rw [k_anti.2] at ht
    obtain ⟨p, c, p', c', rfl⟩ := own_forms ht
    refine ⟨p, c, p', c', ?_, ht, hb⟩
    rw [k_anti.1]
    rfl
  rename_i KK hKK
  have REST : ∀ (g6 : Nat) (u29 u30 u31 u32 u33 u34 u35 : Value) (W : World) (pn : Option Addr) (cn : Nat) (pm : Option Addr) (cm : Nat), Hid (Var W g6 (.slice pn 2 cn) (.slice pm 2 cm)) → Hid (StrsAt W (.slice pn 2 cn) [nX, nY]) → Hid (TabRows W (.slice pm 2 cm) (xyR [1, 1, 2, 1])) → Hid (Below W3.heap.size W3 W) → KK { tmps := #[.bool false, .pointer (some ⟨ga, 0, none⟩), .pointer (some ⟨gb, 0, none⟩), .int .i64 0, .pointer (some ⟨gj, 0, none⟩), .int .i64 0, .pointer (some ⟨g6, 0, none⟩), .int .i64 0, undef, undef, undef, undef, .slice (some ⟨w.heap.size, 0, none⟩) 6 6, .agg #[.slice p1 2 c1, .slice p2 3 c2], .tuple #[.agg #[.slice p3 2 c3, .slice p4 3 c4], .int .i64 0], .agg #[.slice p1 2 c1, .slice p2 3 c2], .slice (some ⟨W1.heap.size, 0, none⟩) 2 2, .slice (some ⟨W1.heap.size + 1, 0, none⟩) 2 2, .tuple #[.agg #[.slice p3 2 c3, .slice p4 3 c4], .int .i64 0], .agg #[.slice p3 2 c3, .slice p4 3 c4], .int .i64 0, .int .i64 0, .bool false, .tuple #[.agg #[.slice p5 3 c5, .slice p6 5 c6], .int .i64 0], .agg #[.slice p1 2 c1, .slice p2 3 c2], .agg #[.slice p3 2 c3, .slice p4 3 c4], .tuple #[.agg #[.slice p5 3 c5, .slice p6 5 c6], .int .i64 0], .agg #[.slice p5 3 c5, .slice p6 5 c6], .int .i64 0, u29, u30, u31, u32, u33, u34, u35, undef, undef, undef, undef, undef, undef, undef, undef, undef, undef, undef, undef, undef, undef, undef, undef, undef, undef, undef, undef, undef, undef, undef, undef, undef, undef, undef, undef, undef, undef, undef, undef, undef, undef, undef, undef, undef, undef, undef, undef, undef, undef, undef, undef, undef, undef, undef, undef, undef, undef, undef, undef, undef, undef, undef, undef, undef, undef, undef, undef], defers := [] } W := by
    intro g6 u29 u30 u31 u32 u33 u34 u35 W pn cn pm cm VN SN MN HW
    refine hKK _ _ ?_
    have VA5 : Hid (Var W ga (.slice p1 2 c1) (.slice p2 3 c2)) := VA4.out.below HW.out
    have VJ5 : Hid (Var W gj (.slice p5 3 c5) (.slice p6 5 c6)) := VJ.out.below HW.out
    have TA6 : Hid (TabAt W (.slice p1 2 c1) (.slice p2 3 c2) [nX, nY] us1 (xyR lA)) := TA5.out.below HW.out
    have K7 : Below w.heap.size w W := K6.trans (HW.out.mono K6.size)
    clear hKK a0 a1 VA4 VJ TA5 K6 HW C4
    have C6 : Hid (Calls Tryz.prog 33 #[.agg #[.slice p1 2 c1, .slice p2 3 c2], .slice none 0 0] W fun e w' => ∃ p c p' c', e = .returned (.tuple #[.agg #[.slice p 0 c, .slice p' 1 c'], .int .i64 0]) ∧ (StrsAt w' (.slice p 0 c) [] ∧ TabRows w' (.slice p' 1 c') [[]]) ∧ Below W.heap.size W w') := by
      refine (project_any TA6.out (A := .slice none 0 0) (ns := []) ⟨none, 0, rfl, Or.inl rfl⟩ (by decide)).mono ?_
      rintro e w' ⟨t, rfl, h1, -, hb⟩
      have ht := h1 k_proj.1
      rw [k_proj.2.1, k_proj.2.2] at ht
      obtain ⟨p, c, p', c', rfl⟩ := own_forms ht
      refine ⟨p, c, p', c', ?_, own_two ht, hb⟩
      rw [k_proj.1]
      rfl
    have a0 := VA5.out.c0
    have a1 := VA5.out.c1
    go_wp2_with fail
    refine C6.out.mono ?_
    rintro e w4 ⟨pr, cr, pq, cq, rfl, sp, hb4⟩
    have VA6 : Hid (Var w4 ga (.slice p1 2 c1) (.slice p2 3 c2)) := VA5.out.below hb4
    have VJ6 : Hid (Var w4 gj (.slice p5 3 c5) (.slice p6 5 c6)) := VJ5.out.below hb4
    have VN6 : Hid (Var w4 g6 (.slice pn 2 cn) (.slice pm 2 cm)) := VN.out.below hb4
    have SN6 : Hid (StrsAt w4 (.slice pn 2 cn) [nX, nY]) := SN.out.below hb4
    have MN6 : Hid (TabRows w4 (.slice pm 2 cm) (xyR [1, 1, 2, 1])) := MN.out.below hb4
    have TA7 : Hid (TabAt w4 (.slice p1 2 c1) (.slice p2 3 c2) [nX, nY] us1 (xyR lA)) := TA6.out.below hb4
    have SP6 : Hid (StrsAt w4 (.slice pr 0 cr) [] ∧ TabRows w4 (.slice pq 1 cq) [[]]) := sp
    have K8 : Below w.heap.size w w4 := K7.trans (hb4.mono K7.size)
    clear a0 a1 C6 sp hb4 VA5 VJ5 VN SN MN TA6 K7
    go_upto_region 8 with fail
    refine wp_world ?_
    intro W4 hW4
    have VP7 : Hid (Var W4 w4.heap.size (.slice pr 0 cr) (.slice pq 1 cq)) := by rw [hW4]; exact Var.made _ _ _
    have H4 : Below w4.heap.size w4 W4 := by rw [hW4]; go_grown
    clear hW4
    generalize w4.heap.size = gp at VP7 ⊢
    have C7 : Hid (Calls Tryz.prog 15 #[.slice (some ⟨W4.heap.size, 0, none⟩) 2 2, .slice none 0 0] (W4.alloc (.cells #[.string ⟨#[120]⟩, .string ⟨#[120]⟩] 9)) fun e w' => e = .returned (.tuple #[.agg #[.slice none 0 0, .slice none 0 0], .int .i64 30]) ∧ Below W4.heap.size W4 w') := by
      have hb1 : Below W4.heap.size W4 (W4.alloc (.cells #[.string ⟨#[120]⟩, .string ⟨#[120]⟩] 9)) := (Below.refl _ _).alloc (Nat.le_refl _) _
      refine (tof_any _ _ [nX, nX] [] [] _ (strs_lit W4 nX nX) (by intro p n c e; injection e with _ e1 e2; omega) (Or.inl ⟨0, rfl, rfl⟩) ⟨rfl, fun i h => absurd h (Nat.not_lt_zero _)⟩ (by simp) (by simp) (by decide) (by decide)).mono ?_
      rintro e w' ⟨t, rfl, -, h2, hb⟩
      have ht := h2 (by rw [k_of]; decide)
      subst ht
      exact ⟨by rw [k_of], hb1.trans (hb.mono hb1.size)⟩
    go_wp2_with fail
    refine C7.out.mono ?_
    rintro e w5 ⟨rfl, hb5⟩
    have H5 : Below w4.heap.size w4 w5 := H4.trans (hb5.mono H4.size)
    have VP8 : Hid (Var w5 gp (.slice pr 0 cr) (.slice pq 1 cq)) := VP7.out.below hb5
    clear C7 hb5 VP7 H4
    go_upto_region 9 with fail
    refine wp_world ?_
    intro W5 hW5
    have H6 : Below w5.heap.size w5 W5 := by rw [hW5]; go_grown
    clear hW5
    have H7 : Below w4.heap.size w4 W5 := H5.trans (H6.mono H5.size)
    have VA8 := VA6.out.below H7
    have VJ8 := VJ6.out.below H7
    have VN8 := VN6.out.below H7
    have VP9 := VP8.out.below H6
    have SN8 : Hid (StrsAt W5 (.slice pn 2 cn) [nX, nY]) := SN6.out.below H7
    have MN8 : Hid (TabRows W5 (.slice pm 2 cm) (xyR [1, 1, 2, 1])) := MN6.out.below H7
    have TA8 : Hid (TabAt W5 (.slice p1 2 c1) (.slice p2 3 c2) [nX, nY] us1 (xyR lA)) := TA7.out.below H7
    have SP8 : Hid (StrsAt W5 (.slice pr 0 cr) [] ∧ TabRows W5 (.slice pq 1 cq) [[]]) := ⟨SP6.out.1.below H7, SP6.out.2.below H7⟩
    have K9 : Below w.heap.size w W5 := K8.trans (H7.mono K8.size)
    have HS : Hid (∀ W : World, Below W5.heap.size W5 W → W.cell? ⟨ga, 0, none⟩ = some (.slice p1 2 c1) ∧ W.cell? ⟨ga, 1, none⟩ = some (.slice p2 3 c2) ∧ W.cell? ⟨gj, 0, none⟩ = some (.slice p5 3 c5) ∧ W.cell? ⟨gj, 1, none⟩ = some (.slice p6 5 c6) ∧ W.cell? ⟨g6, 0, none⟩ = some (.slice pn 2 cn) ∧ W.cell? ⟨g6, 1, none⟩ = some (.slice pm 2 cm) ∧ W.cell? ⟨gp, 0, none⟩ = some (.slice pr 0 cr) ∧ W.cell? ⟨gp, 1, none⟩ = some (.slice pq 1 cq)) := fun W hW => ⟨(VA8.below hW).c0, (VA8.below hW).c1, (VJ8.below hW).c0, (VJ8.below hW).c1, (VN8.below hW).c0, (VN8.below hW).c1, (VP9.below hW).c0, (VP9.below hW).c1⟩
    have C8 : Hid (∀ (W : World) (g : Nat) (a b c d : Int), W.heap[g]? = some (.cells #[.int .i64 a, .int .i64 b, .int .i64 c, .int .i64 d] 2 (0, 0)) → Calls Tryz.prog 31 #[.slice (some ⟨g, 0, none⟩) 4 4] W fun e w' => ∃ p c' p' c'', e = .returned (.agg #[.slice p 2 c', .slice p' 2 c'']) ∧ (StrsAt w' (.slice p 2 c') [nX, nY] ∧ TabRows w' (.slice p' 2 c'') (xyR [a, b, c, d])) ∧ Below W.heap.size W w') := fun W g a b c d hg => by
      refine (xy_any g 0 4 [a, b, c, d] W (Array.getElem?_eq_some_iff.1 hg).1 (fun i h => ?_) (by simp)).mono ?_
      · rw [Nat.zero_add]
        refine cell_of_heap hg i ?_
        rcases i with _ | _ | _ | _ | i
        · rfl
        · rfl
        · rfl
        · rfl
        · simp at h; omega
      · rintro e w' ⟨t, rfl, ht, hb⟩
        obtain ⟨p, c', p', c'', rfl⟩ := own_forms ht
        exact ⟨p, c', p', c'', rfl, own_two ht, hb⟩
    have CS1 : Hid (∀ (W : World) (q1 : Option Addr) (d1 : Nat) (q2 : Option Addr) (d2 : Nat), Below W5.heap.size W5 W → StrsAt W (.slice q1 2 d1) [nX, nY] → TabRows W (.slice q2 2 d2) (xyR [1, 1, 2, 1]) → Calls Tryz.prog 20 #[.agg #[.slice pn 2 cn, .slice pm 2 cm], .agg #[.slice q1 2 d1, .slice q2 2 d2]] W fun e w' => e = .returned (.bool true) ∧ Below W.heap.size W w') := fun W q1 d1 q2 d2 hW h1 h2 => by
      have h := tabsame_any _ _ _ _ _ _ _ _ W (SN8.out.below hW) h1 (MN8.out.below hW) h2 (by decide) (by decide) (by decide) (by decide) (fun r hr => by have := (xyR_len [1, 1, 2, 1]).1 r hr; omega) (fun r hr => by have := (xyR_len [1, 1, 2, 1]).1 r hr; omega)
      rw [k_same] at h
      exact h
    have CT : Hid (∀ W : World, Calls Tryz.prog 34 #[] W fun e w' => ∃ p c p' c', e = .returned (.agg #[.slice p 0 c, .slice p' 1 c']) ∧ (StrsAt w' (.slice p 0 c) [] ∧ TabRows w' (.slice p' 1 c') [[]]) ∧ Below W.heap.size W w') := fun W => by
      refine (true_any W).mono ?_
      rintro e w' ⟨t, rfl, ht, hb⟩
      obtain ⟨p, c, p', c', rfl⟩ := own_forms ht
      exact ⟨p, c, p', c', rfl, own_two ht, hb⟩
    have CS2 : Hid (∀ (W : World) (q1 : Option Addr) (d1 : Nat) (q2 : Option Addr) (d2 : Nat), Below W5.heap.size W5 W → StrsAt W (.slice q1 0 d1) [] → TabRows W (.slice q2 1 d2) [[]] → Calls Tryz.prog 20 #[.agg #[.slice pr 0 cr, .slice pq 1 cq], .agg #[.slice q1 0 d1, .slice q2 1 d2]] W fun e w' => e = .returned (.bool true) ∧ Below W.heap.size W w') := fun W q1 d1 q2 d2 hW h1 h2 => by
      have h := tabsame_any _ _ _ _ _ _ _ _ W (SP8.out.1.below hW) h1 (SP8.out.2.below hW) h2 (by decide) (by decide) (by decide) (by decide) (by intro r hr; simp at hr; subst hr; decide) (by intro r hr; simp at hr; subst hr; decide)
      rw [k_true] at h
      exact h
    have CK : Hid (∀ (W : World) (q1 : Option Addr) (d1 : Nat) (q2 : Option Addr) (d2 : Nat), StrsAt W (.slice q1 2 d1) [nX, nY] → TabRows W (.slice q2 2 d2) (xyR [2, 1, 1, 1]) → Calls Tryz.prog 12 #[.agg #[.slice q1 2 d1, .slice q2 2 d2]] W fun e w' => e = .returned (.int .i64 1) ∧ Below W.heap.size W w') := fun W q1 d1 q2 d2 h1 h2 => by
      have h := tcheck_any _ _ [nX, nY] (xyR [2, 1, 1, 1]) W h1 (by decide) (xyR_fits (by intro x hx; simp at hx; omega)) (fun r hr => by have := (xyR_len [2, 1, 1, 1]).1 r hr; omega) h2 (by decide)
      rw [k_chk] at h
      exact h
    have ONE : Hid (∀ (n : Int) (W : World), Calls Tryz.prog 35 #[.int .i64 n] W fun e w' => e = .returned (.agg #[.int .i64 1, .int .i64 n, .int .i64 0, .string ⟨#[]⟩]) ∧ Below W.heap.size W w') := one_any
    have CH : Hid (∀ (W : World) (g : Nat), Below W5.heap.size W5 W → W.heap[g]? = some (.cells #[.int .i64 1, .int .i64 2, .int .i64 0, .string ⟨#[]⟩, .int .i64 1, .int .i64 1, .int .i64 0, .string ⟨#[]⟩] 47 (0, 0)) → Calls Tryz.prog 21 #[.agg #[.slice p1 2 c1, .slice p2 3 c2], .slice (some ⟨g, 0, none⟩) 2 2] W fun e w' => e = .returned (.bool true) ∧ Below W.heap.size W w') := fun W g hW hg => by
      have hr : RowAt W (.slice (some ⟨g, 0, none⟩) 2 2) [⟨1, 2, 0, ⟨#[]⟩⟩, ⟨1, 1, 0, ⟨#[]⟩⟩] := by
        refine ⟨_, 2, rfl, Or.inr ⟨g, 0, rfl, (Array.getElem?_eq_some_iff.1 hg).1, fun i hi => ?_⟩⟩
        rcases i with _ | _ | i
        · exact ⟨cell_of_heap hg 0 rfl, cell_of_heap hg 1 rfl, cell_of_heap hg 2 rfl, cell_of_heap hg 3 rfl⟩
        · exact ⟨cell_of_heap hg 4 rfl, cell_of_heap hg 5 rfl, cell_of_heap hg 6 rfl, cell_of_heap hg 7 rfl⟩
        · simp at hi; omega
      have ht := TA8.out.below hW
      have h := tabhas_any (.slice p1 2 c1) _ _ p1 2 c1 rfl (xyR lA) _ W (tab_of_vals ht.vals ht.rows) hr (by decide) gA (by decide)
      rw [k_has] at h
      exact h
    have HC0 : Hid (Below W5.heap.size W5 W5.drew) := (Below.refl _ _).drew
    clear VA6 VJ6 VN6 VP8 SN6 MN6 TA7 SP6 K8 H5 H6 H7 VA8 VJ8 VN8 VP9 C5
    refine wp_region_held_drew (S := fun W => W.cell? ⟨ga, 0, none⟩ = some (.slice p1 2 c1) ∧ W.cell? ⟨ga, 1, none⟩ = some (.slice p2 3 c2) ∧ W.cell? ⟨gj, 0, none⟩ = some (.slice p5 3 c5) ∧ W.cell? ⟨gj, 1, none⟩ = some (.slice p6 5 c6) ∧ W.cell? ⟨g6, 0, none⟩ = some (.slice pn 2 cn) ∧ W.cell? ⟨g6, 1, none⟩ = some (.slice pm 2 cm) ∧ W.cell? ⟨gp, 0, none⟩ = some (.slice pr 0 cr) ∧ W.cell? ⟨gp, 1, none⟩ = some (.slice pq 1 cq)) (by kernel_rfl) (HS.out _ HC0.out) (fun hHeld => ?_)
    refine wpAnyH_take (i := 0) (oi := ({ dst := some 46, op := Op.move (Operand.tmp 5), type := 26, pos := "law.go:63", after := #[], guard := none } : Oper)) (v := ?yv14) rfl (by kernel_rfl) (by kernel_rfl) (by kernel_rfl) (fun _ _ _ h => h) (Or.inl ⟨by rfl, ?yh14⟩) (by assumption) ?yr14
    case yh14 => (intro wq hSw; (try dsimp only at hSw); obtain ⟨s1, s2, s3, s4, s5, s6, s7, s8⟩ := hSw; go_simp; first | done | with_reducible rfl)
    try simp only [Act.put, List.setIfInBounds_toArray, List.set_cons_zero, List.set_cons_succ]
    refine wpAnyH_take (i := 1) (oi := ({ dst := some 47, op := Op.binOp BinOp.eql 26 (Operand.tmp 46) (Operand.const (Value.int IntKind.i64 0)) 26, type := 4, pos := "law.go:63", after := #[{ on := 0, ground := Ground.data }], guard := none } : Oper)) (v := ?yv15) rfl (by kernel_rfl) (by kernel_rfl) (by kernel_rfl) (fun _ _ _ h => h) (Or.inl ⟨by rfl, ?yh15⟩) (by assumption) ?yr15
    case yh15 => (intro wq hSw; (try dsimp only at hSw); obtain ⟨s1, s2, s3, s4, s5, s6, s7, s8⟩ := hSw; go_simp; first | done | with_reducible rfl)
    try simp only [Act.put, List.setIfInBounds_toArray, List.set_cons_zero, List.set_cons_succ]
    refine wpAnyH_take (i := 2) (oi := ({ dst := some 48, op := Op.move (Operand.tmp 47), type := 4, pos := "law.go:63", after := #[{ on := 1, ground := Ground.data }], guard := none } : Oper)) (v := ?yv16) rfl (by kernel_rfl) (by kernel_rfl) (by kernel_rfl) (fun _ _ _ h => h) (Or.inl ⟨by rfl, ?yh16⟩) (by assumption) ?yr16
    case yh16 => (intro wq hSw; (try dsimp only at hSw); obtain ⟨s1, s2, s3, s4, s5, s6, s7, s8⟩ := hSw; go_simp; first | done | with_reducible rfl)
    try simp only [Act.put, List.setIfInBounds_toArray, List.set_cons_zero, List.set_cons_succ]
    refine wpAnyH_take (i := 3) (oi := ({ dst := some 49, op := Op.fieldAddr 25 (Operand.tmp 4) 1, type := 0, pos := "law.go:63", after := #[{ on := 2, ground := Ground.guard }], guard := some (2, true) } : Oper)) (v := ?yv17) rfl (by kernel_rfl) (by kernel_rfl) (by kernel_rfl) (fun _ _ _ h => h) (Or.inl ⟨by rfl, ?yh17⟩) (by assumption) ?yr17
    case yh17 => (intro wq hSw; (try dsimp only at hSw); obtain ⟨s1, s2, s3, s4, s5, s6, s7, s8⟩ := hSw; go_simp; first | done | with_reducible rfl)
    try simp only [Act.put, List.setIfInBounds_toArray, List.set_cons_zero, List.set_cons_succ]
    refine wpAnyH_take (i := 4) (oi := ({ dst := some 50, op := Op.load 23 (Operand.tmp 49), type := 23, pos := "law.go:63", after := #[{ on := 3, ground := Ground.data }, { on := 2, ground := Ground.guard }], guard := some (2, true) } : Oper)) (v := ?yv18) rfl (by kernel_rfl) (by kernel_rfl) (by kernel_rfl) (fun _ _ _ h => h) (Or.inl ⟨by rfl, ?yh18⟩) (by assumption) ?yr18
    case yh18 => (intro wq hSw; (try dsimp only at hSw); obtain ⟨s1, s2, s3, s4, s5, s6, s7, s8⟩ := hSw; go_simp; first | done | with_reducible rfl)
    try simp only [Act.put, List.setIfInBounds_toArray, List.set_cons_zero, List.set_cons_succ]
    refine wpAnyH_take (i := 5) (oi := ({ dst := some 51, op := Op.call { callee := Callee.builtin Builtin.len, args := #[Operand.tmp 50], argTypes := #[23] }, type := 3, pos := "law.go:63", after := #[{ on := 4, ground := Ground.data }, { on := 2, ground := Ground.guard }], guard := some (2, true) } : Oper)) (v := ?yv19) rfl (by kernel_rfl) (by kernel_rfl) (by kernel_rfl) (fun _ _ _ h => h) (Or.inl ⟨by rfl, ?yh19⟩) (by assumption) ?yr19
    case yh19 => (intro wq hSw; (try dsimp only at hSw); obtain ⟨s1, s2, s3, s4, s5, s6, s7, s8⟩ := hSw; go_simp; first | done | with_reducible rfl)
    try simp only [Act.put, List.setIfInBounds_toArray, List.set_cons_zero, List.set_cons_succ]
    refine wpAnyH_take (i := 6) (oi := ({ dst := some 52, op := Op.binOp BinOp.eql 3 (Operand.tmp 51) (Operand.const (Value.int IntKind.i64 5)) 3, type := 4, pos := "law.go:63", after := #[{ on := 5, ground := Ground.data }, { on := 2, ground := Ground.guard }], guard := some (2, true) } : Oper)) (v := ?yv20) rfl (by kernel_rfl) (by kernel_rfl) (by kernel_rfl) (fun _ _ _ h => h) (Or.inl ⟨by rfl, ?yh20⟩) (by assumption) ?yr20
    case yh20 => (intro wq hSw; (try dsimp only at hSw); obtain ⟨s1, s2, s3, s4, s5, s6, s7, s8⟩ := hSw; go_simp; first | done | with_reducible rfl)
    try simp only [Act.put, List.setIfInBounds_toArray, List.set_cons_zero, List.set_cons_succ]
    refine wpAnyH_take (i := 7) (oi := ({ dst := some 53, op := Op.pick (Operand.tmp 48) (Operand.tmp 52) (Operand.const (Value.bool false)), type := 4, pos := "law.go:63", after := #[{ on := 2, ground := Ground.data }, { on := 6, ground := Ground.data }], guard := none } : Oper)) (v := ?yv21) rfl (by kernel_rfl) (by kernel_rfl) (by kernel_rfl) (fun _ _ _ h => h) (Or.inl ⟨by rfl, ?yh21⟩) (by assumption) ?yr21
    case yh21 => (intro wq hSw; (try dsimp only at hSw); obtain ⟨s1, s2, s3, s4, s5, s6, s7, s8⟩ := hSw; go_simp; first | done | with_reducible rfl)
    try simp only [Act.put, List.setIfInBounds_toArray, List.set_cons_zero, List.set_cons_succ]
    refine wpAnyH_take (i := 8) (oi := ({ dst := some 54, op := Op.move (Operand.tmp 53), type := 4, pos := "law.go:63", after := #[{ on := 7, ground := Ground.data }, { on := 2, ground := Ground.chain }], guard := none } : Oper)) (v := ?yv22) rfl (by kernel_rfl) (by kernel_rfl) (by kernel_rfl) (fun _ _ _ h => h) (Or.inl ⟨by rfl, ?yh22⟩) (by assumption) ?yr22
    case yh22 => (intro wq hSw; (try dsimp only at hSw); obtain ⟨s1, s2, s3, s4, s5, s6, s7, s8⟩ := hSw; go_simp; first | done | with_reducible rfl)
    try simp only [Act.put, List.setIfInBounds_toArray, List.set_cons_zero, List.set_cons_succ]
    refine wpAnyH_take (i := 9) (oi := ({ dst := some 55, op := Op.fieldAddr 25 (Operand.tmp 4) 0, type := 0, pos := "law.go:63", after := #[{ on := 8, ground := Ground.guard }], guard := some (8, true) } : Oper)) (v := ?yv23) rfl (by kernel_rfl) (by kernel_rfl) (by kernel_rfl) (fun _ _ _ h => h) (Or.inl ⟨by rfl, ?yh23⟩) (by assumption) ?yr23
    case yh23 => (intro wq hSw; (try dsimp only at hSw); obtain ⟨s1, s2, s3, s4, s5, s6, s7, s8⟩ := hSw; go_simp; first | done | with_reducible rfl)
    try simp only [Act.put, List.setIfInBounds_toArray, List.set_cons_zero, List.set_cons_succ]
    refine wpAnyH_take (i := 10) (oi := ({ dst := some 56, op := Op.load 22 (Operand.tmp 55), type := 22, pos := "law.go:63", after := #[{ on := 9, ground := Ground.data }, { on := 8, ground := Ground.guard }], guard := some (8, true) } : Oper)) (v := ?yv24) rfl (by kernel_rfl) (by kernel_rfl) (by kernel_rfl) (fun _ _ _ h => h) (Or.inl ⟨by rfl, ?yh24⟩) (by assumption) ?yr24
    case yh24 => (intro wq hSw; (try dsimp only at hSw); obtain ⟨s1, s2, s3, s4, s5, s6, s7, s8⟩ := hSw; go_simp; first | done | with_reducible rfl)
    try simp only [Act.put, List.setIfInBounds_toArray, List.set_cons_zero, List.set_cons_succ]
    refine wpAnyH_take (i := 11) (oi := ({ dst := some 57, op := Op.call { callee := Callee.builtin Builtin.len, args := #[Operand.tmp 56], argTypes := #[22] }, type := 3, pos := "law.go:63", after := #[{ on := 10, ground := Ground.data }, { on := 8, ground := Ground.guard }], guard := some (8, true) } : Oper)) (v := ?yv25) rfl (by kernel_rfl) (by kernel_rfl) (by kernel_rfl) (fun _ _ _ h => h) (Or.inl ⟨by rfl, ?yh25⟩) (by assumption) ?yr25
    case yh25 => (intro wq hSw; (try dsimp only at hSw); obtain ⟨s1, s2, s3, s4, s5, s6, s7, s8⟩ := hSw; go_simp; first | done | with_reducible rfl)
    try simp only [Act.put, List.setIfInBounds_toArray, List.set_cons_zero, List.set_cons_succ]
    refine wpAnyH_take (i := 12) (oi := ({ dst := some 58, op := Op.binOp BinOp.eql 3 (Operand.tmp 57) (Operand.const (Value.int IntKind.i64 3)) 3, type := 4, pos := "law.go:63", after := #[{ on := 11, ground := Ground.data }, { on := 8, ground := Ground.guard }], guard := some (8, true) } : Oper)) (v := ?yv26) rfl (by kernel_rfl) (by kernel_rfl) (by kernel_rfl) (fun _ _ _ h => h) (Or.inl ⟨by rfl, ?yh26⟩) (by assumption) ?yr26
    case yh26 => (intro wq hSw; (try dsimp only at hSw); obtain ⟨s1, s2, s3, s4, s5, s6, s7, s8⟩ := hSw; go_simp; first | done | with_reducible rfl)
    try simp only [Act.put, List.setIfInBounds_toArray, List.set_cons_zero, List.set_cons_succ]
    refine wpAnyH_take (i := 13) (oi := ({ dst := some 59, op := Op.pick (Operand.tmp 54) (Operand.tmp 58) (Operand.const (Value.bool false)), type := 4, pos := "law.go:63", after := #[{ on := 8, ground := Ground.data }, { on := 12, ground := Ground.data }], guard := none } : Oper)) (v := ?yv27) rfl (by kernel_rfl) (by kernel_rfl) (by kernel_rfl) (fun _ _ _ h => h) (Or.inl ⟨by rfl, ?yh27⟩) (by assumption) ?yr27
    case yh27 => (intro wq hSw; (try dsimp only at hSw); obtain ⟨s1, s2, s3, s4, s5, s6, s7, s8⟩ := hSw; go_simp; first | done | with_reducible rfl)
    try simp only [Act.put, List.setIfInBounds_toArray, List.set_cons_zero, List.set_cons_succ]
    refine wpAnyH_take (i := 14) (oi := ({ dst := some 60, op := Op.move (Operand.tmp 59), type := 4, pos := "law.go:63", after := #[{ on := 13, ground := Ground.data }, { on := 8, ground := Ground.chain }], guard := none } : Oper)) (v := ?yv28) rfl (by kernel_rfl) (by kernel_rfl) (by kernel_rfl) (fun _ _ _ h => h) (Or.inl ⟨by rfl, ?yh28⟩) (by assumption) ?yr28
    case yh28 => (intro wq hSw; (try dsimp only at hSw); obtain ⟨s1, s2, s3, s4, s5, s6, s7, s8⟩ := hSw; go_simp; first | done | with_reducible rfl)
    try simp only [Act.put, List.setIfInBounds_toArray, List.set_cons_zero, List.set_cons_succ]
    refine wpAnyH_take (i := 15) (oi := ({ dst := some 61, op := Op.move (Operand.tmp 7), type := 26, pos := "law.go:63", after := #[{ on := 14, ground := Ground.guard }], guard := some (14, true) } : Oper)) (v := ?yv29) rfl (by kernel_rfl) (by kernel_rfl) (by kernel_rfl) (fun _ _ _ h => h) (Or.inl ⟨by rfl, ?yh29⟩) (by assumption) ?yr29
    case yh29 => (intro wq hSw; (try dsimp only at hSw); obtain ⟨s1, s2, s3, s4, s5, s6, s7, s8⟩ := hSw; go_simp; first | done | with_reducible rfl)
    try simp only [Act.put, List.setIfInBounds_toArray, List.set_cons_zero, List.set_cons_succ]
    refine wpAnyH_take (i := 16) (oi := ({ dst := some 62, op := Op.binOp BinOp.eql 26 (Operand.tmp 61) (Operand.const (Value.int IntKind.i64 0)) 26, type := 4, pos := "law.go:63", after := #[{ on := 15, ground := Ground.data }, { on := 14, ground := Ground.guard }], guard := some (14, true) } : Oper)) (v := ?yv30) rfl (by kernel_rfl) (by kernel_rfl) (by kernel_rfl) (fun _ _ _ h => h) (Or.inl ⟨by rfl, ?yh30⟩) (by assumption) ?yr30
    case yh30 => (intro wq hSw; (try dsimp only at hSw); obtain ⟨s1, s2, s3, s4, s5, s6, s7, s8⟩ := hSw; go_simp; first | done | with_reducible rfl)
    try simp only [Act.put, List.setIfInBounds_toArray, List.set_cons_zero, List.set_cons_succ]
    refine wpAnyH_take (i := 17) (oi := ({ dst := some 63, op := Op.pick (Operand.tmp 60) (Operand.tmp 62) (Operand.const (Value.bool false)), type := 4, pos := "law.go:63", after := #[{ on := 14, ground := Ground.data }, { on := 16, ground := Ground.data }], guard := none } : Oper)) (v := ?yv31) rfl (by kernel_rfl) (by kernel_rfl) (by kernel_rfl) (fun _ _ _ h => h) (Or.inl ⟨by rfl, ?yh31⟩) (by assumption) ?yr31
    case yh31 => (intro wq hSw; (try dsimp only at hSw); obtain ⟨s1, s2, s3, s4, s5, s6, s7, s8⟩ := hSw; go_simp; first | done | with_reducible rfl)
    try simp only [Act.put, List.setIfInBounds_toArray, List.set_cons_zero, List.set_cons_succ]
    refine wpAnyH_take (i := 18) (oi := ({ dst := some 64, op := Op.move (Operand.tmp 63), type := 4, pos := "law.go:63", after := #[{ on := 17, ground := Ground.data }, { on := 14, ground := Ground.chain }], guard := none } : Oper)) (v := ?yv32) rfl (by kernel_rfl) (by kernel_rfl) (by kernel_rfl) (fun _ _ _ h => h) (Or.inl ⟨by rfl, ?yh32⟩) (by assumption) ?yr32
    case yh32 => (intro wq hSw; (try dsimp only at hSw); obtain ⟨s1, s2, s3, s4, s5, s6, s7, s8⟩ := hSw; go_simp; first | done | with_reducible rfl)
    try simp only [Act.put, List.setIfInBounds_toArray, List.set_cons_zero, List.set_cons_succ]
    refine wpAnyH_take (i := 19) (oi := ({ dst := some 65, op := Op.load 25 (Operand.tmp 6), type := 25, pos := "law.go:63", after := #[{ on := 18, ground := Ground.guard }], guard := some (18, true) } : Oper)) (v := ?yv33) rfl (by kernel_rfl) (by kernel_rfl) (by kernel_rfl) (fun _ _ _ h => h) (Or.inl ⟨by rfl, ?yh33⟩) (by assumption) ?yr33
    case yh33 => (intro wq hSw; (try dsimp only at hSw); obtain ⟨s1, s2, s3, s4, s5, s6, s7, s8⟩ := hSw; go_simp; first | done | with_reducible rfl)
    try simp only [Act.put, List.setIfInBounds_toArray, List.set_cons_zero, List.set_cons_succ]
    refine wpAnyH_ready (rs := [20]) (by kernel_rfl) (by simp) ?_
    refine AllReadyH.cons (o := ({ dst := some 66, op := Op.buildSlice 72 4 #[(0, Operand.const (Value.int IntKind.i64 1)), (1, Operand.const (Value.int IntKind.i64 1)), (2, Operand.const (Value.int IntKind.i64 2)), (3, Operand.const (Value.int IntKind.i64 1))], type := 72, pos := "law.go:63", after := #[{ on := 18, ground := Ground.guard }], guard := some (18, true) } : Oper)) rfl (fun K hK => ?_) AllReadyH.nil
    go_simp
    have hs1 : Below ((W5).drew).heap.size ((W5).drew) (((W5).alloc (.cells #[.int .i64 1, .int .i64 1, .int .i64 2, .int .i64 1] 2)).drew) := re_below ((Below.refl (W5).heap.size (W5)).alloc (Nat.le_refl _) _)
    have HC1 : Hid (Below W5.heap.size W5 (((W5).alloc (.cells #[.int .i64 1, .int .i64 1, .int .i64 2, .int .i64 1] 2)).drew)) := HC0.out.trans (hs1.mono HC0.out.size)
    have L1 : Hid ((((W5).alloc (.cells #[.int .i64 1, .int .i64 1, .int .i64 2, .int .i64 1] 2)).drew).heap[W5.heap.size]? = some (.cells #[.int .i64 1, .int .i64 1, .int .i64 2, .int .i64 1] 2 (0, 0))) := at_size (P := fun g => (((W5).alloc (.cells #[.int .i64 1, .int .i64 1, .int .i64 2, .int .i64 1] 2)).drew).heap[g]? = some (.cells #[.int .i64 1, .int .i64 1, .int .i64 2, .int .i64 1] 2 (0, 0))) (heap_alloc (W5) _) (by simp)
    clear hs1
    refine hK.out _ _ (HS.out _ HC1.out) (fun hHeld => ?_)
    clear hK K
    try simp only [Act.put, List.setIfInBounds_toArray, List.set_cons_zero, List.set_cons_succ]
    refine wpAnyH_ready (rs := [21]) (by kernel_rfl) (by simp) ?_
    refine AllReadyH.cons (o := ({ dst := some 67, op := Op.call { callee := Callee.value (Operand.func 31), args := #[Operand.tmp 66], argTypes := #[72] }, type := 25, pos := "law.go:63", after := #[{ on := 20, ground := Ground.data }, { on := 18, ground := Ground.chain }, { on := 18, ground := Ground.guard }], guard := some (18, true) } : Oper)) rfl (fun K hK => ?_) AllReadyH.nil
    go_simp
    refine (C8.out _ _ 1 1 2 1 L1.out).mono ?_
    rintro e z2 ⟨q1, d1, q2, d2, rfl, tx1, hb2⟩
    have HC2 : Hid (Below W5.heap.size W5 z2) := HC1.out.trans (hb2.mono HC1.out.size)
    have TX1 : Hid (StrsAt z2 (.slice q1 2 d1) [nX, nY] ∧ TabRows z2 (.slice q2 2 d2) (xyR [1, 1, 2, 1])) := tx1
    clear tx1 L1
    clear hb2
    dsimp only
    refine hK.out _ _ (HS.out _ HC2.out) (fun hHeld => ?_)
    clear hK K
    try simp only [Act.put, List.setIfInBounds_toArray, List.set_cons_zero, List.set_cons_succ]
    refine wpAnyH_ready (rs := [22]) (by kernel_rfl) (by simp) ?_
    refine AllReadyH.cons (o := ({ dst := some 68, op := Op.call { callee := Callee.value (Operand.func 20), args := #[Operand.tmp 65, Operand.tmp 67], argTypes := #[25, 25] }, type := 4, pos := "law.go:63", after := #[{ on := 19, ground := Ground.data }, { on := 21, ground := Ground.data }, { on := 21, ground := Ground.chain }, { on := 18, ground := Ground.guard }], guard := some (18, true) } : Oper)) rfl (fun K hK => ?_) AllReadyH.nil
    go_simp
    refine (CS1.out _ _ _ _ _ HC2.out TX1.out.1 TX1.out.2).mono ?_
    rintro e z3 ⟨rfl, hb3⟩
    have HC3 : Hid (Below W5.heap.size W5 z3) := HC2.out.trans (hb3.mono HC2.out.size)
    clear TX1
    clear hb3
    dsimp only
    refine hK.out _ _ (HS.out _ HC3.out) (fun hHeld => ?_)
    clear hK K
    try simp only [Act.put, List.setIfInBounds_toArray, List.set_cons_zero, List.set_cons_succ]
    refine wpAnyH_take (i := 23) (oi := ({ dst := some 69, op := Op.pick (Operand.tmp 64) (Operand.tmp 68) (Operand.const (Value.bool false)), type := 4, pos := "law.go:63", after := #[{ on := 18, ground := Ground.data }, { on := 22, ground := Ground.data }], guard := none } : Oper)) (v := ?yv34) rfl (by kernel_rfl) (by kernel_rfl) (by kernel_rfl) (fun _ _ _ h => h) (Or.inl ⟨by rfl, ?yh34⟩) (by assumption) ?yr34
    case yh34 => (intro wq hSw; (try dsimp only at hSw); obtain ⟨s1, s2, s3, s4, s5, s6, s7, s8⟩ := hSw; go_simp; first | done | with_reducible rfl)
    try simp only [Act.put, List.setIfInBounds_toArray, List.set_cons_zero, List.set_cons_succ]
    refine wpAnyH_take (i := 24) (oi := ({ dst := some 70, op := Op.move (Operand.tmp 69), type := 4, pos := "law.go:63", after := #[{ on := 23, ground := Ground.data }, { on := 22, ground := Ground.chain }], guard := none } : Oper)) (v := ?yv35) rfl (by kernel_rfl) (by kernel_rfl) (by kernel_rfl) (fun _ _ _ h => h) (Or.inl ⟨by rfl, ?yh35⟩) (by assumption) ?yr35
    case yh35 => (intro wq hSw; (try dsimp only at hSw); obtain ⟨s1, s2, s3, s4, s5, s6, s7, s8⟩ := hSw; go_simp; first | done | with_reducible rfl)
    try simp only [Act.put, List.setIfInBounds_toArray, List.set_cons_zero, List.set_cons_succ]
    refine wpAnyH_take (i := 25) (oi := ({ dst := some 71, op := Op.move (Operand.tmp 9), type := 26, pos := "law.go:63", after := #[{ on := 24, ground := Ground.guard }], guard := some (24, true) } : Oper)) (v := ?yv36) rfl (by kernel_rfl) (by kernel_rfl) (by kernel_rfl) (fun _ _ _ h => h) (Or.inl ⟨by rfl, ?yh36⟩) (by assumption) ?yr36
    case yh36 => (intro wq hSw; (try dsimp only at hSw); obtain ⟨s1, s2, s3, s4, s5, s6, s7, s8⟩ := hSw; go_simp; first | done | with_reducible rfl)
    try simp only [Act.put, List.setIfInBounds_toArray, List.set_cons_zero, List.set_cons_succ]
    refine wpAnyH_take (i := 26) (oi := ({ dst := some 72, op := Op.binOp BinOp.eql 26 (Operand.tmp 71) (Operand.const (Value.int IntKind.i64 0)) 26, type := 4, pos := "law.go:63", after := #[{ on := 25, ground := Ground.data }, { on := 24, ground := Ground.guard }], guard := some (24, true) } : Oper)) (v := ?yv37) rfl (by kernel_rfl) (by kernel_rfl) (by kernel_rfl) (fun _ _ _ h => h) (Or.inl ⟨by rfl, ?yh37⟩) (by assumption) ?yr37
    case yh37 => (intro wq hSw; (try dsimp only at hSw); obtain ⟨s1, s2, s3, s4, s5, s6, s7, s8⟩ := hSw; go_simp; first | done | with_reducible rfl)
    try simp only [Act.put, List.setIfInBounds_toArray, List.set_cons_zero, List.set_cons_succ]
    refine wpAnyH_take (i := 27) (oi := ({ dst := some 73, op := Op.pick (Operand.tmp 70) (Operand.tmp 72) (Operand.const (Value.bool false)), type := 4, pos := "law.go:63", after := #[{ on := 24, ground := Ground.data }, { on := 26, ground := Ground.data }], guard := none } : Oper)) (v := ?yv38) rfl (by kernel_rfl) (by kernel_rfl) (by kernel_rfl) (fun _ _ _ h => h) (Or.inl ⟨by rfl, ?yh38⟩) (by assumption) ?yr38
    case yh38 => (intro wq hSw; (try dsimp only at hSw); obtain ⟨s1, s2, s3, s4, s5, s6, s7, s8⟩ := hSw; go_simp; first | done | with_reducible rfl)
    try simp only [Act.put, List.setIfInBounds_toArray, List.set_cons_zero, List.set_cons_succ]
    refine wpAnyH_take (i := 28) (oi := ({ dst := some 74, op := Op.move (Operand.tmp 73), type := 4, pos := "law.go:63", after := #[{ on := 27, ground := Ground.data }, { on := 24, ground := Ground.chain }], guard := none } : Oper)) (v := ?yv39) rfl (by kernel_rfl) (by kernel_rfl) (by kernel_rfl) (fun _ _ _ h => h) (Or.inl ⟨by rfl, ?yh39⟩) (by assumption) ?yr39
    case yh39 => (intro wq hSw; (try dsimp only at hSw); obtain ⟨s1, s2, s3, s4, s5, s6, s7, s8⟩ := hSw; go_simp; first | done | with_reducible rfl)
    try simp only [Act.put, List.setIfInBounds_toArray, List.set_cons_zero, List.set_cons_succ]
    refine wpAnyH_take (i := 29) (oi := ({ dst := some 75, op := Op.load 25 (Operand.tmp 8), type := 25, pos := "law.go:63", after := #[{ on := 28, ground := Ground.guard }], guard := some (28, true) } : Oper)) (v := ?yv40) rfl (by kernel_rfl) (by kernel_rfl) (by kernel_rfl) (fun _ _ _ h => h) (Or.inl ⟨by rfl, ?yh40⟩) (by assumption) ?yr40
    case yh40 => (intro wq hSw; (try dsimp only at hSw); obtain ⟨s1, s2, s3, s4, s5, s6, s7, s8⟩ := hSw; go_simp; first | done | with_reducible rfl)
    try simp only [Act.put, List.setIfInBounds_toArray, List.set_cons_zero, List.set_cons_succ]
    refine wpAnyH_ready (rs := [30]) (by kernel_rfl) (by simp) ?_
    refine AllReadyH.cons (o := ({ dst := some 76, op := Op.call { callee := Callee.value (Operand.func 34), args := #[], argTypes := #[] }, type := 25, pos := "law.go:63", after := #[{ on := 28, ground := Ground.chain }, { on := 28, ground := Ground.guard }], guard := some (28, true) } : Oper)) rfl (fun K hK => ?_) AllReadyH.nil
    go_simp
    refine (CT.out _).mono ?_
    rintro e z4 ⟨q3, d3, q4, d4, rfl, tx3, hb4⟩
    have HC4 : Hid (Below W5.heap.size W5 z4) := HC3.out.trans (hb4.mono HC3.out.size)
    have TX3 : Hid (StrsAt z4 (.slice q3 0 d3) [] ∧ TabRows z4 (.slice q4 1 d4) [[]]) := tx3
    clear tx3
    clear hb4
    dsimp only
    refine hK.out _ _ (HS.out _ HC4.out) (fun hHeld => ?_)
    clear hK K
    try simp only [Act.put, List.setIfInBounds_toArray, List.set_cons_zero, List.set_cons_succ]
    refine wpAnyH_ready (rs := [31]) (by kernel_rfl) (by simp) ?_
    refine AllReadyH.cons (o := ({ dst := some 77, op := Op.call { callee := Callee.value (Operand.func 20), args := #[Operand.tmp 75, Operand.tmp 76], argTypes := #[25, 25] }, type := 4, pos := "law.go:63", after := #[{ on := 29, ground := Ground.data }, { on := 30, ground := Ground.data }, { on := 30, ground := Ground.chain }, { on := 28, ground := Ground.guard }], guard := some (28, true) } : Oper)) rfl (fun K hK => ?_) AllReadyH.nil
    go_simp
    refine (CS2.out _ _ _ _ _ HC4.out TX3.out.1 TX3.out.2).mono ?_
    rintro e z5 ⟨rfl, hb5⟩
    have HC5 : Hid (Below W5.heap.size W5 z5) := HC4.out.trans (hb5.mono HC4.out.size)
    clear TX3
    clear hb5
    dsimp only
    refine hK.out _ _ (HS.out _ HC5.out) (fun hHeld => ?_)
    clear hK K
    try simp only [Act.put, List.setIfInBounds_toArray, List.set_cons_zero, List.set_cons_succ]
    refine wpAnyH_take (i := 32) (oi := ({ dst := some 78, op := Op.pick (Operand.tmp 74) (Operand.tmp 77) (Operand.const (Value.bool false)), type := 4, pos := "law.go:63", after := #[{ on := 28, ground := Ground.data }, { on := 31, ground := Ground.data }], guard := none } : Oper)) (v := ?yv41) rfl (by kernel_rfl) (by kernel_rfl) (by kernel_rfl) (fun _ _ _ h => h) (Or.inl ⟨by rfl, ?yh41⟩) (by assumption) ?yr41
    case yh41 => (intro wq hSw; (try dsimp only at hSw); obtain ⟨s1, s2, s3, s4, s5, s6, s7, s8⟩ := hSw; go_simp; first | done | with_reducible rfl)
    try simp only [Act.put, List.setIfInBounds_toArray, List.set_cons_zero, List.set_cons_succ]
    refine wpAnyH_take (i := 33) (oi := ({ dst := some 79, op := Op.move (Operand.tmp 78), type := 4, pos := "law.go:63", after := #[{ on := 32, ground := Ground.data }, { on := 31, ground := Ground.chain }], guard := none } : Oper)) (v := ?yv42) rfl (by kernel_rfl) (by kernel_rfl) (by kernel_rfl) (fun _ _ _ h => h) (Or.inl ⟨by rfl, ?yh42⟩) (by assumption) ?yr42
    case yh42 => (intro wq hSw; (try dsimp only at hSw); obtain ⟨s1, s2, s3, s4, s5, s6, s7, s8⟩ := hSw; go_simp; first | done | with_reducible rfl)
    try simp only [Act.put, List.setIfInBounds_toArray, List.set_cons_zero, List.set_cons_succ]
    refine wpAnyH_take (i := 34) (oi := ({ dst := some 80, op := Op.move (Operand.tmp 11), type := 26, pos := "law.go:63", after := #[{ on := 33, ground := Ground.guard }], guard := some (33, true) } : Oper)) (v := ?yv43) rfl (by kernel_rfl) (by kernel_rfl) (by kernel_rfl) (fun _ _ _ h => h) (Or.inl ⟨by rfl, ?yh43⟩) (by assumption) ?yr43
    case yh43 => (intro wq hSw; (try dsimp only at hSw); obtain ⟨s1, s2, s3, s4, s5, s6, s7, s8⟩ := hSw; go_simp; first | done | with_reducible rfl)
    try simp only [Act.put, List.setIfInBounds_toArray, List.set_cons_zero, List.set_cons_succ]
    refine wpAnyH_take (i := 35) (oi := ({ dst := some 81, op := Op.binOp BinOp.eql 26 (Operand.tmp 80) (Operand.const (Value.int IntKind.i64 30)) 26, type := 4, pos := "law.go:63", after := #[{ on := 34, ground := Ground.data }, { on := 33, ground := Ground.guard }], guard := some (33, true) } : Oper)) (v := ?yv44) rfl (by kernel_rfl) (by kernel_rfl) (by kernel_rfl) (fun _ _ _ h => h) (Or.inl ⟨by rfl, ?yh44⟩) (by assumption) ?yr44
    case yh44 => (intro wq hSw; (try dsimp only at hSw); obtain ⟨s1, s2, s3, s4, s5, s6, s7, s8⟩ := hSw; go_simp; first | done | with_reducible rfl)
    try simp only [Act.put, List.setIfInBounds_toArray, List.set_cons_zero, List.set_cons_succ]
    refine wpAnyH_take (i := 36) (oi := ({ dst := some 82, op := Op.pick (Operand.tmp 79) (Operand.tmp 81) (Operand.const (Value.bool false)), type := 4, pos := "law.go:63", after := #[{ on := 33, ground := Ground.data }, { on := 35, ground := Ground.data }], guard := none } : Oper)) (v := ?yv45) rfl (by kernel_rfl) (by kernel_rfl) (by kernel_rfl) (fun _ _ _ h => h) (Or.inl ⟨by rfl, ?yh45⟩) (by assumption) ?yr45
    case yh45 => (intro wq hSw; (try dsimp only at hSw); obtain ⟨s1, s2, s3, s4, s5, s6, s7, s8⟩ := hSw; go_simp; first | done | with_reducible rfl)
    try simp only [Act.put, List.setIfInBounds_toArray, List.set_cons_zero, List.set_cons_succ]
    refine wpAnyH_take (i := 37) (oi := ({ dst := some 83, op := Op.move (Operand.tmp 82), type := 4, pos := "law.go:63", after := #[{ on := 36, ground := Ground.data }, { on := 33, ground := Ground.chain }], guard := none } : Oper)) (v := ?yv46) rfl (by kernel_rfl) (by kernel_rfl) (by kernel_rfl) (fun _ _ _ h => h) (Or.inl ⟨by rfl, ?yh46⟩) (by assumption) ?yr46
    case yh46 => (intro wq hSw; (try dsimp only at hSw); obtain ⟨s1, s2, s3, s4, s5, s6, s7, s8⟩ := hSw; go_simp; first | done | with_reducible rfl)
    try simp only [Act.put, List.setIfInBounds_toArray, List.set_cons_zero, List.set_cons_succ]
    refine wpAnyH_ready (rs := [38]) (by kernel_rfl) (by simp) ?_
    refine AllReadyH.cons (o := ({ dst := some 84, op := Op.buildSlice 72 4 #[(0, Operand.const (Value.int IntKind.i64 2)), (1, Operand.const (Value.int IntKind.i64 1)), (2, Operand.const (Value.int IntKind.i64 1)), (3, Operand.const (Value.int IntKind.i64 1))], type := 72, pos := "law.go:63", after := #[{ on := 37, ground := Ground.guard }], guard := some (37, true) } : Oper)) rfl (fun K hK => ?_) AllReadyH.nil
    go_simp
    have hs6 : Below (z5).heap.size (z5) ((z5).alloc (.cells #[.int .i64 2, .int .i64 1, .int .i64 1, .int .i64 1] 2)) := re_below ((Below.refl (z5).heap.size (z5)).alloc (Nat.le_refl _) _)
    have HC6 : Hid (Below W5.heap.size W5 ((z5).alloc (.cells #[.int .i64 2, .int .i64 1, .int .i64 1, .int .i64 1] 2))) := HC5.out.trans (hs6.mono HC5.out.size)
    have L2 : Hid (((z5).alloc (.cells #[.int .i64 2, .int .i64 1, .int .i64 1, .int .i64 1] 2)).heap[z5.heap.size]? = some (.cells #[.int .i64 2, .int .i64 1, .int .i64 1, .int .i64 1] 2 (0, 0))) := at_size (P := fun g => ((z5).alloc (.cells #[.int .i64 2, .int .i64 1, .int .i64 1, .int .i64 1] 2)).heap[g]? = some (.cells #[.int .i64 2, .int .i64 1, .int .i64 1, .int .i64 1] 2 (0, 0))) (heap_alloc (z5) _) (by simp)
    clear hs6
    refine hK.out _ _ (HS.out _ HC6.out) (fun hHeld => ?_)
    clear hK K
    try simp only [Act.put, List.setIfInBounds_toArray, List.set_cons_zero, List.set_cons_succ]
    refine wpAnyH_ready (rs := [39]) (by kernel_rfl) (by simp) ?_
    refine AllReadyH.cons (o := ({ dst := some 85, op := Op.call { callee := Callee.value (Operand.func 31), args := #[Operand.tmp 84], argTypes := #[72] }, type := 25, pos := "law.go:63", after := #[{ on := 38, ground := Ground.data }, { on := 37, ground := Ground.chain }, { on := 37, ground := Ground.guard }], guard := some (37, true) } : Oper)) rfl (fun K hK => ?_) AllReadyH.nil
    go_simp
    refine (C8.out _ _ 2 1 1 1 L2.out).mono ?_
    rintro e z7 ⟨q5, d5, q6, d6, rfl, tx2, hb7⟩
    have HC7 : Hid (Below W5.heap.size W5 z7) := HC6.out.trans (hb7.mono HC6.out.size)
    have TX2 : Hid (StrsAt z7 (.slice q5 2 d5) [nX, nY] ∧ TabRows z7 (.slice q6 2 d6) (xyR [2, 1, 1, 1])) := tx2
    clear tx2 L2
    clear hb7
    dsimp only
    refine hK.out _ _ (HS.out _ HC7.out) (fun hHeld => ?_)
    clear hK K
    try simp only [Act.put, List.setIfInBounds_toArray, List.set_cons_zero, List.set_cons_succ]
    refine wpAnyH_ready (rs := [40]) (by kernel_rfl) (by simp) ?_
    refine AllReadyH.cons (o := ({ dst := some 86, op := Op.call { callee := Callee.value (Operand.func 12), args := #[Operand.tmp 85], argTypes := #[25] }, type := 26, pos := "law.go:63", after := #[{ on := 39, ground := Ground.data }, { on := 39, ground := Ground.chain }, { on := 37, ground := Ground.guard }], guard := some (37, true) } : Oper)) rfl (fun K hK => ?_) AllReadyH.nil
    go_simp
    refine (CK.out _ _ _ _ _ TX2.out.1 TX2.out.2).mono ?_
    rintro e z8 ⟨rfl, hb8⟩
    have HC8 : Hid (Below W5.heap.size W5 z8) := HC7.out.trans (hb8.mono HC7.out.size)
    clear TX2
    clear hb8
    dsimp only
    refine hK.out _ _ (HS.out _ HC8.out) (fun hHeld => ?_)
    clear hK K
    try simp only [Act.put, List.setIfInBounds_toArray, List.set_cons_zero, List.set_cons_succ]
    refine wpAnyH_take (i := 41) (oi := ({ dst := some 87, op := Op.binOp BinOp.eql 26 (Operand.tmp 86) (Operand.const (Value.int IntKind.i64 1)) 26, type := 4, pos := "law.go:63", after := #[{ on := 40, ground := Ground.data }, { on := 37, ground := Ground.guard }], guard := some (37, true) } : Oper)) (v := ?yv47) rfl (by kernel_rfl) (by kernel_rfl) (by kernel_rfl) (fun _ _ _ h => h) (Or.inl ⟨by rfl, ?yh47⟩) (by assumption) ?yr47
    case yh47 => (intro wq hSw; (try dsimp only at hSw); obtain ⟨s1, s2, s3, s4, s5, s6, s7, s8⟩ := hSw; go_simp; first | done | with_reducible rfl)
    try simp only [Act.put, List.setIfInBounds_toArray, List.set_cons_zero, List.set_cons_succ]
    refine wpAnyH_take (i := 42) (oi := ({ dst := some 88, op := Op.pick (Operand.tmp 83) (Operand.tmp 87) (Operand.const (Value.bool false)), type := 4, pos := "law.go:63", after := #[{ on := 37, ground := Ground.data }, { on := 41, ground := Ground.data }], guard := none } : Oper)) (v := ?yv48) rfl (by kernel_rfl) (by kernel_rfl) (by kernel_rfl) (fun _ _ _ h => h) (Or.inl ⟨by rfl, ?yh48⟩) (by assumption) ?yr48
    case yh48 => (intro wq hSw; (try dsimp only at hSw); obtain ⟨s1, s2, s3, s4, s5, s6, s7, s8⟩ := hSw; go_simp; first | done | with_reducible rfl)
    try simp only [Act.put, List.setIfInBounds_toArray, List.set_cons_zero, List.set_cons_succ]
    refine wpAnyH_take (i := 43) (oi := ({ dst := some 89, op := Op.move (Operand.tmp 88), type := 4, pos := "law.go:63", after := #[{ on := 42, ground := Ground.data }, { on := 40, ground := Ground.chain }], guard := none } : Oper)) (v := ?yv49) rfl (by kernel_rfl) (by kernel_rfl) (by kernel_rfl) (fun _ _ _ h => h) (Or.inl ⟨by rfl, ?yh49⟩) (by assumption) ?yr49
    case yh49 => (intro wq hSw; (try dsimp only at hSw); obtain ⟨s1, s2, s3, s4, s5, s6, s7, s8⟩ := hSw; go_simp; first | done | with_reducible rfl)
    try simp only [Act.put, List.setIfInBounds_toArray, List.set_cons_zero, List.set_cons_succ]
    refine wpAnyH_take (i := 44) (oi := ({ dst := some 90, op := Op.load 25 (Operand.tmp 1), type := 25, pos := "law.go:63", after := #[{ on := 43, ground := Ground.guard }], guard := some (43, true) } : Oper)) (v := ?yv50) rfl (by kernel_rfl) (by kernel_rfl) (by kernel_rfl) (fun _ _ _ h => h) (Or.inl ⟨by rfl, ?yh50⟩) (by assumption) ?yr50
    case yh50 => (intro wq hSw; (try dsimp only at hSw); obtain ⟨s1, s2, s3, s4, s5, s6, s7, s8⟩ := hSw; go_simp; first | done | with_reducible rfl)
    try simp only [Act.put, List.setIfInBounds_toArray, List.set_cons_zero, List.set_cons_succ]
    refine wpAnyH_ready (rs := [45]) (by kernel_rfl) (by simp) ?_
    refine AllReadyH.cons (o := ({ dst := some 91, op := Op.call { callee := Callee.value (Operand.func 35), args := #[Operand.const (Value.int IntKind.i64 2)], argTypes := #[2] }, type := 47, pos := "law.go:63", after := #[{ on := 43, ground := Ground.chain }, { on := 43, ground := Ground.guard }], guard := some (43, true) } : Oper)) rfl (fun K hK => ?_) AllReadyH.nil
    go_simp
    refine (ONE.out 2 _).mono ?_
    rintro e z9 ⟨rfl, hb9⟩
    have HC9 : Hid (Below W5.heap.size W5 z9) := HC8.out.trans (hb9.mono HC8.out.size)
    clear hb9
    dsimp only
    refine hK.out _ _ (HS.out _ HC9.out) (fun hHeld => ?_)
    clear hK K
    try simp only [Act.put, List.setIfInBounds_toArray, List.set_cons_zero, List.set_cons_succ]
    refine wpAnyH_ready (rs := [46]) (by kernel_rfl) (by simp) ?_
    refine AllReadyH.cons (o := ({ dst := some 92, op := Op.call { callee := Callee.value (Operand.func 35), args := #[Operand.const (Value.int IntKind.i64 1)], argTypes := #[2] }, type := 47, pos := "law.go:63", after := #[{ on := 45, ground := Ground.chain }, { on := 43, ground := Ground.guard }], guard := some (43, true) } : Oper)) rfl (fun K hK => ?_) AllReadyH.nil
    go_simp
    refine (ONE.out 1 _).mono ?_
    rintro e z10 ⟨rfl, hb10⟩
    have HC10 : Hid (Below W5.heap.size W5 z10) := HC9.out.trans (hb10.mono HC9.out.size)
    clear hb10
    dsimp only
    refine hK.out _ _ (HS.out _ HC10.out) (fun hHeld => ?_)
    clear hK K
    try simp only [Act.put, List.setIfInBounds_toArray, List.set_cons_zero, List.set_cons_succ]
    refine wpAnyH_ready (rs := [47]) (by kernel_rfl) (by simp) ?_
    refine AllReadyH.cons (o := ({ dst := some 93, op := Op.buildSlice 37 2 #[(0, Operand.tmp 91), (1, Operand.tmp 92)], type := 37, pos := "law.go:63", after := #[{ on := 45, ground := Ground.data }, { on := 46, ground := Ground.data }, { on := 43, ground := Ground.guard }], guard := some (43, true) } : Oper)) rfl (fun K hK => ?_) AllReadyH.nil
    go_simp
    have hs11 : Below (z10).heap.size (z10) ((z10).alloc (.cells #[.int .i64 1, .int .i64 2, .int .i64 0, .string ⟨#[]⟩, .int .i64 1, .int .i64 1, .int .i64 0, .string ⟨#[]⟩] 47)) := re_below ((Below.refl (z10).heap.size (z10)).alloc (Nat.le_refl _) _)
    have HC11 : Hid (Below W5.heap.size W5 ((z10).alloc (.cells #[.int .i64 1, .int .i64 2, .int .i64 0, .string ⟨#[]⟩, .int .i64 1, .int .i64 1, .int .i64 0, .string ⟨#[]⟩] 47))) := HC10.out.trans (hs11.mono HC10.out.size)
    have L3 : Hid (((z10).alloc (.cells #[.int .i64 1, .int .i64 2, .int .i64 0, .string ⟨#[]⟩, .int .i64 1, .int .i64 1, .int .i64 0, .string ⟨#[]⟩] 47)).heap[z10.heap.size]? = some (.cells #[.int .i64 1, .int .i64 2, .int .i64 0, .string ⟨#[]⟩, .int .i64 1, .int .i64 1, .int .i64 0, .string ⟨#[]⟩] 47 (0, 0))) := at_size (P := fun g => ((z10).alloc (.cells #[.int .i64 1, .int .i64 2, .int .i64 0, .string ⟨#[]⟩, .int .i64 1, .int .i64 1, .int .i64 0, .string ⟨#[]⟩] 47)).heap[g]? = some (.cells #[.int .i64 1, .int .i64 2, .int .i64 0, .string ⟨#[]⟩, .int .i64 1, .int .i64 1, .int .i64 0, .string ⟨#[]⟩] 47 (0, 0))) (heap_alloc (z10) _) (by simp)
    clear hs11
    refine hK.out _ _ (HS.out _ HC11.out) (fun hHeld => ?_)
    clear hK K
    try simp only [Act.put, List.setIfInBounds_toArray, List.set_cons_zero, List.set_cons_succ]
    refine wpAnyH_ready (rs := [48]) (by kernel_rfl) (by simp) ?_
    refine AllReadyH.cons (o := ({ dst := some 94, op := Op.call { callee := Callee.value (Operand.func 21), args := #[Operand.tmp 90, Operand.tmp 93], argTypes := #[25, 37] }, type := 4, pos := "law.go:63", after := #[{ on := 44, ground := Ground.data }, { on := 47, ground := Ground.data }, { on := 46, ground := Ground.chain }, { on := 43, ground := Ground.guard }], guard := some (43, true) } : Oper)) rfl (fun K hK => ?_) AllReadyH.nil
    go_simp
    refine (CH.out _ _ HC11.out L3.out).mono ?_
    rintro e z12 ⟨rfl, hb12⟩
    have HC12 : Hid (Below W5.heap.size W5 z12) := HC11.out.trans (hb12.mono HC11.out.size)
    clear L3
    clear hb12
    dsimp only
    refine hK.out _ _ (HS.out _ HC12.out) (fun hHeld => ?_)
    clear hK K
    try simp only [Act.put, List.setIfInBounds_toArray, List.set_cons_zero, List.set_cons_succ]
    refine wpAnyH_take (i := 49) (oi := ({ dst := some 95, op := Op.pick (Operand.tmp 89) (Operand.tmp 94) (Operand.const (Value.bool false)), type := 4, pos := "law.go:63", after := #[{ on := 43, ground := Ground.data }, { on := 48, ground := Ground.data }], guard := none } : Oper)) (v := ?yv51) rfl (by kernel_rfl) (by kernel_rfl) (by kernel_rfl) (fun _ _ _ h => h) (Or.inl ⟨by rfl, ?yh51⟩) (by assumption) ?yr51
    case yh51 => (intro wq hSw; (try dsimp only at hSw); obtain ⟨s1, s2, s3, s4, s5, s6, s7, s8⟩ := hSw; go_simp; first | done | with_reducible rfl)
    try simp only [Act.put, List.setIfInBounds_toArray, List.set_cons_zero, List.set_cons_succ]
    refine wpAnyH_ready (rs := [50]) (by kernel_rfl) (by simp) ?_
    refine AllReadyH.cons (o := ({ dst := some 0, op := Op.assign (Operand.tmp 95), type := 4, pos := "law.go:63", after := #[{ on := 49, ground := Ground.data }, { on := 48, ground := Ground.chain }, { on := 0, ground := Ground.phase }, { on := 1, ground := Ground.phase }, { on := 2, ground := Ground.phase }, { on := 3, ground := Ground.phase }, { on := 4, ground := Ground.phase }, { on := 5, ground := Ground.phase }, { on := 6, ground := Ground.phase }, { on := 7, ground := Ground.phase }, { on := 8, ground := Ground.phase }, { on := 9, ground := Ground.phase }, { on := 10, ground := Ground.phase }, { on := 11, ground := Ground.phase }, { on := 12, ground := Ground.phase }, { on := 13, ground := Ground.phase }, { on := 14, ground := Ground.phase }, { on := 15, ground := Ground.phase }, { on := 16, ground := Ground.phase }, { on := 17, ground := Ground.phase }, { on := 18, ground := Ground.phase }, { on := 19, ground := Ground.phase }, { on := 20, ground := Ground.phase }, { on := 21, ground := Ground.phase }, { on := 22, ground := Ground.phase }, { on := 23, ground := Ground.phase }, { on := 24, ground := Ground.phase }, { on := 25, ground := Ground.phase }, { on := 26, ground := Ground.phase }, { on := 27, ground := Ground.phase }, { on := 28, ground := Ground.phase }, { on := 29, ground := Ground.phase }, { on := 30, ground := Ground.phase }, { on := 31, ground := Ground.phase }, { on := 32, ground := Ground.phase }, { on := 33, ground := Ground.phase }, { on := 34, ground := Ground.phase }, { on := 35, ground := Ground.phase }, { on := 36, ground := Ground.phase }, { on := 37, ground := Ground.phase }, { on := 38, ground := Ground.phase }, { on := 39, ground := Ground.phase }, { on := 40, ground := Ground.phase }, { on := 41, ground := Ground.phase }, { on := 42, ground := Ground.phase }, { on := 43, ground := Ground.phase }, { on := 44, ground := Ground.phase }, { on := 45, ground := Ground.phase }, { on := 46, ground := Ground.phase }, { on := 47, ground := Ground.phase }, { on := 48, ground := Ground.phase }, { on := 49, ground := Ground.phase }], guard := none } : Oper)) rfl (fun K hK => ?_) AllReadyH.nil
    go_simp
    refine hK.out _ _ (HS.out _ HC12.out) (fun hHeld => ?_)
    clear hK K
    try simp only [Act.put, List.setIfInBounds_toArray, List.set_cons_zero, List.set_cons_succ]
    refine wpAnyH_done (by kernel_rfl) ?_ _
    (try simp only [Exit.then])
    go_wp2
    go_ret
    exact ⟨rfl, K9.trans (HC12.out.mono K9.size)⟩
  have HREST : Hid (∀ (g6 : Nat) (u29 u30 u31 u32 u33 u34 u35 : Value) (W : World) (pn : Option Addr) (cn : Nat) (pm : Option Addr) (cm : Nat), _) := REST
  clear hKK REST
  have HB0 : Hid (Below W3.heap.size W3 W3.drew) := (Below.refl _ _).drew
  have hga : ga < W3.heap.size := (Array.getElem?_eq_some_iff.1 VA4.out).1
  refine wp_region_held_drew (S := fun W => W.cell? ⟨ga, 0, none⟩ = some (.slice p1 2 c1) ∧ W.cell? ⟨ga, 1, none⟩ = some (.slice p2 3 c2)) (by kernel_rfl) ⟨a0, a1⟩ (fun hHeld => ?_)
  refine wpAnyH_take (i := 0) (oi := ({ dst := some 30, op := Op.load 25 (Operand.tmp 1), type := 25, pos := "law.go:60", after := #[], guard := none } : Oper)) (v := ?yv1) rfl (by kernel_rfl) (by kernel_rfl) (by kernel_rfl) (fun _ _ _ h => h) (Or.inl ⟨by rfl, ?yh1⟩) (by assumption) ?yr1
  case yh1 => (intro wq hSw; (try dsimp only at hSw); obtain ⟨sa, sb⟩ := hSw; go_simp; first | done | with_reducible rfl)
  try simp only [Act.put, List.setIfInBounds_toArray, List.set_cons_zero, List.set_cons_succ]
  refine wpAnyH_ready (rs := [1, 7]) (by kernel_rfl) (by simp) ?_
  refine AllReadyH.cons (o := ({ dst := some 31, op := Op.buildSlice 72 2 #[(0, Operand.const (Value.int IntKind.i64 1)), (1, Operand.const (Value.int IntKind.i64 2))], type := 72, pos := "law.go:60", after := #[], guard := none } : Oper)) rfl (fun K hK => ?_) (AllReadyH.cons (o := ({ dst := some 6, op := Op.alloc 25, type := 0, pos := "law.go:60", after := #[], guard := none } : Oper)) rfl (fun K hK => ?_) AllReadyH.nil)
  · go_simp
    have hs1 : Below ((W3).drew).heap.size ((W3).drew) (((W3).alloc (.cells #[.int .i64 1, .int .i64 2] 2)).drew) := re_below ((Below.refl (W3).heap.size (W3)).alloc (Nat.le_refl _) _)
    have HB1 : Hid (Below W3.heap.size W3 (((W3).alloc (.cells #[.int .i64 1, .int .i64 2] 2)).drew)) := HB0.out.trans (hs1.mono HB0.out.size)
    have LT1 : Hid (Lit (((W3).alloc (.cells #[.int .i64 1, .int .i64 2] 2)).drew) (W3.heap.size)) := at_size (P := fun g => Lit (((W3).alloc (.cells #[.int .i64 1, .int .i64 2] 2)).drew) g) (heap_alloc (W3) _) (by simp)
    clear hs1
    refine hK.out _ _ (hold_of HB1.out a0 a1 hga) (fun hHeld => ?_)
    clear hK K
    try simp only [Act.put, List.setIfInBounds_toArray, List.set_cons_zero, List.set_cons_succ]
    refine wpAnyH_ready (rs := [2, 7]) (by kernel_rfl) (by simp) ?_
    refine AllReadyH.cons (o := ({ dst := some 32, op := Op.call { callee := Callee.value (Operand.func 31), args := #[Operand.tmp 31], argTypes := #[72] }, type := 25, pos := "law.go:60", after := #[{ on := 1, ground := Ground.data }], guard := none } : Oper)) rfl (fun K hK => ?_) (AllReadyH.cons (o := ({ dst := some 6, op := Op.alloc 25, type := 0, pos := "law.go:60", after := #[], guard := none } : Oper)) rfl (fun K hK => ?_) AllReadyH.nil)
    · go_simp
      refine (C4.out _ _ LT1.out).mono ?_
      rintro e y2 ⟨q1, d1, q2, d2, rfl, tx2, hb2⟩
      have hs2 : Below (((W3).alloc (.cells #[.int .i64 1, .int .i64 2] 2)).drew).heap.size (((W3).alloc (.cells #[.int .i64 1, .int .i64 2] 2)).drew) y2 := hb2
      have HB2 : Hid (Below W3.heap.size W3 (y2)) := HB1.out.trans (hs2.mono HB1.out.size)
      have TX2 : Hid (∃ us, TabAt y2 (.slice q1 2 d1) (.slice q2 1 d2) [nX, nY] us (xyR [1, 2])) := tx2
      clear hs2 hb2 tx2
      dsimp only
      refine hK.out _ _ (hold_of HB2.out a0 a1 hga) (fun hHeld => ?_)
      clear hK K
      try simp only [Act.put, List.setIfInBounds_toArray, List.set_cons_zero, List.set_cons_succ]
      refine wpAnyH_ready (rs := [3, 7]) (by kernel_rfl) (by simp) ?_
      refine AllReadyH.cons (o := ({ dst := some 33, op := Op.call { callee := Callee.value (Operand.func 29), args := #[Operand.tmp 30, Operand.tmp 32], argTypes := #[25, 25] }, type := 27, pos := "law.go:60", after := #[{ on := 0, ground := Ground.data }, { on := 2, ground := Ground.data }, { on := 2, ground := Ground.chain }], guard := none } : Oper)) rfl (fun K hK => ?_) (AllReadyH.cons (o := ({ dst := some 6, op := Op.alloc 25, type := 0, pos := "law.go:60", after := #[], guard := none } : Oper)) rfl (fun K hK => ?_) AllReadyH.nil)
      · go_simp
        refine (C5.out _ _ _ _ _ HB2.out TX2.out).mono ?_
        rintro e y3 ⟨pn, cn, pm, cm, rfl, rt3, hb3⟩
        have hs3 : Below (y2).heap.size (y2) y3 := hb3
        have HB3 : Hid (Below W3.heap.size W3 (y3)) := HB2.out.trans (hs3.mono HB2.out.size)
        have RT3 : Hid (OwnT (y2.heap.size) (.agg #[.slice pn 2 cn, .slice pm 2 cm]) [nX, nY] (xyR [1, 1, 2, 1]) y3) := by
          show OwnT _ _ _ _ _
          have h := rt3
          first | exact h | simpa using h
        clear hs3 hb3 rt3
        dsimp only
        refine hK.out _ _ (hold_of HB3.out a0 a1 hga) (fun hHeld => ?_)
        clear hK K
        try simp only [Act.put, List.setIfInBounds_toArray, List.set_cons_zero, List.set_cons_succ]
        refine wpAnyH_take (i := 4) (oi := ({ dst := some 29, op := Op.move (Operand.tmp 33), type := 27, pos := "law.go:60", after := #[{ on := 3, ground := Ground.data }], guard := none } : Oper)) (v := ?yv2) rfl (by kernel_rfl) (by kernel_rfl) (by kernel_rfl) (fun _ _ _ h => h) (Or.inl ⟨by rfl, ?yh2⟩) (by assumption) ?yr2
        case yh2 => (intro wq hSw; (try dsimp only at hSw); obtain ⟨sa, sb⟩ := hSw; go_simp; first | done | with_reducible rfl)
        try simp only [Act.put, List.setIfInBounds_toArray, List.set_cons_zero, List.set_cons_succ]
        refine wpAnyH_take (i := 5) (oi := ({ dst := some 34, op := Op.extract (Operand.tmp 29) 0, type := 25, pos := "law.go:60", after := #[{ on := 4, ground := Ground.data }], guard := none } : Oper)) (v := ?yv3) rfl (by kernel_rfl) (by kernel_rfl) (by kernel_rfl) (fun _ _ _ h => h) (Or.inl ⟨by rfl, ?yh3⟩) (by assumption) ?yr3
        case yh3 => (intro wq hSw; (try dsimp only at hSw); obtain ⟨sa, sb⟩ := hSw; go_simp; first | done | with_reducible rfl)
        try simp only [Act.put, List.setIfInBounds_toArray, List.set_cons_zero, List.set_cons_succ]
        refine wpAnyH_take (i := 6) (oi := ({ dst := some 35, op := Op.extract (Operand.tmp 29) 1, type := 26, pos := "law.go:60", after := #[{ on := 4, ground := Ground.data }, { on := 8, ground := Ground.gcOnly Departure.lateStores }], guard := none } : Oper)) (v := ?yv4) rfl (by kernel_rfl) (by kernel_rfl) (by kernel_rfl) (fun _ _ _ h => h) (Or.inl ⟨by rfl, ?yh4⟩) (by assumption) ?yr4
        case yh4 => (intro wq hSw; (try dsimp only at hSw); obtain ⟨sa, sb⟩ := hSw; go_simp; first | done | with_reducible rfl)
        try simp only [Act.put, List.setIfInBounds_toArray, List.set_cons_zero, List.set_cons_succ]
        refine wpAnyH_ready (rs := [7]) (by kernel_rfl) (by simp) ?_
        refine AllReadyH.cons (o := ({ dst := some 6, op := Op.alloc 25, type := 0, pos := "law.go:60", after := #[], guard := none } : Oper)) rfl (fun K hK => ?_) AllReadyH.nil
        go_simp
        have FB : Hid (Below W3.heap.size W3 (y3.alloc (.cells #[.slice none 0 0, .slice none 0 0] 25))) := HB3.out.trans ((((Below.refl y3.heap.size y3).alloc (Nat.le_refl _) _)).mono HB3.out.size)
        refine hK.out _ _ (hold_of FB.out a0 a1 hga) (fun hHeld => ?_)
        clear hK K
        try simp only [Act.put, List.setIfInBounds_toArray, List.set_cons_zero, List.set_cons_succ]
        refine wpAnyH_ready (rs := [8]) (by kernel_rfl) (by simp) ?_
        refine AllReadyH.cons (o := ({ dst := none, op := Op.store 25 (Operand.tmp 6) (Operand.tmp 34), type := 0, pos := "law.go:60", after := #[{ on := 7, ground := Ground.data }, { on := 5, ground := Ground.data }, { on := 3, ground := Ground.chain }, { on := 0, ground := Ground.phase }, { on := 1, ground := Ground.phase }, { on := 2, ground := Ground.phase }, { on := 3, ground := Ground.phase }, { on := 4, ground := Ground.phase }, { on := 5, ground := Ground.phase }, { on := 6, ground := Ground.textOnly Departure.lateStores }, { on := 7, ground := Ground.phase }], guard := none } : Oper)) rfl (fun K hK => ?_) AllReadyH.nil
        go_simp
        have GB : Hid (Below W3.heap.size W3 (y3.alloc (.cells #[.slice pn 2 cn, .slice pm 2 cm] 25))) := HB3.out.trans ((((Below.refl y3.heap.size y3).alloc (Nat.le_refl _) _)).mono HB3.out.size)
        have FV : Hid (Var (y3.alloc (.cells #[.slice pn 2 cn, .slice pm 2 cm] 25)) y3.heap.size (.slice pn 2 cn) (.slice pm 2 cm)) := Var.made _ _ _
        have FT := own_two RT3.out
        have FN : Hid (StrsAt (y3.alloc (.cells #[.slice pn 2 cn, .slice pm 2 cm] 25)) (.slice pn 2 cn) [nX, nY]) := FT.1.below ((Below.refl y3.heap.size y3).alloc (Nat.le_refl _) _)
        have FM : Hid (TabRows (y3.alloc (.cells #[.slice pn 2 cn, .slice pm 2 cm] 25)) (.slice pm 2 cm) (xyR [1, 1, 2, 1])) := FT.2.below ((Below.refl y3.heap.size y3).alloc (Nat.le_refl _) _)
        clear FT
        refine hK.out _ _ (hold_of GB.out a0 a1 hga) (fun hHeld => ?_)
        clear hK K
        try simp only [Act.put, List.setIfInBounds_toArray, List.set_cons_zero, List.set_cons_succ]
        refine wpAnyH_ready (rs := [9]) (by kernel_rfl) (by simp) ?_
        refine AllReadyH.cons (o := ({ dst := some 7, op := Op.assign (Operand.tmp 35), type := 26, pos := "law.go:60", after := #[{ on := 6, ground := Ground.data }, { on := 8, ground := Ground.chain }, { on := 0, ground := Ground.phase }, { on := 1, ground := Ground.phase }, { on := 2, ground := Ground.phase }, { on := 3, ground := Ground.phase }, { on := 4, ground := Ground.phase }, { on := 5, ground := Ground.phase }, { on := 6, ground := Ground.phase }, { on := 7, ground := Ground.phase }, { on := 8, ground := Ground.phase }], guard := none } : Oper)) rfl (fun K hK => ?_) AllReadyH.nil
        go_simp
        refine hK.out _ _ (hold_of GB.out a0 a1 hga) (fun hHeld => ?_)
        clear hK K
        try simp only [Act.put, List.setIfInBounds_toArray, List.set_cons_zero, List.set_cons_succ]
        refine wpAnyH_done (by kernel_rfl) ?_ _
        (try simp only [Exit.then])
        exact HREST.out _ _ _ _ _ _ _ _ _ _ _ _ _ FV FN FM GB
      · go_simp
        have hs3 : Below (y2).heap.size (y2) ((y2).alloc (.cells #[.slice none 0 0, .slice none 0 0] 25)) := re_below ((Below.refl (y2).heap.size (y2)).alloc (Nat.le_refl _) _)
        have HB3 : Hid (Below W3.heap.size W3 ((y2).alloc (.cells #[.slice none 0 0, .slice none 0 0] 25))) := HB2.out.trans (hs3.mono HB2.out.size)
        have TX3 : Hid (∃ us, TabAt ((y2).alloc (.cells #[.slice none 0 0, .slice none 0 0] 25)) (.slice q1 2 d1) (.slice q2 1 d2) [nX, nY] us (xyR [1, 2])) := by
          obtain ⟨us, h⟩ := TX2.out
          exact ⟨us, h.below hs3⟩
        have ZV3 : Hid (Var ((y2).alloc (.cells #[.slice none 0 0, .slice none 0 0] 25)) (y2.heap.size) (.slice none 0 0) (.slice none 0 0)) := at_size (P := fun g => Var ((y2).alloc (.cells #[.slice none 0 0, .slice none 0 0] 25)) g (.slice none 0 0) (.slice none 0 0)) (heap_alloc (y2) _) (by simp)
        have HG : Hid (W3.heap.size ≤ y2.heap.size) := by
          show _ ≤ _
          have h := HB2.out.size
          first | omega | (simp at h; omega)
        clear hs3
        refine hK.out _ _ (hold_of HB3.out a0 a1 hga) (fun hHeld => ?_)
        clear hK K
        try simp only [Act.put, List.setIfInBounds_toArray, List.set_cons_zero, List.set_cons_succ]
        refine wpAnyH_ready (rs := [3]) (by kernel_rfl) (by simp) ?_
        refine AllReadyH.cons (o := ({ dst := some 33, op := Op.call { callee := Callee.value (Operand.func 29), args := #[Operand.tmp 30, Operand.tmp 32], argTypes := #[25, 25] }, type := 27, pos := "law.go:60", after := #[{ on := 0, ground := Ground.data }, { on := 2, ground := Ground.data }, { on := 2, ground := Ground.chain }], guard := none } : Oper)) rfl (fun K hK => ?_) AllReadyH.nil
        go_simp
        refine (C5.out _ _ _ _ _ HB3.out TX3.out).mono ?_
        rintro e y4 ⟨pn, cn, pm, cm, rfl, rt4, hb4⟩
        have hs4 : Below ((y2).alloc (.cells #[.slice none 0 0, .slice none 0 0] 25)).heap.size ((y2).alloc (.cells #[.slice none 0 0, .slice none 0 0] 25)) y4 := hb4
        have HB4 : Hid (Below W3.heap.size W3 (y4)) := HB3.out.trans (hs4.mono HB3.out.size)
        have ZV4 : Hid (Var (y4) (y2.heap.size) (.slice none 0 0) (.slice none 0 0)) := ZV3.out.below hs4
        have HL : Hid (y2.heap.size < y2.heap.size + 1) := by
          show _ < _
          have h := (Array.getElem?_eq_some_iff.1 ZV3.out).1
          first | omega | exact h
        have RT4 : Hid (OwnT (y2.heap.size + 1) (.agg #[.slice pn 2 cn, .slice pm 2 cm]) [nX, nY] (xyR [1, 1, 2, 1]) y4) := by
          show OwnT _ _ _ _ _
          have h := rt4
          first | exact h | simpa using h
        clear hs4 hb4 rt4
        dsimp only
        refine hK.out _ _ (hold_of HB4.out a0 a1 hga) (fun hHeld => ?_)
        clear hK K
        try simp only [Act.put, List.setIfInBounds_toArray, List.set_cons_zero, List.set_cons_succ]
        refine wpAnyH_take (i := 4) (oi := ({ dst := some 29, op := Op.move (Operand.tmp 33), type := 27, pos := "law.go:60", after := #[{ on := 3, ground := Ground.data }], guard := none } : Oper)) (v := ?yv5) rfl (by kernel_rfl) (by kernel_rfl) (by kernel_rfl) (fun _ _ _ h => h) (Or.inl ⟨by rfl, ?yh5⟩) (by assumption) ?yr5
        case yh5 => (intro wq hSw; (try dsimp only at hSw); obtain ⟨sa, sb⟩ := hSw; go_simp; first | done | with_reducible rfl)
        try simp only [Act.put, List.setIfInBounds_toArray, List.set_cons_zero, List.set_cons_succ]
        refine wpAnyH_take (i := 5) (oi := ({ dst := some 34, op := Op.extract (Operand.tmp 29) 0, type := 25, pos := "law.go:60", after := #[{ on := 4, ground := Ground.data }], guard := none } : Oper)) (v := ?yv6) rfl (by kernel_rfl) (by kernel_rfl) (by kernel_rfl) (fun _ _ _ h => h) (Or.inl ⟨by rfl, ?yh6⟩) (by assumption) ?yr6
        case yh6 => (intro wq hSw; (try dsimp only at hSw); obtain ⟨sa, sb⟩ := hSw; go_simp; first | done | with_reducible rfl)
        try simp only [Act.put, List.setIfInBounds_toArray, List.set_cons_zero, List.set_cons_succ]
        refine wpAnyH_take (i := 6) (oi := ({ dst := some 35, op := Op.extract (Operand.tmp 29) 1, type := 26, pos := "law.go:60", after := #[{ on := 4, ground := Ground.data }, { on := 8, ground := Ground.gcOnly Departure.lateStores }], guard := none } : Oper)) (v := ?yv7) rfl (by kernel_rfl) (by kernel_rfl) (by kernel_rfl) (fun _ _ _ h => h) (Or.inl ⟨by rfl, ?yh7⟩) (by assumption) ?yr7
        case yh7 => (intro wq hSw; (try dsimp only at hSw); obtain ⟨sa, sb⟩ := hSw; go_simp; first | done | with_reducible rfl)
        try simp only [Act.put, List.setIfInBounds_toArray, List.set_cons_zero, List.set_cons_succ]
        refine wpAnyH_ready (rs := [8]) (by kernel_rfl) (by simp) ?_
        refine AllReadyH.cons (o := ({ dst := none, op := Op.store 25 (Operand.tmp 6) (Operand.tmp 34), type := 0, pos := "law.go:60", after := #[{ on := 7, ground := Ground.data }, { on := 5, ground := Ground.data }, { on := 3, ground := Ground.chain }, { on := 0, ground := Ground.phase }, { on := 1, ground := Ground.phase }, { on := 2, ground := Ground.phase }, { on := 3, ground := Ground.phase }, { on := 4, ground := Ground.phase }, { on := 5, ground := Ground.phase }, { on := 6, ground := Ground.textOnly Departure.lateStores }, { on := 7, ground := Ground.phase }], guard := none } : Oper)) rfl (fun K hK => ?_) AllReadyH.nil
        have z0 := ZV4.out.c0
        have z1 := ZV4.out.c1
        have f0 := frozen_of_heap ZV4.out 0
        have f1 := frozen_of_heap ZV4.out 1
        go_simp
        have hgB : y2.heap.size < y2.heap.size + 1 := by exact HL.out
        have hgW : W3.heap.size ≤ y2.heap.size := by exact HG.out
        have FB : Hid (Below W3.heap.size W3 ((y4.setCell ⟨y2.heap.size, 0, none⟩ (.slice pn 2 cn)).setCell ⟨y2.heap.size, 1, none⟩ (.slice pm 2 cm))) := by
          have b2 := HB4.out.grown (grownBy_setCell y4 (y2.heap.size) 0 (.slice pn 2 cn)) HB4.out.size (fun q hq => by injection hq with hq; omega)
          exact b2.grown (grownBy_setCell _ (y2.heap.size) 1 (.slice pm 2 cm)) b2.size (fun q hq => by injection hq with hq; omega)
        have FV : Hid (Var ((y4.setCell ⟨y2.heap.size, 0, none⟩ (.slice pn 2 cn)).setCell ⟨y2.heap.size, 1, none⟩ (.slice pm 2 cm)) (y2.heap.size) (.slice pn 2 cn) (.slice pm 2 cm)) := var_set ZV4.out
        have FT := own_two ((RT4.out.set (T := y2.heap.size) (j := 0) (u := .slice pn 2 cn) hgB).set (T := y2.heap.size) (j := 1) (u := .slice pm 2 cm) hgB)
        have FN : Hid (StrsAt ((y4.setCell ⟨y2.heap.size, 0, none⟩ (.slice pn 2 cn)).setCell ⟨y2.heap.size, 1, none⟩ (.slice pm 2 cm)) (.slice pn 2 cn) [nX, nY]) := FT.1
        have FM : Hid (TabRows ((y4.setCell ⟨y2.heap.size, 0, none⟩ (.slice pn 2 cn)).setCell ⟨y2.heap.size, 1, none⟩ (.slice pm 2 cm)) (.slice pm 2 cm) (xyR [1, 1, 2, 1])) := FT.2
        clear z0 z1 f0 f1 FT hgB hgW
        refine hK.out _ _ (hold_of FB.out a0 a1 hga) (fun hHeld => ?_)
        clear hK K
        try simp only [Act.put, List.setIfInBounds_toArray, List.set_cons_zero, List.set_cons_succ]
        refine wpAnyH_ready (rs := [9]) (by kernel_rfl) (by simp) ?_
        refine AllReadyH.cons (o := ({ dst := some 7, op := Op.assign (Operand.tmp 35), type := 26, pos := "law.go:60", after := #[{ on := 6, ground := Ground.data }, { on := 8, ground := Ground.chain }, { on := 0, ground := Ground.phase }, { on := 1, ground := Ground.phase }, { on := 2, ground := Ground.phase }, { on := 3, ground := Ground.phase }, { on := 4, ground := Ground.phase }, { on := 5, ground := Ground.phase }, { on := 6, ground := Ground.phase }, { on := 7, ground := Ground.phase }, { on := 8, ground := Ground.phase }], guard := none } : Oper)) rfl (fun K hK => ?_) AllReadyH.nil
        go_simp
        refine hK.out _ _ (hold_of FB.out a0 a1 hga) (fun hHeld => ?_)
        clear hK K
        try simp only [Act.put, List.setIfInBounds_toArray, List.set_cons_zero, List.set_cons_succ]
        refine wpAnyH_done (by kernel_rfl) ?_ _
        (try simp only [Exit.then])
        exact HREST.out _ _ _ _ _ _ _ _ _ _ _ _ _ FV FN FM FB
    · go_simp
      have hs2 : Below (((W3).alloc (.cells #[.int .i64 1, .int .i64 2] 2)).drew).heap.size (((W3).alloc (.cells #[.int .i64 1, .int .i64 2] 2)).drew) ((((W3).alloc (.cells #[.int .i64 1, .int .i64 2] 2)).alloc (.cells #[.slice none 0 0, .slice none 0 0] 25)).drew) := re_below ((Below.refl ((W3).alloc (.cells #[.int .i64 1, .int .i64 2] 2)).heap.size ((W3).alloc (.cells #[.int .i64 1, .int .i64 2] 2))).alloc (Nat.le_refl _) _)
      have HB2 : Hid (Below W3.heap.size W3 ((((W3).alloc (.cells #[.int .i64 1, .int .i64 2] 2)).alloc (.cells #[.slice none 0 0, .slice none 0 0] 25)).drew)) := HB1.out.trans (hs2.mono HB1.out.size)
      have LT2 : Hid (Lit ((((W3).alloc (.cells #[.int .i64 1, .int .i64 2] 2)).alloc (.cells #[.slice none 0 0, .slice none 0 0] 25)).drew) (W3.heap.size)) := LT1.out.below hs2
      have ZV2 : Hid (Var ((((W3).alloc (.cells #[.int .i64 1, .int .i64 2] 2)).alloc (.cells #[.slice none 0 0, .slice none 0 0] 25)).drew) (W3.heap.size + 1) (.slice none 0 0) (.slice none 0 0)) := at_size (P := fun g => Var ((((W3).alloc (.cells #[.int .i64 1, .int .i64 2] 2)).alloc (.cells #[.slice none 0 0, .slice none 0 0] 25)).drew) g (.slice none 0 0) (.slice none 0 0)) (heap_alloc ((W3).alloc (.cells #[.int .i64 1, .int .i64 2] 2)) _) (by simp)
      have HG : Hid (W3.heap.size ≤ W3.heap.size + 1) := by
        show _ ≤ _
        have h := HB1.out.size
        first | omega | (simp at h; omega)
      clear hs2
      refine hK.out _ _ (hold_of HB2.out a0 a1 hga) (fun hHeld => ?_)
      clear hK K
      try simp only [Act.put, List.setIfInBounds_toArray, List.set_cons_zero, List.set_cons_succ]
      refine wpAnyH_ready (rs := [2]) (by kernel_rfl) (by simp) ?_
      refine AllReadyH.cons (o := ({ dst := some 32, op := Op.call { callee := Callee.value (Operand.func 31), args := #[Operand.tmp 31], argTypes := #[72] }, type := 25, pos := "law.go:60", after := #[{ on := 1, ground := Ground.data }], guard := none } : Oper)) rfl (fun K hK => ?_) AllReadyH.nil
      go_simp
      refine (C4.out _ _ LT2.out).mono ?_
      rintro e y3 ⟨q1, d1, q2, d2, rfl, tx3, hb3⟩
      have hs3 : Below ((((W3).alloc (.cells #[.int .i64 1, .int .i64 2] 2)).alloc (.cells #[.slice none 0 0, .slice none 0 0] 25)).drew).heap.size ((((W3).alloc (.cells #[.int .i64 1, .int .i64 2] 2)).alloc (.cells #[.slice none 0 0, .slice none 0 0] 25)).drew) y3 := hb3
      have HB3 : Hid (Below W3.heap.size W3 (y3)) := HB2.out.trans (hs3.mono HB2.out.size)
      have ZV3 : Hid (Var (y3) (W3.heap.size + 1) (.slice none 0 0) (.slice none 0 0)) := ZV2.out.below hs3
      have TX3 : Hid (∃ us, TabAt y3 (.slice q1 2 d1) (.slice q2 1 d2) [nX, nY] us (xyR [1, 2])) := tx3
      clear hs3 hb3 tx3
      dsimp only
      refine hK.out _ _ (hold_of HB3.out a0 a1 hga) (fun hHeld => ?_)
      clear hK K
      try simp only [Act.put, List.setIfInBounds_toArray, List.set_cons_zero, List.set_cons_succ]
      refine wpAnyH_ready (rs := [3]) (by kernel_rfl) (by simp) ?_
      refine AllReadyH.cons (o := ({ dst := some 33, op := Op.call { callee := Callee.value (Operand.func 29), args := #[Operand.tmp 30, Operand.tmp 32], argTypes := #[25, 25] }, type := 27, pos := "law.go:60", after := #[{ on := 0, ground := Ground.data }, { on := 2, ground := Ground.data }, { on := 2, ground := Ground.chain }], guard := none } : Oper)) rfl (fun K hK => ?_) AllReadyH.nil
      go_simp
      refine (C5.out _ _ _ _ _ HB3.out TX3.out).mono ?_
      rintro e y4 ⟨pn, cn, pm, cm, rfl, rt4, hb4⟩
      have hs4 : Below (y3).heap.size (y3) y4 := hb4
      have HB4 : Hid (Below W3.heap.size W3 (y4)) := HB3.out.trans (hs4.mono HB3.out.size)
      have ZV4 : Hid (Var (y4) (W3.heap.size + 1) (.slice none 0 0) (.slice none 0 0)) := ZV3.out.below hs4
      have HL : Hid (W3.heap.size + 1 < y3.heap.size) := by
        show _ < _
        have h := (Array.getElem?_eq_some_iff.1 ZV3.out).1
        first | omega | exact h
      have RT4 : Hid (OwnT (y3.heap.size) (.agg #[.slice pn 2 cn, .slice pm 2 cm]) [nX, nY] (xyR [1, 1, 2, 1]) y4) := by
        show OwnT _ _ _ _ _
        have h := rt4
        first | exact h | simpa using h
      clear hs4 hb4 rt4
      dsimp only
      refine hK.out _ _ (hold_of HB4.out a0 a1 hga) (fun hHeld => ?_)
      clear hK K
      try simp only [Act.put, List.setIfInBounds_toArray, List.set_cons_zero, List.set_cons_succ]
      refine wpAnyH_take (i := 4) (oi := ({ dst := some 29, op := Op.move (Operand.tmp 33), type := 27, pos := "law.go:60", after := #[{ on := 3, ground := Ground.data }], guard := none } : Oper)) (v := ?yv8) rfl (by kernel_rfl) (by kernel_rfl) (by kernel_rfl) (fun _ _ _ h => h) (Or.inl ⟨by rfl, ?yh8⟩) (by assumption) ?yr8
      case yh8 => (intro wq hSw; (try dsimp only at hSw); obtain ⟨sa, sb⟩ := hSw; go_simp; first | done | with_reducible rfl)
      try simp only [Act.put, List.setIfInBounds_toArray, List.set_cons_zero, List.set_cons_succ]
      refine wpAnyH_take (i := 5) (oi := ({ dst := some 34, op := Op.extract (Operand.tmp 29) 0, type := 25, pos := "law.go:60", after := #[{ on := 4, ground := Ground.data }], guard := none } : Oper)) (v := ?yv9) rfl (by kernel_rfl) (by kernel_rfl) (by kernel_rfl) (fun _ _ _ h => h) (Or.inl ⟨by rfl, ?yh9⟩) (by assumption) ?yr9
      case yh9 => (intro wq hSw; (try dsimp only at hSw); obtain ⟨sa, sb⟩ := hSw; go_simp; first | done | with_reducible rfl)
      try simp only [Act.put, List.setIfInBounds_toArray, List.set_cons_zero, List.set_cons_succ]
      refine wpAnyH_take (i := 6) (oi := ({ dst := some 35, op := Op.extract (Operand.tmp 29) 1, type := 26, pos := "law.go:60", after := #[{ on := 4, ground := Ground.data }, { on := 8, ground := Ground.gcOnly Departure.lateStores }], guard := none } : Oper)) (v := ?yv10) rfl (by kernel_rfl) (by kernel_rfl) (by kernel_rfl) (fun _ _ _ h => h) (Or.inl ⟨by rfl, ?yh10⟩) (by assumption) ?yr10
      case yh10 => (intro wq hSw; (try dsimp only at hSw); obtain ⟨sa, sb⟩ := hSw; go_simp; first | done | with_reducible rfl)
      try simp only [Act.put, List.setIfInBounds_toArray, List.set_cons_zero, List.set_cons_succ]
      refine wpAnyH_ready (rs := [8]) (by kernel_rfl) (by simp) ?_
      refine AllReadyH.cons (o := ({ dst := none, op := Op.store 25 (Operand.tmp 6) (Operand.tmp 34), type := 0, pos := "law.go:60", after := #[{ on := 7, ground := Ground.data }, { on := 5, ground := Ground.data }, { on := 3, ground := Ground.chain }, { on := 0, ground := Ground.phase }, { on := 1, ground := Ground.phase }, { on := 2, ground := Ground.phase }, { on := 3, ground := Ground.phase }, { on := 4, ground := Ground.phase }, { on := 5, ground := Ground.phase }, { on := 6, ground := Ground.textOnly Departure.lateStores }, { on := 7, ground := Ground.phase }], guard := none } : Oper)) rfl (fun K hK => ?_) AllReadyH.nil
      have z0 := ZV4.out.c0
      have z1 := ZV4.out.c1
      have f0 := frozen_of_heap ZV4.out 0
      have f1 := frozen_of_heap ZV4.out 1
      go_simp
      have hgB : W3.heap.size + 1 < y3.heap.size := by exact HL.out
      have hgW : W3.heap.size ≤ W3.heap.size + 1 := by exact HG.out
      have FB : Hid (Below W3.heap.size W3 ((y4.setCell ⟨W3.heap.size + 1, 0, none⟩ (.slice pn 2 cn)).setCell ⟨W3.heap.size + 1, 1, none⟩ (.slice pm 2 cm))) := by
        have b2 := HB4.out.grown (grownBy_setCell y4 (W3.heap.size + 1) 0 (.slice pn 2 cn)) HB4.out.size (fun q hq => by injection hq with hq; omega)
        exact b2.grown (grownBy_setCell _ (W3.heap.size + 1) 1 (.slice pm 2 cm)) b2.size (fun q hq => by injection hq with hq; omega)
      have FV : Hid (Var ((y4.setCell ⟨W3.heap.size + 1, 0, none⟩ (.slice pn 2 cn)).setCell ⟨W3.heap.size + 1, 1, none⟩ (.slice pm 2 cm)) (W3.heap.size + 1) (.slice pn 2 cn) (.slice pm 2 cm)) := var_set ZV4.out
      have FT := own_two ((RT4.out.set (T := W3.heap.size + 1) (j := 0) (u := .slice pn 2 cn) hgB).set (T := W3.heap.size + 1) (j := 1) (u := .slice pm 2 cm) hgB)
      have FN : Hid (StrsAt ((y4.setCell ⟨W3.heap.size + 1, 0, none⟩ (.slice pn 2 cn)).setCell ⟨W3.heap.size + 1, 1, none⟩ (.slice pm 2 cm)) (.slice pn 2 cn) [nX, nY]) := FT.1
      have FM : Hid (TabRows ((y4.setCell ⟨W3.heap.size + 1, 0, none⟩ (.slice pn 2 cn)).setCell ⟨W3.heap.size + 1, 1, none⟩ (.slice pm 2 cm)) (.slice pm 2 cm) (xyR [1, 1, 2, 1])) := FT.2
      clear z0 z1 f0 f1 FT hgB hgW
      refine hK.out _ _ (hold_of FB.out a0 a1 hga) (fun hHeld => ?_)
      clear hK K
      try simp only [Act.put, List.setIfInBounds_toArray, List.set_cons_zero, List.set_cons_succ]
      refine wpAnyH_ready (rs := [9]) (by kernel_rfl) (by simp) ?_
      refine AllReadyH.cons (o := ({ dst := some 7, op := Op.assign (Operand.tmp 35), type := 26, pos := "law.go:60", after := #[{ on := 6, ground := Ground.data }, { on := 8, ground := Ground.chain }, { on := 0, ground := Ground.phase }, { on := 1, ground := Ground.phase }, { on := 2, ground := Ground.phase }, { on := 3, ground := Ground.phase }, { on := 4, ground := Ground.phase }, { on := 5, ground := Ground.phase }, { on := 6, ground := Ground.phase }, { on := 7, ground := Ground.phase }, { on := 8, ground := Ground.phase }], guard := none } : Oper)) rfl (fun K hK => ?_) AllReadyH.nil
      go_simp
      refine hK.out _ _ (hold_of FB.out a0 a1 hga) (fun hHeld => ?_)
      clear hK K
      try simp only [Act.put, List.setIfInBounds_toArray, List.set_cons_zero, List.set_cons_succ]
      refine wpAnyH_done (by kernel_rfl) ?_ _
      (try simp only [Exit.then])
      exact HREST.out _ _ _ _ _ _ _ _ _ _ _ _ _ FV FN FM FB
  · go_simp
    have hs1 : Below ((W3).drew).heap.size ((W3).drew) (((W3).alloc (.cells #[.slice none 0 0, .slice none 0 0] 25)).drew) := re_below ((Below.refl (W3).heap.size (W3)).alloc (Nat.le_refl _) _)
    have HB1 : Hid (Below W3.heap.size W3 (((W3).alloc (.cells #[.slice none 0 0, .slice none 0 0] 25)).drew)) := HB0.out.trans (hs1.mono HB0.out.size)
    have ZV1 : Hid (Var (((W3).alloc (.cells #[.slice none 0 0, .slice none 0 0] 25)).drew) (W3.heap.size) (.slice none 0 0) (.slice none 0 0)) := at_size (P := fun g => Var (((W3).alloc (.cells #[.slice none 0 0, .slice none 0 0] 25)).drew) g (.slice none 0 0) (.slice none 0 0)) (heap_alloc (W3) _) (by simp)
    have HG : Hid (W3.heap.size ≤ W3.heap.size) := by
      show _ ≤ _
      have h := HB0.out.size
      first | omega | (simp at h; omega)
    clear hs1
    refine hK.out _ _ (hold_of HB1.out a0 a1 hga) (fun hHeld => ?_)
    clear hK K
    try simp only [Act.put, List.setIfInBounds_toArray, List.set_cons_zero, List.set_cons_succ]
    refine wpAnyH_ready (rs := [1]) (by kernel_rfl) (by simp) ?_
    refine AllReadyH.cons (o := ({ dst := some 31, op := Op.buildSlice 72 2 #[(0, Operand.const (Value.int IntKind.i64 1)), (1, Operand.const (Value.int IntKind.i64 2))], type := 72, pos := "law.go:60", after := #[], guard := none } : Oper)) rfl (fun K hK => ?_) AllReadyH.nil
    go_simp
    have hs2 : Below (((W3).alloc (.cells #[.slice none 0 0, .slice none 0 0] 25)).drew).heap.size (((W3).alloc (.cells #[.slice none 0 0, .slice none 0 0] 25)).drew) ((((W3).alloc (.cells #[.slice none 0 0, .slice none 0 0] 25)).alloc (.cells #[.int .i64 1, .int .i64 2] 2)).drew) := re_below ((Below.refl ((W3).alloc (.cells #[.slice none 0 0, .slice none 0 0] 25)).heap.size ((W3).alloc (.cells #[.slice none 0 0, .slice none 0 0] 25))).alloc (Nat.le_refl _) _)
    have HB2 : Hid (Below W3.heap.size W3 ((((W3).alloc (.cells #[.slice none 0 0, .slice none 0 0] 25)).alloc (.cells #[.int .i64 1, .int .i64 2] 2)).drew)) := HB1.out.trans (hs2.mono HB1.out.size)
    have ZV2 : Hid (Var ((((W3).alloc (.cells #[.slice none 0 0, .slice none 0 0] 25)).alloc (.cells #[.int .i64 1, .int .i64 2] 2)).drew) (W3.heap.size) (.slice none 0 0) (.slice none 0 0)) := ZV1.out.below hs2
    have LT2 : Hid (Lit ((((W3).alloc (.cells #[.slice none 0 0, .slice none 0 0] 25)).alloc (.cells #[.int .i64 1, .int .i64 2] 2)).drew) (W3.heap.size + 1)) := at_size (P := fun g => Lit ((((W3).alloc (.cells #[.slice none 0 0, .slice none 0 0] 25)).alloc (.cells #[.int .i64 1, .int .i64 2] 2)).drew) g) (heap_alloc ((W3).alloc (.cells #[.slice none 0 0, .slice none 0 0] 25)) _) (by simp)
    clear hs2
    refine hK.out _ _ (hold_of HB2.out a0 a1 hga) (fun hHeld => ?_)
    clear hK K
    try simp only [Act.put, List.setIfInBounds_toArray, List.set_cons_zero, List.set_cons_succ]
    refine wpAnyH_ready (rs := [2]) (by kernel_rfl) (by simp) ?_
    refine AllReadyH.cons (o := ({ dst := some 32, op := Op.call { callee := Callee.value (Operand.func 31), args := #[Operand.tmp 31], argTypes := #[72] }, type := 25, pos := "law.go:60", after := #[{ on := 1, ground := Ground.data }], guard := none } : Oper)) rfl (fun K hK => ?_) AllReadyH.nil
    go_simp
    refine (C4.out _ _ LT2.out).mono ?_
    rintro e y3 ⟨q1, d1, q2, d2, rfl, tx3, hb3⟩
    have hs3 : Below ((((W3).alloc (.cells #[.slice none 0 0, .slice none 0 0] 25)).alloc (.cells #[.int .i64 1, .int .i64 2] 2)).drew).heap.size ((((W3).alloc (.cells #[.slice none 0 0, .slice none 0 0] 25)).alloc (.cells #[.int .i64 1, .int .i64 2] 2)).drew) y3 := hb3
    have HB3 : Hid (Below W3.heap.size W3 (y3)) := HB2.out.trans (hs3.mono HB2.out.size)
    have ZV3 : Hid (Var (y3) (W3.heap.size) (.slice none 0 0) (.slice none 0 0)) := ZV2.out.below hs3
    have TX3 : Hid (∃ us, TabAt y3 (.slice q1 2 d1) (.slice q2 1 d2) [nX, nY] us (xyR [1, 2])) := tx3
    clear hs3 hb3 tx3
    dsimp only
    refine hK.out _ _ (hold_of HB3.out a0 a1 hga) (fun hHeld => ?_)
    clear hK K
    try simp only [Act.put, List.setIfInBounds_toArray, List.set_cons_zero, List.set_cons_succ]
    refine wpAnyH_ready (rs := [3]) (by kernel_rfl) (by simp) ?_
    refine AllReadyH.cons (o := ({ dst := some 33, op := Op.call { callee := Callee.value (Operand.func 29), args := #[Operand.tmp 30, Operand.tmp 32], argTypes := #[25, 25] }, type := 27, pos := "law.go:60", after := #[{ on := 0, ground := Ground.data }, { on := 2, ground := Ground.data }, { on := 2, ground := Ground.chain }], guard := none } : Oper)) rfl (fun K hK => ?_) AllReadyH.nil
    go_simp
    refine (C5.out _ _ _ _ _ HB3.out TX3.out).mono ?_
    rintro e y4 ⟨pn, cn, pm, cm, rfl, rt4, hb4⟩
    have hs4 : Below (y3).heap.size (y3) y4 := hb4
    have HB4 : Hid (Below W3.heap.size W3 (y4)) := HB3.out.trans (hs4.mono HB3.out.size)
    have ZV4 : Hid (Var (y4) (W3.heap.size) (.slice none 0 0) (.slice none 0 0)) := ZV3.out.below hs4
    have HL : Hid (W3.heap.size < y3.heap.size) := by
      show _ < _
      have h := (Array.getElem?_eq_some_iff.1 ZV3.out).1
      first | omega | exact h
    have RT4 : Hid (OwnT (y3.heap.size) (.agg #[.slice pn 2 cn, .slice pm 2 cm]) [nX, nY] (xyR [1, 1, 2, 1]) y4) := by
      show OwnT _ _ _ _ _
      have h := rt4
      first | exact h | simpa using h
    clear hs4 hb4 rt4
    dsimp only
    refine hK.out _ _ (hold_of HB4.out a0 a1 hga) (fun hHeld => ?_)
    clear hK K
    try simp only [Act.put, List.setIfInBounds_toArray, List.set_cons_zero, List.set_cons_succ]
    refine wpAnyH_take (i := 4) (oi := ({ dst := some 29, op := Op.move (Operand.tmp 33), type := 27, pos := "law.go:60", after := #[{ on := 3, ground := Ground.data }], guard := none } : Oper)) (v := ?yv11) rfl (by kernel_rfl) (by kernel_rfl) (by kernel_rfl) (fun _ _ _ h => h) (Or.inl ⟨by rfl, ?yh11⟩) (by assumption) ?yr11
    case yh11 => (intro wq hSw; (try dsimp only at hSw); obtain ⟨sa, sb⟩ := hSw; go_simp; first | done | with_reducible rfl)
    try simp only [Act.put, List.setIfInBounds_toArray, List.set_cons_zero, List.set_cons_succ]
    refine wpAnyH_take (i := 5) (oi := ({ dst := some 34, op := Op.extract (Operand.tmp 29) 0, type := 25, pos := "law.go:60", after := #[{ on := 4, ground := Ground.data }], guard := none } : Oper)) (v := ?yv12) rfl (by kernel_rfl) (by kernel_rfl) (by kernel_rfl) (fun _ _ _ h => h) (Or.inl ⟨by rfl, ?yh12⟩) (by assumption) ?yr12
    case yh12 => (intro wq hSw; (try dsimp only at hSw); obtain ⟨sa, sb⟩ := hSw; go_simp; first | done | with_reducible rfl)
    try simp only [Act.put, List.setIfInBounds_toArray, List.set_cons_zero, List.set_cons_succ]
    refine wpAnyH_take (i := 6) (oi := ({ dst := some 35, op := Op.extract (Operand.tmp 29) 1, type := 26, pos := "law.go:60", after := #[{ on := 4, ground := Ground.data }, { on := 8, ground := Ground.gcOnly Departure.lateStores }], guard := none } : Oper)) (v := ?yv13) rfl (by kernel_rfl) (by kernel_rfl) (by kernel_rfl) (fun _ _ _ h => h) (Or.inl ⟨by rfl, ?yh13⟩) (by assumption) ?yr13
    case yh13 => (intro wq hSw; (try dsimp only at hSw); obtain ⟨sa, sb⟩ := hSw; go_simp; first | done | with_reducible rfl)
    try simp only [Act.put, List.setIfInBounds_toArray, List.set_cons_zero, List.set_cons_succ]
    refine wpAnyH_ready (rs := [8]) (by kernel_rfl) (by simp) ?_
    refine AllReadyH.cons (o := ({ dst := none, op := Op.store 25 (Operand.tmp 6) (Operand.tmp 34), type := 0, pos := "law.go:60", after := #[{ on := 7, ground := Ground.data }, { on := 5, ground := Ground.data }, { on := 3, ground := Ground.chain }, { on := 0, ground := Ground.phase }, { on := 1, ground := Ground.phase }, { on := 2, ground := Ground.phase }, { on := 3, ground := Ground.phase }, { on := 4, ground := Ground.phase }, { on := 5, ground := Ground.phase }, { on := 6, ground := Ground.textOnly Departure.lateStores }, { on := 7, ground := Ground.phase }], guard := none } : Oper)) rfl (fun K hK => ?_) AllReadyH.nil
    have z0 := ZV4.out.c0
    have z1 := ZV4.out.c1
    have f0 := frozen_of_heap ZV4.out 0
    have f1 := frozen_of_heap ZV4.out 1
    go_simp
    have hgB : W3.heap.size < y3.heap.size := by exact HL.out
    have hgW : W3.heap.size ≤ W3.heap.size := by exact HG.out
    have FB : Hid (Below W3.heap.size W3 ((y4.setCell ⟨W3.heap.size, 0, none⟩ (.slice pn 2 cn)).setCell ⟨W3.heap.size, 1, none⟩ (.slice pm 2 cm))) := by
      have b2 := HB4.out.grown (grownBy_setCell y4 (W3.heap.size) 0 (.slice pn 2 cn)) HB4.out.size (fun q hq => by injection hq with hq; omega)
      exact b2.grown (grownBy_setCell _ (W3.heap.size) 1 (.slice pm 2 cm)) b2.size (fun q hq => by injection hq with hq; omega)
    have FV : Hid (Var ((y4.setCell ⟨W3.heap.size, 0, none⟩ (.slice pn 2 cn)).setCell ⟨W3.heap.size, 1, none⟩ (.slice pm 2 cm)) (W3.heap.size) (.slice pn 2 cn) (.slice pm 2 cm)) := var_set ZV4.out
    have FT := own_two ((RT4.out.set (T := W3.heap.size) (j := 0) (u := .slice pn 2 cn) hgB).set (T := W3.heap.size) (j := 1) (u := .slice pm 2 cm) hgB)
    have FN : Hid (StrsAt ((y4.setCell ⟨W3.heap.size, 0, none⟩ (.slice pn 2 cn)).setCell ⟨W3.heap.size, 1, none⟩ (.slice pm 2 cm)) (.slice pn 2 cn) [nX, nY]) := FT.1
    have FM : Hid (TabRows ((y4.setCell ⟨W3.heap.size, 0, none⟩ (.slice pn 2 cn)).setCell ⟨W3.heap.size, 1, none⟩ (.slice pm 2 cm)) (.slice pm 2 cm) (xyR [1, 1, 2, 1])) := FT.2
    clear z0 z1 f0 f1 FT hgB hgW
    refine hK.out _ _ (hold_of FB.out a0 a1 hga) (fun hHeld => ?_)
    clear hK K
    try simp only [Act.put, List.setIfInBounds_toArray, List.set_cons_zero, List.set_cons_succ]
    refine wpAnyH_ready (rs := [9]) (by kernel_rfl) (by simp) ?_
    refine AllReadyH.cons (o := ({ dst := some 7, op := Op.assign (Operand.tmp 35), type := 26, pos := "law.go:60", after := #[{ on := 6, ground := Ground.data }, { on := 8, ground := Ground.chain }, { on := 0, ground := Ground.phase }, { on := 1, ground := Ground.phase }, { on := 2, ground := Ground.phase }, { on := 3, ground := Ground.phase }, { on := 4, ground := Ground.phase }, { on := 5, ground := Ground.phase }, { on := 6, ground := Ground.phase }, { on := 7, ground := Ground.phase }, { on := 8, ground := Ground.phase }], guard := none } : Oper)) rfl (fun K hK => ?_) AllReadyH.nil
    go_simp
    refine hK.out _ _ (hold_of FB.out a0 a1 hga) (fun hHeld => ?_)
    clear hK K
    try simp only [Act.put, List.setIfInBounds_toArray, List.set_cons_zero, List.set_cons_succ]
    refine wpAnyH_done (by kernel_rfl) ?_ _
    (try simp only [Exit.then])
    exact HREST.out _ _ _ _ _ _ _ _ _ _ _ _ _ FV FN FM FB

end Go.Proofs.YteipohpfaofchaaGreat

namespace Go.Proofs.YteipohpfaofchaaGreat
open Go.RowKit Go.Shelf Go.Sort
set_option linter.unusedVariables false

theorem StrsAt.all {w : World} {v : Value} {vs : List ByteArray} (h : StrsAt w v vs) : ∃ p c, v = .slice p vs.length c ∧ ∀ k (hk : k < vs.length), ∃ b off, p = some ⟨b, off, none⟩ ∧ b < w.heap.size ∧ w.cell? ⟨b, off + k, none⟩ = some (.string vs[k]) := by
  obtain ⟨p, c, rfl, rfl | ⟨b, off, rfl, hb, hr⟩⟩ := h
  · exact ⟨p, c, rfl, fun k hk => absurd hk (Nat.not_lt_zero _)⟩
  · exact ⟨_, c, rfl, fun k hk => ⟨b, off, rfl, hb, hr k hk⟩⟩

set_option maxRecDepth 100000 in
set_option maxHeartbeats 4000000 in
theorem dcheck_any {V R : Value} {vs : List ByteArray} {rs : List (List Val)} {w : World} (hV : StrsAt w V vs) (hA : TabRows w R rs) (lv : vs.length ≤ 9223372036854775807) (fx : ∀ r ∈ rs, ∀ v ∈ r, v.Fits) (lr : rs.length ≤ 9223372036854775807) (ls : ∀ r ∈ rs, r.length ≤ 9223372036854775807) :
    Calls Tryz.prog 13 #[.agg #[V, R]] w fun e w' => e = .returned (.int .i64 (tabChk vs rs)) ∧ Below w.heap.size w w' := by
  obtain ⟨p, cv, rfl, HV0⟩ := hV.all
  obtain ⟨q, c, rfl, HX0⟩ := hA.form
  have HV : Hid (∀ k (hk : k < vs.length), ∃ b off, p = some ⟨b, off, none⟩ ∧ b < w.heap.size ∧ w.cell? ⟨b, off + k, none⟩ = some (.string vs[k])) := HV0
  have HX : Hid (∀ k (hk : k < rs.length), ∃ b off u, q = some ⟨b, off, none⟩ ∧ b < w.heap.size ∧ w.cell? ⟨b, off + k, none⟩ = some u ∧ RowAt w u rs[k]) := HX0
  have SX : Hid (∀ r ∈ rs, r.length ≤ 9223372036854775807) := ls
  have FX : Hid (∀ r ∈ rs, ∀ v ∈ r, v.Fits) := fx
  obtain ⟨n, en⟩ : ∃ n : Nat, Hid (rs.length = n) := ⟨_, rfl⟩
  obtain ⟨m, em⟩ : ∃ m : Nat, Hid (vs.length = m) := ⟨_, rfl⟩
  rw [en.out] at lr ⊢
  rw [em.out] at lv ⊢
  clear hA hV HX0 HV0 ls fx
  go_enter Tryz.func13, Tryz.ntmps13
  go_upto_region 1 with fail
  refine wp_world ?_
  intro W0 hW0
  have V0 : Hid (Var W0 w.heap.size (.slice p m cv) (.slice q n c)) := by rw [hW0]; exact Var.made _ _ _
  have K0 : Below w.heap.size w W0 := by rw [hW0]; go_grown
  clear hW0
  have a0 := V0.out.c0
  have a1 := V0.out.c1
  by_cases h8 : m ≤ 8
  · have c1 : ¬ (8 : Int) < (m : Int) := by omega
    go_wp2
    clear a0 a1
    go_loopw [3] (fun i wr => ∃ k : Nat, (k + 1 ≤ m ∨ k = 0) ∧ i = .int .i64 ((k + 1 : Nat) : Int) ∧ Hid (riseB vs = riseB (vs.drop k)) ∧ Below W0.heap.size W0 wr) (fun i _ => m - (intOf i).toNat)
    case atStart => exact ⟨0, Or.inr rfl, rfl, (show riseB vs = riseB (vs.drop 0) by simp), Below.refl _ _⟩
    case round =>
      obtain ⟨k, hk, rfl, hr, hB⟩ := hrel
      have KW : Below w.heap.size w wr := K0.trans (hB.mono K0.size)
      have VW : Hid (Var wr w.heap.size (.slice p m cv) (.slice q n c)) := V0.out.below hB
      have a0 := VW.out.c0
      have a1 := VW.out.c1
      by_cases hlt : k + 1 < m
      · obtain ⟨b, off, rfl, hb, x1⟩ := HV.out k (by have := em.out; omega)
        obtain ⟨b', off', e', hb', x2⟩ := HV.out (k + 1) (by have := em.out; omega)
        injection e' with e'
        injection e' with e1 e2
        subst e1 e2
        have q1 := (KW.cell (p := ⟨b, off + k, none⟩) hb).trans x1
        have q2 := (KW.cell (p := ⟨b, off + (k + 1), none⟩) hb).trans x2
        have hr2 := riseB_at (l := vs) (k := k) (by have := em.out; omega)
        generalize vs[k]'(by have := em.out; omega) = X at q1 hr2
        generalize vs[k + 1]'(by have := em.out; omega) = Y at q2 hr2
        have hr3 : Hid (riseB vs = (Op.bytesLess X.toList Y.toList && riseB (vs.drop (k + 1)))) := hr.out.trans hr2
        clear hr hr2 x1 x2 hb'
        have kn : k < m := by omega
        have ek : ((k + 1 : Nat) : Int) - 1 = (k : Int) := by omega
        have hB2 : Below W0.heap.size W0 wr.drew := by go_grown
        have KW2 : Below w.heap.size w wr.drew := by go_grown
        obtain ⟨L, eL⟩ : ∃ L : Bool, Hid (Op.bytesLess X.toList Y.toList = L) := ⟨_, rfl⟩
        go_upto_region 5 with fail
        go_region
        rw [eL.out] at hr3 ⊢
        clear eL q1 q2
        cases L with
        | true =>
          have hr4 : Hid (riseB vs = riseB (vs.drop (k + 1))) := by have := hr3.out; rwa [Bool.true_and] at this
          go_wp2
          exact ⟨⟨k + 1, Or.inl (by omega), by go_num, hr4, hB2⟩, by simp [intOf]; omega⟩
        | false =>
          have hr4 : Hid (tabChk vs rs = 30) := by
            have h := hr3.out
            rw [Bool.false_and] at h
            exact if_neg (by rw [h]; simp)
          go_wp2
          go_ret
          exact ⟨ret_int hr4.out.symm, KW2⟩
      · have c2 : ¬ ((k + 1 : Nat) : Int) < m := by omega
        have hr4 : Hid (riseB vs = true) := hr.out.trans (riseB_short (by have := em.out; simp; omega))
        have hz : Hid (tabChk vs rs = rowsO m none rs) := by unfold tabChk; rw [em.out]; exact if_pos ⟨h8, hr4.out⟩
        clear hr hr4 hk
        go_wp2
        clear a0 a1 K0 V0 hB
        generalize wr = W1 at KW VW ⊢
        go_loopw [4] (fun i wr => ∃ (k : Nat) (prev : Option (List Val)), k ≤ n ∧ i = .int .i64 k ∧ Hid ((k = 0 ∧ prev = none) ∨ ∃ j, k = j + 1 ∧ ∃ hj : j < rs.length, prev = some rs[j]) ∧ Hid (rowsO m none rs = rowsO m prev (rs.drop k)) ∧ Below W1.heap.size W1 wr) (fun i _ => n - (intOf i).toNat)
        case atStart => exact ⟨0, none, Nat.zero_le _, rfl, Or.inl ⟨rfl, rfl⟩, (show rowsO m none rs = rowsO m none (rs.drop 0) by simp), Below.refl _ _⟩
        case round =>
          obtain ⟨k, prev, hk, rfl, hp, hr, hB⟩ := hrel
          have VW2 : Hid (Var wr w.heap.size (.slice p m cv) (.slice q n c)) := VW.out.below hB
          have KR : Below w.heap.size w wr := KW.trans (hB.mono KW.size)
          have a0 := VW2.out.c0
          have a1 := VW2.out.c1
          by_cases hlt : k < n
          · have kx : k < rs.length := by have := en.out; omega
            obtain ⟨b, off, v, rfl, hb, x1, x2⟩ := HX.out k kx
            have q1 := (KR.cell (p := ⟨b, off + k, none⟩) hb).trans x1
            have q2 := x2.below KR
            have f1 := FX.out rs[k] (List.getElem_mem kx)
            have l1 := SX.out rs[k] (List.getElem_mem kx)
            have hr2 : Hid (rowsO m none rs = rowsO m prev (rs[k] :: rs.drop (k + 1))) := by
              have h := hr.out
              rwa [List.drop_eq_getElem_cons kx] at h
            clear hr x1 x2
            have hnext : Hid (((k + 1 = 0 ∧ some rs[k] = none) ∨ ∃ j, k + 1 = j + 1 ∧ ∃ hj : j < rs.length, some rs[k] = some rs[j])) := Or.inr ⟨k, rfl, kx, rfl⟩
            generalize rs[k] = r at q2 f1 l1 hr2 hnext
            obtain ⟨E, eE⟩ : ∃ E : Int, Hid (rowE r = E) := ⟨_, rfl⟩
            have ct1 : Hid (∀ W : World, Below wr.heap.size wr W → Calls Tryz.prog 39 #[v] W fun e w' => e = .returned (.int .i64 E) ∧ Below W.heap.size W w') := fun W hW => by
              have h := dvals_any v r W f1 (q2.below hW) l1
              rw [eE.out] at h
              exact h
            have Q2 : Hid (RowAt wr v r) := q2
            obtain ⟨pr, cr, rfl⟩ := q2.form
            clear q2
            obtain ⟨nr, er⟩ : ∃ nr : Nat, Hid (r.length = nr) := ⟨_, rfl⟩
            rw [er.out] at ct1 q1 l1
            have Q3 : Hid (RowAt wr (.slice pr nr cr) r) := by have h := Q2.out; rwa [er.out] at h
            clear Q2
            have F1 : Hid (∀ v ∈ r, v.Fits) := f1
            clear f1
            by_cases hC : nr = m
            · subst hC
              have eC : Hid (rowChk r nr = E) := (if_pos er.out).trans eE.out
              clear VW2
              go_upto_region 11 with fail
              go_region
              go_wp2_with fail
              refine (ct1.out _ (by go_grown)).mono ?_
              rintro e w2 ⟨rfl, hb2⟩
              have hb2' : Below wr.heap.size wr w2 := by
                have h : Below wr.heap.size wr wr.drew := by go_grown
                exact h.trans (hb2.mono h.size)
              have hB2 : Below W1.heap.size W1 w2 := hB.trans (hb2'.mono hB.size)
              have K2 : Below w.heap.size w w2 := KW.trans (hB2.mono KW.size)
              have VW3 : Hid (Var w2 w.heap.size (.slice p nr cv) (.slice (some ⟨b, off, none⟩) n c)) := VW.out.below hB2
              have Q4 : Hid (RowAt w2 (.slice pr nr cr) r) := Q3.out.below hb2'
              have q5 : Hid (w2.cell? ⟨b, off + k, none⟩ = some (.slice pr nr cr)) := (hb2'.cell (p := ⟨b, off + k, none⟩) (Nat.lt_of_lt_of_le hb KR.size)).trans q1
              clear hb2 hb2' Q3 a0 a1 q1 ct1 hB KR
              by_cases hE : E = 0
              · subst hE
                rcases hp.out with ⟨rfl, rfl⟩ | ⟨j, rfl, hj, rfl⟩
                · have hr3 : Hid (rowsO nr none rs = rowsO nr (some r) (rs.drop 1)) := by
                    have h := hr2.out
                    simp only [rowsO] at h
                    rwa [if_pos eC.out] at h
                  clear hr2 hp
                  go_wp2
                  exact ⟨⟨1, some r, by omega, rfl, hnext, hr3, hB2⟩, by simp [intOf]; omega⟩
                · have jn : j < n := by omega
                  obtain ⟨b', off', v', e', hb', x1', x2'⟩ := HX.out j hj
                  injection e' with e'
                  injection e' with e1 e2
                  subst e1 e2
                  have f2 : Hid (∀ v ∈ rs[j], v.Fits) := FX.out rs[j] (List.getElem_mem hj)
                  have l2 := SX.out rs[j] (List.getElem_mem hj)
                  have q1' := (K2.cell (p := ⟨b, off + j, none⟩) hb).trans x1'
                  have q2' : Hid (RowAt w2 v' rs[j]) := x2'.below K2
                  have hr3 : Hid (rowsO nr none rs = if 0 ≤ rowC rs[j] r then 1 else rowsO nr (some r) (rs.drop (j + 1 + 1))) := by
                    have h := hr2.out
                    simp only [rowsO] at h
                    rwa [if_pos eC.out] at h
                  clear hr2 hp x1' x2' hb'
                  generalize rs[j] = r' at q2' f2 l2 hr3
                  obtain ⟨D, eD⟩ : ∃ D : Int, Hid (rowC r' r = D) := ⟨_, rfl⟩
                  rw [eD.out] at hr3
                  have lr2 : r.length ≤ 9223372036854775807 := by rw [er.out]; exact l1
                  have ct2 : Hid (∀ W : World, Below w2.heap.size w2 W → Calls Tryz.prog 40 #[v', .slice pr nr cr] W fun e w' => e = .returned (.int .i64 D) ∧ Below W.heap.size W w') := fun W hW => by
                    have h := drow_gen v' (.slice pr nr cr) r' r W f2.out F1.out (q2'.out.below hW) (Q4.out.below hW) l2 lr2
                    rw [eD.out] at h
                    exact h
                  have q3 : w2.cell? ⟨b, off + (j + 1), none⟩ = some (.slice pr nr cr) := q5.out
                  have a0 := VW3.out.c0
                  have a1 := VW3.out.c1
                  have ek : ((j + 1 : Nat) : Int) - 1 = (j : Int) := by omega
                  have c3 : (0 : Int) < ((j + 1 : Nat) : Int) := by omega
                  clear q2' f2 l2 lr2 Q4
                  have j0 : (0 : Int) ≤ (j : Int) := by omega
                  have j1 : (j : Int) < (n : Int) := by omega
                  have j2 : (j : Int) + 1 < (n : Int) := by omega
                  have j3 : (0 : Int) ≤ (j : Int) + 1 := by omega
                  have j4 : (j : Int) + 1 - 1 = (j : Int) := by omega
                  have j5 : IntKind.i64.wrap ((j : Int) + 1 - 1) = (j : Int) := by rw [IntKind.wrap_i64]; omega
                  have j6 : IntKind.i64.wrap (j : Int) = (j : Int) := by rw [IntKind.wrap_i64]; omega
                  clear j5
                  have hbr : b < w2.heap.size := Nat.lt_of_lt_of_le hb K2.size
                  have s0 : w.heap.size < w2.heap.size := (Array.getElem?_eq_some_iff.1 VW3.out).1
                  go_upto_region 17 with fail
                  go_region_held3 (fun w' => w'.cell? ⟨w.heap.size, 1, none⟩ = some (.slice (some ⟨b, off, none⟩) n c) ∧ w'.cell? ⟨b, off + j, none⟩ = some v' ∧ w'.cell? ⟨b, off + (j + 1), none⟩ = some (.slice pr nr cr))
                    (exact ⟨bcl (n := w2.heap.size) (by go_grown) a1 s0, bcl (n := w2.heap.size) (by go_grown) q1' hbr, bcl (n := w2.heap.size) (by go_grown) q3 hbr⟩)
                    (first
                      | (go_at_call 40; refine (ct2.out _ (by go_grown)).mono ?_; rintro e v1 ⟨rfl, hv1⟩; obtain ⟨hw1, hn1⟩ := bg0 (n := w2.heap.size) (W0 := w2) (by go_grown) (by go_size) hv1; clear hv1))
                  have hB3 : Below W1.heap.size W1 v1 := hB2.trans (hw1.mono hB2.size)
                  have K3 : Below w.heap.size w v1 := KW.trans (hB3.mono KW.size)
                  clear hw1 ct2 a0 a1 q1' q3 q5 hB2 K2 VW3 hn1
                  by_cases hD : 0 ≤ D
                  · have hr4 : Hid (tabChk vs rs = 1) := by have h := hr3.out; rw [if_pos hD] at h; exact hz.out.trans h
                    clear hr3
                    go_wp2
                    go_ret
                    exact ⟨ret_int hr4.out.symm, K3⟩
                  · have hr4 : Hid (rowsO nr none rs = rowsO nr (some r) (rs.drop (j + 1 + 1))) := by have h := hr3.out; rwa [if_neg hD] at h
                    clear hr3
                    go_wp2
                    exact ⟨⟨j + 1 + 1, some r, by omega, by go_num, hnext, hr4, hB3⟩, by simp [intOf]; omega⟩
              · have hr3 : Hid (tabChk vs rs = E) := by
                  have h := hr2.out
                  have e0 : ¬ rowChk r nr = 0 := by rw [eC.out]; exact hE
                  rw [hz.out]
                  cases prev <;> (simp only [rowsO] at h; rw [if_neg e0, eC.out] at h; exact h)
                have hE' : (E != 0) = true := by simpa using hE
                clear hr2 hp
                go_wp2
                go_ret
                exact ⟨ret_int hr3.out.symm, K2⟩
            · have c3 : ((nr : Int) != (m : Int)) = true := by simp; omega
              have hr3 : Hid (tabChk vs rs = 1) := by
                have h := hr2.out
                have e0 : rowChk r m = 1 := if_neg (by rw [er.out]; exact hC)
                rw [hz.out]
                cases prev <;> (simp only [rowsO] at h; rw [if_neg (by rw [e0]; omega), e0] at h; exact h)
              clear hr2 hp ct1
              go_upto_region 11 with fail
              go_region
              go_wp2
              go_ret
              exact ⟨ret_int hr3.out.symm, by go_grown⟩
          · have c2 : ¬ (k : Int) < n := by omega
            have hr3 : Hid (rowsO m none rs = 0) := by
              have h := hr.out
              rw [List.drop_eq_nil_of_le (by have := en.out; omega)] at h
              rw [h]; cases prev <;> rfl
            go_wp2
            go_ret
            exact ⟨ret_int (hr3.out.symm.trans hz.out.symm), KR⟩
  · have c1 : (8 : Int) < (m : Int) := by omega
    have hz : Hid (tabChk vs rs = 30) := if_neg (by rw [em.out]; omega)
    go_wp2
    go_ret
    exact ⟨ret_int hz.out.symm, K0⟩

end Go.Proofs.YteipohpfaofchaaGreat

namespace Go.Proofs.YteipohpfaofchaaGreat
open Go.RowKit Go.Shelf Go.Sort
set_option linter.unusedVariables false

set_option maxRecDepth 100000 in
set_option maxHeartbeats 2000000 in
theorem dfind_any {V : Value} {vs : List ByteArray} {X : ByteArray} {w : World} (hV : StrsAt w V vs) (lv : vs.length ≤ 9223372036854775807) :
    Calls Tryz.prog 85 #[V, .string X] w fun e w' => e = .returned (.int .i64 (Lib.idxOfS vs X)) ∧ Below w.heap.size w w' := by
  obtain ⟨p, c, rfl, HV0⟩ := hV.all
  have HV : Hid (∀ k (hk : k < vs.length), ∃ b off, p = some ⟨b, off, none⟩ ∧ b < w.heap.size ∧ w.cell? ⟨b, off + k, none⟩ = some (.string vs[k])) := HV0
  obtain ⟨n, en⟩ : ∃ n : Nat, Hid (vs.length = n) := ⟨_, rfl⟩
  rw [en.out] at lv ⊢
  clear hV HV0
  go_enter Tryz.func85, Tryz.ntmps85
  go_wp2
  go_loopw [5] (fun i wr => ∃ k : Nat, k ≤ n ∧ i = .int .i64 k ∧ Hid (Lib.idxOfS vs X = Lib.idxFromS (vs.drop k) X k) ∧ Below w.heap.size w wr) (fun i _ => n - (intOf i).toNat)
  case atStart => exact ⟨0, Nat.zero_le _, rfl, (show Lib.idxOfS vs X = Lib.idxFromS (vs.drop 0) X 0 by simp [Lib.idxOfS]), Below.refl _ _⟩
  case round =>
    obtain ⟨k, hk, rfl, hr, hB⟩ := hrel
    by_cases hlt : k < n
    · have kx : k < vs.length := by have := en.out; omega
      obtain ⟨b, off, rfl, hb, x1⟩ := HV.out k kx
      have q1 := (hB.cell (p := ⟨b, off + k, none⟩) hb).trans x1
      have hr2 : Hid (Lib.idxOfS vs X = if vs[k] = X then ((k : Nat) : Int) else Lib.idxFromS (vs.drop (k + 1)) X (k + 1)) := by
        have h := hr.out
        rw [List.drop_eq_getElem_cons kx] at h
        rw [h]
        rfl
      clear hr x1
      generalize vs[k] = Y at q1 hr2
      have hB2 : Below w.heap.size w wr.drew := by go_grown
      by_cases hXY : Y = X
      · subst hXY
        have hr3 : Hid (Lib.idxOfS vs Y = ((k : Nat) : Int)) := by have h := hr2.out; rwa [if_pos rfl] at h
        clear hr2
        go_wp2
        go_ret
        exact ⟨ret_int hr3.out.symm, by go_grown⟩
      · have hr3 : Hid (Lib.idxOfS vs X = Lib.idxFromS (vs.drop (k + 1)) X (k + 1)) := by have h := hr2.out; rwa [if_neg hXY] at h
        have hL : (Y.toList == X.toList) = false := by
          rw [toList_data, toList_data]
          refine beq_eq_false_iff_ne.mpr (fun h => hXY ?_)
          exact ByteArray.ext (Array.toList_inj.mp h)
        clear hr2
        go_wp2
        exact ⟨⟨k + 1, by omega, by go_num, hr3, by go_grown⟩, by simp [intOf]; omega⟩
    · have c2 : ¬ (k : Int) < n := by omega
      have hr3 : Hid (Lib.idxOfS vs X = -1) := by
        have h := hr.out
        rw [List.drop_eq_nil_of_le (by have := en.out; omega)] at h
        exact h
      go_wp2
      go_ret
      exact ⟨ret_int hr3.out.symm, hB⟩

end Go.Proofs.YteipohpfaofchaaGreat

namespace Go.Proofs.YteipohpfaofchaaGreat
open Go.RowKit Go.Shelf Go.Sort
set_option linter.unusedVariables false

set_option maxRecDepth 100000 in
set_option maxHeartbeats 4000000 in
theorem dpicked_any {V Y U : Value} {vs us : List ByteArray} {ys : List Val} {w : World} (hV : StrsAt w V vs) (hY : RowAt w Y ys) (hU : StrsAt w U us) (lv : vs.length ≤ 9223372036854775807) (ly : vs.length ≤ ys.length) (lu : us.length ≤ 1000000) (hin : ∀ x ∈ us, ¬ Lib.idxOfS vs x < 0) (ly2 : ys.length ≤ 9223372036854775807) :
    Calls Tryz.prog 64 #[V, Y, U] w fun e w' => ∃ v, e = .returned v ∧ OwnV w.heap.size v (picks ys (colsAt vs us)) w' ∧ Below w.heap.size w w' := by
  obtain ⟨i0, hi, hz0, hz1, hz2⟩ := info_parts inV
  have FD : Hid (∀ (W : World) (X : ByteArray), Below w.heap.size w W → Calls Tryz.prog 85 #[V, .string X] W fun e w' => e = .returned (.int .i64 (Lib.idxOfS vs X)) ∧ Below W.heap.size W w') := fun W X hW => dfind_any (hV.below hW) lv
  obtain ⟨pv, cv, rfl⟩ := hV.form
  obtain ⟨py, cy, rfl⟩ := hY.form
  have HY : Hid (∀ i (hi : i < ys.length), ∃ b off, py = some ⟨b, off, none⟩ ∧ b < w.heap.size ∧ w.cell? ⟨b, off + i * 4, none⟩ = some (.int .i64 ys[i].k) ∧ w.cell? ⟨b, off + i * 4 + 1, none⟩ = some (.int .i64 ys[i].n) ∧ w.cell? ⟨b, off + i * 4 + 2, none⟩ = some (.int .i64 ys[i].d) ∧ w.cell? ⟨b, off + i * 4 + 3, none⟩ = some (.string ys[i].s)) := hY.get.2
  obtain ⟨pu, cu, rfl, HU0⟩ := hU.all
  have HU : Hid (∀ k (hk : k < us.length), ∃ b off, pu = some ⟨b, off, none⟩ ∧ b < w.heap.size ∧ w.cell? ⟨b, off + k, none⟩ = some (.string us[k])) := HU0
  obtain ⟨n, en⟩ : ∃ n : Nat, Hid (us.length = n) := ⟨_, rfl⟩
  obtain ⟨m, em⟩ : ∃ m : Nat, Hid (ys.length = m) := ⟨_, rfl⟩
  have HIN : Hid (∀ x ∈ us, ¬ Lib.idxOfS vs x < 0) := hin
  have LY : Hid (vs.length ≤ ys.length) := ly
  rw [en.out] at lu ⊢
  rw [em.out] at ly2 ⊢
  clear hV hY hU HU0 hin ly
  generalize vs.length = nv at FD lv ⊢
  go_enter Tryz.func64, Tryz.ntmps64
  go_wp2
  go_loopw [7, 8] (fun o i wr => ∃ k : Nat, k ≤ n ∧ i = .int .i64 k ∧ Hid (OwnV w.heap.size o (picks ys (colsAt vs (us.take k))) wr) ∧ Below w.heap.size w wr) (fun _ i _ => n - (intOf i).toNat)
  case atStart => exact ⟨0, Nat.zero_le _, rfl, (show OwnV _ _ _ _ from World.ownsRow_nil _ _ _ _), Below.refl _ _⟩
  case round =>
    obtain ⟨k, hk, rfl, HO, hB⟩ := hrel
    by_cases hlt : k < n
    · have kx : k < us.length := by have := en.out; omega
      obtain ⟨bu, ou, rfl, hbu, x1⟩ := HU.out k kx
      have q1 := (hB.cell (p := ⟨bu, ou + k, none⟩) hbu).trans x1
      have hix := HIN.out us[k] (List.getElem_mem kx)
      have hlt2 := (idx_lt (vs := vs) (x := us[k]) (by omega)).1
      obtain ⟨C, eC⟩ : ∃ C : Nat, Hid ((Lib.idxOfS vs us[k]).toNat = C) := ⟨(Lib.idxOfS vs us[k]).toNat, (rfl : (Lib.idxOfS vs us[k]).toNat = (Lib.idxOfS vs us[k]).toNat)⟩
      have eC2 : Hid (Lib.idxOfS vs us[k] = (C : Int)) := by have := eC.out; show _ = _; omega
      have cx : C < ys.length := by have h1 := eC.out; have h2 := LY.out; omega
      have hF : Hid (picks ys (colsAt vs (us.take (k + 1))) = picks ys (colsAt vs (us.take k)) ++ [ys[C]]) := by
        show _ = _
        rw [List.take_succ_eq_append_getElem kx]
        unfold colsAt picks
        rw [List.map_append, List.filterMap_append]
        simp only [List.map_cons, List.map_nil, List.filterMap_cons, List.filterMap_nil, eC.out, List.getElem?_eq_getElem cx]
      have hL : Hid ((picks ys (colsAt vs (us.take k))).length ≤ n) := by
        have h1 : (picks ys (colsAt vs (us.take k))).length ≤ (colsAt vs (us.take k)).length := List.length_filterMap_le _ _
        have h2 : (colsAt vs (us.take k)).length ≤ k := by unfold colsAt; simp; omega
        show _ ≤ _
        omega
      obtain ⟨F, eF⟩ : ∃ F, Hid (picks ys (colsAt vs (us.take k)) = F) := ⟨_, rfl⟩
      rw [eF.out] at HO hF hL
      obtain ⟨b, off, rfl, hb, r0, r1, r2, r3⟩ := HY.out C cx
      generalize ys[C] = X at r0 r1 r2 r3 hF
      have ct : Hid (∀ W : World, Below w.heap.size w W → Calls Tryz.prog 85 #[.slice pv nv cv, .string us[k]] W fun e w' => e = .returned (.int .i64 C) ∧ Below W.heap.size W w') := fun W hW => by
        have h := FD.out W us[k] hW
        rwa [eC2.out] at h
      generalize us[k] = N at q1 ct
      have cm : C < m := by have := em.out; omega
      have FN : F.length ≤ 1000000 := by have := hL.out; omega
      clear x1 hix hlt2 eC eC2 cx
      go_wp2_with fail
      refine (ct.out _ (by exact hB)).mono ?_
      rintro e w1 ⟨rfl, hb1⟩
      have B1 : Below w.heap.size w w1 := hB.trans (hb1.mono hB.size)
      have HO1 : Hid (OwnV w.heap.size u7 F w1) := own_below HO.out hb1
      obtain ⟨p7, n7, c7, rfl⟩ := slice_of HO1.out
      have a0 := (B1.cell (p := ⟨b, off + C * 4, none⟩) hb).trans r0
      have a1 := (B1.cell (p := ⟨b, off + C * 4 + 1, none⟩) hb).trans r1
      have a2 := (B1.cell (p := ⟨b, off + C * 4 + 2, none⟩) hb).trans r2
      have a3 := (B1.cell (p := ⟨b, off + C * 4 + 3, none⟩) hb).trans r3
      clear r0 r1 r2 r3 hb1 ct q1 HO
      have HS : Hid (Src (w1.alloc (.cells #[.int .i64 X.k, .int .i64 X.n, .int .i64 X.d, .string X.s] 47)) 4 (.slice (some ⟨w1.heap.size, 0, none⟩) 1 1) 1 (flat [X])) := Or.inr ⟨_, 1, rfl, rfl, fun j x hj => by
        rw [Addr.add_lit, Nat.zero_add]
        exact cell_of_heap (heap_alloc w1 _) j (by simpa [flat, vcells] using hj)⟩
      have HO2 : Hid ((w1.alloc (.cells #[.int .i64 X.k, .int .i64 X.n, .int .i64 X.d, .string X.s] 47)).ownsRow w.heap.size 47 4 (.slice p7 n7 c7) F.length (flat F)) := World.ownsRow.alloc HO1.out _
      have h63 : F.length + 1 ≤ maxLen := by unfold maxLen; omega
      have hby : (F.length + 1) * 40 ≤ 140737488355328 := by omega
      have hsz : w.heap.size ≤ (w1.alloc (.cells #[.int .i64 X.k, .int .i64 X.n, .int .i64 X.d, .string X.s] 47)).heap.size := by simp; have := B1.size; omega
      have HK : Hid (∀ q, (Value.slice p7 n7 c7).ownBlock = some q → w.heap.size ≤ q) := fun q hq => (World.ownsRow.lt HO2.out q hq).1
      go_wp2_with (at_builtin; refine wpList_append_src rfl (.tmp 22) (.tmp 27) 37 rfl w.heap.size 47 i0 _ 4 40 Tryz.underlying37 hi hz0 hz1 hz2 rfl (by decide) (.slice p7 n7 c7) F.length (flat F) rfl HO2.out (.slice (some ⟨w1.heap.size, 0, none⟩) 1 1) 1 (flat [X]) rfl HS.out (flat_one [X]) h63 hby hsz ?grow)
      case grow =>
        intro v' w3 h2 h3 _
        have O3 : Hid (OwnV w.heap.size v' (picks ys (colsAt vs (us.take (k + 1)))) w3) := by
          show OwnV _ _ _ _
          rw [hF.out]
          unfold OwnV
          rw [List.length_append, flat, List.flatMap_append]
          exact h2
        have B3 : Below w.heap.size w w3 := (B1.alloc B1.size _).grown h3 hsz HK.out
        clear h2 h3 HS HO2 HK a0 a1 a2 a3 HO1
        go_wp2
        exact ⟨⟨k + 1, by omega, by go_num, O3, B3⟩, by simp [intOf]; omega⟩
    · have c2 : ¬ (k : Int) < n := by omega
      have O3 : Hid (OwnV w.heap.size u7 (picks ys (colsAt vs us)) wr) := by
        have h := HO.out
        rwa [List.take_of_length_le (by have := en.out; omega)] at h
      go_wp2
      go_ret
      exact ⟨_, rfl, O3.out, hB⟩

end Go.Proofs.YteipohpfaofchaaGreat

namespace Go.Proofs.YteipohpfaofchaaGreat
open Go.RowKit Go.Shelf Go.Sort
set_option linter.unusedVariables false

/-- putR, with where each row lies. -/
def putP (y : Value × List Val) : List (Value × List Val) → List (Value × List Val)
  | [] => [y]
  | x :: l => if rowC y.2 x.2 < 0 then y :: x :: l else if rowC y.2 x.2 = 0 then x :: l else x :: putP y l
theorem putP_snd (y : Value × List Val) : ∀ l, (putP y l).map (·.2) = putR y.2 (l.map (·.2))
  | [] => rfl
  | x :: l => by
    have ih := putP_snd y l
    simp only [putP, List.map_cons, putR]
    split <;> (try split) <;> simp_all

set_option maxRecDepth 100000 in
set_option maxHeartbeats 4000000 in
theorem dput_any {R Y : Value} {G : List (Value × List Val)} {y : List Val} {w : World} (hR : ValsAt w R (G.map (·.1))) (hG : ∀ x ∈ G, RowAt w x.1 x.2 ∧ (∀ v ∈ x.2, v.Fits) ∧ x.2.length ≤ 9223372036854775807) (hY : RowAt w Y y) (fy : ∀ v ∈ y, v.Fits) (ly : y.length ≤ 9223372036854775807) (lg : G.length + 1 ≤ 5864062014805) :
    Calls Tryz.prog 87 #[R, Y] w fun e w' => ∃ v, e = .returned v ∧ w'.ownsRow w.heap.size 37 1 v (putP (Y, y) G).length ((putP (Y, y) G).map (·.1)) ∧ Below w.heap.size w w' := by
  obtain ⟨i0, hi, hz0, hz1, hz2⟩ := info_parts inR
  obtain ⟨p, c, rfl, HV0⟩ := hR.form
  have HV : Hid (∀ k (hk : k < (G.map (·.1)).length), ∃ b off, p = some ⟨b, off, none⟩ ∧ b < w.heap.size ∧ w.cell? ⟨b, off + k, none⟩ = some (G.map (·.1))[k]) := HV0
  have HG : Hid (∀ x ∈ G, RowAt w x.1 x.2 ∧ (∀ v ∈ x.2, v.Fits) ∧ x.2.length ≤ 9223372036854775807) := hG
  have HY : Hid (RowAt w Y y) := hY
  have FY : Hid (∀ v ∈ y, v.Fits) := fy
  obtain ⟨py, cy, rfl⟩ := hY.form
  have LY : Hid (y.length ≤ 9223372036854775807) := ly
  obtain ⟨n, en⟩ : ∃ n : Nat, Hid (G.length = n) := ⟨_, rfl⟩
  obtain ⟨ny, eny⟩ : ∃ ny : Nat, Hid (y.length = ny) := ⟨_, rfl⟩
  rw [List.length_map, en.out]
  rw [en.out] at lg
  rw [eny.out] at HY ⊢
  clear hR hG hY HV0 fy ly
  obtain ⟨z, ez⟩ : ∃ z : Value × List Val, Hid ((Value.slice py ny cy, y) = z) := ⟨_, rfl⟩
  rw [ez.out]
  go_enter Tryz.func87, Tryz.ntmps87
  go_wp2
  go_loopw [5, 6, 7] (fun o d i wr => ∃ (k : Nat) (P : List (Value × List Val)) (dn : Bool), k ≤ n ∧ d = .bool dn ∧ i = .int .i64 k ∧ Hid (wr.ownsRow w.heap.size 37 1 o P.length (P.map (·.1))) ∧ Hid (putP z G = P ++ (if dn then G.drop k else putP z (G.drop k))) ∧ P.length ≤ k + 1 ∧ (dn = false → P.length ≤ k) ∧ Below w.heap.size w wr) (fun _ _ i _ => n - (intOf i).toNat)
  case atStart => exact ⟨0, [], false, Nat.zero_le _, rfl, rfl, (show World.ownsRow _ _ _ _ _ _ _ from World.ownsRow_nil _ _ _ _), (show putP z G = [] ++ putP z (G.drop 0) by simp), by simp, by simp, Below.refl _ _⟩
  case round =>
    obtain ⟨k, P, dn, hk, rfl, rfl, HO, hr, lP, lP2, hB⟩ := hrel
    by_cases hlt : k < n
    · have kx : k < G.length := by have := en.out; omega
      have kx2 : k < (G.map (·.1)).length := by rw [List.length_map]; exact kx
      obtain ⟨b, off, rfl, hb, x1⟩ := HV.out k kx2
      have q1 := (hB.cell (p := ⟨b, off + k, none⟩) hb).trans x1
      rw [List.getElem_map] at q1 x1
      obtain ⟨g1, g2, g3⟩ := HG.out G[k] (List.getElem_mem kx)
      have hd : Hid (G.drop k = G[k] :: G.drop (k + 1)) := List.drop_eq_getElem_cons kx
      rw [hd.out] at hr
      clear hd
      generalize G[k] = x at q1 x1 g1 g2 g3 hr
      obtain ⟨U, r⟩ := x
      dsimp only at q1 x1 g1 g2 g3
      have HU : Hid (RowAt w U r) := g1
      obtain ⟨pu, cu, rfl⟩ := g1.form
      obtain ⟨nu, enu⟩ : ∃ nu : Nat, Hid (r.length = nu) := ⟨_, rfl⟩
      rw [enu.out] at q1 x1 hr HU
      have HX1 : Hid (w.cell? ⟨b, off + k, none⟩ = some (.slice pu nu cu)) := x1
      clear x1
      have FU : Hid (∀ v ∈ r, v.Fits) := g2
      have LU : Hid (r.length ≤ 9223372036854775807) := g3
      clear g1 g2 g3
      cases dn with
      | true =>
        have hr2 : Hid (putP z G = (P ++ [(Value.slice pu nu cu, r)]) ++ (if true then G.drop (k + 1) else putP z (G.drop (k + 1)))) := by
          have h := hr.out
          show _ = _
          rw [h]
          simp
        clear hr
        obtain ⟨poa, noa, coa, rfl⟩ := slice_of HO.out
        have HSRCa : Hid (Src (wr.alloc (.cells #[Value.slice pu nu cu] 37)) 1 (.slice (some ⟨wr.heap.size, 0, none⟩) 1 1) 1 [Value.slice pu nu cu]) := Or.inr ⟨_, 1, rfl, rfl, fun j x hj => by
          rw [Addr.add_lit, Nat.zero_add]
          exact cell_of_heap (heap_alloc wr _) j (by simpa using hj)⟩
        have HOa : Hid ((wr.alloc (.cells #[Value.slice pu nu cu] 37)).ownsRow w.heap.size 37 1 (.slice poa noa coa) (P).length ((P).map (·.1))) := World.ownsRow.alloc HO.out _
        have HKa : Hid (∀ q, (Value.slice poa noa coa).ownBlock = some q → w.heap.size ≤ q) := fun q hq => (World.ownsRow.lt HOa.out q hq).1
        have sa1 : (P).length + 1 ≤ maxLen := by unfold maxLen; (try simp only [List.length_append, List.length_cons, List.length_nil]); omega
        have sa2 : ((P).length + 1) * 24 ≤ 140737488355328 := by (try simp only [List.length_append, List.length_cons, List.length_nil]); omega
        have sa3 : w.heap.size ≤ (wr.alloc (.cells #[Value.slice pu nu cu] 37)).heap.size := by simp; have := hB.size; omega
        have Ba : Hid (Below w.heap.size w (wr.alloc (.cells #[Value.slice pu nu cu] 37))) := hB.alloc hB.size _
        clear HO
        go_wp2_with (at_builtin; refine wpList_append_src rfl (.tmp 31) (.tmp 36) 23 rfl w.heap.size 37 i0 _ 1 24 Tryz.underlying23 hi hz0 hz1 hz2 rfl (by decide) (.slice poa noa coa) (P).length ((P).map (·.1)) rfl HOa.out (.slice (some ⟨wr.heap.size, 0, none⟩) 1 1) 1 [Value.slice pu nu cu] rfl HSRCa.out ?onea sa1 sa2 sa3 ?growa)
        case onea => first | rfl | (intro u hu; simp at hu; subst hu; rfl)
        case growa =>
          intro v' w3 h2 h3 _
          have O3 : Hid (w3.ownsRow w.heap.size 37 1 v' ((P) ++ [(Value.slice pu nu cu, r)]).length (((P) ++ [(Value.slice pu nu cu, r)]).map (·.1))) := by
            show World.ownsRow _ _ _ _ _ _ _
            rw [List.length_append, List.map_append]
            first | exact h2 | simpa using h2
          have B3 : Below w.heap.size w w3 := Ba.out.grown h3 sa3 HKa.out
          clear h2 h3 HSRCa HOa HKa Ba
          go_wp2
          exact ⟨⟨k + 1, (P) ++ [(Value.slice pu nu cu, r)], true, by omega, by trivial, by go_num, O3, hr2, (by simp only [List.length_append, List.length_cons, List.length_nil]; omega), (by intro h; first | (cases h; done) | (simp only [List.length_append, List.length_cons, List.length_nil]; omega)), B3⟩, by simp [intOf]; omega⟩
      | false =>
        have lP3 := lP2 rfl
        obtain ⟨D, eD⟩ : ∃ D : Int, Hid (rowC y r = D) := ⟨_, rfl⟩
        have ct : Hid (∀ W : World, Below w.heap.size w W → Calls Tryz.prog 40 #[.slice py ny cy, .slice pu nu cu] W fun e w' => e = .returned (.int .i64 D) ∧ Below W.heap.size W w') := fun W hW => by
          have h := drow_gen (.slice py ny cy) (.slice pu nu cu) y r W FY.out FU.out (HY.out.below hW) (HU.out.below hW) LY.out LU.out
          rwa [eD.out] at h
        have hr2 : Hid (putP z G = P ++ (if D < 0 then z :: (Value.slice pu nu cu, r) :: G.drop (k + 1) else if D = 0 then (Value.slice pu nu cu, r) :: G.drop (k + 1) else (Value.slice pu nu cu, r) :: putP z (G.drop (k + 1)))) := by
          have h := hr.out
          have e2 : rowC z.2 r = D := by rw [← ez.out]; exact eD.out
          show _ = _
          rw [h]
          simp only [putP, e2]
          rfl
        clear hr lP2
        go_wp2_with fail
        refine (ct.out _ (by exact hB)).mono ?_
        rintro e w1 ⟨rfl, hb1⟩
        have B1 : Below w.heap.size w w1 := hB.trans (hb1.mono hB.size)
        have HO1 : Hid (w1.ownsRow w.heap.size 37 1 u5 P.length (P.map (·.1))) := own_below HO.out hb1
        have q2 := (hb1.cell (p := ⟨b, off + k, none⟩) (Nat.lt_of_lt_of_le hb hB.size)).trans q1
        clear hb1 ct q1 HO hB
        by_cases hD : D < 0
        · have hr3 : Hid (putP z G = ((P ++ [z]) ++ [(Value.slice pu nu cu, r)]) ++ (if true then G.drop (k + 1) else putP z (G.drop (k + 1)))) := by
            have h := hr2.out
            rw [if_pos hD] at h
            show _ = _
            rw [h]
            simp
          clear hr2
          have d1 : D ≤ 0 := by omega
          obtain ⟨pob, nob, cob, rfl⟩ := slice_of HO1.out
          have HSRCb : Hid (Src (w1.alloc (.cells #[Value.slice py ny cy] 37)) 1 (.slice (some ⟨w1.heap.size, 0, none⟩) 1 1) 1 [Value.slice py ny cy]) := Or.inr ⟨_, 1, rfl, rfl, fun j x hj => by
            rw [Addr.add_lit, Nat.zero_add]
            exact cell_of_heap (heap_alloc w1 _) j (by simpa using hj)⟩
          have HOb : Hid ((w1.alloc (.cells #[Value.slice py ny cy] 37)).ownsRow w.heap.size 37 1 (.slice pob nob cob) (P).length ((P).map (·.1))) := World.ownsRow.alloc HO1.out _
          have HKb : Hid (∀ q, (Value.slice pob nob cob).ownBlock = some q → w.heap.size ≤ q) := fun q hq => (World.ownsRow.lt HOb.out q hq).1
          have sb1 : (P).length + 1 ≤ maxLen := by unfold maxLen; (try simp only [List.length_append, List.length_cons, List.length_nil]); omega
          have sb2 : ((P).length + 1) * 24 ≤ 140737488355328 := by (try simp only [List.length_append, List.length_cons, List.length_nil]); omega
          have sb3 : w.heap.size ≤ (w1.alloc (.cells #[Value.slice py ny cy] 37)).heap.size := by simp; have := B1.size; omega
          have Bb : Hid (Below w.heap.size w (w1.alloc (.cells #[Value.slice py ny cy] 37))) := B1.alloc B1.size _
          clear HO1
          go_wp2_with (at_builtin; refine wpList_append_src rfl (.tmp 27) (.tmp 29) 23 rfl w.heap.size 37 i0 _ 1 24 Tryz.underlying23 hi hz0 hz1 hz2 rfl (by decide) (.slice pob nob cob) (P).length ((P).map (·.1)) rfl HOb.out (.slice (some ⟨w1.heap.size, 0, none⟩) 1 1) 1 [Value.slice py ny cy] rfl HSRCb.out ?oneb sb1 sb2 sb3 ?growb)
          case oneb => first | rfl | (intro u hu; simp at hu; subst hu; rfl)
          case growb =>
            intro v1 w2 h2 h3 _
            have O2 : Hid (w2.ownsRow w.heap.size 37 1 v1 (P ++ [z]).length ((P ++ [z]).map (·.1))) := by
              show World.ownsRow _ _ _ _ _ _ _
              rw [List.length_append, List.map_append, ← ez.out]
              exact h2
            have B2 : Below w.heap.size w w2 := Bb.out.grown h3 sb3 HKb.out
            have q3 : w2.cell? ⟨b, off + k, none⟩ = some (.slice pu nu cu) := (B2.cell (p := ⟨b, off + k, none⟩) hb).trans HX1.out
            clear h2 h3 HSRCb HOb HKb Bb q2 sb1 sb2 sb3
            obtain ⟨poc, noc, coc, rfl⟩ := slice_of O2.out
            have HSRCc : Hid (Src (w2.alloc (.cells #[Value.slice pu nu cu] 37)) 1 (.slice (some ⟨w2.heap.size, 0, none⟩) 1 1) 1 [Value.slice pu nu cu]) := Or.inr ⟨_, 1, rfl, rfl, fun j x hj => by
              rw [Addr.add_lit, Nat.zero_add]
              exact cell_of_heap (heap_alloc w2 _) j (by simpa using hj)⟩
            have HOc : Hid ((w2.alloc (.cells #[Value.slice pu nu cu] 37)).ownsRow w.heap.size 37 1 (.slice poc noc coc) (P ++ [z]).length ((P ++ [z]).map (·.1))) := World.ownsRow.alloc O2.out _
            have HKc : Hid (∀ q, (Value.slice poc noc coc).ownBlock = some q → w.heap.size ≤ q) := fun q hq => (World.ownsRow.lt HOc.out q hq).1
            have sc1 : (P ++ [z]).length + 1 ≤ maxLen := by unfold maxLen; (try simp only [List.length_append, List.length_cons, List.length_nil]); omega
            have sc2 : ((P ++ [z]).length + 1) * 24 ≤ 140737488355328 := by (try simp only [List.length_append, List.length_cons, List.length_nil]); omega
            have sc3 : w.heap.size ≤ (w2.alloc (.cells #[Value.slice pu nu cu] 37)).heap.size := by simp; have := B2.size; omega
            have Bc : Hid (Below w.heap.size w (w2.alloc (.cells #[Value.slice pu nu cu] 37))) := B2.alloc B2.size _
            clear O2
            go_wp2_with (at_builtin; refine wpList_append_src rfl (.tmp 31) (.tmp 36) 23 rfl w.heap.size 37 i0 _ 1 24 Tryz.underlying23 hi hz0 hz1 hz2 rfl (by decide) (.slice poc noc coc) (P ++ [z]).length ((P ++ [z]).map (·.1)) rfl HOc.out (.slice (some ⟨w2.heap.size, 0, none⟩) 1 1) 1 [Value.slice pu nu cu] rfl HSRCc.out ?onec sc1 sc2 sc3 ?growc)
            case onec => first | rfl | (intro u hu; simp at hu; subst hu; rfl)
            case growc =>
              intro v' w3 h2 h3 _
              have O3 : Hid (w3.ownsRow w.heap.size 37 1 v' ((P ++ [z]) ++ [(Value.slice pu nu cu, r)]).length (((P ++ [z]) ++ [(Value.slice pu nu cu, r)]).map (·.1))) := by
                show World.ownsRow _ _ _ _ _ _ _
                rw [List.length_append, List.map_append]
                first | exact h2 | simpa using h2
              have B3 : Below w.heap.size w w3 := Bc.out.grown h3 sc3 HKc.out
              clear h2 h3 HSRCc HOc HKc Bc
              go_wp2
              exact ⟨⟨k + 1, (P ++ [z]) ++ [(Value.slice pu nu cu, r)], true, by omega, by trivial, by go_num, O3, hr3, (by simp only [List.length_append, List.length_cons, List.length_nil]; omega), (by intro h; first | (cases h; done) | (simp only [List.length_append, List.length_cons, List.length_nil]; omega)), B3⟩, by simp [intOf]; omega⟩
        · by_cases hE : D = 0
          · have hr3 : Hid (putP z G = (P ++ [(Value.slice pu nu cu, r)]) ++ (if true then G.drop (k + 1) else putP z (G.drop (k + 1)))) := by
              have h := hr2.out
              rw [if_neg hD, if_pos hE] at h
              show _ = _
              rw [h]
              simp
            clear hr2
            subst hE
            obtain ⟨pod, nod, cod, rfl⟩ := slice_of HO1.out
            have HSRCd : Hid (Src (w1.alloc (.cells #[Value.slice pu nu cu] 37)) 1 (.slice (some ⟨w1.heap.size, 0, none⟩) 1 1) 1 [Value.slice pu nu cu]) := Or.inr ⟨_, 1, rfl, rfl, fun j x hj => by
              rw [Addr.add_lit, Nat.zero_add]
              exact cell_of_heap (heap_alloc w1 _) j (by simpa using hj)⟩
            have HOd : Hid ((w1.alloc (.cells #[Value.slice pu nu cu] 37)).ownsRow w.heap.size 37 1 (.slice pod nod cod) (P).length ((P).map (·.1))) := World.ownsRow.alloc HO1.out _
            have HKd : Hid (∀ q, (Value.slice pod nod cod).ownBlock = some q → w.heap.size ≤ q) := fun q hq => (World.ownsRow.lt HOd.out q hq).1
            have sd1 : (P).length + 1 ≤ maxLen := by unfold maxLen; (try simp only [List.length_append, List.length_cons, List.length_nil]); omega
            have sd2 : ((P).length + 1) * 24 ≤ 140737488355328 := by (try simp only [List.length_append, List.length_cons, List.length_nil]); omega
            have sd3 : w.heap.size ≤ (w1.alloc (.cells #[Value.slice pu nu cu] 37)).heap.size := by simp; have := B1.size; omega
            have Bd : Hid (Below w.heap.size w (w1.alloc (.cells #[Value.slice pu nu cu] 37))) := B1.alloc B1.size _
            clear HO1
            go_wp2_with (at_builtin; refine wpList_append_src rfl (.tmp 31) (.tmp 36) 23 rfl w.heap.size 37 i0 _ 1 24 Tryz.underlying23 hi hz0 hz1 hz2 rfl (by decide) (.slice pod nod cod) (P).length ((P).map (·.1)) rfl HOd.out (.slice (some ⟨w1.heap.size, 0, none⟩) 1 1) 1 [Value.slice pu nu cu] rfl HSRCd.out ?oned sd1 sd2 sd3 ?growd)
            case oned => first | rfl | (intro u hu; simp at hu; subst hu; rfl)
            case growd =>
              intro v' w3 h2 h3 _
              have O3 : Hid (w3.ownsRow w.heap.size 37 1 v' ((P) ++ [(Value.slice pu nu cu, r)]).length (((P) ++ [(Value.slice pu nu cu, r)]).map (·.1))) := by
                show World.ownsRow _ _ _ _ _ _ _
                rw [List.length_append, List.map_append]
                first | exact h2 | simpa using h2
              have B3 : Below w.heap.size w w3 := Bd.out.grown h3 sd3 HKd.out
              clear h2 h3 HSRCd HOd HKd Bd
              go_wp2
              exact ⟨⟨k + 1, (P) ++ [(Value.slice pu nu cu, r)], true, by omega, by trivial, by go_num, O3, hr3, (by simp only [List.length_append, List.length_cons, List.length_nil]; omega), (by intro h; first | (cases h; done) | (simp only [List.length_append, List.length_cons, List.length_nil]; omega)), B3⟩, by simp [intOf]; omega⟩
          · have hr3 : Hid (putP z G = (P ++ [(Value.slice pu nu cu, r)]) ++ (if false then G.drop (k + 1) else putP z (G.drop (k + 1)))) := by
              have h := hr2.out
              rw [if_neg hD, if_neg hE] at h
              show _ = _
              rw [h]
              simp
            clear hr2
            have d1 : ¬ D ≤ 0 := by omega
            obtain ⟨poe, noe, coe, rfl⟩ := slice_of HO1.out
            have HSRCe : Hid (Src (w1.alloc (.cells #[Value.slice pu nu cu] 37)) 1 (.slice (some ⟨w1.heap.size, 0, none⟩) 1 1) 1 [Value.slice pu nu cu]) := Or.inr ⟨_, 1, rfl, rfl, fun j x hj => by
              rw [Addr.add_lit, Nat.zero_add]
              exact cell_of_heap (heap_alloc w1 _) j (by simpa using hj)⟩
            have HOe : Hid ((w1.alloc (.cells #[Value.slice pu nu cu] 37)).ownsRow w.heap.size 37 1 (.slice poe noe coe) (P).length ((P).map (·.1))) := World.ownsRow.alloc HO1.out _
            have HKe : Hid (∀ q, (Value.slice poe noe coe).ownBlock = some q → w.heap.size ≤ q) := fun q hq => (World.ownsRow.lt HOe.out q hq).1
            have se1 : (P).length + 1 ≤ maxLen := by unfold maxLen; (try simp only [List.length_append, List.length_cons, List.length_nil]); omega
            have se2 : ((P).length + 1) * 24 ≤ 140737488355328 := by (try simp only [List.length_append, List.length_cons, List.length_nil]); omega
            have se3 : w.heap.size ≤ (w1.alloc (.cells #[Value.slice pu nu cu] 37)).heap.size := by simp; have := B1.size; omega
            have Be : Hid (Below w.heap.size w (w1.alloc (.cells #[Value.slice pu nu cu] 37))) := B1.alloc B1.size _
            clear HO1
            go_wp2_with (at_builtin; refine wpList_append_src rfl (.tmp 31) (.tmp 36) 23 rfl w.heap.size 37 i0 _ 1 24 Tryz.underlying23 hi hz0 hz1 hz2 rfl (by decide) (.slice poe noe coe) (P).length ((P).map (·.1)) rfl HOe.out (.slice (some ⟨w1.heap.size, 0, none⟩) 1 1) 1 [Value.slice pu nu cu] rfl HSRCe.out ?onee se1 se2 se3 ?growe)
            case onee => first | rfl | (intro u hu; simp at hu; subst hu; rfl)
            case growe =>
              intro v' w3 h2 h3 _
              have O3 : Hid (w3.ownsRow w.heap.size 37 1 v' ((P) ++ [(Value.slice pu nu cu, r)]).length (((P) ++ [(Value.slice pu nu cu, r)]).map (·.1))) := by
                show World.ownsRow _ _ _ _ _ _ _
                rw [List.length_append, List.map_append]
                first | exact h2 | simpa using h2
              have B3 : Below w.heap.size w w3 := Be.out.grown h3 se3 HKe.out
              clear h2 h3 HSRCe HOe HKe Be
              go_wp2
              exact ⟨⟨k + 1, (P) ++ [(Value.slice pu nu cu, r)], false, by omega, by trivial, by go_num, O3, hr3, (by simp only [List.length_append, List.length_cons, List.length_nil]; omega), (by intro h; first | (cases h; done) | (simp only [List.length_append, List.length_cons, List.length_nil]; omega)), B3⟩, by simp [intOf]; omega⟩
    · have c2 : ¬ (k : Int) < n := by omega
      have e0 : G.drop k = [] := List.drop_eq_nil_of_le (by have := en.out; omega)
      rw [e0] at hr
      cases dn with
      | true =>
        have hr2 : Hid (putP z G = P) := by have h := hr.out; show _ = _; simpa using h
        go_wp2
        go_ret
        exact ⟨_, rfl, by rw [hr2.out]; exact HO.out, hB⟩
      | false =>
        have hr2 : Hid (putP z G = P ++ [z]) := by have h := hr.out; show _ = _; simpa [putP] using h
        have lP3 := lP2 rfl
        clear hr lP2
        obtain ⟨pof, nof, cof, rfl⟩ := slice_of HO.out
        have HSRCf : Hid (Src (wr.alloc (.cells #[Value.slice py ny cy] 37)) 1 (.slice (some ⟨wr.heap.size, 0, none⟩) 1 1) 1 [Value.slice py ny cy]) := Or.inr ⟨_, 1, rfl, rfl, fun j x hj => by
          rw [Addr.add_lit, Nat.zero_add]
          exact cell_of_heap (heap_alloc wr _) j (by simpa using hj)⟩
        have HOf : Hid ((wr.alloc (.cells #[Value.slice py ny cy] 37)).ownsRow w.heap.size 37 1 (.slice pof nof cof) (P).length ((P).map (·.1))) := World.ownsRow.alloc HO.out _
        have HKf : Hid (∀ q, (Value.slice pof nof cof).ownBlock = some q → w.heap.size ≤ q) := fun q hq => (World.ownsRow.lt HOf.out q hq).1
        have sf1 : (P).length + 1 ≤ maxLen := by unfold maxLen; (try simp only [List.length_append, List.length_cons, List.length_nil]); omega
        have sf2 : ((P).length + 1) * 24 ≤ 140737488355328 := by (try simp only [List.length_append, List.length_cons, List.length_nil]); omega
        have sf3 : w.heap.size ≤ (wr.alloc (.cells #[Value.slice py ny cy] 37)).heap.size := by simp; have := hB.size; omega
        have Bf : Hid (Below w.heap.size w (wr.alloc (.cells #[Value.slice py ny cy] 37))) := hB.alloc hB.size _
        clear HO
        go_wp2_with (at_builtin; refine wpList_append_src rfl (.tmp 40) (.tmp 42) 23 rfl w.heap.size 37 i0 _ 1 24 Tryz.underlying23 hi hz0 hz1 hz2 rfl (by decide) (.slice pof nof cof) (P).length ((P).map (·.1)) rfl HOf.out (.slice (some ⟨wr.heap.size, 0, none⟩) 1 1) 1 [Value.slice py ny cy] rfl HSRCf.out ?onef sf1 sf2 sf3 ?growf)
        case onef => first | rfl | (intro u hu; simp at hu; subst hu; rfl)
        case growf =>
          intro v1 w2 h2 h3 _
          have O2 : Hid (w2.ownsRow w.heap.size 37 1 v1 (putP z G).length ((putP z G).map (·.1))) := by
            show World.ownsRow _ _ _ _ _ _ _
            rw [hr2.out, List.length_append, List.map_append, ← ez.out]
            exact h2
          have B2 : Below w.heap.size w w2 := Bf.out.grown h3 sf3 HKf.out
          clear h2 h3 HSRCf HOf HKf Bf sf1 sf2 sf3
          go_wp2
          go_ret
          exact ⟨_, rfl, O2.out, B2⟩

end Go.Proofs.YteipohpfaofchaaGreat
