/- Are two tables the same, is a row one of a table's: the law's walk. -/
import Derived.Test.YtiliaincniiijaaGreatZ06
import Derived.Test.YtiliaincniiijaaGreatZ04
import Derived.Test.YtiliaincniiijaaGreatZ05

namespace Go.Proofs.YtiliaincniiijaaGreat
open Go.RowKit Go.Shelf Go.Sort
set_option linter.unusedVariables false

theorem strs_lit (W : World) (x y : ByteArray) : StrsAt (W.alloc (.cells #[.string x, .string y] 9)) (.slice (some ⟨W.heap.size, 0, none⟩) 2 2) [x, y] := by
  refine ⟨_, 2, rfl, Or.inr ⟨W.heap.size, 0, rfl, by simp, fun i hi => ?_⟩⟩
  rw [Nat.zero_add]
  refine cell_of_heap (heap_alloc W _) i ?_
  rcases i with _ | _ | i
  · rfl
  · rfl
  · simp at hi; omega
/-- A table in a variable. -/
def Var (W : World) (g : Nat) (V R : Value) : Prop := W.heap[g]? = some (.cells #[V, R] 25 (0, 0))
theorem Var.below {W W' : World} {g : Nat} {V R : Value} (h : Var W g V R) (hb : Below W.heap.size W W') : Var W' g V R := (hb.block _ (Array.getElem?_eq_some_iff.1 h).1).trans h
theorem Var.c0 {W : World} {g : Nat} {V R : Value} (h : Var W g V R) : W.cell? ⟨g, 0, none⟩ = some V := cell_of_heap h 0 rfl
theorem Var.c1 {W : World} {g : Nat} {V R : Value} (h : Var W g V R) : W.cell? ⟨g, 1, none⟩ = some R := cell_of_heap h 1 rfl
theorem Var.made (W : World) (V R : Value) : Var (W.alloc (.cells #[V, R] 25)) W.heap.size V R := heap_alloc W _
theorem re_below {B : Nat} {a b a' b' : World} (h : Below B a b) (h1 : a'.heap = a.heap := by rfl) (h2 : b'.heap = b.heap := by rfl) (h3 : a'.os = a.os ∧ a'.tape = a.tape ∧ a'.output = a.output := by exact ⟨rfl, rfl, rfl⟩) (h4 : b'.os = b.os ∧ b'.tape = b.tape ∧ b'.output = b.output := by exact ⟨rfl, rfl, rfl⟩) : Below B a' b' :=
  ⟨h4.1.trans (h.os.trans h3.1.symm), h4.2.1.trans (h.tape.trans h3.2.1.symm), h4.2.2.trans (h.output.trans h3.2.2.symm), by rw [h1, h2]; exact h.size, fun k hk => by rw [h1, h2]; exact h.block k hk⟩
theorem at_size {P : Nat → Prop} {n g : Nat} (h : P n) (e : n = g) : P g := e ▸ h
theorem var_set {W : World} {g : Nat} {a b V R : Value} (h : Var W g a b) : Var ((W.setCell ⟨g, 0, none⟩ V).setCell ⟨g, 1, none⟩ R) g V R := by
  unfold Var at *
  rw [setCell_eq, setCell_eq]
  show ((W.heap.modify _ _).modify _ _)[_]? = _
  rw [Array.getElem?_modify, if_pos rfl, Array.getElem?_modify, if_pos rfl, h]
  rfl
def Lit (W : World) (g : Nat) : Prop := W.heap[g]? = some (.cells #[.int .i64 1, .int .i64 2] 2 (0, 0))
theorem Lit.below {W W' : World} {g : Nat} (h : Lit W g) (hb : Below W.heap.size W W') : Lit W' g := (hb.block _ (Array.getElem?_eq_some_iff.1 h).1).trans h
theorem hold_of {W W' : World} {g : Nat} {V R : Value} (hb : Below W.heap.size W W') (a0 : W.cell? ⟨g, 0, none⟩ = some V) (a1 : W.cell? ⟨g, 1, none⟩ = some R) (hg : g < W.heap.size) : W'.cell? ⟨g, 0, none⟩ = some V ∧ W'.cell? ⟨g, 1, none⟩ = some R := ⟨(hb.cell (p := ⟨g, 0, none⟩) hg).trans a0, (hb.cell (p := ⟨g, 1, none⟩) hg).trans a1⟩
theorem fA : ∀ r ∈ xyR lA, ∀ v ∈ r, v.Fits := xyR_fits (by intro x hx; simp [lA] at hx; omega)
theorem gA : ∀ r ∈ xyR lA, r.length ≤ 9223372036854775807 := fun r hr => by have := (xyR_len lA).1 r hr; omega

set_option maxRecDepth 100000 in
set_option maxHeartbeats 8000000 in
theorem tlive_any (w : World) : Calls Tryz.prog 5 #[] w fun e w' => e = .returned (.bool true) ∧ Below w.heap.size w w' := by
  have X1 : Hid (∀ W : World, Calls Tryz.prog 14 #[.slice (some ⟨W.heap.size, 0, none⟩) 6 6] (W.alloc (.cells #[.int .i64 1, .int .i64 1, .int .i64 1, .int .i64 2, .int .i64 2, .int .i64 1] 2)) fun e w' => ∃ p c p' c', e = .returned (.agg #[.slice p 2 c, .slice p' 3 c']) ∧ OwnT W.heap.size (.agg #[.slice p 2 c, .slice p' 3 c']) [nX, nY] (xyR lA) w' ∧ Below W.heap.size W w') := fun W => xy_lit lA (by decide) W
  go_enter Tryz.func5, Tryz.ntmps5
  go_wp2_with fail
  refine (X1.out _).mono ?_
  rintro e w1 ⟨p1, c1, p2, c2, rfl, ot1, hb1⟩
  obtain ⟨us1, ta1⟩ := own_tab ot1 fA gA (by decide) (by decide)
  have TA : Hid (TabAt w1 (.slice p1 2 c1) (.slice p2 3 c2) [nX, nY] us1 (xyR lA)) := ta1
  clear ot1 ta1 X1
  have K1 : Below w.heap.size w w1 := hb1
  clear hb1
  go_upto_region 2 with fail
  refine wp_world ?_
  intro W1 hW1
  have V1 : Hid (Var W1 w1.heap.size (.slice p1 2 c1) (.slice p2 3 c2)) := by rw [hW1]; exact Var.made _ _ _
  have H1 : Below w1.heap.size w1 W1 := by rw [hW1]; go_grown
  clear hW1
  have TA1 : Hid (TabAt W1 (.slice p1 2 c1) (.slice p2 3 c2) [nX, nY] us1 (xyR lA)) := TA.out.below H1
  have K2 : Below w.heap.size w W1 := K1.trans (H1.mono K1.size)
  generalize w1.heap.size = ga at V1 ⊢
  clear TA K1 H1
  have C2 : Hid (Calls Tryz.prog 15 #[.agg #[.slice p1 2 c1, .slice p2 3 c2], .slice (some ⟨W1.heap.size, 0, none⟩) 2 2, .slice (some ⟨W1.heap.size + 1, 0, none⟩) 2 2] ((W1.alloc (.cells #[.string ⟨#[120]⟩, .string ⟨#[121]⟩] 9)).alloc (.cells #[.string ⟨#[121]⟩, .string ⟨#[122]⟩] 9)) fun e w' => ∃ p c p' c', e = .returned (.tuple #[.agg #[.slice p 2 c, .slice p' 3 c'], .int .i64 0]) ∧ (∃ us, TabAt w' (.slice p 2 c) (.slice p' 3 c') [nY, nZ] us (xyR lA)) ∧ Below W1.heap.size W1 w') := by
    have hb1 : Below W1.heap.size W1 (W1.alloc (.cells #[.string ⟨#[120]⟩, .string ⟨#[121]⟩] 9)) := (Below.refl _ _).alloc (Nat.le_refl _) _
    have hb2 : Below (W1.alloc (.cells #[.string ⟨#[120]⟩, .string ⟨#[121]⟩] 9)).heap.size (W1.alloc (.cells #[.string ⟨#[120]⟩, .string ⟨#[121]⟩] 9)) ((W1.alloc (.cells #[.string ⟨#[120]⟩, .string ⟨#[121]⟩] 9)).alloc (.cells #[.string ⟨#[121]⟩, .string ⟨#[122]⟩] 9)) := (Below.refl _ _).alloc (Nat.le_refl _) _
    have hb3 := hb1.trans (hb2.mono hb1.size)
    have s1 : StrsAt _ _ [nX, nY] := (strs_lit W1 nX nY).below hb2
    have s2 : StrsAt _ _ [nY, nZ] := strs_lit (W1.alloc (.cells #[.string ⟨#[120]⟩, .string ⟨#[121]⟩] 9)) nY nZ
    rw [show (W1.alloc (.cells #[.string ⟨#[120]⟩, .string ⟨#[121]⟩] 9)).heap.size = W1.heap.size + 1 by simp] at s2
    refine (rename_any (TA1.out.below hb3) s1 s2 (by decide) (by decide)).mono ?_
    rintro e w' ⟨t, rfl, h1, -, hb⟩
    obtain ⟨cs, hcs, ht⟩ := h1 k_ren
    rw [k_col] at hcs
    injection hcs with hcs
    subst hcs
    rw [k_renT.1, k_renT.2] at ht
    obtain ⟨p, c, p', c', rfl⟩ := own_forms ht
    refine ⟨p, c, p', c', by rw [k_ren]; rfl, own_tab ht fA gA (by decide) (by decide), hb3.trans (hb.mono hb3.size)⟩
  have a0 := V1.out.c0
  have a1 := V1.out.c1
  go_wp2_with fail
  refine C2.out.mono ?_
  rintro e w2 ⟨p3, c3, p4, c4, rfl, ⟨us2, tb⟩, hb2⟩
  have V2 : Hid (Var w2 ga (.slice p1 2 c1) (.slice p2 3 c2)) := V1.out.below hb2
  have TA2 : Hid (TabAt w2 (.slice p1 2 c1) (.slice p2 3 c2) [nX, nY] us1 (xyR lA)) := TA1.out.below hb2
  have TB2 : Hid (TabAt w2 (.slice p3 2 c3) (.slice p4 3 c4) [nY, nZ] us2 (xyR lA)) := tb
  have K3 : Below w.heap.size w w2 := K2.trans (hb2.mono K2.size)
  clear a0 a1 C2 tb hb2 V1 TA1 K2
  go_upto_region 5 with fail
  refine wp_world ?_
  intro W2 hW2
  have VB : Hid (Var W2 w2.heap.size (.slice p3 2 c3) (.slice p4 3 c4)) := by rw [hW2]; exact Var.made _ _ _
  have H2 : Below w2.heap.size w2 W2 := by rw [hW2]; go_grown
  clear hW2
  have VA : Hid (Var W2 ga (.slice p1 2 c1) (.slice p2 3 c2)) := V2.out.below H2
  have TA3 : Hid (TabAt W2 (.slice p1 2 c1) (.slice p2 3 c2) [nX, nY] us1 (xyR lA)) := TA2.out.below H2
  have TB3 : Hid (TabAt W2 (.slice p3 2 c3) (.slice p4 3 c4) [nY, nZ] us2 (xyR lA)) := TB2.out.below H2
  have K4 : Below w.heap.size w W2 := K3.trans (H2.mono K3.size)
  generalize w2.heap.size = gb at VB ⊢
  clear V2 TA2 TB2 K3 H2
  have C3 : Hid (Calls Tryz.prog 9 #[.agg #[.slice p1 2 c1, .slice p2 3 c2], .agg #[.slice p3 2 c3, .slice p4 3 c4]] W2 fun e w' => ∃ p c p' c', e = .returned (.tuple #[.agg #[.slice p 3 c, .slice p' 5 c'], .int .i64 0]) ∧ Below W2.heap.size W2 w') := by
    refine (join_any TA3.out TB3.out (by rw [k_join.2.2.2]; decide)).mono ?_
    rintro e w' ⟨t, rfl, h1, -, hb⟩
    have ht := h1 k_join.1
    obtain ⟨p, c, p', c', rfl⟩ := own_forms ht
    refine ⟨p, c, p', c', ?_, hb⟩
    rw [k_join.1, k_join.2.1, k_join.2.2.1]
  have a0 := VA.out.c0
  have a1 := VA.out.c1
  have b0 := VB.out.c0
  have b1 := VB.out.c1
  go_wp2_with fail
  refine C3.out.mono ?_
  rintro e w3 ⟨p5, c5, p6, c6, rfl, hb3⟩
  have VA3 : Hid (Var w3 ga (.slice p1 2 c1) (.slice p2 3 c2)) := VA.out.below hb3
  have TA4 : Hid (TabAt w3 (.slice p1 2 c1) (.slice p2 3 c2) [nX, nY] us1 (xyR lA)) := TA3.out.below hb3
  have K5 : Below w.heap.size w w3 := K4.trans (hb3.mono K4.size)
  clear a0 a1 b0 b1 C3 hb3 VA VB TA3 TB3 K4
  go_upto_region 6 with fail
  refine wp_world ?_
  intro W3 hW3
  have VJ : Hid (Var W3 w3.heap.size (.slice p5 3 c5) (.slice p6 5 c6)) := by rw [hW3]; exact Var.made _ _ _
  have H3 : Below w3.heap.size w3 W3 := by rw [hW3]; go_grown
  clear hW3
  have VA4 : Hid (Var W3 ga (.slice p1 2 c1) (.slice p2 3 c2)) := VA3.out.below H3
  have TA5 : Hid (TabAt W3 (.slice p1 2 c1) (.slice p2 3 c2) [nX, nY] us1 (xyR lA)) := TA4.out.below H3
  have K6 : Below w.heap.size w W3 := K5.trans (H3.mono K5.size)
  generalize w3.heap.size = gj at VJ ⊢
  clear VA3 TA4 K5 H3
  have a0 := VA4.out.c0
  have a1 := VA4.out.c1
  have C4 : Hid (∀ (W : World) (g : Nat), Lit W g → Calls Tryz.prog 14 #[.slice (some ⟨g, 0, none⟩) 2 2] W fun e w' => ∃ p c p' c', e = .returned (.agg #[.slice p 2 c, .slice p' 1 c']) ∧ (∃ us, TabAt w' (.slice p 2 c) (.slice p' 1 c') [nX, nY] us (xyR [1, 2])) ∧ Below W.heap.size W w') := fun W g hg => by
    refine (xy_any g 0 2 [1, 2] W (Array.getElem?_eq_some_iff.1 hg).1 (fun i h => ?_) (by decide)).mono ?_
    · rw [Nat.zero_add]
      refine cell_of_heap hg i ?_
      rcases i with _ | _ | i
      · rfl
      · rfl
      · simp at h; omega
    · rintro e w' ⟨t, rfl, ht, hb⟩
      obtain ⟨p, c, p', c', rfl⟩ := own_forms ht
      exact ⟨p, c, p', c', rfl, own_tab ht (xyR_fits (by intro x hx; simp at hx; omega)) (fun r hr => by have := (xyR_len [1, 2]).1 r hr; omega) (by decide) (by decide), hb⟩
  have C5 : Hid (∀ (W : World) (q1 : Option Addr) (d1 : Nat) (q2 : Option Addr) (d2 : Nat), Below W3.heap.size W3 W → (∃ us, TabAt W (.slice q1 2 d1) (.slice q2 1 d2) [nX, nY] us (xyR [1, 2])) → Calls Tryz.prog 16 #[.agg #[.slice p1 2 c1, .slice p2 3 c2], .agg #[.slice q1 2 d1, .slice q2 1 d2]] W fun e w' => ∃ pn cn pm cm, e = .returned (.tuple #[.agg #[.slice pn 2 cn, .slice pm 2 cm], .int .i64 0]) ∧ OwnT W.heap.size (.agg #[.slice pn 2 cn, .slice pm 2 cm]) [nX, nY] (xyR [1, 1, 2, 1]) w' ∧ Below W.heap.size W w') := fun W q1 d1 q2 d2 hW ⟨us, hx⟩ => by
    refine (anti_any (TA5.out.below hW) hx).mono ?_
    rintro e w' ⟨t, rfl, h1, -, hb⟩
    have ht := h1 k_anti.1
    rw [k_anti.2] at ht
    obtain ⟨p, c, p', c', rfl⟩ := own_forms ht
    refine ⟨p, c, p', c', ?_, ht, hb⟩
    rw [k_anti.1]
    rfl
  rename_i KK hKK
  have REST : ∀ (g6 : Nat) (u29 u30 u31 u32 u33 u34 u35 : Value) (W : World) (pn : Option Addr) (cn : Nat) (pm : Option Addr) (cm : Nat), Hid (Var W g6 (.slice pn 2 cn) (.slice pm 2 cm)) → Hid (StrsAt W (.slice pn 2 cn) [nX, nY]) → Hid (TabRows W (.slice pm 2 cm) (xyR [1, 1, 2, 1])) → Hid (Below W3.heap.size W3 W) → KK { tmps := #[.bool false, .pointer (some ⟨ga, 0, none⟩), .pointer (some ⟨gb, 0, none⟩), .int .i64 0, .pointer (some ⟨gj, 0, none⟩), .int .i64 0, .pointer (some ⟨g6, 0, none⟩), .int .i64 0, undef, undef, undef, undef, .slice (some ⟨w.heap.size, 0, none⟩) 6 6, .agg #[.slice p1 2 c1, .slice p2 3 c2], .tuple #[.agg #[.slice p3 2 c3, .slice p4 3 c4], .int .i64 0], .agg #[.slice p1 2 c1, .slice p2 3 c2], .slice (some ⟨W1.heap.size, 0, none⟩) 2 2, .slice (some ⟨W1.heap.size + 1, 0, none⟩) 2 2, .tuple #[.agg #[.slice p3 2 c3, .slice p4 3 c4], .int .i64 0], .agg #[.slice p3 2 c3, .slice p4 3 c4], .int .i64 0, .int .i64 0, .bool false, .tuple #[.agg #[.slice p5 3 c5, .slice p6 5 c6], .int .i64 0], .agg #[.slice p1 2 c1, .slice p2 3 c2], .agg #[.slice p3 2 c3, .slice p4 3 c4], .tuple #[.agg #[.slice p5 3 c5, .slice p6 5 c6], .int .i64 0], .agg #[.slice p5 3 c5, .slice p6 5 c6], .int .i64 0, u29, u30, u31, u32, u33, u34, u35, undef, undef, undef, undef, undef, undef, undef, undef, undef, undef, undef, undef, undef, undef, undef, undef, undef, undef, undef, undef, undef, undef, undef, undef, undef, undef, undef, undef, undef, undef, undef, undef, undef, undef, undef, undef, undef, undef, undef, undef, undef, undef, undef, undef, undef, undef, undef, undef, undef, undef, undef, undef, undef, undef, undef, undef, undef, undef, undef, undef], defers := [] } W := by
    intro g6 u29 u30 u31 u32 u33 u34 u35 W pn cn pm cm VN SN MN HW
    refine hKK _ _ ?_
    have VA5 : Hid (Var W ga (.slice p1 2 c1) (.slice p2 3 c2)) := VA4.out.below HW.out
    have VJ5 : Hid (Var W gj (.slice p5 3 c5) (.slice p6 5 c6)) := VJ.out.below HW.out
    have TA6 : Hid (TabAt W (.slice p1 2 c1) (.slice p2 3 c2) [nX, nY] us1 (xyR lA)) := TA5.out.below HW.out
    have K7 : Below w.heap.size w W := K6.trans (HW.out.mono K6.size)
    clear hKK a0 a1 VA4 VJ TA5 K6 HW C4
    have C6 : Hid (Calls Tryz.prog 17 #[.agg #[.slice p1 2 c1, .slice p2 3 c2], .slice none 0 0] W fun e w' => ∃ p c p' c', e = .returned (.tuple #[.agg #[.slice p 0 c, .slice p' 1 c'], .int .i64 0]) ∧ (StrsAt w' (.slice p 0 c) [] ∧ TabRows w' (.slice p' 1 c') [[]]) ∧ Below W.heap.size W w') := by
      refine (project_any TA6.out (A := .slice none 0 0) (ns := []) ⟨none, 0, rfl, Or.inl rfl⟩ (by decide)).mono ?_
      rintro e w' ⟨t, rfl, h1, -, hb⟩
      have ht := h1 k_proj.1
      rw [k_proj.2.1, k_proj.2.2] at ht
      obtain ⟨p, c, p', c', rfl⟩ := own_forms ht
      refine ⟨p, c, p', c', ?_, own_two ht, hb⟩
      rw [k_proj.1]
      rfl
    have a0 := VA5.out.c0
    have a1 := VA5.out.c1
    go_wp2_with fail
    refine C6.out.mono ?_
    rintro e w4 ⟨pr, cr, pq, cq, rfl, sp, hb4⟩
    have VA6 : Hid (Var w4 ga (.slice p1 2 c1) (.slice p2 3 c2)) := VA5.out.below hb4
    have VJ6 : Hid (Var w4 gj (.slice p5 3 c5) (.slice p6 5 c6)) := VJ5.out.below hb4
    have VN6 : Hid (Var w4 g6 (.slice pn 2 cn) (.slice pm 2 cm)) := VN.out.below hb4
    have SN6 : Hid (StrsAt w4 (.slice pn 2 cn) [nX, nY]) := SN.out.below hb4
    have MN6 : Hid (TabRows w4 (.slice pm 2 cm) (xyR [1, 1, 2, 1])) := MN.out.below hb4
    have TA7 : Hid (TabAt w4 (.slice p1 2 c1) (.slice p2 3 c2) [nX, nY] us1 (xyR lA)) := TA6.out.below hb4
    have SP6 : Hid (StrsAt w4 (.slice pr 0 cr) [] ∧ TabRows w4 (.slice pq 1 cq) [[]]) := sp
    have K8 : Below w.heap.size w w4 := K7.trans (hb4.mono K7.size)
    clear a0 a1 C6 sp hb4 VA5 VJ5 VN SN MN TA6 K7
    go_upto_region 8 with fail
    refine wp_world ?_
    intro W4 hW4
    have VP7 : Hid (Var W4 w4.heap.size (.slice pr 0 cr) (.slice pq 1 cq)) := by rw [hW4]; exact Var.made _ _ _
    have H4 : Below w4.heap.size w4 W4 := by rw [hW4]; go_grown
    clear hW4
    generalize w4.heap.size = gp at VP7 ⊢
    have C7 : Hid (Calls Tryz.prog 18 #[.slice (some ⟨W4.heap.size, 0, none⟩) 2 2, .slice none 0 0] (W4.alloc (.cells #[.string ⟨#[120]⟩, .string ⟨#[120]⟩] 9)) fun e w' => e = .returned (.tuple #[.agg #[.slice none 0 0, .slice none 0 0], .int .i64 30]) ∧ Below W4.heap.size W4 w') := by
      have hb1 : Below W4.heap.size W4 (W4.alloc (.cells #[.string ⟨#[120]⟩, .string ⟨#[120]⟩] 9)) := (Below.refl _ _).alloc (Nat.le_refl _) _
      refine (tof_any _ _ [nX, nX] [] [] _ (strs_lit W4 nX nX) (by intro p n c e; injection e with _ e1 e2; omega) (Or.inl ⟨0, rfl, rfl⟩) ⟨rfl, fun i h => absurd h (Nat.not_lt_zero _)⟩ (by simp) (by simp) (by decide) (by decide)).mono ?_
      rintro e w' ⟨t, rfl, -, h2, hb⟩
      have ht := h2 (by rw [k_of]; decide)
      subst ht
      exact ⟨by rw [k_of], hb1.trans (hb.mono hb1.size)⟩
    go_wp2_with fail
    refine C7.out.mono ?_
    rintro e w5 ⟨rfl, hb5⟩
    have H5 : Below w4.heap.size w4 w5 := H4.trans (hb5.mono H4.size)
    have VP8 : Hid (Var w5 gp (.slice pr 0 cr) (.slice pq 1 cq)) := VP7.out.below hb5
    clear C7 hb5 VP7 H4
    go_upto_region 9 with fail
    refine wp_world ?_
    intro W5 hW5
    have H6 : Below w5.heap.size w5 W5 := by rw [hW5]; go_grown
    clear hW5
    have H7 : Below w4.heap.size w4 W5 := H5.trans (H6.mono H5.size)
    have VA8 := VA6.out.below H7
    have VJ8 := VJ6.out.below H7
    have VN8 := VN6.out.below H7
    have VP9 := VP8.out.below H6
    have SN8 : Hid (StrsAt W5 (.slice pn 2 cn) [nX, nY]) := SN6.out.below H7
    have MN8 : Hid (TabRows W5 (.slice pm 2 cm) (xyR [1, 1, 2, 1])) := MN6.out.below H7
    have TA8 : Hid (TabAt W5 (.slice p1 2 c1) (.slice p2 3 c2) [nX, nY] us1 (xyR lA)) := TA7.out.below H7
    have SP8 : Hid (StrsAt W5 (.slice pr 0 cr) [] ∧ TabRows W5 (.slice pq 1 cq) [[]]) := ⟨SP6.out.1.below H7, SP6.out.2.below H7⟩
    have K9 : Below w.heap.size w W5 := K8.trans (H7.mono K8.size)
    have HS : Hid (∀ W : World, Below W5.heap.size W5 W → W.cell? ⟨ga, 0, none⟩ = some (.slice p1 2 c1) ∧ W.cell? ⟨ga, 1, none⟩ = some (.slice p2 3 c2) ∧ W.cell? ⟨gj, 0, none⟩ = some (.slice p5 3 c5) ∧ W.cell? ⟨gj, 1, none⟩ = some (.slice p6 5 c6) ∧ W.cell? ⟨g6, 0, none⟩ = some (.slice pn 2 cn) ∧ W.cell? ⟨g6, 1, none⟩ = some (.slice pm 2 cm) ∧ W.cell? ⟨gp, 0, none⟩ = some (.slice pr 0 cr) ∧ W.cell? ⟨gp, 1, none⟩ = some (.slice pq 1 cq)) := fun W hW => ⟨(VA8.below hW).c0, (VA8.below hW).c1, (VJ8.below hW).c0, (VJ8.below hW).c1, (VN8.below hW).c0, (VN8.below hW).c1, (VP9.below hW).c0, (VP9.below hW).c1⟩
    have C8 : Hid (∀ (W : World) (g : Nat) (a b c d : Int), W.heap[g]? = some (.cells #[.int .i64 a, .int .i64 b, .int .i64 c, .int .i64 d] 2 (0, 0)) → Calls Tryz.prog 14 #[.slice (some ⟨g, 0, none⟩) 4 4] W fun e w' => ∃ p c' p' c'', e = .returned (.agg #[.slice p 2 c', .slice p' 2 c'']) ∧ (StrsAt w' (.slice p 2 c') [nX, nY] ∧ TabRows w' (.slice p' 2 c'') (xyR [a, b, c, d])) ∧ Below W.heap.size W w') := fun W g a b c d hg => by
      refine (xy_any g 0 4 [a, b, c, d] W (Array.getElem?_eq_some_iff.1 hg).1 (fun i h => ?_) (by simp)).mono ?_
      · rw [Nat.zero_add]
        refine cell_of_heap hg i ?_
        rcases i with _ | _ | _ | _ | i
        · rfl
        · rfl
        · rfl
        · rfl
        · simp at h; omega
      · rintro e w' ⟨t, rfl, ht, hb⟩
        obtain ⟨p, c', p', c'', rfl⟩ := own_forms ht
        exact ⟨p, c', p', c'', rfl, own_two ht, hb⟩
    have CS1 : Hid (∀ (W : World) (q1 : Option Addr) (d1 : Nat) (q2 : Option Addr) (d2 : Nat), Below W5.heap.size W5 W → StrsAt W (.slice q1 2 d1) [nX, nY] → TabRows W (.slice q2 2 d2) (xyR [1, 1, 2, 1]) → Calls Tryz.prog 19 #[.agg #[.slice pn 2 cn, .slice pm 2 cm], .agg #[.slice q1 2 d1, .slice q2 2 d2]] W fun e w' => e = .returned (.bool true) ∧ Below W.heap.size W w') := fun W q1 d1 q2 d2 hW h1 h2 => by
      have h := tabsame_any _ _ _ _ _ _ _ _ W (SN8.out.below hW) h1 (MN8.out.below hW) h2 (by decide) (by decide) (by decide) (by decide) (fun r hr => by have := (xyR_len [1, 1, 2, 1]).1 r hr; omega) (fun r hr => by have := (xyR_len [1, 1, 2, 1]).1 r hr; omega)
      rw [k_same] at h
      exact h
    have CT : Hid (∀ W : World, Calls Tryz.prog 20 #[] W fun e w' => ∃ p c p' c', e = .returned (.agg #[.slice p 0 c, .slice p' 1 c']) ∧ (StrsAt w' (.slice p 0 c) [] ∧ TabRows w' (.slice p' 1 c') [[]]) ∧ Below W.heap.size W w') := fun W => by
      refine (true_any W).mono ?_
      rintro e w' ⟨t, rfl, ht, hb⟩
      obtain ⟨p, c, p', c', rfl⟩ := own_forms ht
      exact ⟨p, c, p', c', rfl, own_two ht, hb⟩
    have CS2 : Hid (∀ (W : World) (q1 : Option Addr) (d1 : Nat) (q2 : Option Addr) (d2 : Nat), Below W5.heap.size W5 W → StrsAt W (.slice q1 0 d1) [] → TabRows W (.slice q2 1 d2) [[]] → Calls Tryz.prog 19 #[.agg #[.slice pr 0 cr, .slice pq 1 cq], .agg #[.slice q1 0 d1, .slice q2 1 d2]] W fun e w' => e = .returned (.bool true) ∧ Below W.heap.size W w') := fun W q1 d1 q2 d2 hW h1 h2 => by
      have h := tabsame_any _ _ _ _ _ _ _ _ W (SP8.out.1.below hW) h1 (SP8.out.2.below hW) h2 (by decide) (by decide) (by decide) (by decide) (by intro r hr; simp at hr; subst hr; decide) (by intro r hr; simp at hr; subst hr; decide)
      rw [k_true] at h
      exact h
    have CK : Hid (∀ (W : World) (q1 : Option Addr) (d1 : Nat) (q2 : Option Addr) (d2 : Nat), StrsAt W (.slice q1 2 d1) [nX, nY] → TabRows W (.slice q2 2 d2) (xyR [2, 1, 1, 1]) → Calls Tryz.prog 4 #[.agg #[.slice q1 2 d1, .slice q2 2 d2]] W fun e w' => e = .returned (.int .i64 1) ∧ Below W.heap.size W w') := fun W q1 d1 q2 d2 h1 h2 => by
      have h := tcheck_any _ _ [nX, nY] (xyR [2, 1, 1, 1]) W h1 (by decide) (xyR_fits (by intro x hx; simp at hx; omega)) (fun r hr => by have := (xyR_len [2, 1, 1, 1]).1 r hr; omega) h2 (by decide)
      rw [k_chk] at h
      exact h
    have ONE : Hid (∀ (n : Int) (W : World), Calls Tryz.prog 21 #[.int .i64 n] W fun e w' => e = .returned (.agg #[.int .i64 1, .int .i64 n, .int .i64 0, .string ⟨#[]⟩]) ∧ Below W.heap.size W w') := one_any
    have CH : Hid (∀ (W : World) (g : Nat), Below W5.heap.size W5 W → W.heap[g]? = some (.cells #[.int .i64 1, .int .i64 2, .int .i64 0, .string ⟨#[]⟩, .int .i64 1, .int .i64 1, .int .i64 0, .string ⟨#[]⟩] 45 (0, 0)) → Calls Tryz.prog 6 #[.agg #[.slice p1 2 c1, .slice p2 3 c2], .slice (some ⟨g, 0, none⟩) 2 2] W fun e w' => e = .returned (.bool true) ∧ Below W.heap.size W w') := fun W g hW hg => by
      have hr : RowAt W (.slice (some ⟨g, 0, none⟩) 2 2) [⟨1, 2, 0, ⟨#[]⟩⟩, ⟨1, 1, 0, ⟨#[]⟩⟩] := by
        refine ⟨_, 2, rfl, Or.inr ⟨g, 0, rfl, (Array.getElem?_eq_some_iff.1 hg).1, fun i hi => ?_⟩⟩
        rcases i with _ | _ | i
        · exact ⟨cell_of_heap hg 0 rfl, cell_of_heap hg 1 rfl, cell_of_heap hg 2 rfl, cell_of_heap hg 3 rfl⟩
        · exact ⟨cell_of_heap hg 4 rfl, cell_of_heap hg 5 rfl, cell_of_heap hg 6 rfl, cell_of_heap hg 7 rfl⟩
        · simp at hi; omega
      have ht := TA8.out.below hW
      have h := tabhas_any (.slice p1 2 c1) _ _ p1 2 c1 rfl (xyR lA) _ W (tab_of_vals ht.vals ht.rows) hr (by decide) gA (by decide)
      rw [k_has] at h
      exact h
    have HC0 : Hid (Below W5.heap.size W5 W5.drew) := (Below.refl _ _).drew
    clear VA6 VJ6 VN6 VP8 SN6 MN6 TA7 SP6 K8 H5 H6 H7 VA8 VJ8 VN8 VP9 C5
    refine wp_region_held_drew (S := fun W => W.cell? ⟨ga, 0, none⟩ = some (.slice p1 2 c1) ∧ W.cell? ⟨ga, 1, none⟩ = some (.slice p2 3 c2) ∧ W.cell? ⟨gj, 0, none⟩ = some (.slice p5 3 c5) ∧ W.cell? ⟨gj, 1, none⟩ = some (.slice p6 5 c6) ∧ W.cell? ⟨g6, 0, none⟩ = some (.slice pn 2 cn) ∧ W.cell? ⟨g6, 1, none⟩ = some (.slice pm 2 cm) ∧ W.cell? ⟨gp, 0, none⟩ = some (.slice pr 0 cr) ∧ W.cell? ⟨gp, 1, none⟩ = some (.slice pq 1 cq)) (by kernel_rfl) (HS.out _ HC0.out) (fun hHeld => ?_)
    refine wpAnyH_take (i := 0) (oi := ({ dst := some 46, op := Op.move (Operand.tmp 5), type := 27, pos := "law.go:63", after := #[], guard := none } : Oper)) (v := ?yv14) rfl (by kernel_rfl) (by kernel_rfl) (by kernel_rfl) (fun _ _ _ h => h) (Or.inl ⟨by rfl, ?yh14⟩) (by assumption) ?yr14
    case yh14 => (intro wq hSw; (try dsimp only at hSw); obtain ⟨s1, s2, s3, s4, s5, s6, s7, s8⟩ := hSw; go_simp; first | done | with_reducible rfl)
    try simp only [Act.put, List.setIfInBounds_toArray, List.set_cons_zero, List.set_cons_succ]
    refine wpAnyH_take (i := 1) (oi := ({ dst := some 47, op := Op.binOp BinOp.eql 27 (Operand.tmp 46) (Operand.const (Value.int IntKind.i64 0)) 27, type := 4, pos := "law.go:63", after := #[{ on := 0, ground := Ground.data }], guard := none } : Oper)) (v := ?yv15) rfl (by kernel_rfl) (by kernel_rfl) (by kernel_rfl) (fun _ _ _ h => h) (Or.inl ⟨by rfl, ?yh15⟩) (by assumption) ?yr15
    case yh15 => (intro wq hSw; (try dsimp only at hSw); obtain ⟨s1, s2, s3, s4, s5, s6, s7, s8⟩ := hSw; go_simp; first | done | with_reducible rfl)
    try simp only [Act.put, List.setIfInBounds_toArray, List.set_cons_zero, List.set_cons_succ]
    refine wpAnyH_take (i := 2) (oi := ({ dst := some 48, op := Op.move (Operand.tmp 47), type := 4, pos := "law.go:63", after := #[{ on := 1, ground := Ground.data }], guard := none } : Oper)) (v := ?yv16) rfl (by kernel_rfl) (by kernel_rfl) (by kernel_rfl) (fun _ _ _ h => h) (Or.inl ⟨by rfl, ?yh16⟩) (by assumption) ?yr16
    case yh16 => (intro wq hSw; (try dsimp only at hSw); obtain ⟨s1, s2, s3, s4, s5, s6, s7, s8⟩ := hSw; go_simp; first | done | with_reducible rfl)
    try simp only [Act.put, List.setIfInBounds_toArray, List.set_cons_zero, List.set_cons_succ]
    refine wpAnyH_take (i := 3) (oi := ({ dst := some 49, op := Op.fieldAddr 25 (Operand.tmp 4) 1, type := 0, pos := "law.go:63", after := #[{ on := 2, ground := Ground.guard }], guard := some (2, true) } : Oper)) (v := ?yv17) rfl (by kernel_rfl) (by kernel_rfl) (by kernel_rfl) (fun _ _ _ h => h) (Or.inl ⟨by rfl, ?yh17⟩) (by assumption) ?yr17
    case yh17 => (intro wq hSw; (try dsimp only at hSw); obtain ⟨s1, s2, s3, s4, s5, s6, s7, s8⟩ := hSw; go_simp; first | done | with_reducible rfl)
    try simp only [Act.put, List.setIfInBounds_toArray, List.set_cons_zero, List.set_cons_succ]
    refine wpAnyH_take (i := 4) (oi := ({ dst := some 50, op := Op.load 23 (Operand.tmp 49), type := 23, pos := "law.go:63", after := #[{ on := 3, ground := Ground.data }, { on := 2, ground := Ground.guard }], guard := some (2, true) } : Oper)) (v := ?yv18) rfl (by kernel_rfl) (by kernel_rfl) (by kernel_rfl) (fun _ _ _ h => h) (Or.inl ⟨by rfl, ?yh18⟩) (by assumption) ?yr18
    case yh18 => (intro wq hSw; (try dsimp only at hSw); obtain ⟨s1, s2, s3, s4, s5, s6, s7, s8⟩ := hSw; go_simp; first | done | with_reducible rfl)
    try simp only [Act.put, List.setIfInBounds_toArray, List.set_cons_zero, List.set_cons_succ]
    refine wpAnyH_take (i := 5) (oi := ({ dst := some 51, op := Op.call { callee := Callee.builtin Builtin.len, args := #[Operand.tmp 50], argTypes := #[23] }, type := 3, pos := "law.go:63", after := #[{ on := 4, ground := Ground.data }, { on := 2, ground := Ground.guard }], guard := some (2, true) } : Oper)) (v := ?yv19) rfl (by kernel_rfl) (by kernel_rfl) (by kernel_rfl) (fun _ _ _ h => h) (Or.inl ⟨by rfl, ?yh19⟩) (by assumption) ?yr19
    case yh19 => (intro wq hSw; (try dsimp only at hSw); obtain ⟨s1, s2, s3, s4, s5, s6, s7, s8⟩ := hSw; go_simp; first | done | with_reducible rfl)
    try simp only [Act.put, List.setIfInBounds_toArray, List.set_cons_zero, List.set_cons_succ]
    refine wpAnyH_take (i := 6) (oi := ({ dst := some 52, op := Op.binOp BinOp.eql 3 (Operand.tmp 51) (Operand.const (Value.int IntKind.i64 5)) 3, type := 4, pos := "law.go:63", after := #[{ on := 5, ground := Ground.data }, { on := 2, ground := Ground.guard }], guard := some (2, true) } : Oper)) (v := ?yv20) rfl (by kernel_rfl) (by kernel_rfl) (by kernel_rfl) (fun _ _ _ h => h) (Or.inl ⟨by rfl, ?yh20⟩) (by assumption) ?yr20
    case yh20 => (intro wq hSw; (try dsimp only at hSw); obtain ⟨s1, s2, s3, s4, s5, s6, s7, s8⟩ := hSw; go_simp; first | done | with_reducible rfl)
    try simp only [Act.put, List.setIfInBounds_toArray, List.set_cons_zero, List.set_cons_succ]
    refine wpAnyH_take (i := 7) (oi := ({ dst := some 53, op := Op.pick (Operand.tmp 48) (Operand.tmp 52) (Operand.const (Value.bool false)), type := 4, pos := "law.go:63", after := #[{ on := 2, ground := Ground.data }, { on := 6, ground := Ground.data }], guard := none } : Oper)) (v := ?yv21) rfl (by kernel_rfl) (by kernel_rfl) (by kernel_rfl) (fun _ _ _ h => h) (Or.inl ⟨by rfl, ?yh21⟩) (by assumption) ?yr21
    case yh21 => (intro wq hSw; (try dsimp only at hSw); obtain ⟨s1, s2, s3, s4, s5, s6, s7, s8⟩ := hSw; go_simp; first | done | with_reducible rfl)
    try simp only [Act.put, List.setIfInBounds_toArray, List.set_cons_zero, List.set_cons_succ]
    refine wpAnyH_take (i := 8) (oi := ({ dst := some 54, op := Op.move (Operand.tmp 53), type := 4, pos := "law.go:63", after := #[{ on := 7, ground := Ground.data }, { on := 2, ground := Ground.chain }], guard := none } : Oper)) (v := ?yv22) rfl (by kernel_rfl) (by kernel_rfl) (by kernel_rfl) (fun _ _ _ h => h) (Or.inl ⟨by rfl, ?yh22⟩) (by assumption) ?yr22
    case yh22 => (intro wq hSw; (try dsimp only at hSw); obtain ⟨s1, s2, s3, s4, s5, s6, s7, s8⟩ := hSw; go_simp; first | done | with_reducible rfl)
    try simp only [Act.put, List.setIfInBounds_toArray, List.set_cons_zero, List.set_cons_succ]
    refine wpAnyH_take (i := 9) (oi := ({ dst := some 55, op := Op.fieldAddr 25 (Operand.tmp 4) 0, type := 0, pos := "law.go:63", after := #[{ on := 8, ground := Ground.guard }], guard := some (8, true) } : Oper)) (v := ?yv23) rfl (by kernel_rfl) (by kernel_rfl) (by kernel_rfl) (fun _ _ _ h => h) (Or.inl ⟨by rfl, ?yh23⟩) (by assumption) ?yr23
    case yh23 => (intro wq hSw; (try dsimp only at hSw); obtain ⟨s1, s2, s3, s4, s5, s6, s7, s8⟩ := hSw; go_simp; first | done | with_reducible rfl)
    try simp only [Act.put, List.setIfInBounds_toArray, List.set_cons_zero, List.set_cons_succ]
    refine wpAnyH_take (i := 10) (oi := ({ dst := some 56, op := Op.load 22 (Operand.tmp 55), type := 22, pos := "law.go:63", after := #[{ on := 9, ground := Ground.data }, { on := 8, ground := Ground.guard }], guard := some (8, true) } : Oper)) (v := ?yv24) rfl (by kernel_rfl) (by kernel_rfl) (by kernel_rfl) (fun _ _ _ h => h) (Or.inl ⟨by rfl, ?yh24⟩) (by assumption) ?yr24
    case yh24 => (intro wq hSw; (try dsimp only at hSw); obtain ⟨s1, s2, s3, s4, s5, s6, s7, s8⟩ := hSw; go_simp; first | done | with_reducible rfl)
    try simp only [Act.put, List.setIfInBounds_toArray, List.set_cons_zero, List.set_cons_succ]
    refine wpAnyH_take (i := 11) (oi := ({ dst := some 57, op := Op.call { callee := Callee.builtin Builtin.len, args := #[Operand.tmp 56], argTypes := #[22] }, type := 3, pos := "law.go:63", after := #[{ on := 10, ground := Ground.data }, { on := 8, ground := Ground.guard }], guard := some (8, true) } : Oper)) (v := ?yv25) rfl (by kernel_rfl) (by kernel_rfl) (by kernel_rfl) (fun _ _ _ h => h) (Or.inl ⟨by rfl, ?yh25⟩) (by assumption) ?yr25
    case yh25 => (intro wq hSw; (try dsimp only at hSw); obtain ⟨s1, s2, s3, s4, s5, s6, s7, s8⟩ := hSw; go_simp; first | done | with_reducible rfl)
    try simp only [Act.put, List.setIfInBounds_toArray, List.set_cons_zero, List.set_cons_succ]
    refine wpAnyH_take (i := 12) (oi := ({ dst := some 58, op := Op.binOp BinOp.eql 3 (Operand.tmp 57) (Operand.const (Value.int IntKind.i64 3)) 3, type := 4, pos := "law.go:63", after := #[{ on := 11, ground := Ground.data }, { on := 8, ground := Ground.guard }], guard := some (8, true) } : Oper)) (v := ?yv26) rfl (by kernel_rfl) (by kernel_rfl) (by kernel_rfl) (fun _ _ _ h => h) (Or.inl ⟨by rfl, ?yh26⟩) (by assumption) ?yr26
    case yh26 => (intro wq hSw; (try dsimp only at hSw); obtain ⟨s1, s2, s3, s4, s5, s6, s7, s8⟩ := hSw; go_simp; first | done | with_reducible rfl)
    try simp only [Act.put, List.setIfInBounds_toArray, List.set_cons_zero, List.set_cons_succ]
    refine wpAnyH_take (i := 13) (oi := ({ dst := some 59, op := Op.pick (Operand.tmp 54) (Operand.tmp 58) (Operand.const (Value.bool false)), type := 4, pos := "law.go:63", after := #[{ on := 8, ground := Ground.data }, { on := 12, ground := Ground.data }], guard := none } : Oper)) (v := ?yv27) rfl (by kernel_rfl) (by kernel_rfl) (by kernel_rfl) (fun _ _ _ h => h) (Or.inl ⟨by rfl, ?yh27⟩) (by assumption) ?yr27
    case yh27 => (intro wq hSw; (try dsimp only at hSw); obtain ⟨s1, s2, s3, s4, s5, s6, s7, s8⟩ := hSw; go_simp; first | done | with_reducible rfl)
    try simp only [Act.put, List.setIfInBounds_toArray, List.set_cons_zero, List.set_cons_succ]
    refine wpAnyH_take (i := 14) (oi := ({ dst := some 60, op := Op.move (Operand.tmp 59), type := 4, pos := "law.go:63", after := #[{ on := 13, ground := Ground.data }, { on := 8, ground := Ground.chain }], guard := none } : Oper)) (v := ?yv28) rfl (by kernel_rfl) (by kernel_rfl) (by kernel_rfl) (fun _ _ _ h => h) (Or.inl ⟨by rfl, ?yh28⟩) (by assumption) ?yr28
    case yh28 => (intro wq hSw; (try dsimp only at hSw); obtain ⟨s1, s2, s3, s4, s5, s6, s7, s8⟩ := hSw; go_simp; first | done | with_reducible rfl)
    try simp only [Act.put, List.setIfInBounds_toArray, List.set_cons_zero, List.set_cons_succ]
    refine wpAnyH_take (i := 15) (oi := ({ dst := some 61, op := Op.move (Operand.tmp 7), type := 27, pos := "law.go:63", after := #[{ on := 14, ground := Ground.guard }], guard := some (14, true) } : Oper)) (v := ?yv29) rfl (by kernel_rfl) (by kernel_rfl) (by kernel_rfl) (fun _ _ _ h => h) (Or.inl ⟨by rfl, ?yh29⟩) (by assumption) ?yr29
    case yh29 => (intro wq hSw; (try dsimp only at hSw); obtain ⟨s1, s2, s3, s4, s5, s6, s7, s8⟩ := hSw; go_simp; first | done | with_reducible rfl)
    try simp only [Act.put, List.setIfInBounds_toArray, List.set_cons_zero, List.set_cons_succ]
    refine wpAnyH_take (i := 16) (oi := ({ dst := some 62, op := Op.binOp BinOp.eql 27 (Operand.tmp 61) (Operand.const (Value.int IntKind.i64 0)) 27, type := 4, pos := "law.go:63", after := #[{ on := 15, ground := Ground.data }, { on := 14, ground := Ground.guard }], guard := some (14, true) } : Oper)) (v := ?yv30) rfl (by kernel_rfl) (by kernel_rfl) (by kernel_rfl) (fun _ _ _ h => h) (Or.inl ⟨by rfl, ?yh30⟩) (by assumption) ?yr30
    case yh30 => (intro wq hSw; (try dsimp only at hSw); obtain ⟨s1, s2, s3, s4, s5, s6, s7, s8⟩ := hSw; go_simp; first | done | with_reducible rfl)
    try simp only [Act.put, List.setIfInBounds_toArray, List.set_cons_zero, List.set_cons_succ]
    refine wpAnyH_take (i := 17) (oi := ({ dst := some 63, op := Op.pick (Operand.tmp 60) (Operand.tmp 62) (Operand.const (Value.bool false)), type := 4, pos := "law.go:63", after := #[{ on := 14, ground := Ground.data }, { on := 16, ground := Ground.data }], guard := none } : Oper)) (v := ?yv31) rfl (by kernel_rfl) (by kernel_rfl) (by kernel_rfl) (fun _ _ _ h => h) (Or.inl ⟨by rfl, ?yh31⟩) (by assumption) ?yr31
    case yh31 => (intro wq hSw; (try dsimp only at hSw); obtain ⟨s1, s2, s3, s4, s5, s6, s7, s8⟩ := hSw; go_simp; first | done | with_reducible rfl)
    try simp only [Act.put, List.setIfInBounds_toArray, List.set_cons_zero, List.set_cons_succ]
    refine wpAnyH_take (i := 18) (oi := ({ dst := some 64, op := Op.move (Operand.tmp 63), type := 4, pos := "law.go:63", after := #[{ on := 17, ground := Ground.data }, { on := 14, ground := Ground.chain }], guard := none } : Oper)) (v := ?yv32) rfl (by kernel_rfl) (by kernel_rfl) (by kernel_rfl) (fun _ _ _ h => h) (Or.inl ⟨by rfl, ?yh32⟩) (by assumption) ?yr32
    case yh32 => (intro wq hSw; (try dsimp only at hSw); obtain ⟨s1, s2, s3, s4, s5, s6, s7, s8⟩ := hSw; go_simp; first | done | with_reducible rfl)
    try simp only [Act.put, List.setIfInBounds_toArray, List.set_cons_zero, List.set_cons_succ]
    refine wpAnyH_take (i := 19) (oi := ({ dst := some 65, op := Op.load 25 (Operand.tmp 6), type := 25, pos := "law.go:63", after := #[{ on := 18, ground := Ground.guard }], guard := some (18, true) } : Oper)) (v := ?yv33) rfl (by kernel_rfl) (by kernel_rfl) (by kernel_rfl) (fun _ _ _ h => h) (Or.inl ⟨by rfl, ?yh33⟩) (by assumption) ?yr33
    case yh33 => (intro wq hSw; (try dsimp only at hSw); obtain ⟨s1, s2, s3, s4, s5, s6, s7, s8⟩ := hSw; go_simp; first | done | with_reducible rfl)
    try simp only [Act.put, List.setIfInBounds_toArray, List.set_cons_zero, List.set_cons_succ]
    refine wpAnyH_ready (rs := [20]) (by kernel_rfl) (by simp) ?_
    refine AllReadyH.cons (o := ({ dst := some 66, op := Op.buildSlice 64 4 #[(0, Operand.const (Value.int IntKind.i64 1)), (1, Operand.const (Value.int IntKind.i64 1)), (2, Operand.const (Value.int IntKind.i64 2)), (3, Operand.const (Value.int IntKind.i64 1))], type := 64, pos := "law.go:63", after := #[{ on := 18, ground := Ground.guard }], guard := some (18, true) } : Oper)) rfl (fun K hK => ?_) AllReadyH.nil
    go_simp
    have hs1 : Below ((W5).drew).heap.size ((W5).drew) (((W5).alloc (.cells #[.int .i64 1, .int .i64 1, .int .i64 2, .int .i64 1] 2)).drew) := re_below ((Below.refl (W5).heap.size (W5)).alloc (Nat.le_refl _) _)
    have HC1 : Hid (Below W5.heap.size W5 (((W5).alloc (.cells #[.int .i64 1, .int .i64 1, .int .i64 2, .int .i64 1] 2)).drew)) := HC0.out.trans (hs1.mono HC0.out.size)
    have L1 : Hid ((((W5).alloc (.cells #[.int .i64 1, .int .i64 1, .int .i64 2, .int .i64 1] 2)).drew).heap[W5.heap.size]? = some (.cells #[.int .i64 1, .int .i64 1, .int .i64 2, .int .i64 1] 2 (0, 0))) := at_size (P := fun g => (((W5).alloc (.cells #[.int .i64 1, .int .i64 1, .int .i64 2, .int .i64 1] 2)).drew).heap[g]? = some (.cells #[.int .i64 1, .int .i64 1, .int .i64 2, .int .i64 1] 2 (0, 0))) (heap_alloc (W5) _) (by simp)
    clear hs1
    refine hK.out _ _ (HS.out _ HC1.out) (fun hHeld => ?_)
    clear hK K
    try simp only [Act.put, List.setIfInBounds_toArray, List.set_cons_zero, List.set_cons_succ]
    refine wpAnyH_ready (rs := [21]) (by kernel_rfl) (by simp) ?_
    refine AllReadyH.cons (o := ({ dst := some 67, op := Op.call { callee := Callee.value (Operand.func 14), args := #[Operand.tmp 66], argTypes := #[64] }, type := 25, pos := "law.go:63", after := #[{ on := 20, ground := Ground.data }, { on := 18, ground := Ground.chain }, { on := 18, ground := Ground.guard }], guard := some (18, true) } : Oper)) rfl (fun K hK => ?_) AllReadyH.nil
    go_simp
    refine (C8.out _ _ 1 1 2 1 L1.out).mono ?_
    rintro e z2 ⟨q1, d1, q2, d2, rfl, tx1, hb2⟩
    have HC2 : Hid (Below W5.heap.size W5 z2) := HC1.out.trans (hb2.mono HC1.out.size)
    have TX1 : Hid (StrsAt z2 (.slice q1 2 d1) [nX, nY] ∧ TabRows z2 (.slice q2 2 d2) (xyR [1, 1, 2, 1])) := tx1
    clear tx1 L1
    clear hb2
    dsimp only
    refine hK.out _ _ (HS.out _ HC2.out) (fun hHeld => ?_)
    clear hK K
    try simp only [Act.put, List.setIfInBounds_toArray, List.set_cons_zero, List.set_cons_succ]
    refine wpAnyH_ready (rs := [22]) (by kernel_rfl) (by simp) ?_
    refine AllReadyH.cons (o := ({ dst := some 68, op := Op.call { callee := Callee.value (Operand.func 19), args := #[Operand.tmp 65, Operand.tmp 67], argTypes := #[25, 25] }, type := 4, pos := "law.go:63", after := #[{ on := 19, ground := Ground.data }, { on := 21, ground := Ground.data }, { on := 21, ground := Ground.chain }, { on := 18, ground := Ground.guard }], guard := some (18, true) } : Oper)) rfl (fun K hK => ?_) AllReadyH.nil
    go_simp
    refine (CS1.out _ _ _ _ _ HC2.out TX1.out.1 TX1.out.2).mono ?_
    rintro e z3 ⟨rfl, hb3⟩
    have HC3 : Hid (Below W5.heap.size W5 z3) := HC2.out.trans (hb3.mono HC2.out.size)
    clear TX1
    clear hb3
    dsimp only
    refine hK.out _ _ (HS.out _ HC3.out) (fun hHeld => ?_)
    clear hK K
    try simp only [Act.put, List.setIfInBounds_toArray, List.set_cons_zero, List.set_cons_succ]
    refine wpAnyH_take (i := 23) (oi := ({ dst := some 69, op := Op.pick (Operand.tmp 64) (Operand.tmp 68) (Operand.const (Value.bool false)), type := 4, pos := "law.go:63", after := #[{ on := 18, ground := Ground.data }, { on := 22, ground := Ground.data }], guard := none } : Oper)) (v := ?yv34) rfl (by kernel_rfl) (by kernel_rfl) (by kernel_rfl) (fun _ _ _ h => h) (Or.inl ⟨by rfl, ?yh34⟩) (by assumption) ?yr34
    case yh34 => (intro wq hSw; (try dsimp only at hSw); obtain ⟨s1, s2, s3, s4, s5, s6, s7, s8⟩ := hSw; go_simp; first | done | with_reducible rfl)
    try simp only [Act.put, List.setIfInBounds_toArray, List.set_cons_zero, List.set_cons_succ]
    refine wpAnyH_take (i := 24) (oi := ({ dst := some 70, op := Op.move (Operand.tmp 69), type := 4, pos := "law.go:63", after := #[{ on := 23, ground := Ground.data }, { on := 22, ground := Ground.chain }], guard := none } : Oper)) (v := ?yv35) rfl (by kernel_rfl) (by kernel_rfl) (by kernel_rfl) (fun _ _ _ h => h) (Or.inl ⟨by rfl, ?yh35⟩) (by assumption) ?yr35
    case yh35 => (intro wq hSw; (try dsimp only at hSw); obtain ⟨s1, s2, s3, s4, s5, s6, s7, s8⟩ := hSw; go_simp; first | done | with_reducible rfl)
    try simp only [Act.put, List.setIfInBounds_toArray, List.set_cons_zero, List.set_cons_succ]
    refine wpAnyH_take (i := 25) (oi := ({ dst := some 71, op := Op.move (Operand.tmp 9), type := 27, pos := "law.go:63", after := #[{ on := 24, ground := Ground.guard }], guard := some (24, true) } : Oper)) (v := ?yv36) rfl (by kernel_rfl) (by kernel_rfl) (by kernel_rfl) (fun _ _ _ h => h) (Or.inl ⟨by rfl, ?yh36⟩) (by assumption) ?yr36
    case yh36 => (intro wq hSw; (try dsimp only at hSw); obtain ⟨s1, s2, s3, s4, s5, s6, s7, s8⟩ := hSw; go_simp; first | done | with_reducible rfl)
    try simp only [Act.put, List.setIfInBounds_toArray, List.set_cons_zero, List.set_cons_succ]
    refine wpAnyH_take (i := 26) (oi := ({ dst := some 72, op := Op.binOp BinOp.eql 27 (Operand.tmp 71) (Operand.const (Value.int IntKind.i64 0)) 27, type := 4, pos := "law.go:63", after := #[{ on := 25, ground := Ground.data }, { on := 24, ground := Ground.guard }], guard := some (24, true) } : Oper)) (v := ?yv37) rfl (by kernel_rfl) (by kernel_rfl) (by kernel_rfl) (fun _ _ _ h => h) (Or.inl ⟨by rfl, ?yh37⟩) (by assumption) ?yr37
    case yh37 => (intro wq hSw; (try dsimp only at hSw); obtain ⟨s1, s2, s3, s4, s5, s6, s7, s8⟩ := hSw; go_simp; first | done | with_reducible rfl)
    try simp only [Act.put, List.setIfInBounds_toArray, List.set_cons_zero, List.set_cons_succ]
    refine wpAnyH_take (i := 27) (oi := ({ dst := some 73, op := Op.pick (Operand.tmp 70) (Operand.tmp 72) (Operand.const (Value.bool false)), type := 4, pos := "law.go:63", after := #[{ on := 24, ground := Ground.data }, { on := 26, ground := Ground.data }], guard := none } : Oper)) (v := ?yv38) rfl (by kernel_rfl) (by kernel_rfl) (by kernel_rfl) (fun _ _ _ h => h) (Or.inl ⟨by rfl, ?yh38⟩) (by assumption) ?yr38
    case yh38 => (intro wq hSw; (try dsimp only at hSw); obtain ⟨s1, s2, s3, s4, s5, s6, s7, s8⟩ := hSw; go_simp; first | done | with_reducible rfl)
    try simp only [Act.put, List.setIfInBounds_toArray, List.set_cons_zero, List.set_cons_succ]
    refine wpAnyH_take (i := 28) (oi := ({ dst := some 74, op := Op.move (Operand.tmp 73), type := 4, pos := "law.go:63", after := #[{ on := 27, ground := Ground.data }, { on := 24, ground := Ground.chain }], guard := none } : Oper)) (v := ?yv39) rfl (by kernel_rfl) (by kernel_rfl) (by kernel_rfl) (fun _ _ _ h => h) (Or.inl ⟨by rfl, ?yh39⟩) (by assumption) ?yr39
    case yh39 => (intro wq hSw; (try dsimp only at hSw); obtain ⟨s1, s2, s3, s4, s5, s6, s7, s8⟩ := hSw; go_simp; first | done | with_reducible rfl)
    try simp only [Act.put, List.setIfInBounds_toArray, List.set_cons_zero, List.set_cons_succ]
    refine wpAnyH_take (i := 29) (oi := ({ dst := some 75, op := Op.load 25 (Operand.tmp 8), type := 25, pos := "law.go:63", after := #[{ on := 28, ground := Ground.guard }], guard := some (28, true) } : Oper)) (v := ?yv40) rfl (by kernel_rfl) (by kernel_rfl) (by kernel_rfl) (fun _ _ _ h => h) (Or.inl ⟨by rfl, ?yh40⟩) (by assumption) ?yr40
    case yh40 => (intro wq hSw; (try dsimp only at hSw); obtain ⟨s1, s2, s3, s4, s5, s6, s7, s8⟩ := hSw; go_simp; first | done | with_reducible rfl)
    try simp only [Act.put, List.setIfInBounds_toArray, List.set_cons_zero, List.set_cons_succ]
    refine wpAnyH_ready (rs := [30]) (by kernel_rfl) (by simp) ?_
    refine AllReadyH.cons (o := ({ dst := some 76, op := Op.call { callee := Callee.value (Operand.func 20), args := #[], argTypes := #[] }, type := 25, pos := "law.go:63", after := #[{ on := 28, ground := Ground.chain }, { on := 28, ground := Ground.guard }], guard := some (28, true) } : Oper)) rfl (fun K hK => ?_) AllReadyH.nil
    go_simp
    refine (CT.out _).mono ?_
    rintro e z4 ⟨q3, d3, q4, d4, rfl, tx3, hb4⟩
    have HC4 : Hid (Below W5.heap.size W5 z4) := HC3.out.trans (hb4.mono HC3.out.size)
    have TX3 : Hid (StrsAt z4 (.slice q3 0 d3) [] ∧ TabRows z4 (.slice q4 1 d4) [[]]) := tx3
    clear tx3
    clear hb4
    dsimp only
    refine hK.out _ _ (HS.out _ HC4.out) (fun hHeld => ?_)
    clear hK K
    try simp only [Act.put, List.setIfInBounds_toArray, List.set_cons_zero, List.set_cons_succ]
    refine wpAnyH_ready (rs := [31]) (by kernel_rfl) (by simp) ?_
    refine AllReadyH.cons (o := ({ dst := some 77, op := Op.call { callee := Callee.value (Operand.func 19), args := #[Operand.tmp 75, Operand.tmp 76], argTypes := #[25, 25] }, type := 4, pos := "law.go:63", after := #[{ on := 29, ground := Ground.data }, { on := 30, ground := Ground.data }, { on := 30, ground := Ground.chain }, { on := 28, ground := Ground.guard }], guard := some (28, true) } : Oper)) rfl (fun K hK => ?_) AllReadyH.nil
    go_simp
    refine (CS2.out _ _ _ _ _ HC4.out TX3.out.1 TX3.out.2).mono ?_
    rintro e z5 ⟨rfl, hb5⟩
    have HC5 : Hid (Below W5.heap.size W5 z5) := HC4.out.trans (hb5.mono HC4.out.size)
    clear TX3
    clear hb5
    dsimp only
    refine hK.out _ _ (HS.out _ HC5.out) (fun hHeld => ?_)
    clear hK K
    try simp only [Act.put, List.setIfInBounds_toArray, List.set_cons_zero, List.set_cons_succ]
    refine wpAnyH_take (i := 32) (oi := ({ dst := some 78, op := Op.pick (Operand.tmp 74) (Operand.tmp 77) (Operand.const (Value.bool false)), type := 4, pos := "law.go:63", after := #[{ on := 28, ground := Ground.data }, { on := 31, ground := Ground.data }], guard := none } : Oper)) (v := ?yv41) rfl (by kernel_rfl) (by kernel_rfl) (by kernel_rfl) (fun _ _ _ h => h) (Or.inl ⟨by rfl, ?yh41⟩) (by assumption) ?yr41
    case yh41 => (intro wq hSw; (try dsimp only at hSw); obtain ⟨s1, s2, s3, s4, s5, s6, s7, s8⟩ := hSw; go_simp; first | done | with_reducible rfl)
    try simp only [Act.put, List.setIfInBounds_toArray, List.set_cons_zero, List.set_cons_succ]
    refine wpAnyH_take (i := 33) (oi := ({ dst := some 79, op := Op.move (Operand.tmp 78), type := 4, pos := "law.go:63", after := #[{ on := 32, ground := Ground.data }, { on := 31, ground := Ground.chain }], guard := none } : Oper)) (v := ?yv42) rfl (by kernel_rfl) (by kernel_rfl) (by kernel_rfl) (fun _ _ _ h => h) (Or.inl ⟨by rfl, ?yh42⟩) (by assumption) ?yr42
    case yh42 => (intro wq hSw; (try dsimp only at hSw); obtain ⟨s1, s2, s3, s4, s5, s6, s7, s8⟩ := hSw; go_simp; first | done | with_reducible rfl)
    try simp only [Act.put, List.setIfInBounds_toArray, List.set_cons_zero, List.set_cons_succ]
    refine wpAnyH_take (i := 34) (oi := ({ dst := some 80, op := Op.move (Operand.tmp 11), type := 27, pos := "law.go:63", after := #[{ on := 33, ground := Ground.guard }], guard := some (33, true) } : Oper)) (v := ?yv43) rfl (by kernel_rfl) (by kernel_rfl) (by kernel_rfl) (fun _ _ _ h => h) (Or.inl ⟨by rfl, ?yh43⟩) (by assumption) ?yr43
    case yh43 => (intro wq hSw; (try dsimp only at hSw); obtain ⟨s1, s2, s3, s4, s5, s6, s7, s8⟩ := hSw; go_simp; first | done | with_reducible rfl)
    try simp only [Act.put, List.setIfInBounds_toArray, List.set_cons_zero, List.set_cons_succ]
    refine wpAnyH_take (i := 35) (oi := ({ dst := some 81, op := Op.binOp BinOp.eql 27 (Operand.tmp 80) (Operand.const (Value.int IntKind.i64 30)) 27, type := 4, pos := "law.go:63", after := #[{ on := 34, ground := Ground.data }, { on := 33, ground := Ground.guard }], guard := some (33, true) } : Oper)) (v := ?yv44) rfl (by kernel_rfl) (by kernel_rfl) (by kernel_rfl) (fun _ _ _ h => h) (Or.inl ⟨by rfl, ?yh44⟩) (by assumption) ?yr44
    case yh44 => (intro wq hSw; (try dsimp only at hSw); obtain ⟨s1, s2, s3, s4, s5, s6, s7, s8⟩ := hSw; go_simp; first | done | with_reducible rfl)
    try simp only [Act.put, List.setIfInBounds_toArray, List.set_cons_zero, List.set_cons_succ]
    refine wpAnyH_take (i := 36) (oi := ({ dst := some 82, op := Op.pick (Operand.tmp 79) (Operand.tmp 81) (Operand.const (Value.bool false)), type := 4, pos := "law.go:63", after := #[{ on := 33, ground := Ground.data }, { on := 35, ground := Ground.data }], guard := none } : Oper)) (v := ?yv45) rfl (by kernel_rfl) (by kernel_rfl) (by kernel_rfl) (fun _ _ _ h => h) (Or.inl ⟨by rfl, ?yh45⟩) (by assumption) ?yr45
    case yh45 => (intro wq hSw; (try dsimp only at hSw); obtain ⟨s1, s2, s3, s4, s5, s6, s7, s8⟩ := hSw; go_simp; first | done | with_reducible rfl)
    try simp only [Act.put, List.setIfInBounds_toArray, List.set_cons_zero, List.set_cons_succ]
    refine wpAnyH_take (i := 37) (oi := ({ dst := some 83, op := Op.move (Operand.tmp 82), type := 4, pos := "law.go:63", after := #[{ on := 36, ground := Ground.data }, { on := 33, ground := Ground.chain }], guard := none } : Oper)) (v := ?yv46) rfl (by kernel_rfl) (by kernel_rfl) (by kernel_rfl) (fun _ _ _ h => h) (Or.inl ⟨by rfl, ?yh46⟩) (by assumption) ?yr46
    case yh46 => (intro wq hSw; (try dsimp only at hSw); obtain ⟨s1, s2, s3, s4, s5, s6, s7, s8⟩ := hSw; go_simp; first | done | with_reducible rfl)
    try simp only [Act.put, List.setIfInBounds_toArray, List.set_cons_zero, List.set_cons_succ]
    refine wpAnyH_ready (rs := [38]) (by kernel_rfl) (by simp) ?_
    refine AllReadyH.cons (o := ({ dst := some 84, op := Op.buildSlice 64 4 #[(0, Operand.const (Value.int IntKind.i64 2)), (1, Operand.const (Value.int IntKind.i64 1)), (2, Operand.const (Value.int IntKind.i64 1)), (3, Operand.const (Value.int IntKind.i64 1))], type := 64, pos := "law.go:63", after := #[{ on := 37, ground := Ground.guard }], guard := some (37, true) } : Oper)) rfl (fun K hK => ?_) AllReadyH.nil
    go_simp
    have hs6 : Below (z5).heap.size (z5) ((z5).alloc (.cells #[.int .i64 2, .int .i64 1, .int .i64 1, .int .i64 1] 2)) := re_below ((Below.refl (z5).heap.size (z5)).alloc (Nat.le_refl _) _)
    have HC6 : Hid (Below W5.heap.size W5 ((z5).alloc (.cells #[.int .i64 2, .int .i64 1, .int .i64 1, .int .i64 1] 2))) := HC5.out.trans (hs6.mono HC5.out.size)
    have L2 : Hid (((z5).alloc (.cells #[.int .i64 2, .int .i64 1, .int .i64 1, .int .i64 1] 2)).heap[z5.heap.size]? = some (.cells #[.int .i64 2, .int .i64 1, .int .i64 1, .int .i64 1] 2 (0, 0))) := at_size (P := fun g => ((z5).alloc (.cells #[.int .i64 2, .int .i64 1, .int .i64 1, .int .i64 1] 2)).heap[g]? = some (.cells #[.int .i64 2, .int .i64 1, .int .i64 1, .int .i64 1] 2 (0, 0))) (heap_alloc (z5) _) (by simp)
    clear hs6
    refine hK.out _ _ (HS.out _ HC6.out) (fun hHeld => ?_)
    clear hK K
    try simp only [Act.put, List.setIfInBounds_toArray, List.set_cons_zero, List.set_cons_succ]
    refine wpAnyH_ready (rs := [39]) (by kernel_rfl) (by simp) ?_
    refine AllReadyH.cons (o := ({ dst := some 85, op := Op.call { callee := Callee.value (Operand.func 14), args := #[Operand.tmp 84], argTypes := #[64] }, type := 25, pos := "law.go:63", after := #[{ on := 38, ground := Ground.data }, { on := 37, ground := Ground.chain }, { on := 37, ground := Ground.guard }], guard := some (37, true) } : Oper)) rfl (fun K hK => ?_) AllReadyH.nil
    go_simp
    refine (C8.out _ _ 2 1 1 1 L2.out).mono ?_
    rintro e z7 ⟨q5, d5, q6, d6, rfl, tx2, hb7⟩
    have HC7 : Hid (Below W5.heap.size W5 z7) := HC6.out.trans (hb7.mono HC6.out.size)
    have TX2 : Hid (StrsAt z7 (.slice q5 2 d5) [nX, nY] ∧ TabRows z7 (.slice q6 2 d6) (xyR [2, 1, 1, 1])) := tx2
    clear tx2 L2
    clear hb7
    dsimp only
    refine hK.out _ _ (HS.out _ HC7.out) (fun hHeld => ?_)
    clear hK K
    try simp only [Act.put, List.setIfInBounds_toArray, List.set_cons_zero, List.set_cons_succ]
    refine wpAnyH_ready (rs := [40]) (by kernel_rfl) (by simp) ?_
    refine AllReadyH.cons (o := ({ dst := some 86, op := Op.call { callee := Callee.value (Operand.func 4), args := #[Operand.tmp 85], argTypes := #[25] }, type := 27, pos := "law.go:63", after := #[{ on := 39, ground := Ground.data }, { on := 39, ground := Ground.chain }, { on := 37, ground := Ground.guard }], guard := some (37, true) } : Oper)) rfl (fun K hK => ?_) AllReadyH.nil
    go_simp
    refine (CK.out _ _ _ _ _ TX2.out.1 TX2.out.2).mono ?_
    rintro e z8 ⟨rfl, hb8⟩
    have HC8 : Hid (Below W5.heap.size W5 z8) := HC7.out.trans (hb8.mono HC7.out.size)
    clear TX2
    clear hb8
    dsimp only
    refine hK.out _ _ (HS.out _ HC8.out) (fun hHeld => ?_)
    clear hK K
    try simp only [Act.put, List.setIfInBounds_toArray, List.set_cons_zero, List.set_cons_succ]
    refine wpAnyH_take (i := 41) (oi := ({ dst := some 87, op := Op.binOp BinOp.eql 27 (Operand.tmp 86) (Operand.const (Value.int IntKind.i64 1)) 27, type := 4, pos := "law.go:63", after := #[{ on := 40, ground := Ground.data }, { on := 37, ground := Ground.guard }], guard := some (37, true) } : Oper)) (v := ?yv47) rfl (by kernel_rfl) (by kernel_rfl) (by kernel_rfl) (fun _ _ _ h => h) (Or.inl ⟨by rfl, ?yh47⟩) (by assumption) ?yr47
    case yh47 => (intro wq hSw; (try dsimp only at hSw); obtain ⟨s1, s2, s3, s4, s5, s6, s7, s8⟩ := hSw; go_simp; first | done | with_reducible rfl)
    try simp only [Act.put, List.setIfInBounds_toArray, List.set_cons_zero, List.set_cons_succ]
    refine wpAnyH_take (i := 42) (oi := ({ dst := some 88, op := Op.pick (Operand.tmp 83) (Operand.tmp 87) (Operand.const (Value.bool false)), type := 4, pos := "law.go:63", after := #[{ on := 37, ground := Ground.data }, { on := 41, ground := Ground.data }], guard := none } : Oper)) (v := ?yv48) rfl (by kernel_rfl) (by kernel_rfl) (by kernel_rfl) (fun _ _ _ h => h) (Or.inl ⟨by rfl, ?yh48⟩) (by assumption) ?yr48
    case yh48 => (intro wq hSw; (try dsimp only at hSw); obtain ⟨s1, s2, s3, s4, s5, s6, s7, s8⟩ := hSw; go_simp; first | done | with_reducible rfl)
    try simp only [Act.put, List.setIfInBounds_toArray, List.set_cons_zero, List.set_cons_succ]
    refine wpAnyH_take (i := 43) (oi := ({ dst := some 89, op := Op.move (Operand.tmp 88), type := 4, pos := "law.go:63", after := #[{ on := 42, ground := Ground.data }, { on := 40, ground := Ground.chain }], guard := none } : Oper)) (v := ?yv49) rfl (by kernel_rfl) (by kernel_rfl) (by kernel_rfl) (fun _ _ _ h => h) (Or.inl ⟨by rfl, ?yh49⟩) (by assumption) ?yr49
    case yh49 => (intro wq hSw; (try dsimp only at hSw); obtain ⟨s1, s2, s3, s4, s5, s6, s7, s8⟩ := hSw; go_simp; first | done | with_reducible rfl)
    try simp only [Act.put, List.setIfInBounds_toArray, List.set_cons_zero, List.set_cons_succ]
    refine wpAnyH_take (i := 44) (oi := ({ dst := some 90, op := Op.load 25 (Operand.tmp 1), type := 25, pos := "law.go:63", after := #[{ on := 43, ground := Ground.guard }], guard := some (43, true) } : Oper)) (v := ?yv50) rfl (by kernel_rfl) (by kernel_rfl) (by kernel_rfl) (fun _ _ _ h => h) (Or.inl ⟨by rfl, ?yh50⟩) (by assumption) ?yr50
    case yh50 => (intro wq hSw; (try dsimp only at hSw); obtain ⟨s1, s2, s3, s4, s5, s6, s7, s8⟩ := hSw; go_simp; first | done | with_reducible rfl)
    try simp only [Act.put, List.setIfInBounds_toArray, List.set_cons_zero, List.set_cons_succ]
    refine wpAnyH_ready (rs := [45]) (by kernel_rfl) (by simp) ?_
    refine AllReadyH.cons (o := ({ dst := some 91, op := Op.call { callee := Callee.value (Operand.func 21), args := #[Operand.const (Value.int IntKind.i64 2)], argTypes := #[2] }, type := 45, pos := "law.go:63", after := #[{ on := 43, ground := Ground.chain }, { on := 43, ground := Ground.guard }], guard := some (43, true) } : Oper)) rfl (fun K hK => ?_) AllReadyH.nil
    go_simp
    refine (ONE.out 2 _).mono ?_
    rintro e z9 ⟨rfl, hb9⟩
    have HC9 : Hid (Below W5.heap.size W5 z9) := HC8.out.trans (hb9.mono HC8.out.size)
    clear hb9
    dsimp only
    refine hK.out _ _ (HS.out _ HC9.out) (fun hHeld => ?_)
    clear hK K
    try simp only [Act.put, List.setIfInBounds_toArray, List.set_cons_zero, List.set_cons_succ]
    refine wpAnyH_ready (rs := [46]) (by kernel_rfl) (by simp) ?_
    refine AllReadyH.cons (o := ({ dst := some 92, op := Op.call { callee := Callee.value (Operand.func 21), args := #[Operand.const (Value.int IntKind.i64 1)], argTypes := #[2] }, type := 45, pos := "law.go:63", after := #[{ on := 45, ground := Ground.chain }, { on := 43, ground := Ground.guard }], guard := some (43, true) } : Oper)) rfl (fun K hK => ?_) AllReadyH.nil
    go_simp
    refine (ONE.out 1 _).mono ?_
    rintro e z10 ⟨rfl, hb10⟩
    have HC10 : Hid (Below W5.heap.size W5 z10) := HC9.out.trans (hb10.mono HC9.out.size)
    clear hb10
    dsimp only
    refine hK.out _ _ (HS.out _ HC10.out) (fun hHeld => ?_)
    clear hK K
    try simp only [Act.put, List.setIfInBounds_toArray, List.set_cons_zero, List.set_cons_succ]
    refine wpAnyH_ready (rs := [47]) (by kernel_rfl) (by simp) ?_
    refine AllReadyH.cons (o := ({ dst := some 93, op := Op.buildSlice 26 2 #[(0, Operand.tmp 91), (1, Operand.tmp 92)], type := 26, pos := "law.go:63", after := #[{ on := 45, ground := Ground.data }, { on := 46, ground := Ground.data }, { on := 43, ground := Ground.guard }], guard := some (43, true) } : Oper)) rfl (fun K hK => ?_) AllReadyH.nil
    go_simp
    have hs11 : Below (z10).heap.size (z10) ((z10).alloc (.cells #[.int .i64 1, .int .i64 2, .int .i64 0, .string ⟨#[]⟩, .int .i64 1, .int .i64 1, .int .i64 0, .string ⟨#[]⟩] 45)) := re_below ((Below.refl (z10).heap.size (z10)).alloc (Nat.le_refl _) _)
    have HC11 : Hid (Below W5.heap.size W5 ((z10).alloc (.cells #[.int .i64 1, .int .i64 2, .int .i64 0, .string ⟨#[]⟩, .int .i64 1, .int .i64 1, .int .i64 0, .string ⟨#[]⟩] 45))) := HC10.out.trans (hs11.mono HC10.out.size)
    have L3 : Hid (((z10).alloc (.cells #[.int .i64 1, .int .i64 2, .int .i64 0, .string ⟨#[]⟩, .int .i64 1, .int .i64 1, .int .i64 0, .string ⟨#[]⟩] 45)).heap[z10.heap.size]? = some (.cells #[.int .i64 1, .int .i64 2, .int .i64 0, .string ⟨#[]⟩, .int .i64 1, .int .i64 1, .int .i64 0, .string ⟨#[]⟩] 45 (0, 0))) := at_size (P := fun g => ((z10).alloc (.cells #[.int .i64 1, .int .i64 2, .int .i64 0, .string ⟨#[]⟩, .int .i64 1, .int .i64 1, .int .i64 0, .string ⟨#[]⟩] 45)).heap[g]? = some (.cells #[.int .i64 1, .int .i64 2, .int .i64 0, .string ⟨#[]⟩, .int .i64 1, .int .i64 1, .int .i64 0, .string ⟨#[]⟩] 45 (0, 0))) (heap_alloc (z10) _) (by simp)
    clear hs11
    refine hK.out _ _ (HS.out _ HC11.out) (fun hHeld => ?_)
    clear hK K
    try simp only [Act.put, List.setIfInBounds_toArray, List.set_cons_zero, List.set_cons_succ]
    refine wpAnyH_ready (rs := [48]) (by kernel_rfl) (by simp) ?_
    refine AllReadyH.cons (o := ({ dst := some 94, op := Op.call { callee := Callee.value (Operand.func 6), args := #[Operand.tmp 90, Operand.tmp 93], argTypes := #[25, 26] }, type := 4, pos := "law.go:63", after := #[{ on := 44, ground := Ground.data }, { on := 47, ground := Ground.data }, { on := 46, ground := Ground.chain }, { on := 43, ground := Ground.guard }], guard := some (43, true) } : Oper)) rfl (fun K hK => ?_) AllReadyH.nil
    go_simp
    refine (CH.out _ _ HC11.out L3.out).mono ?_
    rintro e z12 ⟨rfl, hb12⟩
    have HC12 : Hid (Below W5.heap.size W5 z12) := HC11.out.trans (hb12.mono HC11.out.size)
    clear L3
    clear hb12
    dsimp only
    refine hK.out _ _ (HS.out _ HC12.out) (fun hHeld => ?_)
    clear hK K
    try simp only [Act.put, List.setIfInBounds_toArray, List.set_cons_zero, List.set_cons_succ]
    refine wpAnyH_take (i := 49) (oi := ({ dst := some 95, op := Op.pick (Operand.tmp 89) (Operand.tmp 94) (Operand.const (Value.bool false)), type := 4, pos := "law.go:63", after := #[{ on := 43, ground := Ground.data }, { on := 48, ground := Ground.data }], guard := none } : Oper)) (v := ?yv51) rfl (by kernel_rfl) (by kernel_rfl) (by kernel_rfl) (fun _ _ _ h => h) (Or.inl ⟨by rfl, ?yh51⟩) (by assumption) ?yr51
    case yh51 => (intro wq hSw; (try dsimp only at hSw); obtain ⟨s1, s2, s3, s4, s5, s6, s7, s8⟩ := hSw; go_simp; first | done | with_reducible rfl)
    try simp only [Act.put, List.setIfInBounds_toArray, List.set_cons_zero, List.set_cons_succ]
    refine wpAnyH_ready (rs := [50]) (by kernel_rfl) (by simp) ?_
    refine AllReadyH.cons (o := ({ dst := some 0, op := Op.assign (Operand.tmp 95), type := 4, pos := "law.go:63", after := #[{ on := 49, ground := Ground.data }, { on := 48, ground := Ground.chain }, { on := 0, ground := Ground.phase }, { on := 1, ground := Ground.phase }, { on := 2, ground := Ground.phase }, { on := 3, ground := Ground.phase }, { on := 4, ground := Ground.phase }, { on := 5, ground := Ground.phase }, { on := 6, ground := Ground.phase }, { on := 7, ground := Ground.phase }, { on := 8, ground := Ground.phase }, { on := 9, ground := Ground.phase }, { on := 10, ground := Ground.phase }, { on := 11, ground := Ground.phase }, { on := 12, ground := Ground.phase }, { on := 13, ground := Ground.phase }, { on := 14, ground := Ground.phase }, { on := 15, ground := Ground.phase }, { on := 16, ground := Ground.phase }, { on := 17, ground := Ground.phase }, { on := 18, ground := Ground.phase }, { on := 19, ground := Ground.phase }, { on := 20, ground := Ground.phase }, { on := 21, ground := Ground.phase }, { on := 22, ground := Ground.phase }, { on := 23, ground := Ground.phase }, { on := 24, ground := Ground.phase }, { on := 25, ground := Ground.phase }, { on := 26, ground := Ground.phase }, { on := 27, ground := Ground.phase }, { on := 28, ground := Ground.phase }, { on := 29, ground := Ground.phase }, { on := 30, ground := Ground.phase }, { on := 31, ground := Ground.phase }, { on := 32, ground := Ground.phase }, { on := 33, ground := Ground.phase }, { on := 34, ground := Ground.phase }, { on := 35, ground := Ground.phase }, { on := 36, ground := Ground.phase }, { on := 37, ground := Ground.phase }, { on := 38, ground := Ground.phase }, { on := 39, ground := Ground.phase }, { on := 40, ground := Ground.phase }, { on := 41, ground := Ground.phase }, { on := 42, ground := Ground.phase }, { on := 43, ground := Ground.phase }, { on := 44, ground := Ground.phase }, { on := 45, ground := Ground.phase }, { on := 46, ground := Ground.phase }, { on := 47, ground := Ground.phase }, { on := 48, ground := Ground.phase }, { on := 49, ground := Ground.phase }], guard := none } : Oper)) rfl (fun K hK => ?_) AllReadyH.nil
    go_simp
    refine hK.out _ _ (HS.out _ HC12.out) (fun hHeld => ?_)
    clear hK K
    try simp only [Act.put, List.setIfInBounds_toArray, List.set_cons_zero, List.set_cons_succ]
    refine wpAnyH_done (by kernel_rfl) ?_ _
    (try simp only [Exit.then])
    go_wp2
    go_ret
    exact ⟨rfl, K9.trans (HC12.out.mono K9.size)⟩
  have HREST : Hid (∀ (g6 : Nat) (u29 u30 u31 u32 u33 u34 u35 : Value) (W : World) (pn : Option Addr) (cn : Nat) (pm : Option Addr) (cm : Nat), _) := REST
  clear hKK REST
  have HB0 : Hid (Below W3.heap.size W3 W3.drew) := (Below.refl _ _).drew
  have hga : ga < W3.heap.size := (Array.getElem?_eq_some_iff.1 VA4.out).1
  refine wp_region_held_drew (S := fun W => W.cell? ⟨ga, 0, none⟩ = some (.slice p1 2 c1) ∧ W.cell? ⟨ga, 1, none⟩ = some (.slice p2 3 c2)) (by kernel_rfl) ⟨a0, a1⟩ (fun hHeld => ?_)
  refine wpAnyH_take (i := 0) (oi := ({ dst := some 30, op := Op.load 25 (Operand.tmp 1), type := 25, pos := "law.go:60", after := #[], guard := none } : Oper)) (v := ?yv1) rfl (by kernel_rfl) (by kernel_rfl) (by kernel_rfl) (fun _ _ _ h => h) (Or.inl ⟨by rfl, ?yh1⟩) (by assumption) ?yr1
  case yh1 => (intro wq hSw; (try dsimp only at hSw); obtain ⟨sa, sb⟩ := hSw; go_simp; first | done | with_reducible rfl)
  try simp only [Act.put, List.setIfInBounds_toArray, List.set_cons_zero, List.set_cons_succ]
  refine wpAnyH_ready (rs := [1, 7]) (by kernel_rfl) (by simp) ?_
  refine AllReadyH.cons (o := ({ dst := some 31, op := Op.buildSlice 64 2 #[(0, Operand.const (Value.int IntKind.i64 1)), (1, Operand.const (Value.int IntKind.i64 2))], type := 64, pos := "law.go:60", after := #[], guard := none } : Oper)) rfl (fun K hK => ?_) (AllReadyH.cons (o := ({ dst := some 6, op := Op.alloc 25, type := 0, pos := "law.go:60", after := #[], guard := none } : Oper)) rfl (fun K hK => ?_) AllReadyH.nil)
  · go_simp
    have hs1 : Below ((W3).drew).heap.size ((W3).drew) (((W3).alloc (.cells #[.int .i64 1, .int .i64 2] 2)).drew) := re_below ((Below.refl (W3).heap.size (W3)).alloc (Nat.le_refl _) _)
    have HB1 : Hid (Below W3.heap.size W3 (((W3).alloc (.cells #[.int .i64 1, .int .i64 2] 2)).drew)) := HB0.out.trans (hs1.mono HB0.out.size)
    have LT1 : Hid (Lit (((W3).alloc (.cells #[.int .i64 1, .int .i64 2] 2)).drew) (W3.heap.size)) := at_size (P := fun g => Lit (((W3).alloc (.cells #[.int .i64 1, .int .i64 2] 2)).drew) g) (heap_alloc (W3) _) (by simp)
    clear hs1
    refine hK.out _ _ (hold_of HB1.out a0 a1 hga) (fun hHeld => ?_)
    clear hK K
    try simp only [Act.put, List.setIfInBounds_toArray, List.set_cons_zero, List.set_cons_succ]
    refine wpAnyH_ready (rs := [2, 7]) (by kernel_rfl) (by simp) ?_
    refine AllReadyH.cons (o := ({ dst := some 32, op := Op.call { callee := Callee.value (Operand.func 14), args := #[Operand.tmp 31], argTypes := #[64] }, type := 25, pos := "law.go:60", after := #[{ on := 1, ground := Ground.data }], guard := none } : Oper)) rfl (fun K hK => ?_) (AllReadyH.cons (o := ({ dst := some 6, op := Op.alloc 25, type := 0, pos := "law.go:60", after := #[], guard := none } : Oper)) rfl (fun K hK => ?_) AllReadyH.nil)
    · go_simp
      refine (C4.out _ _ LT1.out).mono ?_
      rintro e y2 ⟨q1, d1, q2, d2, rfl, tx2, hb2⟩
      have hs2 : Below (((W3).alloc (.cells #[.int .i64 1, .int .i64 2] 2)).drew).heap.size (((W3).alloc (.cells #[.int .i64 1, .int .i64 2] 2)).drew) y2 := hb2
      have HB2 : Hid (Below W3.heap.size W3 (y2)) := HB1.out.trans (hs2.mono HB1.out.size)
      have TX2 : Hid (∃ us, TabAt y2 (.slice q1 2 d1) (.slice q2 1 d2) [nX, nY] us (xyR [1, 2])) := tx2
      clear hs2 hb2 tx2
      dsimp only
      refine hK.out _ _ (hold_of HB2.out a0 a1 hga) (fun hHeld => ?_)
      clear hK K
      try simp only [Act.put, List.setIfInBounds_toArray, List.set_cons_zero, List.set_cons_succ]
      refine wpAnyH_ready (rs := [3, 7]) (by kernel_rfl) (by simp) ?_
      refine AllReadyH.cons (o := ({ dst := some 33, op := Op.call { callee := Callee.value (Operand.func 16), args := #[Operand.tmp 30, Operand.tmp 32], argTypes := #[25, 25] }, type := 31, pos := "law.go:60", after := #[{ on := 0, ground := Ground.data }, { on := 2, ground := Ground.data }, { on := 2, ground := Ground.chain }], guard := none } : Oper)) rfl (fun K hK => ?_) (AllReadyH.cons (o := ({ dst := some 6, op := Op.alloc 25, type := 0, pos := "law.go:60", after := #[], guard := none } : Oper)) rfl (fun K hK => ?_) AllReadyH.nil)
      · go_simp
        refine (C5.out _ _ _ _ _ HB2.out TX2.out).mono ?_
        rintro e y3 ⟨pn, cn, pm, cm, rfl, rt3, hb3⟩
        have hs3 : Below (y2).heap.size (y2) y3 := hb3
        have HB3 : Hid (Below W3.heap.size W3 (y3)) := HB2.out.trans (hs3.mono HB2.out.size)
        have RT3 : Hid (OwnT (y2.heap.size) (.agg #[.slice pn 2 cn, .slice pm 2 cm]) [nX, nY] (xyR [1, 1, 2, 1]) y3) := by
          show OwnT _ _ _ _ _
          have h := rt3
          first | exact h | simpa using h
        clear hs3 hb3 rt3
        dsimp only
        refine hK.out _ _ (hold_of HB3.out a0 a1 hga) (fun hHeld => ?_)
        clear hK K
        try simp only [Act.put, List.setIfInBounds_toArray, List.set_cons_zero, List.set_cons_succ]
        refine wpAnyH_take (i := 4) (oi := ({ dst := some 29, op := Op.move (Operand.tmp 33), type := 31, pos := "law.go:60", after := #[{ on := 3, ground := Ground.data }], guard := none } : Oper)) (v := ?yv2) rfl (by kernel_rfl) (by kernel_rfl) (by kernel_rfl) (fun _ _ _ h => h) (Or.inl ⟨by rfl, ?yh2⟩) (by assumption) ?yr2
        case yh2 => (intro wq hSw; (try dsimp only at hSw); obtain ⟨sa, sb⟩ := hSw; go_simp; first | done | with_reducible rfl)
        try simp only [Act.put, List.setIfInBounds_toArray, List.set_cons_zero, List.set_cons_succ]
        refine wpAnyH_take (i := 5) (oi := ({ dst := some 34, op := Op.extract (Operand.tmp 29) 0, type := 25, pos := "law.go:60", after := #[{ on := 4, ground := Ground.data }], guard := none } : Oper)) (v := ?yv3) rfl (by kernel_rfl) (by kernel_rfl) (by kernel_rfl) (fun _ _ _ h => h) (Or.inl ⟨by rfl, ?yh3⟩) (by assumption) ?yr3
        case yh3 => (intro wq hSw; (try dsimp only at hSw); obtain ⟨sa, sb⟩ := hSw; go_simp; first | done | with_reducible rfl)
        try simp only [Act.put, List.setIfInBounds_toArray, List.set_cons_zero, List.set_cons_succ]
        refine wpAnyH_take (i := 6) (oi := ({ dst := some 35, op := Op.extract (Operand.tmp 29) 1, type := 27, pos := "law.go:60", after := #[{ on := 4, ground := Ground.data }, { on := 8, ground := Ground.gcOnly Departure.lateStores }], guard := none } : Oper)) (v := ?yv4) rfl (by kernel_rfl) (by kernel_rfl) (by kernel_rfl) (fun _ _ _ h => h) (Or.inl ⟨by rfl, ?yh4⟩) (by assumption) ?yr4
        case yh4 => (intro wq hSw; (try dsimp only at hSw); obtain ⟨sa, sb⟩ := hSw; go_simp; first | done | with_reducible rfl)
        try simp only [Act.put, List.setIfInBounds_toArray, List.set_cons_zero, List.set_cons_succ]
        refine wpAnyH_ready (rs := [7]) (by kernel_rfl) (by simp) ?_
        refine AllReadyH.cons (o := ({ dst := some 6, op := Op.alloc 25, type := 0, pos := "law.go:60", after := #[], guard := none } : Oper)) rfl (fun K hK => ?_) AllReadyH.nil
        go_simp
        have FB : Hid (Below W3.heap.size W3 (y3.alloc (.cells #[.slice none 0 0, .slice none 0 0] 25))) := HB3.out.trans ((((Below.refl y3.heap.size y3).alloc (Nat.le_refl _) _)).mono HB3.out.size)
        refine hK.out _ _ (hold_of FB.out a0 a1 hga) (fun hHeld => ?_)
        clear hK K
        try simp only [Act.put, List.setIfInBounds_toArray, List.set_cons_zero, List.set_cons_succ]
        refine wpAnyH_ready (rs := [8]) (by kernel_rfl) (by simp) ?_
        refine AllReadyH.cons (o := ({ dst := none, op := Op.store 25 (Operand.tmp 6) (Operand.tmp 34), type := 0, pos := "law.go:60", after := #[{ on := 7, ground := Ground.data }, { on := 5, ground := Ground.data }, { on := 3, ground := Ground.chain }, { on := 0, ground := Ground.phase }, { on := 1, ground := Ground.phase }, { on := 2, ground := Ground.phase }, { on := 3, ground := Ground.phase }, { on := 4, ground := Ground.phase }, { on := 5, ground := Ground.phase }, { on := 6, ground := Ground.textOnly Departure.lateStores }, { on := 7, ground := Ground.phase }], guard := none } : Oper)) rfl (fun K hK => ?_) AllReadyH.nil
        go_simp
        have GB : Hid (Below W3.heap.size W3 (y3.alloc (.cells #[.slice pn 2 cn, .slice pm 2 cm] 25))) := HB3.out.trans ((((Below.refl y3.heap.size y3).alloc (Nat.le_refl _) _)).mono HB3.out.size)
        have FV : Hid (Var (y3.alloc (.cells #[.slice pn 2 cn, .slice pm 2 cm] 25)) y3.heap.size (.slice pn 2 cn) (.slice pm 2 cm)) := Var.made _ _ _
        have FT := own_two RT3.out
        have FN : Hid (StrsAt (y3.alloc (.cells #[.slice pn 2 cn, .slice pm 2 cm] 25)) (.slice pn 2 cn) [nX, nY]) := FT.1.below ((Below.refl y3.heap.size y3).alloc (Nat.le_refl _) _)
        have FM : Hid (TabRows (y3.alloc (.cells #[.slice pn 2 cn, .slice pm 2 cm] 25)) (.slice pm 2 cm) (xyR [1, 1, 2, 1])) := FT.2.below ((Below.refl y3.heap.size y3).alloc (Nat.le_refl _) _)
        clear FT
        refine hK.out _ _ (hold_of GB.out a0 a1 hga) (fun hHeld => ?_)
        clear hK K
        try simp only [Act.put, List.setIfInBounds_toArray, List.set_cons_zero, List.set_cons_succ]
        refine wpAnyH_ready (rs := [9]) (by kernel_rfl) (by simp) ?_
        refine AllReadyH.cons (o := ({ dst := some 7, op := Op.assign (Operand.tmp 35), type := 27, pos := "law.go:60", after := #[{ on := 6, ground := Ground.data }, { on := 8, ground := Ground.chain }, { on := 0, ground := Ground.phase }, { on := 1, ground := Ground.phase }, { on := 2, ground := Ground.phase }, { on := 3, ground := Ground.phase }, { on := 4, ground := Ground.phase }, { on := 5, ground := Ground.phase }, { on := 6, ground := Ground.phase }, { on := 7, ground := Ground.phase }, { on := 8, ground := Ground.phase }], guard := none } : Oper)) rfl (fun K hK => ?_) AllReadyH.nil
        go_simp
        refine hK.out _ _ (hold_of GB.out a0 a1 hga) (fun hHeld => ?_)
        clear hK K
        try simp only [Act.put, List.setIfInBounds_toArray, List.set_cons_zero, List.set_cons_succ]
        refine wpAnyH_done (by kernel_rfl) ?_ _
        (try simp only [Exit.then])
        exact HREST.out _ _ _ _ _ _ _ _ _ _ _ _ _ FV FN FM GB
      · go_simp
        have hs3 : Below (y2).heap.size (y2) ((y2).alloc (.cells #[.slice none 0 0, .slice none 0 0] 25)) := re_below ((Below.refl (y2).heap.size (y2)).alloc (Nat.le_refl _) _)
        have HB3 : Hid (Below W3.heap.size W3 ((y2).alloc (.cells #[.slice none 0 0, .slice none 0 0] 25))) := HB2.out.trans (hs3.mono HB2.out.size)
        have TX3 : Hid (∃ us, TabAt ((y2).alloc (.cells #[.slice none 0 0, .slice none 0 0] 25)) (.slice q1 2 d1) (.slice q2 1 d2) [nX, nY] us (xyR [1, 2])) := by
          obtain ⟨us, h⟩ := TX2.out
          exact ⟨us, h.below hs3⟩
        have ZV3 : Hid (Var ((y2).alloc (.cells #[.slice none 0 0, .slice none 0 0] 25)) (y2.heap.size) (.slice none 0 0) (.slice none 0 0)) := at_size (P := fun g => Var ((y2).alloc (.cells #[.slice none 0 0, .slice none 0 0] 25)) g (.slice none 0 0) (.slice none 0 0)) (heap_alloc (y2) _) (by simp)
        have HG : Hid (W3.heap.size ≤ y2.heap.size) := by
          show _ ≤ _
          have h := HB2.out.size
          first | omega | (simp at h; omega)
        clear hs3
        refine hK.out _ _ (hold_of HB3.out a0 a1 hga) (fun hHeld => ?_)
        clear hK K
        try simp only [Act.put, List.setIfInBounds_toArray, List.set_cons_zero, List.set_cons_succ]
        refine wpAnyH_ready (rs := [3]) (by kernel_rfl) (by simp) ?_
        refine AllReadyH.cons (o := ({ dst := some 33, op := Op.call { callee := Callee.value (Operand.func 16), args := #[Operand.tmp 30, Operand.tmp 32], argTypes := #[25, 25] }, type := 31, pos := "law.go:60", after := #[{ on := 0, ground := Ground.data }, { on := 2, ground := Ground.data }, { on := 2, ground := Ground.chain }], guard := none } : Oper)) rfl (fun K hK => ?_) AllReadyH.nil
        go_simp
        refine (C5.out _ _ _ _ _ HB3.out TX3.out).mono ?_
        rintro e y4 ⟨pn, cn, pm, cm, rfl, rt4, hb4⟩
        have hs4 : Below ((y2).alloc (.cells #[.slice none 0 0, .slice none 0 0] 25)).heap.size ((y2).alloc (.cells #[.slice none 0 0, .slice none 0 0] 25)) y4 := hb4
        have HB4 : Hid (Below W3.heap.size W3 (y4)) := HB3.out.trans (hs4.mono HB3.out.size)
        have ZV4 : Hid (Var (y4) (y2.heap.size) (.slice none 0 0) (.slice none 0 0)) := ZV3.out.below hs4
        have HL : Hid (y2.heap.size < y2.heap.size + 1) := by
          show _ < _
          have h := (Array.getElem?_eq_some_iff.1 ZV3.out).1
          first | omega | exact h
        have RT4 : Hid (OwnT (y2.heap.size + 1) (.agg #[.slice pn 2 cn, .slice pm 2 cm]) [nX, nY] (xyR [1, 1, 2, 1]) y4) := by
          show OwnT _ _ _ _ _
          have h := rt4
          first | exact h | simpa using h
        clear hs4 hb4 rt4
        dsimp only
        refine hK.out _ _ (hold_of HB4.out a0 a1 hga) (fun hHeld => ?_)
        clear hK K
        try simp only [Act.put, List.setIfInBounds_toArray, List.set_cons_zero, List.set_cons_succ]
        refine wpAnyH_take (i := 4) (oi := ({ dst := some 29, op := Op.move (Operand.tmp 33), type := 31, pos := "law.go:60", after := #[{ on := 3, ground := Ground.data }], guard := none } : Oper)) (v := ?yv5) rfl (by kernel_rfl) (by kernel_rfl) (by kernel_rfl) (fun _ _ _ h => h) (Or.inl ⟨by rfl, ?yh5⟩) (by assumption) ?yr5
        case yh5 => (intro wq hSw; (try dsimp only at hSw); obtain ⟨sa, sb⟩ := hSw; go_simp; first | done | with_reducible rfl)
        try simp only [Act.put, List.setIfInBounds_toArray, List.set_cons_zero, List.set_cons_succ]
        refine wpAnyH_take (i := 5) (oi := ({ dst := some 34, op := Op.extract (Operand.tmp 29) 0, type := 25, pos := "law.go:60", after := #[{ on := 4, ground := Ground.data }], guard := none } : Oper)) (v := ?yv6) rfl (by kernel_rfl) (by kernel_rfl) (by kernel_rfl) (fun _ _ _ h => h) (Or.inl ⟨by rfl, ?yh6⟩) (by assumption) ?yr6
        case yh6 => (intro wq hSw; (try dsimp only at hSw); obtain ⟨sa, sb⟩ := hSw; go_simp; first | done | with_reducible rfl)
        try simp only [Act.put, List.setIfInBounds_toArray, List.set_cons_zero, List.set_cons_succ]
        refine wpAnyH_take (i := 6) (oi := ({ dst := some 35, op := Op.extract (Operand.tmp 29) 1, type := 27, pos := "law.go:60", after := #[{ on := 4, ground := Ground.data }, { on := 8, ground := Ground.gcOnly Departure.lateStores }], guard := none } : Oper)) (v := ?yv7) rfl (by kernel_rfl) (by kernel_rfl) (by kernel_rfl) (fun _ _ _ h => h) (Or.inl ⟨by rfl, ?yh7⟩) (by assumption) ?yr7
        case yh7 => (intro wq hSw; (try dsimp only at hSw); obtain ⟨sa, sb⟩ := hSw; go_simp; first | done | with_reducible rfl)
        try simp only [Act.put, List.setIfInBounds_toArray, List.set_cons_zero, List.set_cons_succ]
        refine wpAnyH_ready (rs := [8]) (by kernel_rfl) (by simp) ?_
        refine AllReadyH.cons (o := ({ dst := none, op := Op.store 25 (Operand.tmp 6) (Operand.tmp 34), type := 0, pos := "law.go:60", after := #[{ on := 7, ground := Ground.data }, { on := 5, ground := Ground.data }, { on := 3, ground := Ground.chain }, { on := 0, ground := Ground.phase }, { on := 1, ground := Ground.phase }, { on := 2, ground := Ground.phase }, { on := 3, ground := Ground.phase }, { on := 4, ground := Ground.phase }, { on := 5, ground := Ground.phase }, { on := 6, ground := Ground.textOnly Departure.lateStores }, { on := 7, ground := Ground.phase }], guard := none } : Oper)) rfl (fun K hK => ?_) AllReadyH.nil
        have z0 := ZV4.out.c0
        have z1 := ZV4.out.c1
        have f0 := frozen_of_heap ZV4.out 0
        have f1 := frozen_of_heap ZV4.out 1
        go_simp
        have hgB : y2.heap.size < y2.heap.size + 1 := by exact HL.out
        have hgW : W3.heap.size ≤ y2.heap.size := by exact HG.out
        have FB : Hid (Below W3.heap.size W3 ((y4.setCell ⟨y2.heap.size, 0, none⟩ (.slice pn 2 cn)).setCell ⟨y2.heap.size, 1, none⟩ (.slice pm 2 cm))) := by
          have b2 := HB4.out.grown (grownBy_setCell y4 (y2.heap.size) 0 (.slice pn 2 cn)) HB4.out.size (fun q hq => by injection hq with hq; omega)
          exact b2.grown (grownBy_setCell _ (y2.heap.size) 1 (.slice pm 2 cm)) b2.size (fun q hq => by injection hq with hq; omega)
        have FV : Hid (Var ((y4.setCell ⟨y2.heap.size, 0, none⟩ (.slice pn 2 cn)).setCell ⟨y2.heap.size, 1, none⟩ (.slice pm 2 cm)) (y2.heap.size) (.slice pn 2 cn) (.slice pm 2 cm)) := var_set ZV4.out
        have FT := own_two ((RT4.out.set (T := y2.heap.size) (j := 0) (u := .slice pn 2 cn) hgB).set (T := y2.heap.size) (j := 1) (u := .slice pm 2 cm) hgB)
        have FN : Hid (StrsAt ((y4.setCell ⟨y2.heap.size, 0, none⟩ (.slice pn 2 cn)).setCell ⟨y2.heap.size, 1, none⟩ (.slice pm 2 cm)) (.slice pn 2 cn) [nX, nY]) := FT.1
        have FM : Hid (TabRows ((y4.setCell ⟨y2.heap.size, 0, none⟩ (.slice pn 2 cn)).setCell ⟨y2.heap.size, 1, none⟩ (.slice pm 2 cm)) (.slice pm 2 cm) (xyR [1, 1, 2, 1])) := FT.2
        clear z0 z1 f0 f1 FT hgB hgW
        refine hK.out _ _ (hold_of FB.out a0 a1 hga) (fun hHeld => ?_)
        clear hK K
        try simp only [Act.put, List.setIfInBounds_toArray, List.set_cons_zero, List.set_cons_succ]
        refine wpAnyH_ready (rs := [9]) (by kernel_rfl) (by simp) ?_
        refine AllReadyH.cons (o := ({ dst := some 7, op := Op.assign (Operand.tmp 35), type := 27, pos := "law.go:60", after := #[{ on := 6, ground := Ground.data }, { on := 8, ground := Ground.chain }, { on := 0, ground := Ground.phase }, { on := 1, ground := Ground.phase }, { on := 2, ground := Ground.phase }, { on := 3, ground := Ground.phase }, { on := 4, ground := Ground.phase }, { on := 5, ground := Ground.phase }, { on := 6, ground := Ground.phase }, { on := 7, ground := Ground.phase }, { on := 8, ground := Ground.phase }], guard := none } : Oper)) rfl (fun K hK => ?_) AllReadyH.nil
        go_simp
        refine hK.out _ _ (hold_of FB.out a0 a1 hga) (fun hHeld => ?_)
        clear hK K
        try simp only [Act.put, List.setIfInBounds_toArray, List.set_cons_zero, List.set_cons_succ]
        refine wpAnyH_done (by kernel_rfl) ?_ _
        (try simp only [Exit.then])
        exact HREST.out _ _ _ _ _ _ _ _ _ _ _ _ _ FV FN FM FB
    · go_simp
      have hs2 : Below (((W3).alloc (.cells #[.int .i64 1, .int .i64 2] 2)).drew).heap.size (((W3).alloc (.cells #[.int .i64 1, .int .i64 2] 2)).drew) ((((W3).alloc (.cells #[.int .i64 1, .int .i64 2] 2)).alloc (.cells #[.slice none 0 0, .slice none 0 0] 25)).drew) := re_below ((Below.refl ((W3).alloc (.cells #[.int .i64 1, .int .i64 2] 2)).heap.size ((W3).alloc (.cells #[.int .i64 1, .int .i64 2] 2))).alloc (Nat.le_refl _) _)
      have HB2 : Hid (Below W3.heap.size W3 ((((W3).alloc (.cells #[.int .i64 1, .int .i64 2] 2)).alloc (.cells #[.slice none 0 0, .slice none 0 0] 25)).drew)) := HB1.out.trans (hs2.mono HB1.out.size)
      have LT2 : Hid (Lit ((((W3).alloc (.cells #[.int .i64 1, .int .i64 2] 2)).alloc (.cells #[.slice none 0 0, .slice none 0 0] 25)).drew) (W3.heap.size)) := LT1.out.below hs2
      have ZV2 : Hid (Var ((((W3).alloc (.cells #[.int .i64 1, .int .i64 2] 2)).alloc (.cells #[.slice none 0 0, .slice none 0 0] 25)).drew) (W3.heap.size + 1) (.slice none 0 0) (.slice none 0 0)) := at_size (P := fun g => Var ((((W3).alloc (.cells #[.int .i64 1, .int .i64 2] 2)).alloc (.cells #[.slice none 0 0, .slice none 0 0] 25)).drew) g (.slice none 0 0) (.slice none 0 0)) (heap_alloc ((W3).alloc (.cells #[.int .i64 1, .int .i64 2] 2)) _) (by simp)
      have HG : Hid (W3.heap.size ≤ W3.heap.size + 1) := by
        show _ ≤ _
        have h := HB1.out.size
        first | omega | (simp at h; omega)
      clear hs2
      refine hK.out _ _ (hold_of HB2.out a0 a1 hga) (fun hHeld => ?_)
      clear hK K
      try simp only [Act.put, List.setIfInBounds_toArray, List.set_cons_zero, List.set_cons_succ]
      refine wpAnyH_ready (rs := [2]) (by kernel_rfl) (by simp) ?_
      refine AllReadyH.cons (o := ({ dst := some 32, op := Op.call { callee := Callee.value (Operand.func 14), args := #[Operand.tmp 31], argTypes := #[64] }, type := 25, pos := "law.go:60", after := #[{ on := 1, ground := Ground.data }], guard := none } : Oper)) rfl (fun K hK => ?_) AllReadyH.nil
      go_simp
      refine (C4.out _ _ LT2.out).mono ?_
      rintro e y3 ⟨q1, d1, q2, d2, rfl, tx3, hb3⟩
      have hs3 : Below ((((W3).alloc (.cells #[.int .i64 1, .int .i64 2] 2)).alloc (.cells #[.slice none 0 0, .slice none 0 0] 25)).drew).heap.size ((((W3).alloc (.cells #[.int .i64 1, .int .i64 2] 2)).alloc (.cells #[.slice none 0 0, .slice none 0 0] 25)).drew) y3 := hb3
      have HB3 : Hid (Below W3.heap.size W3 (y3)) := HB2.out.trans (hs3.mono HB2.out.size)
      have ZV3 : Hid (Var (y3) (W3.heap.size + 1) (.slice none 0 0) (.slice none 0 0)) := ZV2.out.below hs3
      have TX3 : Hid (∃ us, TabAt y3 (.slice q1 2 d1) (.slice q2 1 d2) [nX, nY] us (xyR [1, 2])) := tx3
      clear hs3 hb3 tx3
      dsimp only
      refine hK.out _ _ (hold_of HB3.out a0 a1 hga) (fun hHeld => ?_)
      clear hK K
      try simp only [Act.put, List.setIfInBounds_toArray, List.set_cons_zero, List.set_cons_succ]
      refine wpAnyH_ready (rs := [3]) (by kernel_rfl) (by simp) ?_
      refine AllReadyH.cons (o := ({ dst := some 33, op := Op.call { callee := Callee.value (Operand.func 16), args := #[Operand.tmp 30, Operand.tmp 32], argTypes := #[25, 25] }, type := 31, pos := "law.go:60", after := #[{ on := 0, ground := Ground.data }, { on := 2, ground := Ground.data }, { on := 2, ground := Ground.chain }], guard := none } : Oper)) rfl (fun K hK => ?_) AllReadyH.nil
      go_simp
      refine (C5.out _ _ _ _ _ HB3.out TX3.out).mono ?_
      rintro e y4 ⟨pn, cn, pm, cm, rfl, rt4, hb4⟩
      have hs4 : Below (y3).heap.size (y3) y4 := hb4
      have HB4 : Hid (Below W3.heap.size W3 (y4)) := HB3.out.trans (hs4.mono HB3.out.size)
      have ZV4 : Hid (Var (y4) (W3.heap.size + 1) (.slice none 0 0) (.slice none 0 0)) := ZV3.out.below hs4
      have HL : Hid (W3.heap.size + 1 < y3.heap.size) := by
        show _ < _
        have h := (Array.getElem?_eq_some_iff.1 ZV3.out).1
        first | omega | exact h
      have RT4 : Hid (OwnT (y3.heap.size) (.agg #[.slice pn 2 cn, .slice pm 2 cm]) [nX, nY] (xyR [1, 1, 2, 1]) y4) := by
        show OwnT _ _ _ _ _
        have h := rt4
        first | exact h | simpa using h
      clear hs4 hb4 rt4
      dsimp only
      refine hK.out _ _ (hold_of HB4.out a0 a1 hga) (fun hHeld => ?_)
      clear hK K
      try simp only [Act.put, List.setIfInBounds_toArray, List.set_cons_zero, List.set_cons_succ]
      refine wpAnyH_take (i := 4) (oi := ({ dst := some 29, op := Op.move (Operand.tmp 33), type := 31, pos := "law.go:60", after := #[{ on := 3, ground := Ground.data }], guard := none } : Oper)) (v := ?yv8) rfl (by kernel_rfl) (by kernel_rfl) (by kernel_rfl) (fun _ _ _ h => h) (Or.inl ⟨by rfl, ?yh8⟩) (by assumption) ?yr8
      case yh8 => (intro wq hSw; (try dsimp only at hSw); obtain ⟨sa, sb⟩ := hSw; go_simp; first | done | with_reducible rfl)
      try simp only [Act.put, List.setIfInBounds_toArray, List.set_cons_zero, List.set_cons_succ]
      refine wpAnyH_take (i := 5) (oi := ({ dst := some 34, op := Op.extract (Operand.tmp 29) 0, type := 25, pos := "law.go:60", after := #[{ on := 4, ground := Ground.data }], guard := none } : Oper)) (v := ?yv9) rfl (by kernel_rfl) (by kernel_rfl) (by kernel_rfl) (fun _ _ _ h => h) (Or.inl ⟨by rfl, ?yh9⟩) (by assumption) ?yr9
      case yh9 => (intro wq hSw; (try dsimp only at hSw); obtain ⟨sa, sb⟩ := hSw; go_simp; first | done | with_reducible rfl)
      try simp only [Act.put, List.setIfInBounds_toArray, List.set_cons_zero, List.set_cons_succ]
      refine wpAnyH_take (i := 6) (oi := ({ dst := some 35, op := Op.extract (Operand.tmp 29) 1, type := 27, pos := "law.go:60", after := #[{ on := 4, ground := Ground.data }, { on := 8, ground := Ground.gcOnly Departure.lateStores }], guard := none } : Oper)) (v := ?yv10) rfl (by kernel_rfl) (by kernel_rfl) (by kernel_rfl) (fun _ _ _ h => h) (Or.inl ⟨by rfl, ?yh10⟩) (by assumption) ?yr10
      case yh10 => (intro wq hSw; (try dsimp only at hSw); obtain ⟨sa, sb⟩ := hSw; go_simp; first | done | with_reducible rfl)
      try simp only [Act.put, List.setIfInBounds_toArray, List.set_cons_zero, List.set_cons_succ]
      refine wpAnyH_ready (rs := [8]) (by kernel_rfl) (by simp) ?_
      refine AllReadyH.cons (o := ({ dst := none, op := Op.store 25 (Operand.tmp 6) (Operand.tmp 34), type := 0, pos := "law.go:60", after := #[{ on := 7, ground := Ground.data }, { on := 5, ground := Ground.data }, { on := 3, ground := Ground.chain }, { on := 0, ground := Ground.phase }, { on := 1, ground := Ground.phase }, { on := 2, ground := Ground.phase }, { on := 3, ground := Ground.phase }, { on := 4, ground := Ground.phase }, { on := 5, ground := Ground.phase }, { on := 6, ground := Ground.textOnly Departure.lateStores }, { on := 7, ground := Ground.phase }], guard := none } : Oper)) rfl (fun K hK => ?_) AllReadyH.nil
      have z0 := ZV4.out.c0
      have z1 := ZV4.out.c1
      have f0 := frozen_of_heap ZV4.out 0
      have f1 := frozen_of_heap ZV4.out 1
      go_simp
      have hgB : W3.heap.size + 1 < y3.heap.size := by exact HL.out
      have hgW : W3.heap.size ≤ W3.heap.size + 1 := by exact HG.out
      have FB : Hid (Below W3.heap.size W3 ((y4.setCell ⟨W3.heap.size + 1, 0, none⟩ (.slice pn 2 cn)).setCell ⟨W3.heap.size + 1, 1, none⟩ (.slice pm 2 cm))) := by
        have b2 := HB4.out.grown (grownBy_setCell y4 (W3.heap.size + 1) 0 (.slice pn 2 cn)) HB4.out.size (fun q hq => by injection hq with hq; omega)
        exact b2.grown (grownBy_setCell _ (W3.heap.size + 1) 1 (.slice pm 2 cm)) b2.size (fun q hq => by injection hq with hq; omega)
      have FV : Hid (Var ((y4.setCell ⟨W3.heap.size + 1, 0, none⟩ (.slice pn 2 cn)).setCell ⟨W3.heap.size + 1, 1, none⟩ (.slice pm 2 cm)) (W3.heap.size + 1) (.slice pn 2 cn) (.slice pm 2 cm)) := var_set ZV4.out
      have FT := own_two ((RT4.out.set (T := W3.heap.size + 1) (j := 0) (u := .slice pn 2 cn) hgB).set (T := W3.heap.size + 1) (j := 1) (u := .slice pm 2 cm) hgB)
      have FN : Hid (StrsAt ((y4.setCell ⟨W3.heap.size + 1, 0, none⟩ (.slice pn 2 cn)).setCell ⟨W3.heap.size + 1, 1, none⟩ (.slice pm 2 cm)) (.slice pn 2 cn) [nX, nY]) := FT.1
      have FM : Hid (TabRows ((y4.setCell ⟨W3.heap.size + 1, 0, none⟩ (.slice pn 2 cn)).setCell ⟨W3.heap.size + 1, 1, none⟩ (.slice pm 2 cm)) (.slice pm 2 cm) (xyR [1, 1, 2, 1])) := FT.2
      clear z0 z1 f0 f1 FT hgB hgW
      refine hK.out _ _ (hold_of FB.out a0 a1 hga) (fun hHeld => ?_)
      clear hK K
      try simp only [Act.put, List.setIfInBounds_toArray, List.set_cons_zero, List.set_cons_succ]
      refine wpAnyH_ready (rs := [9]) (by kernel_rfl) (by simp) ?_
      refine AllReadyH.cons (o := ({ dst := some 7, op := Op.assign (Operand.tmp 35), type := 27, pos := "law.go:60", after := #[{ on := 6, ground := Ground.data }, { on := 8, ground := Ground.chain }, { on := 0, ground := Ground.phase }, { on := 1, ground := Ground.phase }, { on := 2, ground := Ground.phase }, { on := 3, ground := Ground.phase }, { on := 4, ground := Ground.phase }, { on := 5, ground := Ground.phase }, { on := 6, ground := Ground.phase }, { on := 7, ground := Ground.phase }, { on := 8, ground := Ground.phase }], guard := none } : Oper)) rfl (fun K hK => ?_) AllReadyH.nil
      go_simp
      refine hK.out _ _ (hold_of FB.out a0 a1 hga) (fun hHeld => ?_)
      clear hK K
      try simp only [Act.put, List.setIfInBounds_toArray, List.set_cons_zero, List.set_cons_succ]
      refine wpAnyH_done (by kernel_rfl) ?_ _
      (try simp only [Exit.then])
      exact HREST.out _ _ _ _ _ _ _ _ _ _ _ _ _ FV FN FM FB
  · go_simp
    have hs1 : Below ((W3).drew).heap.size ((W3).drew) (((W3).alloc (.cells #[.slice none 0 0, .slice none 0 0] 25)).drew) := re_below ((Below.refl (W3).heap.size (W3)).alloc (Nat.le_refl _) _)
    have HB1 : Hid (Below W3.heap.size W3 (((W3).alloc (.cells #[.slice none 0 0, .slice none 0 0] 25)).drew)) := HB0.out.trans (hs1.mono HB0.out.size)
    have ZV1 : Hid (Var (((W3).alloc (.cells #[.slice none 0 0, .slice none 0 0] 25)).drew) (W3.heap.size) (.slice none 0 0) (.slice none 0 0)) := at_size (P := fun g => Var (((W3).alloc (.cells #[.slice none 0 0, .slice none 0 0] 25)).drew) g (.slice none 0 0) (.slice none 0 0)) (heap_alloc (W3) _) (by simp)
    have HG : Hid (W3.heap.size ≤ W3.heap.size) := by
      show _ ≤ _
      have h := HB0.out.size
      first | omega | (simp at h; omega)
    clear hs1
    refine hK.out _ _ (hold_of HB1.out a0 a1 hga) (fun hHeld => ?_)
    clear hK K
    try simp only [Act.put, List.setIfInBounds_toArray, List.set_cons_zero, List.set_cons_succ]
    refine wpAnyH_ready (rs := [1]) (by kernel_rfl) (by simp) ?_
    refine AllReadyH.cons (o := ({ dst := some 31, op := Op.buildSlice 64 2 #[(0, Operand.const (Value.int IntKind.i64 1)), (1, Operand.const (Value.int IntKind.i64 2))], type := 64, pos := "law.go:60", after := #[], guard := none } : Oper)) rfl (fun K hK => ?_) AllReadyH.nil
    go_simp
    have hs2 : Below (((W3).alloc (.cells #[.slice none 0 0, .slice none 0 0] 25)).drew).heap.size (((W3).alloc (.cells #[.slice none 0 0, .slice none 0 0] 25)).drew) ((((W3).alloc (.cells #[.slice none 0 0, .slice none 0 0] 25)).alloc (.cells #[.int .i64 1, .int .i64 2] 2)).drew) := re_below ((Below.refl ((W3).alloc (.cells #[.slice none 0 0, .slice none 0 0] 25)).heap.size ((W3).alloc (.cells #[.slice none 0 0, .slice none 0 0] 25))).alloc (Nat.le_refl _) _)
    have HB2 : Hid (Below W3.heap.size W3 ((((W3).alloc (.cells #[.slice none 0 0, .slice none 0 0] 25)).alloc (.cells #[.int .i64 1, .int .i64 2] 2)).drew)) := HB1.out.trans (hs2.mono HB1.out.size)
    have ZV2 : Hid (Var ((((W3).alloc (.cells #[.slice none 0 0, .slice none 0 0] 25)).alloc (.cells #[.int .i64 1, .int .i64 2] 2)).drew) (W3.heap.size) (.slice none 0 0) (.slice none 0 0)) := ZV1.out.below hs2
    have LT2 : Hid (Lit ((((W3).alloc (.cells #[.slice none 0 0, .slice none 0 0] 25)).alloc (.cells #[.int .i64 1, .int .i64 2] 2)).drew) (W3.heap.size + 1)) := at_size (P := fun g => Lit ((((W3).alloc (.cells #[.slice none 0 0, .slice none 0 0] 25)).alloc (.cells #[.int .i64 1, .int .i64 2] 2)).drew) g) (heap_alloc ((W3).alloc (.cells #[.slice none 0 0, .slice none 0 0] 25)) _) (by simp)
    clear hs2
    refine hK.out _ _ (hold_of HB2.out a0 a1 hga) (fun hHeld => ?_)
    clear hK K
    try simp only [Act.put, List.setIfInBounds_toArray, List.set_cons_zero, List.set_cons_succ]
    refine wpAnyH_ready (rs := [2]) (by kernel_rfl) (by simp) ?_
    refine AllReadyH.cons (o := ({ dst := some 32, op := Op.call { callee := Callee.value (Operand.func 14), args := #[Operand.tmp 31], argTypes := #[64] }, type := 25, pos := "law.go:60", after := #[{ on := 1, ground := Ground.data }], guard := none } : Oper)) rfl (fun K hK => ?_) AllReadyH.nil
    go_simp
    refine (C4.out _ _ LT2.out).mono ?_
    rintro e y3 ⟨q1, d1, q2, d2, rfl, tx3, hb3⟩
    have hs3 : Below ((((W3).alloc (.cells #[.slice none 0 0, .slice none 0 0] 25)).alloc (.cells #[.int .i64 1, .int .i64 2] 2)).drew).heap.size ((((W3).alloc (.cells #[.slice none 0 0, .slice none 0 0] 25)).alloc (.cells #[.int .i64 1, .int .i64 2] 2)).drew) y3 := hb3
    have HB3 : Hid (Below W3.heap.size W3 (y3)) := HB2.out.trans (hs3.mono HB2.out.size)
    have ZV3 : Hid (Var (y3) (W3.heap.size) (.slice none 0 0) (.slice none 0 0)) := ZV2.out.below hs3
    have TX3 : Hid (∃ us, TabAt y3 (.slice q1 2 d1) (.slice q2 1 d2) [nX, nY] us (xyR [1, 2])) := tx3
    clear hs3 hb3 tx3
    dsimp only
    refine hK.out _ _ (hold_of HB3.out a0 a1 hga) (fun hHeld => ?_)
    clear hK K
    try simp only [Act.put, List.setIfInBounds_toArray, List.set_cons_zero, List.set_cons_succ]
    refine wpAnyH_ready (rs := [3]) (by kernel_rfl) (by simp) ?_
    refine AllReadyH.cons (o := ({ dst := some 33, op := Op.call { callee := Callee.value (Operand.func 16), args := #[Operand.tmp 30, Operand.tmp 32], argTypes := #[25, 25] }, type := 31, pos := "law.go:60", after := #[{ on := 0, ground := Ground.data }, { on := 2, ground := Ground.data }, { on := 2, ground := Ground.chain }], guard := none } : Oper)) rfl (fun K hK => ?_) AllReadyH.nil
    go_simp
    refine (C5.out _ _ _ _ _ HB3.out TX3.out).mono ?_
    rintro e y4 ⟨pn, cn, pm, cm, rfl, rt4, hb4⟩
    have hs4 : Below (y3).heap.size (y3) y4 := hb4
    have HB4 : Hid (Below W3.heap.size W3 (y4)) := HB3.out.trans (hs4.mono HB3.out.size)
    have ZV4 : Hid (Var (y4) (W3.heap.size) (.slice none 0 0) (.slice none 0 0)) := ZV3.out.below hs4
    have HL : Hid (W3.heap.size < y3.heap.size) := by
      show _ < _
      have h := (Array.getElem?_eq_some_iff.1 ZV3.out).1
      first | omega | exact h
    have RT4 : Hid (OwnT (y3.heap.size) (.agg #[.slice pn 2 cn, .slice pm 2 cm]) [nX, nY] (xyR [1, 1, 2, 1]) y4) := by
      show OwnT _ _ _ _ _
      have h := rt4
      first | exact h | simpa using h
    clear hs4 hb4 rt4
    dsimp only
    refine hK.out _ _ (hold_of HB4.out a0 a1 hga) (fun hHeld => ?_)
    clear hK K
    try simp only [Act.put, List.setIfInBounds_toArray, List.set_cons_zero, List.set_cons_succ]
    refine wpAnyH_take (i := 4) (oi := ({ dst := some 29, op := Op.move (Operand.tmp 33), type := 31, pos := "law.go:60", after := #[{ on := 3, ground := Ground.data }], guard := none } : Oper)) (v := ?yv11) rfl (by kernel_rfl) (by kernel_rfl) (by kernel_rfl) (fun _ _ _ h => h) (Or.inl ⟨by rfl, ?yh11⟩) (by assumption) ?yr11
    case yh11 => (intro wq hSw; (try dsimp only at hSw); obtain ⟨sa, sb⟩ := hSw; go_simp; first | done | with_reducible rfl)
    try simp only [Act.put, List.setIfInBounds_toArray, List.set_cons_zero, List.set_cons_succ]
    refine wpAnyH_take (i := 5) (oi := ({ dst := some 34, op := Op.extract (Operand.tmp 29) 0, type := 25, pos := "law.go:60", after := #[{ on := 4, ground := Ground.data }], guard := none } : Oper)) (v := ?yv12) rfl (by kernel_rfl) (by kernel_rfl) (by kernel_rfl) (fun _ _ _ h => h) (Or.inl ⟨by rfl, ?yh12⟩) (by assumption) ?yr12
    case yh12 => (intro wq hSw; (try dsimp only at hSw); obtain ⟨sa, sb⟩ := hSw; go_simp; first | done | with_reducible rfl)
    try simp only [Act.put, List.setIfInBounds_toArray, List.set_cons_zero, List.set_cons_succ]
    refine wpAnyH_take (i := 6) (oi := ({ dst := some 35, op := Op.extract (Operand.tmp 29) 1, type := 27, pos := "law.go:60", after := #[{ on := 4, ground := Ground.data }, { on := 8, ground := Ground.gcOnly Departure.lateStores }], guard := none } : Oper)) (v := ?yv13) rfl (by kernel_rfl) (by kernel_rfl) (by kernel_rfl) (fun _ _ _ h => h) (Or.inl ⟨by rfl, ?yh13⟩) (by assumption) ?yr13
    case yh13 => (intro wq hSw; (try dsimp only at hSw); obtain ⟨sa, sb⟩ := hSw; go_simp; first | done | with_reducible rfl)
    try simp only [Act.put, List.setIfInBounds_toArray, List.set_cons_zero, List.set_cons_succ]
    refine wpAnyH_ready (rs := [8]) (by kernel_rfl) (by simp) ?_
    refine AllReadyH.cons (o := ({ dst := none, op := Op.store 25 (Operand.tmp 6) (Operand.tmp 34), type := 0, pos := "law.go:60", after := #[{ on := 7, ground := Ground.data }, { on := 5, ground := Ground.data }, { on := 3, ground := Ground.chain }, { on := 0, ground := Ground.phase }, { on := 1, ground := Ground.phase }, { on := 2, ground := Ground.phase }, { on := 3, ground := Ground.phase }, { on := 4, ground := Ground.phase }, { on := 5, ground := Ground.phase }, { on := 6, ground := Ground.textOnly Departure.lateStores }, { on := 7, ground := Ground.phase }], guard := none } : Oper)) rfl (fun K hK => ?_) AllReadyH.nil
    have z0 := ZV4.out.c0
    have z1 := ZV4.out.c1
    have f0 := frozen_of_heap ZV4.out 0
    have f1 := frozen_of_heap ZV4.out 1
    go_simp
    have hgB : W3.heap.size < y3.heap.size := by exact HL.out
    have hgW : W3.heap.size ≤ W3.heap.size := by exact HG.out
    have FB : Hid (Below W3.heap.size W3 ((y4.setCell ⟨W3.heap.size, 0, none⟩ (.slice pn 2 cn)).setCell ⟨W3.heap.size, 1, none⟩ (.slice pm 2 cm))) := by
      have b2 := HB4.out.grown (grownBy_setCell y4 (W3.heap.size) 0 (.slice pn 2 cn)) HB4.out.size (fun q hq => by injection hq with hq; omega)
      exact b2.grown (grownBy_setCell _ (W3.heap.size) 1 (.slice pm 2 cm)) b2.size (fun q hq => by injection hq with hq; omega)
    have FV : Hid (Var ((y4.setCell ⟨W3.heap.size, 0, none⟩ (.slice pn 2 cn)).setCell ⟨W3.heap.size, 1, none⟩ (.slice pm 2 cm)) (W3.heap.size) (.slice pn 2 cn) (.slice pm 2 cm)) := var_set ZV4.out
    have FT := own_two ((RT4.out.set (T := W3.heap.size) (j := 0) (u := .slice pn 2 cn) hgB).set (T := W3.heap.size) (j := 1) (u := .slice pm 2 cm) hgB)
    have FN : Hid (StrsAt ((y4.setCell ⟨W3.heap.size, 0, none⟩ (.slice pn 2 cn)).setCell ⟨W3.heap.size, 1, none⟩ (.slice pm 2 cm)) (.slice pn 2 cn) [nX, nY]) := FT.1
    have FM : Hid (TabRows ((y4.setCell ⟨W3.heap.size, 0, none⟩ (.slice pn 2 cn)).setCell ⟨W3.heap.size, 1, none⟩ (.slice pm 2 cm)) (.slice pm 2 cm) (xyR [1, 1, 2, 1])) := FT.2
    clear z0 z1 f0 f1 FT hgB hgW
    refine hK.out _ _ (hold_of FB.out a0 a1 hga) (fun hHeld => ?_)
    clear hK K
    try simp only [Act.put, List.setIfInBounds_toArray, List.set_cons_zero, List.set_cons_succ]
    refine wpAnyH_ready (rs := [9]) (by kernel_rfl) (by simp) ?_
    refine AllReadyH.cons (o := ({ dst := some 7, op := Op.assign (Operand.tmp 35), type := 27, pos := "law.go:60", after := #[{ on := 6, ground := Ground.data }, { on := 8, ground := Ground.chain }, { on := 0, ground := Ground.phase }, { on := 1, ground := Ground.phase }, { on := 2, ground := Ground.phase }, { on := 3, ground := Ground.phase }, { on := 4, ground := Ground.phase }, { on := 5, ground := Ground.phase }, { on := 6, ground := Ground.phase }, { on := 7, ground := Ground.phase }, { on := 8, ground := Ground.phase }], guard := none } : Oper)) rfl (fun K hK => ?_) AllReadyH.nil
    go_simp
    refine hK.out _ _ (hold_of FB.out a0 a1 hga) (fun hHeld => ?_)
    clear hK K
    try simp only [Act.put, List.setIfInBounds_toArray, List.set_cons_zero, List.set_cons_succ]
    refine wpAnyH_done (by kernel_rfl) ?_ _
    (try simp only [Exit.then])
    exact HREST.out _ _ _ _ _ _ _ _ _ _ _ _ _ FV FN FM FB

end Go.Proofs.YtiliaincniiijaaGreat

namespace Go.Proofs.YtiliaincniiijaaGreat
open Go.RowKit Go.Shelf Go.Sort
set_option linter.unusedVariables false

theorem StrsAt.all {w : World} {v : Value} {vs : List ByteArray} (h : StrsAt w v vs) : ∃ p c, v = .slice p vs.length c ∧ ∀ k (hk : k < vs.length), ∃ b off, p = some ⟨b, off, none⟩ ∧ b < w.heap.size ∧ w.cell? ⟨b, off + k, none⟩ = some (.string vs[k]) := by
  obtain ⟨p, c, rfl, rfl | ⟨b, off, rfl, hb, hr⟩⟩ := h
  · exact ⟨p, c, rfl, fun k hk => absurd hk (Nat.not_lt_zero _)⟩
  · exact ⟨_, c, rfl, fun k hk => ⟨b, off, rfl, hb, hr k hk⟩⟩

end Go.Proofs.YtiliaincniiijaaGreat

namespace Go.Proofs.YtiliaincniiijaaGreat
open Go.RowKit Go.Shelf Go.Sort
set_option linter.unusedVariables false

set_option maxRecDepth 100000 in
set_option maxHeartbeats 2000000 in
theorem dfind_any {V : Value} {vs : List ByteArray} {X : ByteArray} {w : World} (hV : StrsAt w V vs) (lv : vs.length ≤ 9223372036854775807) :
    Calls Tryz.prog 34 #[V, .string X] w fun e w' => e = .returned (.int .i64 (Lib.idxOfS vs X)) ∧ Below w.heap.size w w' := by
  obtain ⟨p, c, rfl, HV0⟩ := hV.all
  have HV : Hid (∀ k (hk : k < vs.length), ∃ b off, p = some ⟨b, off, none⟩ ∧ b < w.heap.size ∧ w.cell? ⟨b, off + k, none⟩ = some (.string vs[k])) := HV0
  obtain ⟨n, en⟩ : ∃ n : Nat, Hid (vs.length = n) := ⟨_, rfl⟩
  rw [en.out] at lv ⊢
  clear hV HV0
  go_enter Tryz.func34, Tryz.ntmps34
  go_wp2
  go_loopw [5] (fun i wr => ∃ k : Nat, k ≤ n ∧ i = .int .i64 k ∧ Hid (Lib.idxOfS vs X = Lib.idxFromS (vs.drop k) X k) ∧ Below w.heap.size w wr) (fun i _ => n - (intOf i).toNat)
  case atStart => exact ⟨0, Nat.zero_le _, rfl, (show Lib.idxOfS vs X = Lib.idxFromS (vs.drop 0) X 0 by simp [Lib.idxOfS]), Below.refl _ _⟩
  case round =>
    obtain ⟨k, hk, rfl, hr, hB⟩ := hrel
    by_cases hlt : k < n
    · have kx : k < vs.length := by have := en.out; omega
      obtain ⟨b, off, rfl, hb, x1⟩ := HV.out k kx
      have q1 := (hB.cell (p := ⟨b, off + k, none⟩) hb).trans x1
      have hr2 : Hid (Lib.idxOfS vs X = if vs[k] = X then ((k : Nat) : Int) else Lib.idxFromS (vs.drop (k + 1)) X (k + 1)) := by
        have h := hr.out
        rw [List.drop_eq_getElem_cons kx] at h
        rw [h]
        rfl
      clear hr x1
      generalize vs[k] = Y at q1 hr2
      have hB2 : Below w.heap.size w wr.drew := by go_grown
      by_cases hXY : Y = X
      · subst hXY
        have hr3 : Hid (Lib.idxOfS vs Y = ((k : Nat) : Int)) := by have h := hr2.out; rwa [if_pos rfl] at h
        clear hr2
        go_wp2
        go_ret
        exact ⟨ret_int hr3.out.symm, by go_grown⟩
      · have hr3 : Hid (Lib.idxOfS vs X = Lib.idxFromS (vs.drop (k + 1)) X (k + 1)) := by have h := hr2.out; rwa [if_neg hXY] at h
        have hL : (Y.toList == X.toList) = false := by
          rw [toList_data, toList_data]
          refine beq_eq_false_iff_ne.mpr (fun h => hXY ?_)
          exact ByteArray.ext (Array.toList_inj.mp h)
        clear hr2
        go_wp2
        exact ⟨⟨k + 1, by omega, by go_num, hr3, by go_grown⟩, by simp [intOf]; omega⟩
    · have c2 : ¬ (k : Int) < n := by omega
      have hr3 : Hid (Lib.idxOfS vs X = -1) := by
        have h := hr.out
        rw [List.drop_eq_nil_of_le (by have := en.out; omega)] at h
        exact h
      go_wp2
      go_ret
      exact ⟨ret_int hr3.out.symm, hB⟩

end Go.Proofs.YtiliaincniiijaaGreat

namespace Go.Proofs.YtiliaincniiijaaGreat
open Go.RowKit Go.Shelf Go.Sort
set_option linter.unusedVariables false

end Go.Proofs.YtiliaincniiijaaGreat

namespace Go.Proofs.YtiliaincniiijaaGreat
open Go.RowKit Go.Shelf Go.Sort
set_option linter.unusedVariables false

end Go.Proofs.YtiliaincniiijaaGreat

namespace Go.Proofs.YtiliaincniiijaaGreat
open Go.RowKit Go.Shelf Go.Sort
set_option linter.unusedVariables false

theorem putS_len (x : ByteArray) : ∀ l, (putS x l).length = l.length + 1
  | [] => rfl
  | y :: l => by
    have ih := putS_len x l
    unfold putS
    split <;> simp [ih]
theorem madeS_len (vs : List ByteArray) : (madeS vs).length = vs.length := by
  have : ∀ (vs l : List ByteArray), (vs.foldl (fun l x => putS x l) l).length = l.length + vs.length := by
    intro vs
    induction vs with
    | nil => intro l; rfl
    | cons x vs ih => intro l; rw [List.foldl_cons, ih, putS_len]; simp; omega
  have h := this vs []
  simpa [madeS] using h
end Go.Proofs.YtiliaincniiijaaGreat

namespace Go.Proofs.YtiliaincniiijaaGreat
open Go.RowKit Go.Shelf Go.Sort
set_option linter.unusedVariables false

end Go.Proofs.YtiliaincniiijaaGreat

namespace Go.Proofs.YtiliaincniiijaaGreat
open Go.RowKit Go.Shelf Go.Sort
set_option linter.unusedVariables false

/-- Rows and where each lies, all of the call's own. -/
def OwnG (B : Nat) (b : Value) (G : List (Value × List Val)) (w : World) : Prop := w.ownsRow B 26 1 b G.length (G.map (·.1)) ∧ ∀ x ∈ G, OwnV B x.1 x.2 w
theorem OwnG.rs {B : Nat} {b : Value} {G : List (Value × List Val)} {w : World} (h : OwnG B b G w) : OwnRs B (G.map (·.1)) (G.map (·.2)) w := by
  refine ⟨by simp, fun i h1 h2 => ?_⟩
  rw [List.getElem_map, List.getElem_map]
  exact h.2 _ (List.getElem_mem _)
theorem OwnG.tab {B : Nat} {a b : Value} {vs : List ByteArray} {G : List (Value × List Val)} {w : World} (h : OwnG B b G w) (hs : OwnS B a vs w) : OwnT B (.agg #[a, b]) vs (G.map (·.2)) w := by
  refine ⟨a, b, G.map (·.1), rfl, hs, ?_, h.rs⟩
  have := h.1
  rwa [← List.length_map (f := (·.1))] at this

end Go.Proofs.YtiliaincniiijaaGreat

namespace Go.Proofs.YtiliaincniiijaaGreat
open Go.RowKit Go.Shelf Go.Sort
set_option linter.unusedVariables false

theorem OwnT.none (B : Nat) (w : World) : OwnT B (.agg #[.slice none 0 0, .slice none 0 0]) [] [] w := ⟨_, _, [], rfl, World.ownsRow_nil _ _ _ _, World.ownsRow_nil _ _ _ _, OwnRs.nil _ _⟩
/-- What is told together with an error: nothing, if there is one. -/
def TabO (B : Nat) (E : Int) (vs : List ByteArray) (L : List (List Val)) (t : Value) (w : World) : Prop := OwnT B t (if E = 0 then vs else []) (if E = 0 then L else []) w
theorem TabO.of {B : Nat} {E : Int} {vs : List ByteArray} {L : List (List Val)} {t : Value} {w : World} (h1 : E = 0 → OwnT B t vs L w) (h2 : E ≠ 0 → t = .agg #[.slice none 0 0, .slice none 0 0]) : TabO B E vs L t w := by
  unfold TabO
  by_cases h : E = 0
  · rw [if_pos h, if_pos h]; exact h1 h
  · rw [if_neg h, if_neg h, h2 h]; exact OwnT.none _ _
theorem own_forms2 {B : Nat} {t : Value} {vs : List ByteArray} {L : List (List Val)} {w : World} (h : OwnT B t vs L w) : ∃ p n c p' n' c', t = .agg #[.slice p n c, .slice p' n' c'] := by
  obtain ⟨p, c, p', c', e⟩ := own_forms h
  exact ⟨_, _, _, _, _, _, e⟩
theorem OwnT.grown {B : Nat} {t : Value} {vs : List ByteArray} {L : List (List Val)} {w w' : World} (h : OwnT B t vs L w) (hb : Below w.heap.size w w') : OwnT B t vs L w' := by
  obtain ⟨a, b, us, rfl, h1, h2, h3⟩ := h
  exact ⟨a, b, us, rfl, own_below h1 hb, own_below h2 hb, h3.below hb⟩
theorem TabO.grown {B : Nat} {E : Int} {vs : List ByteArray} {L : List (List Val)} {t : Value} {w w' : World} (h : TabO B E vs L t w) (hb : Below w.heap.size w w') : TabO B E vs L t w' := OwnT.grown h hb
/-- What a call tells: a table of its own and an error. -/
def TellsT (B : Nat) (E : Int) (vs : List ByteArray) (L : List (List Val)) (w0 : World) (e : Ending) (w : World) : Prop := ∃ pa na ca pb nb cb, e = .returned (.tuple #[.agg #[.slice pa na ca, .slice pb nb cb], .int .i64 E]) ∧ TabO B E vs L (.agg #[.slice pa na ca, .slice pb nb cb]) w ∧ Below B w0 w
theorem TellsT.of {B : Nat} {E : Int} {vs : List ByteArray} {L : List (List Val)} {w0 w : World} {t : Value} (h1 : E = 0 → OwnT B t vs L w) (h2 : E ≠ 0 → t = .agg #[.slice none 0 0, .slice none 0 0]) (hb : Below B w0 w) : TellsT B E vs L w0 (.returned (.tuple #[t, .int .i64 E])) w := by
  have h := TabO.of h1 h2
  obtain ⟨p, n, c, p', n', c', rfl⟩ := own_forms2 h
  exact ⟨_, _, _, _, _, _, rfl, h, hb⟩
end Go.Proofs.YtiliaincniiijaaGreat

namespace Go.Proofs.YtiliaincniiijaaGreat
open Go.RowKit Go.Shelf Go.Sort
set_option linter.unusedVariables false

theorem cols_self {vs : List ByteArray} (hn : vs.Nodup) : colsAt vs vs = List.range vs.length := by
  have h := cols_of_picks hn (cs := List.range vs.length) (fun c hc => List.mem_range.1 hc)
  rw [picks_self] at h
  exact h.symm
theorem bothL_go {vs : List ByteArray} (hn : vs.Nodup) : ∀ (n k : Nat), vs.length - k = n → bothL vs k (vs.drop k) = (List.range' k n).map fun i => (i, i)
  | 0, k, h => by
    rw [List.drop_eq_nil_of_le (by omega)]
    rfl
  | n + 1, k, h => by
    have hk : k < vs.length := by omega
    rw [List.drop_eq_getElem_cons hk]
    unfold bothL
    have hx : ¬ Lib.idxOfS vs vs[k] < 0 := by
      have := (Lib.idxOfS_nonneg_iff vs vs[k]).2 (List.getElem_mem hk)
      omega
    rw [if_neg hx, idx_of_nodup hn hk, bothL_go hn n (k + 1) (by omega), List.range'_succ]
    rfl
theorem bothL_self {vs : List ByteArray} (hn : vs.Nodup) : (bothL vs 0 vs).map (·.1) = List.range vs.length ∧ (bothL vs 0 vs).map (·.2) = List.range vs.length := by
  have h := bothL_go hn vs.length 0 (by omega)
  rw [List.drop_zero] at h
  rw [h, List.map_map, List.map_map, ← List.range_eq_range']
  exact ⟨List.map_id _, List.map_id _⟩
theorem antiL_self {vs : List ByteArray} {rs qs : List (List Val)} (a : OkT vs rs) (b : OkT vs qs) : antiL vs vs rs qs = rs.filter fun r => !anyS r qs := by
  unfold antiL antiR
  obtain ⟨h1, h2⟩ := bothL_self a.nodup
  rw [h1, h2]
  refine List.filter_congr fun r hr => ?_
  have e1 : picks r (List.range vs.length) = r := by rw [← (a.rows r hr).1, picks_self]
  rw [e1]
  have : ∀ l : List (List Val), (∀ q ∈ l, q ∈ qs) → (l.any fun q => rowS r (picks q (List.range vs.length))) = anyS r l := by
    intro l
    induction l with
    | nil => intro _; rfl
    | cons q l ih =>
      intro hl
      have e2 : picks q (List.range vs.length) = q := by rw [← (b.rows q (hl q (List.mem_cons_self ..))).1, picks_self]
      rw [List.any_cons, e2, ih (fun x hx => hl x (List.mem_cons_of_mem _ hx))]
      first | rfl | (simp only [anyS]; rw [rowS_comm]) | (unfold anyS; rw [rowS_comm]; rfl)
  rw [this qs fun _ h => h]
end Go.Proofs.YtiliaincniiijaaGreat

namespace Go.Proofs.YtiliaincniiijaaGreat
open Go.RowKit Go.Shelf Go.Sort
set_option linter.unusedVariables false

theorem own_cap2 {w : World} {B e size m : Nat} {v : Value} {xs : List Value} (h : w.ownsRow B e size v m xs) : ∀ p n c, v = .slice p n c → n ≤ c := by
  rcases h with ⟨-, ⟨rfl, -⟩ | ⟨g, cap, cur, rfl, -, -, hn, -⟩⟩
  · intro p n c e; injection e with _ e1 e2; omega
  · intro p n c e; injection e with _ e1 e2; omega
theorem rowE_zero : ∀ {r : List Val}, okR r → rowE r = 0
  | [], _ => rfl
  | x :: r, h => by
    unfold rowE
    rw [if_pos (h x (List.mem_cons_self ..)).1]
    exact rowE_zero fun v hv => h v (List.mem_cons_of_mem _ hv)
end Go.Proofs.YtiliaincniiijaaGreat

namespace Go.Proofs.YtiliaincniiijaaGreat
open Go.RowKit Go.Shelf Go.Sort
set_option linter.unusedVariables false

theorem picks_map {α β : Type} (f : α → β) (l : List α) (cs : List Nat) : picks (l.map f) cs = (picks l cs).map f := by
  unfold picks
  rw [List.map_filterMap]
  refine congrFun (congrArg _ ?_) _
  funext c
  rw [List.getElem?_map]
theorem picks_picks {α : Type} (r : List α) : ∀ (cs ds : List Nat), (∀ c ∈ cs, c < r.length) → (∀ d ∈ ds, d < cs.length) → picks (picks r cs) ds = picks r (picks cs ds)
  | cs, [], _, _ => rfl
  | cs, d :: ds, hc, hd => by
    have h1 := hd d (List.mem_cons_self ..)
    have h2 := picks_len hc
    rw [picks_cons (by rw [h2]; exact h1), picks_cons h1, picks_picks r cs ds hc (fun x hx => hd x (List.mem_cons_of_mem _ hx)), picks_cons (hc _ (List.getElem_mem h1))]
    refine congrArg (· :: _) ?_
    have : ∀ (cs : List Nat) (d : Nat) (hd : d < cs.length) (hc : ∀ c ∈ cs, c < r.length) (h : d < (picks r cs).length), (picks r cs)[d] = r[cs[d]]'(hc _ (List.getElem_mem hd)) := by
      intro cs
      induction cs with
      | nil => intro d hd; exact absurd hd (Nat.not_lt_zero _)
      | cons c cs ih =>
        intro d hd hc h
        have e := picks_cons (l := r) (cs := cs) (hc c (List.mem_cons_self ..))
        cases d with
        | zero => simp [e]
        | succ d =>
          simp only [e, List.getElem_cons_succ]
          exact ih d (by simpa using hd) (fun x hx => hc x (List.mem_cons_of_mem _ hx)) _
    exact this cs d h1 hc _
theorem cols_lt {vs us : List ByteArray} (hf : ∀ x ∈ us, ¬ Lib.idxOfS vs x < 0) : ∀ c ∈ colsAt vs us, c < vs.length := fun c hc => by
  obtain ⟨x, hx, rfl⟩ := List.mem_map.1 hc
  exact (idx_lt (hf x hx)).1
theorem cols_len (vs us : List ByteArray) : (colsAt vs us).length = us.length := by unfold colsAt; rw [List.length_map]
theorem found_self (us : List ByteArray) : ∀ x ∈ us, ¬ Lib.idxOfS us x < 0 := fun x hx => by
  have := (Lib.idxOfS_nonneg_iff us x).2 hx
  omega
end Go.Proofs.YtiliaincniiijaaGreat

namespace Go.Proofs.YtiliaincniiijaaGreat
open Go.RowKit Go.Shelf Go.Sort
set_option linter.unusedVariables false

theorem pw_rise : ∀ {l : List ByteArray}, l.Pairwise (fun a b => bcmp a b < 0) → riseB l = true
  | [], _ => rfl
  | [x], _ => rfl
  | x :: y :: l, h => by
    obtain ⟨h1, h2⟩ := List.pairwise_cons.1 h
    show (Op.bytesLess x.toList y.toList && riseB (y :: l)) = true
    rw [Bool.and_eq_true, less_bcmp]
    exact ⟨decide_eq_true (h1 y (List.mem_cons_self ..)), pw_rise h2⟩
theorem rowsO_zero {m : Nat} : ∀ {rs : List (List Val)} {x : List Val}, (∀ r ∈ rs, r.length = m ∧ okR r) → (x :: rs).Pairwise (fun a b => rowC a b < 0) → rowsO m (some x) rs = 0
  | [], x, _, _ => rfl
  | r :: l, x, h, hp => by
    obtain ⟨h1, h2⟩ := List.pairwise_cons.1 hp
    have h3 := h r (List.mem_cons_self ..)
    have h4 := h1 r (List.mem_cons_self ..)
    unfold rowsO
    have h5 : rowChk r m = 0 := by unfold rowChk; rw [if_pos h3.1, rowE_zero h3.2]
    rw [if_pos h5, if_neg (by omega)]
    exact rowsO_zero (fun y hy => h y (List.mem_cons_of_mem _ hy)) h2
theorem OkT.chk {vs : List ByteArray} {rs : List (List Val)} (h : OkT vs rs) : tabChk vs rs = 0 := by
  unfold tabChk
  rw [if_pos ⟨h.few, h.rise⟩]
  cases rs with
  | nil => rfl
  | cons r l =>
    have h3 := h.rows r (List.mem_cons_self ..)
    unfold rowsO
    have h5 : rowChk r vs.length = 0 := by unfold rowChk; rw [if_pos h3.1, rowE_zero h3.2]
    rw [if_pos h5]
    exact rowsO_zero (fun y hy => h.rows y (List.mem_cons_of_mem _ hy)) h.sorted
theorem OkT.filter {vs : List ByteArray} {rs : List (List Val)} (h : OkT vs rs) (p : List Val → Bool) : OkT vs (rs.filter p) := ⟨h.few, h.rise, fun r hr => h.rows r (List.mem_filter.1 hr).1, h.sorted.sublist List.filter_sublist⟩
theorem OkT.made {vs : List ByteArray} {rs : List (List Val)} (hn : vs.Nodup) (h8 : vs.length ≤ 8) (h : ∀ r ∈ rs, r.length = vs.length ∧ okR r) : OkT (madeS vs) (ofRows vs rs) := by
  have okm : ∀ r ∈ rs.map (fun r => picks r (colsAt vs (madeS vs))), okR r := fun r hr => by
    obtain ⟨x, hx, rfl⟩ := List.mem_map.1 hr
    exact (h x hx).2.picks _
  have hm : ∀ x ∈ madeS vs, ¬ Lib.idxOfS vs x < 0 := fun x hx => found_self vs x ((mem_madeS hn x).1 hx)
  refine ⟨by rw [madeS_len]; exact h8, pw_rise (madeS_rises hn), fun r hr => ?_, madeR_rises okm⟩
  obtain ⟨x, hx, rfl⟩ := List.mem_map.1 ((mem_madeR okm r).1 hr)
  refine ⟨?_, (h x hx).2.picks _⟩
  rw [picks_len (fun c hc => by rw [(h x hx).1]; exact cols_lt hm c hc), cols_len]
theorem fm_same {α β : Type} {f g : α → Option β} : ∀ {l : List α}, (∀ x ∈ l, f x = g x) → l.filterMap f = l.filterMap g
  | [], _ => rfl
  | x :: l, h => by
    rw [List.filterMap_cons, List.filterMap_cons, h x (List.mem_cons_self ..), fm_same fun y hy => h y (List.mem_cons_of_mem _ hy)]
theorem picks_front {α : Type} (r y : List α) : picks (r ++ y) (List.range r.length) = r := by
  have h : picks (r ++ y) (List.range r.length) = picks r (List.range r.length) := by
    unfold picks
    refine fm_same fun c hc => ?_
    rw [List.getElem?_append_left (List.mem_range.1 hc)]
  rw [h, picks_self]
theorem cols_front {vs vs' : List ByteArray} (hn : (allV vs vs').Nodup) : colsAt (allV vs vs') vs = List.range vs.length := by
  have h := cols_of_picks hn (cs := List.range vs.length) (fun c hc => by
    have := List.mem_range.1 hc
    unfold allV
    rw [List.length_append]
    omega)
  have e : picks (allV vs vs') (List.range vs.length) = vs := picks_front vs _
  rw [e] at h
  exact h.symm
/-- Does a row of the other table fit it? -/
def fitsL (vs vs' : List ByteArray) (qs : List (List Val)) (r : List Val) : Bool := qs.any fun q => rowS (picks r ((bothL vs' 0 vs).map (·.1))) (picks q ((bothL vs' 0 vs).map (·.2)))
theorem antiL_fits (vs vs' : List ByteArray) (rs qs : List (List Val)) : antiL vs vs' rs qs = rs.filter fun r => !fitsL vs vs' qs r := rfl
theorem joinL_len (vs vs' : List ByteArray) : ∀ (rs qs : List (List Val)), (joinL vs vs' rs qs).length ≤ rs.length * qs.length := by
  intro rs qs
  unfold joinL joinR
  induction rs with
  | nil => simp
  | cons r rs ih =>
    rw [List.flatMap_cons, List.length_append, List.length_map, List.length_cons, Nat.succ_mul]
    have h := List.length_filter_le (fun q => rowS (picks r ((bothL vs' 0 vs).map (·.1))) (picks q ((bothL vs' 0 vs).map (·.2)))) qs
    omega
end Go.Proofs.YtiliaincniiijaaGreat

namespace Go.Proofs.YtiliaincniiijaaGreat
open Go.RowKit Go.Shelf Go.Sort
set_option linter.unusedVariables false

theorem picks_app {α : Type} (z : List α) (cs ds : List Nat) : picks z (cs ++ ds) = picks z cs ++ picks z ds := by
  unfold picks
  rw [List.filterMap_append]
theorem found_in {vs us : List ByteArray} (h : ∀ x ∈ us, x ∈ vs) : ∀ x ∈ us, ¬ Lib.idxOfS vs x < 0 := fun x hx => found_self vs x (h x hx)
theorem picks_cols {vs us : List ByteArray} (h : ∀ x ∈ us, x ∈ vs) : picks vs (colsAt vs us) = us := by
  unfold picks colsAt
  rw [List.filterMap_map]
  have e : us.filterMap ((fun c => vs[c]?) ∘ fun x => (Lib.idxOfS vs x).toNat) = us.filterMap some := fm_same fun x hx => (idx_lt (found_in h x hx)).2
  rw [e, List.filterMap_some]
/-- Some columns of some columns. -/
theorem picks_sub {U vs : List ByteArray} {z : List Val} (hz : z.length = U.length) (h : ∀ x ∈ vs, x ∈ U) {cs : List Nat} (hc : ∀ c ∈ cs, c < vs.length) : picks (picks z (colsAt U vs)) cs = picks z (colsAt U (picks vs cs)) := by
  rw [picks_picks z (colsAt U vs) cs (fun c hcc => by rw [hz]; exact cols_lt (found_in h) c hcc) (fun d hd => by rw [cols_len]; exact hc d hd)]
  unfold colsAt
  rw [picks_map]
theorem picks_two {U vs us : List ByteArray} {z : List Val} (hz : z.length = U.length) (h : ∀ x ∈ vs, x ∈ U) (g : ∀ x ∈ us, x ∈ vs) : picks (picks z (colsAt U vs)) (colsAt vs us) = picks z (colsAt U us) := by
  rw [picks_sub hz h (cols_lt (found_in g)), picks_cols g]
theorem picks_all {U : List ByteArray} {z : List Val} (hn : U.Nodup) (hz : z.length = U.length) : picks z (colsAt U U) = z := by
  rw [cols_self hn, ← hz, picks_self]
theorem picks_full {U vs : List ByteArray} {z : List Val} (hz : z.length = U.length) (h : ∀ x ∈ vs, x ∈ U) : (picks z (colsAt U vs)).length = vs.length := by
  rw [picks_len (fun c hc => by rw [hz]; exact cols_lt (found_in h) c hc), cols_len]

theorem both_same {us : List ByteArray} : ∀ (l pre : List ByteArray) (x : Nat × Nat), x ∈ bothL us pre.length l → (pre ++ l)[x.1]? = us[x.2]?
  | [], pre, x, h => by cases h
  | y :: l, pre, x, h => by
    have ih := both_same (us := us) l (pre ++ [y]) x
    rw [List.append_assoc, List.length_append] at ih
    unfold bothL at h
    split at h
    · exact ih h
    · rename_i hi
      rcases List.mem_cons.1 h with h | h
      · subst h
        rw [(idx_lt hi).2]
        simp
      · exact ih h
theorem both_names (vs us : List ByteArray) : picks vs ((bothL us 0 vs).map (·.1)) = picks us ((bothL us 0 vs).map (·.2)) := by
  unfold picks
  rw [List.filterMap_map, List.filterMap_map]
  exact fm_same fun x hx => both_same vs [] x hx
theorem mem_outs {vs : List ByteArray} : ∀ (l : List ByteArray) (k i : Nat) (h : i < l.length), ¬ l[i] ∈ vs → k + i ∈ outs vs k l
  | [], k, i, h, _ => absurd h (Nat.not_lt_zero _)
  | y :: l, k, 0, h, g => by
    have hc : ¬ Lib.containsS vs y = true := by
      simp only [Lib.containsS, decide_eq_true_eq]
      exact fun hh => g ((Lib.idxOfS_nonneg_iff _ _).1 hh)
    unfold outs
    rw [if_neg hc]
    exact List.mem_cons_self ..
  | y :: l, k, i + 1, h, g => by
    have ih := mem_outs (vs := vs) l (k + 1) i (by simpa using h) (by simpa using g)
    rw [show k + (i + 1) = k + 1 + i by omega]
    unfold outs
    split
    · exact ih
    · exact List.mem_cons_of_mem _ ih
theorem mem_both {us : List ByteArray} : ∀ (l : List ByteArray) (k i : Nat) (h : i < l.length), ¬ Lib.idxOfS us l[i] < 0 → (k + i, (Lib.idxOfS us l[i]).toNat) ∈ bothL us k l
  | [], k, i, h, _ => absurd h (Nat.not_lt_zero _)
  | y :: l, k, 0, h, g => by
    have g : ¬ Lib.idxOfS us y < 0 := g
    unfold bothL
    rw [if_neg g]
    exact List.mem_cons_self ..
  | y :: l, k, i + 1, h, g => by
    have ih := mem_both (us := us) l (k + 1) i (by simpa using h) (by simpa using g)
    rw [show k + (i + 1) = k + 1 + i by omega]
    unfold bothL
    split
    · exact ih
    · exact List.mem_cons_of_mem _ ih
theorem cover {vs us : List ByteArray} (hn : us.Nodup) {i : Nat} (h : i < us.length) : i ∈ outs vs 0 us ∨ i ∈ (bothL us 0 vs).map (·.2) := by
  by_cases hm : us[i] ∈ vs
  · obtain ⟨c, hc, e⟩ := List.getElem_of_mem hm
    have h1 := mem_both (us := us) vs 0 c hc (by rw [e]; exact found_self us _ (List.getElem_mem h))
    rw [e, idx_of_nodup hn h] at h1
    exact Or.inr (List.mem_map.2 ⟨_, h1, rfl⟩)
  · have h1 := mem_outs (vs := vs) us 0 i h hm
    rw [Nat.zero_add] at h1
    exact Or.inl h1
theorem picks_eqAt {α : Type} {x y : List α} (hl : x.length = y.length) : ∀ {cs : List Nat}, (∀ c ∈ cs, c < x.length) → picks x cs = picks y cs → ∀ c ∈ cs, x[c]? = y[c]?
  | [], _, _, c, h => by cases h
  | d :: cs, hc, e, c, h => by
    have h1 := hc d (List.mem_cons_self ..)
    have h2 : d < y.length := by omega
    have e' : x[d] :: picks x cs = y[d] :: picks y cs := by
      have a1 : picks x (d :: cs) = x[d] :: picks x cs := by simp only [picks, List.filterMap_cons, List.getElem?_eq_getElem h1]
      have a2 : picks y (d :: cs) = y[d] :: picks y cs := by simp only [picks, List.filterMap_cons, List.getElem?_eq_getElem h2]
      rw [← a1, ← a2]
      exact e
    injection e' with e1 e2
    rcases List.mem_cons.1 h with h | h
    · subst h
      rw [List.getElem?_eq_getElem h1, List.getElem?_eq_getElem h2, e1]
    · exact picks_eqAt hl (fun c hc' => hc c (List.mem_cons_of_mem _ hc')) e2 c h
theorem mem_allV {vs vs' : List ByteArray} (x : ByteArray) : x ∈ allV vs vs' ↔ x ∈ vs ∨ x ∈ vs' := by
  rw [allV_eq, List.mem_append, List.mem_filter]
  by_cases h : x ∈ vs
  · exact ⟨fun _ => Or.inl h, fun _ => Or.inl h⟩
  · have hc : Lib.containsS vs x = false := by
      simp only [Lib.containsS, decide_eq_false_iff_not]
      exact fun hh => h ((Lib.idxOfS_nonneg_iff _ _).1 hh)
    rw [hc]
    simp

/-- A joined row shows both of its rows. -/
theorem join_parts {vs vs' : List ByteArray} {rs qs : List (List Val)} (a : OkT vs rs) (b : OkT vs' qs) {r q : List Val} (hr : r ∈ rs) (hq : q ∈ qs) (hf : rowS (picks r ((bothL vs' 0 vs).map (·.1))) (picks q ((bothL vs' 0 vs).map (·.2))) = true) :
    r ++ picks q (outs vs 0 vs') ∈ joinL vs vs' rs qs ∧ picks (picks (r ++ picks q (outs vs 0 vs')) (colsAt (allV vs vs') (madeS (allV vs vs')))) (colsAt (madeS (allV vs vs')) vs) = r ∧ picks (picks (r ++ picks q (outs vs 0 vs')) (colsAt (allV vs vs') (madeS (allV vs vs')))) (colsAt (madeS (allV vs vs')) vs') = q := by
  have nA := allV_nodup a.nodup b.nodup
  have mU := mem_madeS nA
  have lU := madeS_len (allV vs vs')
  have nU : (madeS (allV vs vs')).Nodup := rises_nodup (madeS_rises nA)
  have sAU : ∀ x ∈ allV vs vs', x ∈ madeS (allV vs vs') := fun x hx => (mU x).2 hx
  have sUA : ∀ x ∈ madeS (allV vs vs'), x ∈ allV vs vs' := fun x hx => (mU x).1 hx
  have s1 : ∀ x ∈ vs, x ∈ madeS (allV vs vs') := fun x hx => sAU x ((mem_allV x).2 (Or.inl hx))
  have s2 : ∀ x ∈ vs', x ∈ madeS (allV vs vs') := fun x hx => sAU x ((mem_allV x).2 (Or.inr hx))
  have t1 : ∀ x ∈ vs, x ∈ allV vs vs' := fun x hx => (mem_allV x).2 (Or.inl hx)
  have t2 : ∀ x ∈ vs', x ∈ allV vs vs' := fun x hx => (mem_allV x).2 (Or.inr hx)
  have c1 : ∀ c ∈ (bothL vs' 0 vs).map (·.1), c < vs.length := both_cs.1
  have c2 : ∀ c ∈ (bothL vs' 0 vs).map (·.2), c < vs'.length := both_cs.2.1
  have c3 : ∀ c ∈ outs vs 0 vs', c < vs'.length := fun c hc => by have := outs_mem hc; omega
  have hx : r ++ picks q (outs vs 0 vs') ∈ joinL vs vs' rs qs := by
    unfold joinL joinR
    exact List.mem_flatMap.2 ⟨r, hr, List.mem_map.2 ⟨q, List.mem_filter.2 ⟨hq, hf⟩, rfl⟩⟩
  have hl := (joinL_ok a b _ hx).1
  have hf := rowS_iff.1 hf
  have lr := (a.rows r hr).1
  have lq := (b.rows q hq).1
  have e1 : picks (r ++ picks q (outs vs 0 vs')) (colsAt (allV vs vs') vs) = r := by
    rw [cols_front nA, ← lr]
    exact picks_front r _
  have e2 : picks (r ++ picks q (outs vs 0 vs')) (colsAt (allV vs vs') vs') = q := by
    have lq' := picks_full hl t2
    have g1 : picks (picks (r ++ picks q (outs vs 0 vs')) (colsAt (allV vs vs') vs')) ((bothL vs' 0 vs).map (·.2)) = picks q ((bothL vs' 0 vs).map (·.2)) := by
      rw [picks_sub hl t2 c2, ← both_names, ← picks_sub hl t1 c1, e1]
      exact hf
    have g2 : picks (picks (r ++ picks q (outs vs 0 vs')) (colsAt (allV vs vs') vs')) (outs vs 0 vs') = picks q (outs vs 0 vs') := by
      rw [picks_sub hl t2 c3]
      have h5 := picks_all nA hl
      have h6 : colsAt (allV vs vs') (allV vs vs') = colsAt (allV vs vs') vs ++ colsAt (allV vs vs') (picks vs' (outs vs 0 vs')) := by
        conv => lhs; rw [show colsAt (allV vs vs') (allV vs vs') = colsAt (allV vs vs') (vs ++ picks vs' (outs vs 0 vs')) from rfl]
        unfold colsAt
        rw [List.map_append]
      rw [h6, picks_app, e1] at h5
      exact List.append_cancel_left h5
    refine List.ext_getElem? fun i => ?_
    by_cases hi : i < vs'.length
    · rcases cover (vs := vs) b.nodup hi with h | h
      · exact picks_eqAt (by rw [lq', lq]) (fun c hc => by rw [lq']; exact c3 c hc) g2 i h
      · exact picks_eqAt (by rw [lq', lq]) (fun c hc => by rw [lq']; exact c2 c hc) g1 i h
    · rw [List.getElem?_eq_none (by omega), List.getElem?_eq_none (by omega)]
  refine ⟨hx, ?_, ?_⟩
  · rw [picks_two hl sUA s1, e1]
  · rw [picks_two hl sUA s2, e2]
/-- Whose rows are in a join: what shows a row of each. -/
theorem mem_join {vs vs' : List ByteArray} {rs qs : List (List Val)} (a : OkT vs rs) (b : OkT vs' qs) (z : List Val) : z ∈ ofRows (allV vs vs') (joinL vs vs' rs qs) ↔ z.length = (allV vs vs').length ∧ picks z (colsAt (madeS (allV vs vs')) vs) ∈ rs ∧ picks z (colsAt (madeS (allV vs vs')) vs') ∈ qs := by
  have nA := allV_nodup a.nodup b.nodup
  have mU := mem_madeS nA
  have lU := madeS_len (allV vs vs')
  have nU : (madeS (allV vs vs')).Nodup := rises_nodup (madeS_rises nA)
  have ok : ∀ r ∈ (joinL vs vs' rs qs).map (fun r => picks r (colsAt (allV vs vs') (madeS (allV vs vs')))), okR r := fun r hr => by
    obtain ⟨x, hx, rfl⟩ := List.mem_map.1 hr
    exact (joinL_ok a b x hx).2.picks _
  have sAU : ∀ x ∈ allV vs vs', x ∈ madeS (allV vs vs') := fun x hx => (mU x).2 hx
  have sUA : ∀ x ∈ madeS (allV vs vs'), x ∈ allV vs vs' := fun x hx => (mU x).1 hx
  have s1 : ∀ x ∈ vs, x ∈ madeS (allV vs vs') := fun x hx => sAU x ((mem_allV x).2 (Or.inl hx))
  have s2 : ∀ x ∈ vs', x ∈ madeS (allV vs vs') := fun x hx => sAU x ((mem_allV x).2 (Or.inr hx))
  have t1 : ∀ x ∈ vs, x ∈ allV vs vs' := fun x hx => (mem_allV x).2 (Or.inl hx)
  have t2 : ∀ x ∈ vs', x ∈ allV vs vs' := fun x hx => (mem_allV x).2 (Or.inr hx)
  have c1 : ∀ c ∈ (bothL vs' 0 vs).map (·.1), c < vs.length := both_cs.1
  have c2 : ∀ c ∈ (bothL vs' 0 vs).map (·.2), c < vs'.length := both_cs.2.1
  have c3 : ∀ c ∈ outs vs 0 vs', c < vs'.length := fun c hc => by have := outs_mem hc; omega
  unfold ofRows
  rw [mem_madeR ok, List.mem_map]
  constructor
  · rintro ⟨x, hx, rfl⟩
    have hl := (joinL_ok a b x hx).1
    have hx' := hx
    unfold joinL joinR at hx'
    obtain ⟨r, hr, hx'⟩ := List.mem_flatMap.1 hx'
    obtain ⟨q, hq, rfl⟩ := List.mem_map.1 hx'
    obtain ⟨hq, hf⟩ := List.mem_filter.1 hq
    have lZ9 := picks_full hl sUA
    obtain ⟨-, e1, e2⟩ := join_parts a b hr hq hf
    refine ⟨by rw [lZ9, lU], ?_, ?_⟩
    · rw [e1]
      exact hr
    · rw [e2]
      exact hq
  · rintro ⟨hl, hr, hq⟩
    have hz : z.length = (madeS (allV vs vs')).length := by rw [lU, hl]
    refine ⟨picks z (colsAt (madeS (allV vs vs')) (allV vs vs')), ?_, ?_⟩
    · unfold joinL joinR
      refine List.mem_flatMap.2 ⟨_, hr, List.mem_map.2 ⟨_, List.mem_filter.2 ⟨hq, ?_⟩, ?_⟩⟩
      · rw [picks_sub hz s1 c1, picks_sub hz s2 c2, both_names]
        exact rowS_iff.2 rfl
      · rw [picks_sub hz s2 c3, ← picks_app]
        congr 1
        conv => rhs; rw [show colsAt (madeS (allV vs vs')) (allV vs vs') = colsAt (madeS (allV vs vs')) (vs ++ picks vs' (outs vs 0 vs')) from rfl]
        unfold colsAt
        rw [List.map_append]
    · rw [picks_two hz sAU sUA]
      exact picks_all nU hz

theorem join_okT {vs vs' : List ByteArray} {rs qs : List (List Val)} (a : OkT vs rs) (b : OkT vs' qs) (h8 : (allV vs vs').length ≤ 8) : OkT (madeS (allV vs vs')) (ofRows (allV vs vs') (joinL vs vs' rs qs)) := OkT.made (allV_nodup a.nodup b.nodup) h8 (joinL_ok a b)
end Go.Proofs.YtiliaincniiijaaGreat

namespace Go.Proofs.YtiliaincniiijaaGreat
open Go.RowKit Go.Shelf Go.Sort
set_option linter.unusedVariables false

/-- A table in memory, as the document's functions ask for it. -/
structure DTab (w : World) (V R : Value) (vs : List ByteArray) (rs : List (List Val)) : Prop where
  vars : StrsAt w V vs
  rows : TabRows w R rs
  fits : ∀ r ∈ rs, ∀ v ∈ r, v.Fits
  long : ∀ r ∈ rs, r.length ≤ 9223372036854775807
  names : vs.length ≤ 9223372036854775807
  many : rs.length ≤ 5864062014805
theorem DTab.below {w w' : World} {V R : Value} {vs : List ByteArray} {rs : List (List Val)} (h : DTab w V R vs rs) (hb : Below w.heap.size w w') : DTab w' V R vs rs := ⟨h.vars.below hb, h.rows.below hb, h.fits, h.long, h.names, h.many⟩
theorem DTab.forms {w : World} {V R : Value} {vs : List ByteArray} {rs : List (List Val)} (h : DTab w V R vs rs) : ∃ p c p' c', V = .slice p vs.length c ∧ R = .slice p' rs.length c' := by
  obtain ⟨p, c, rfl⟩ := h.vars.form
  obtain ⟨p', c', rfl, -⟩ := h.rows.form
  exact ⟨p, c, p', c', rfl, rfl⟩
end Go.Proofs.YtiliaincniiijaaGreat

namespace Go.Proofs.YtiliaincniiijaaGreat
open Go.RowKit Go.Shelf Go.Sort
set_option linter.unusedVariables false

/-- Does a row fit another, where both have a variable? -/
def fitB (vs us : List ByteArray) (r q : List Val) (k : Nat) : Bool := rowS (picks r ((bothL us k (vs.drop k)).map (·.1))) (picks q ((bothL us k (vs.drop k)).map (·.2)))
theorem fitB_end {vs us : List ByteArray} {r q : List Val} {k : Nat} (h : vs.length ≤ k) : fitB vs us r q k = true := by
  unfold fitB
  rw [List.drop_eq_nil_of_le h]
  rfl
theorem bothL_cons (us : List ByteArray) (k : Nat) (x : ByteArray) (l : List ByteArray) : bothL us k (x :: l) = if Lib.idxOfS us x < 0 then bothL us (k + 1) l else (k, (Lib.idxOfS us x).toNat) :: bothL us (k + 1) l := rfl
theorem fitB_step {vs us : List ByteArray} {r q : List Val} {k : Nat} (h : k < vs.length) : fitB vs us r q k = if Lib.idxOfS us vs[k] < 0 then fitB vs us r q (k + 1) else
    rowS (picks r (k :: (bothL us (k + 1) (vs.drop (k + 1))).map (·.1))) (picks q ((Lib.idxOfS us vs[k]).toNat :: (bothL us (k + 1) (vs.drop (k + 1))).map (·.2))) := by
  unfold fitB
  rw [List.drop_eq_getElem_cons h, bothL_cons]
  by_cases hx : Lib.idxOfS us vs[k] < 0
  · rw [if_pos hx, if_pos hx]
  · rw [if_neg hx, if_neg hx]
    rfl
theorem fitB_zero (vs us : List ByteArray) (r q : List Val) : fitB vs us r q 0 = rowS (picks r ((bothL us 0 vs).map (·.1))) (picks q ((bothL us 0 vs).map (·.2))) := by
  unfold fitB
  rw [List.drop_zero]

set_option maxRecDepth 100000 in
set_option maxHeartbeats 8000000 in
theorem dfits_any {V R U Q : Value} {vs us : List ByteArray} {r q : List Val} {w : World} (hV : StrsAt w V vs) (hR : RowAt w R r) (hU : StrsAt w U us) (hQ : RowAt w Q q) (lr : r.length = vs.length) (lq : q.length = us.length) (lv : vs.length ≤ 8) (lu : us.length ≤ 8) :
    Calls Tryz.prog 10 #[V, R, U, Q] w fun e w' => e = .returned (.bool (fitB vs us r q 0)) ∧ Below w.heap.size w w' := by
  have FD : Hid (∀ (W : World) (X : ByteArray), Below w.heap.size w W → Calls Tryz.prog 34 #[U, .string X] W fun e w' => e = .returned (.int .i64 (Lib.idxOfS us X)) ∧ Below W.heap.size W w') := fun W X hW => dfind_any (hU.below hW) (by omega)
  obtain ⟨pv, cv, rfl, HV0⟩ := hV.all
  have HV : Hid (∀ k (hk : k < vs.length), ∃ b off, pv = some ⟨b, off, none⟩ ∧ b < w.heap.size ∧ w.cell? ⟨b, off + k, none⟩ = some (.string vs[k])) := HV0
  obtain ⟨pu, cu, rfl⟩ := hU.form
  obtain ⟨pr, cr, rfl⟩ := hR.form
  obtain ⟨pq, cq, rfl⟩ := hQ.form
  have GR : Hid (∀ i (hi : i < r.length), ∃ b off, pr = some ⟨b, off, none⟩ ∧ b < w.heap.size ∧ w.cell? ⟨b, off + i * 4, none⟩ = some (.int .i64 r[i].k) ∧ w.cell? ⟨b, off + i * 4 + 1, none⟩ = some (.int .i64 r[i].n) ∧ w.cell? ⟨b, off + i * 4 + 2, none⟩ = some (.int .i64 r[i].d) ∧ w.cell? ⟨b, off + i * 4 + 3, none⟩ = some (.string r[i].s)) := hR.get.2
  have GQ : Hid (∀ i (hi : i < q.length), ∃ b off, pq = some ⟨b, off, none⟩ ∧ b < w.heap.size ∧ w.cell? ⟨b, off + i * 4, none⟩ = some (.int .i64 q[i].k) ∧ w.cell? ⟨b, off + i * 4 + 1, none⟩ = some (.int .i64 q[i].n) ∧ w.cell? ⟨b, off + i * 4 + 2, none⟩ = some (.int .i64 q[i].d) ∧ w.cell? ⟨b, off + i * 4 + 3, none⟩ = some (.string q[i].s)) := hQ.get.2
  obtain ⟨n, en⟩ : ∃ n : Nat, Hid (vs.length = n) := ⟨_, rfl⟩
  obtain ⟨m, em⟩ : ∃ m : Nat, Hid (us.length = m) := ⟨_, rfl⟩
  have er : Hid (r.length = n) := lr.trans en.out
  have eq2 : Hid (q.length = m) := lq.trans em.out
  rw [en.out] at lv ⊢
  rw [em.out] at lu FD ⊢
  rw [er.out, eq2.out]
  clear hV hR hU hQ HV0 lr lq
  obtain ⟨FT, eF⟩ : ∃ FT : Bool, Hid (fitB vs us r q 0 = FT) := ⟨_, rfl⟩
  rw [eF.out]
  go_enter Tryz.func10, Tryz.ntmps10
  go_wp2
  go_loopw [9] (fun i wr => ∃ k : Nat, k ≤ n ∧ i = .int .i64 k ∧ Hid (FT = fitB vs us r q k) ∧ Below w.heap.size w wr) (fun i _ => n - (intOf i).toNat)
  case atStart => exact ⟨0, Nat.zero_le _, rfl, (show FT = _ from eF.out.symm), Below.refl _ _⟩
  case round =>
    obtain ⟨k, hk, rfl, hr, hB⟩ := hrel
    by_cases hlt : k < n
    · have kx : k < vs.length := by have := en.out; omega
      have kr : k < r.length := by have := er.out; omega
      obtain ⟨b, off, rfl, hb, x1⟩ := HV.out k kx
      have q1 := (hB.cell (p := ⟨b, off + k, none⟩) hb).trans x1
      have hr2 : Hid (FT = if Lib.idxOfS us vs[k] < 0 then fitB vs us r q (k + 1) else rowS (picks r (k :: (bothL us (k + 1) (vs.drop (k + 1))).map (·.1))) (picks q ((Lib.idxOfS us vs[k]).toNat :: (bothL us (k + 1) (vs.drop (k + 1))).map (·.2)))) := by
        have h := hr.out
        rw [fitB_step kx] at h
        exact h
      have ct : Hid (∀ W, Below w.heap.size w W → Calls Tryz.prog 34 #[.slice pu m cu, .string vs[k]] W fun e w' => e = .returned (.int .i64 (Lib.idxOfS us vs[k])) ∧ Below W.heap.size W w') := fun W hW => FD.out W _ hW
      have hix : Hid (0 ≤ Lib.idxOfS us vs[k] → (Lib.idxOfS us vs[k]).toNat < us.length) := fun h => (idx_lt (by omega)).1
      generalize vs[k] = X at q1 ct hr2 hix
      obtain ⟨D, eD⟩ : ∃ D : Int, Hid (Lib.idxOfS us X = D) := ⟨_, rfl⟩
      rw [eD.out] at ct hr2 hix
      have i1 : (0 : Int) ≤ (k : Int) := by omega
      have i2 : (k : Int) < (n : Int) := by omega
      clear x1 hr
      go_wp2_with fail
      refine (ct.out _ (by exact hB)).mono ?_
      rintro e w1 ⟨rfl, hb1⟩
      have B1 : Below w.heap.size w w1 := hB.trans (hb1.mono hB.size)
      clear hb1 ct q1 hB
      by_cases hD : D < 0
      · have hr3 : Hid (FT = fitB vs us r q (k + 1)) := by have h := hr2.out; rwa [if_pos hD] at h
        have hD2 : ¬ 0 ≤ D := by omega
        clear hr2 hix
        go_wp2
        exact ⟨⟨k + 1, by omega, by go_num, hr3, B1⟩, by simp [intOf]; omega⟩
      · have hC := hix.out (by omega)
        obtain ⟨C, eC⟩ : ∃ C : Nat, Hid (D.toNat = C) := ⟨_, rfl⟩
        have hDC : D = (C : Int) := by have := eC.out; omega
        have hr3 : Hid (FT = rowS (picks r (k :: (bothL us (k + 1) (vs.drop (k + 1))).map (·.1))) (picks q (C :: (bothL us (k + 1) (vs.drop (k + 1))).map (·.2)))) := by
          have h := hr2.out
          rwa [if_neg hD, eC.out] at h
        rw [eC.out] at hC
        subst hDC
        have cx : C < q.length := by have := eq2.out; have := em.out; omega
        have cm : (C : Int) < (m : Int) := by have := em.out; omega
        have c0 : (0 : Int) ≤ (C : Int) := by omega
        have hr4 : Hid (FT = (r[k].same q[C] && fitB vs us r q (k + 1))) := by
          have h := hr3.out
          rw [picks_cons kr, picks_cons cx] at h
          exact h
        obtain ⟨ba, oa, rfl, hba, x0, x1, x2, x3⟩ := GR.out k kr
        obtain ⟨bb, ob, rfl, hbb, y0, y1, y2, y3⟩ := GQ.out C cx
        generalize r[k] = A at x0 x1 x2 x3 hr4
        generalize q[C] = Bq at y0 y1 y2 y3 hr4
        have a0 := (B1.cell (p := ⟨ba, oa + k * 4, none⟩) hba).trans x0
        have a1 := (B1.cell (p := ⟨ba, oa + k * 4 + 1, none⟩) hba).trans x1
        have a2 := (B1.cell (p := ⟨ba, oa + k * 4 + 2, none⟩) hba).trans x2
        have a3 := (B1.cell (p := ⟨ba, oa + k * 4 + 3, none⟩) hba).trans x3
        have b0 := (B1.cell (p := ⟨bb, ob + C * 4, none⟩) hbb).trans y0
        have b1 := (B1.cell (p := ⟨bb, ob + C * 4 + 1, none⟩) hbb).trans y1
        have b2 := (B1.cell (p := ⟨bb, ob + C * 4 + 2, none⟩) hbb).trans y2
        have b3 := (B1.cell (p := ⟨bb, ob + C * 4 + 3, none⟩) hbb).trans y3
        have wa : ba < w1.heap.size := Nat.lt_of_lt_of_le hba B1.size
        have wb : bb < w1.heap.size := Nat.lt_of_lt_of_le hbb B1.size
        obtain ⟨Y, eY⟩ : ∃ Y : Bool, Hid (A.same Bq = Y) := ⟨_, rfl⟩
        rw [eY.out] at hr4
        have ct : Hid (∀ W : World, Calls Tryz.prog 35 #[.agg #[.int .i64 A.k, .int .i64 A.n, .int .i64 A.d, .string A.s], .agg #[.int .i64 Bq.k, .int .i64 Bq.n, .int .i64 Bq.d, .string Bq.s]] W fun e w' => e = .returned (.bool Y) ∧ Below W.heap.size W w') := fun W => by
          have h := rsame_any A.k A.n A.d A.s Bq.k Bq.n Bq.d Bq.s W
          rw [show sameB A.k A.n A.d A.s Bq.k Bq.n Bq.d Bq.s = Y from eY.out] at h
          exact h
        clear x0 x1 x2 x3 y0 y1 y2 y3 hr2 hr3 hix
        go_upto_region 6 with fail
        go_region_held3 (fun w' => w'.cell? ⟨ba, oa + k * 4, none⟩ = some (.int .i64 A.k) ∧ w'.cell? ⟨ba, oa + k * 4 + 1, none⟩ = some (.int .i64 A.n) ∧ w'.cell? ⟨ba, oa + k * 4 + 2, none⟩ = some (.int .i64 A.d) ∧ w'.cell? ⟨ba, oa + k * 4 + 3, none⟩ = some (.string A.s) ∧ w'.cell? ⟨bb, ob + C * 4, none⟩ = some (.int .i64 Bq.k) ∧ w'.cell? ⟨bb, ob + C * 4 + 1, none⟩ = some (.int .i64 Bq.n) ∧ w'.cell? ⟨bb, ob + C * 4 + 2, none⟩ = some (.int .i64 Bq.d) ∧ w'.cell? ⟨bb, ob + C * 4 + 3, none⟩ = some (.string Bq.s))
          (exact ⟨bcl (n := w1.heap.size) (by go_grown) a0 wa, bcl (n := w1.heap.size) (by go_grown) a1 wa, bcl (n := w1.heap.size) (by go_grown) a2 wa, bcl (n := w1.heap.size) (by go_grown) a3 wa, bcl (n := w1.heap.size) (by go_grown) b0 wb, bcl (n := w1.heap.size) (by go_grown) b1 wb, bcl (n := w1.heap.size) (by go_grown) b2 wb, bcl (n := w1.heap.size) (by go_grown) b3 wb⟩)
          (first
            | (go_at_call 35; refine (ct.out _).mono ?_; rintro e v1 ⟨rfl, hv1⟩; obtain ⟨hw1, hn1⟩ := bg0 (n := w1.heap.size) (W0 := w1) (by go_grown) (by go_size) hv1; clear hv1))
        have B2 : Below w.heap.size w v1 := B1.trans (hw1.mono B1.size)
        clear a0 a1 a2 a3 b0 b1 b2 b3 hw1 hn1 ct B1
        cases Y with
        | true =>
          have hr5 : Hid (FT = fitB vs us r q (k + 1)) := by have := hr4.out; rwa [Bool.true_and] at this
          clear hr4
          go_wp2
          exact ⟨⟨k + 1, by omega, by go_num, hr5, B2⟩, by simp [intOf]; omega⟩
        | false =>
          have hr5 : Hid (FT = false) := by have := hr4.out; rwa [Bool.false_and] at this
          clear hr4
          go_wp2
          go_ret
          exact ⟨ret_bool hr5.out.symm, B2⟩
    · have c2 : ¬ (k : Int) < n := by omega
      have hr3 : Hid (FT = true) := by
        have h := hr.out
        rwa [fitB_end (by have := en.out; omega)] at h
      go_wp2
      go_ret
      exact ⟨ret_bool hr3.out.symm, hB⟩

end Go.Proofs.YtiliaincniiijaaGreat

namespace Go.Proofs.YtiliaincniiijaaGreat
open Go.RowKit Go.Shelf Go.Sort
set_option linter.unusedVariables false

/-- With how many rows a row fits; with how many pairs two tables do. -/
def fitN (vs vs' : List ByteArray) (qs : List (List Val)) (r : List Val) : Nat := (qs.filter fun q => fitB vs vs' r q 0).length
def fitM (vs vs' : List ByteArray) (rs qs : List (List Val)) : Nat := (rs.map (fitN vs vs' qs)).sum
theorem fitN_step {vs vs' : List ByteArray} {qs : List (List Val)} {r : List Val} {k : Nat} (h : k < qs.length) : fitN vs vs' (qs.take (k + 1)) r = fitN vs vs' (qs.take k) r + if fitB vs vs' r qs[k] 0 then 1 else 0 := by
  unfold fitN
  rw [List.take_succ_eq_append_getElem h, List.filter_append, List.length_append]
  cases hh : fitB vs vs' r qs[k] 0 <;> simp [hh]
theorem fitM_step {vs vs' : List ByteArray} {rs qs : List (List Val)} {k : Nat} (h : k < rs.length) : fitM vs vs' (rs.take (k + 1)) qs = fitM vs vs' (rs.take k) qs + fitN vs vs' qs rs[k] := by
  unfold fitM
  rw [List.take_succ_eq_append_getElem h, List.map_append, List.sum_append]
  simp
theorem fitM_join (vs vs' : List ByteArray) (rs qs : List (List Val)) : fitM vs vs' rs qs = (joinL vs vs' rs qs).length := by
  unfold fitM fitN joinL joinR
  rw [List.length_flatMap]
  simp only [fitB_zero, List.length_map]
theorem fitN_le {vs vs' : List ByteArray} {qs : List (List Val)} {r : List Val} (j : Nat) : fitN vs vs' (qs.take j) r ≤ fitN vs vs' qs r := by
  unfold fitN
  exact ((List.take_sublist j qs).filter _).length_le
theorem made_count {L : List (List Val)} (ok : ∀ r ∈ L, okR r) (h : L.Nodup) : (madeR L).length = L.length := by
  refine List.Perm.length_eq ((List.perm_ext_iff_of_nodup ?_ h).2 (mem_madeR ok))
  refine (madeR_rises ok).imp_of_mem fun {x y} hx hy hlt e => ?_
  subst e
  have := rowC_self (ok x ((mem_madeR ok x).1 hx))
  omega
theorem rows_nodup {vs : List ByteArray} {rs : List (List Val)} (a : OkT vs rs) : rs.Nodup := a.sorted.imp_of_mem fun {x y} hx hy hlt e => by
  subst e
  have := rowC_self (a.rows x hx).2
  omega
/-- No two pairs give one row. -/
theorem join_count {vs vs' : List ByteArray} {rs qs : List (List Val)} (a : OkT vs rs) (b : OkT vs' qs) : (ofRows (allV vs vs') (joinL vs vs' rs qs)).length = (joinL vs vs' rs qs).length := by
  have ok : ∀ r ∈ (joinL vs vs' rs qs).map (fun r => picks r (colsAt (allV vs vs') (madeS (allV vs vs')))), okR r := fun r hr => by
    obtain ⟨x, hx, rfl⟩ := List.mem_map.1 hr
    exact (joinL_ok a b x hx).2.picks _
  have na : rs.Nodup := rows_nodup a
  have nb : qs.Nodup := rows_nodup b
  unfold ofRows
  rw [made_count ok, List.length_map]
  refine List.pairwise_map.2 ?_
  unfold joinL joinR
  refine List.pairwise_flatMap.2 ⟨fun r hr => ?_, ?_⟩
  · refine List.pairwise_map.2 ?_
    refine List.Pairwise.imp_of_mem (fun {q q'} hq hq' hne e => ?_) (nb.sublist List.filter_sublist)
    obtain ⟨hq, hf⟩ := List.mem_filter.1 hq
    obtain ⟨hq', hf'⟩ := List.mem_filter.1 hq'
    obtain ⟨-, -, e1⟩ := join_parts a b hr hq hf
    obtain ⟨-, -, e2⟩ := join_parts a b hr hq' hf'
    rw [e, e2] at e1
    exact hne e1.symm
  · refine List.Pairwise.imp_of_mem (fun {r r'} hr hr' hne x hx y hy e => ?_) na
    obtain ⟨q, hq, rfl⟩ := List.mem_map.1 hx
    obtain ⟨hq, hf⟩ := List.mem_filter.1 hq
    obtain ⟨q', hq', rfl⟩ := List.mem_map.1 hy
    obtain ⟨hq', hf'⟩ := List.mem_filter.1 hq'
    obtain ⟨-, e1, -⟩ := join_parts a b hr hq hf
    obtain ⟨-, e2, -⟩ := join_parts a b hr' hq' hf'
    rw [e, e2] at e1
    exact hne e1.symm
/-- Each row of a join fits a row of the first table. -/
theorem join_fits {vs vs' : List ByteArray} {rs qs : List (List Val)} (a : OkT vs rs) (b : OkT vs' qs) {z : List Val} (hz : z ∈ ofRows (allV vs vs') (joinL vs vs' rs qs)) : (rs.any fun r => fitB (madeS (allV vs vs')) vs z r 0) = true := by
  obtain ⟨hl, h1, -⟩ := (mem_join a b z).1 hz
  have nA := allV_nodup a.nodup b.nodup
  have nU : (madeS (allV vs vs')).Nodup := rises_nodup (madeS_rises nA)
  have hl' : z.length = (madeS (allV vs vs')).length := by rw [madeS_len, hl]
  refine List.any_eq_true.2 ⟨_, h1, ?_⟩
  rw [fitB_zero, rowS_iff, picks_sub hl' (fun x hx => (mem_madeS nA x).2 ((mem_allV x).2 (Or.inl hx))) both_cs.2.1, ← both_names, ← cols_of_picks nU both_cs.1]
theorem any_mem {x : List Val} {L : List (List Val)} : anyS x L = true ↔ x ∈ L := by
  unfold anyS
  rw [List.any_eq_true]
  constructor
  · rintro ⟨r, hr, e⟩
    rw [rowS_iff.1 e]
    exact hr
  · exact fun h => ⟨x, h, rowS_iff.2 rfl⟩
theorem has_union {vs : List ByteArray} {rs qs : List (List Val)} (a : OkT vs rs) (b : OkT vs qs) (x : List Val) : anyS x (mergeL rs qs) = (anyS x rs || anyS x qs) := by
  rw [Bool.eq_iff_iff, Bool.or_eq_true, any_mem, any_mem, any_mem]
  exact mem_mergeL _ rs qs (Nat.le_refl _) (fun r hr => (a.rows r hr).2) (fun r hr => (b.rows r hr).2) x
theorem has_minus {vs : List ByteArray} {rs qs : List (List Val)} (a : OkT vs rs) (b : OkT vs qs) (x : List Val) : anyS x (antiL vs vs rs qs) = (anyS x rs && !anyS x qs) := by
  rw [antiL_self a b, Bool.eq_iff_iff, Bool.and_eq_true, any_mem, any_mem, List.mem_filter]
end Go.Proofs.YtiliaincniiijaaGreat

namespace Go.Proofs.YtiliaincniiijaaGreat
open Go.RowKit Go.Shelf Go.Sort
set_option linter.unusedVariables false

end Go.Proofs.YtiliaincniiijaaGreat
