/- How much a table that came in may hold, by the bulk of what is read. -/
import Derived.Test.YteipohpfaofchabGreatZ10
import Derived.Test.YteipohpfaofchabGreatRows
import Derived.Test.YteipohpfaofchabGreatZ08
import Derived.Test.YteipohpfaofchabGreatZ07

namespace Go.Proofs.YteipohpfaofchabGreat
open Go.RowKit Go.Shelf Go.Sort
set_option linter.unusedVariables false

theorem TabO.zero {B : Nat} {vs : List ByteArray} {L : List (List Val)} {t : Value} {w : World} (h : TabO B 0 vs L t w) : OwnT B t vs L w := by
  unfold TabO at h
  rwa [if_pos rfl, if_pos rfl] at h
/-- A table of one's own that may be, as the walks ask for it. -/
theorem OkT.tabAt {B : Nat} {V R : Value} {vs : List ByteArray} {L : List (List Val)} {w : World} (o : OkT vs L) (h : OwnT B (.agg #[V, R]) vs L w) (many : L.length ≤ 5864062014805) : (∃ us, TabAt w V R vs us L) ∧ ∀ p n c, R = .slice p n c → n ≤ c := by
  have few := o.few
  obtain ⟨V', R', us, e, ht⟩ := h.tab (fun r hr v hv => ((o.rows r hr).2 v hv).2) (fun r hr => by rw [(o.rows r hr).1]; omega) (by omega) many
  obtain ⟨a, b, zs, e2, h1, h2, h3⟩ := h
  injection e with e
  injection e with e
  simp only [List.cons.injEq, and_true] at e
  injection e2 with e2
  injection e2 with e2
  simp only [List.cons.injEq, and_true] at e2
  obtain ⟨rfl, rfl⟩ := e
  obtain ⟨rfl, rfl⟩ := e2
  exact ⟨⟨us, ht⟩, own_cap2 h2⟩
theorem same_own {B B' : Nat} {V R U Q : Value} {vs : List ByteArray} {L : List (List Val)} {w : World} (o : OkT vs L) (h : OwnT B (.agg #[V, R]) vs L w) (h' : OwnT B' (.agg #[U, Q]) vs L w) (many : L.length ≤ 5864062014805) :
    Calls Tryz.prog 23 #[.agg #[V, R], .agg #[U, Q]] w fun e w' => e = .returned (.bool true) ∧ Below w.heap.size w w' := by
  have few := o.few
  have h1 := own_two h
  have h2 := own_two h'
  have hl : ∀ r ∈ L, r.length ≤ 9223372036854775807 := fun r hr => by rw [(o.rows r hr).1]; omega
  have h3 := tabsame_any V R U Q vs vs L L w h1.1 h2.1 h1.2 h2.2 (by omega) (by omega) (by omega) (by omega) hl hl
  rw [rowsS_refl, show decide (vs = vs) = true by simp] at h3
  exact h3

set_option maxRecDepth 100000 in
set_option maxHeartbeats 16000000 in
theorem tapart_any {Va Ra Vb Rb : Value} {vs vs' : List ByteArray} {us us' : List Value} {rs qs : List (List Val)} (w : World) (ha : TabAt w Va Ra vs us rs) (hb : TabAt w Vb Rb vs' us' qs) (br : rs.length ≤ 1048576) (br' : qs.length ≤ 1048576) :
    Calls Tryz.prog 6 #[.agg #[Va, Ra], .agg #[Vb, Rb]] w fun e w' => e = .returned (.bool true) ∧ Below w.heap.size w w' := by
  have hJl : (joinL vs vs' rs qs).length ≤ 1099511627776 := by
    have h1 := joinL_len vs vs' rs qs
    have h2 : rs.length * qs.length ≤ 1048576 * 1048576 := Nat.mul_le_mul br br'
    omega
  obtain ⟨E, eE⟩ : ∃ E, Hid (bothE vs rs vs' qs = E) := ⟨_, rfl⟩
  obtain ⟨CA, eCA⟩ : ∃ C, Hid (tabChk vs rs = C) := ⟨_, rfl⟩
  obtain ⟨CB, eCB⟩ : ∃ C, Hid (tabChk vs' qs = C) := ⟨_, rfl⟩
  obtain ⟨E1, eE1⟩ : ∃ E1, Hid (alikeE vs rs vs' qs = E1) := ⟨_, rfl⟩
  obtain ⟨E2, eE2⟩ : ∃ E2, Hid (joinE vs rs vs' qs = E2) := ⟨_, rfl⟩
  have hE : Hid (E = if CA = 0 then CB else CA) := by show _ = _; rw [← eE.out, ← eCA.out, ← eCB.out]; rfl
  have hE1 : Hid (E = 0 → E1 = 0 ∨ E1 = 30) := fun h => by
    rw [← eE1.out]
    unfold alikeE
    rw [if_pos (eE.out.trans h)]
    by_cases hv : vs = vs'
    · rw [if_pos hv]; exact Or.inl rfl
    · rw [if_neg hv]; exact Or.inr rfl
  have hE2 : Hid (E = 0 → (E2 = 0 ∧ (allV vs vs').length ≤ 8) ∨ E2 = 30) := fun h => by
    rw [← eE2.out]
    unfold joinE
    rw [if_pos (eE.out.trans h)]
    by_cases hv : (allV vs vs').length ≤ 8
    · rw [if_pos hv]; exact Or.inl ⟨rfl, hv⟩
    · rw [if_neg hv]; exact Or.inr rfl
  obtain ⟨AN, eAN⟩ : ∃ AN, Hid (antiL vs vs' rs qs = AN) := ⟨_, rfl⟩
  obtain ⟨PP, ePP⟩ : ∃ PP, Hid (rs.filter (fitsL vs vs' qs) = PP) := ⟨rs.filter (fitsL vs vs' qs), (rfl : rs.filter (fitsL vs vs' qs) = rs.filter (fitsL vs vs' qs))⟩
  obtain ⟨JV, eJV⟩ : ∃ JV, Hid (madeS (allV vs vs') = JV) := ⟨_, rfl⟩
  obtain ⟨JR, eJR⟩ : ∃ JR, Hid (ofRows (allV vs vs') (joinL vs vs' rs qs) = JR) := ⟨_, rfl⟩
  have okA : Hid (E = 0 → OkT vs rs) := fun h => tabChk_ok (bothE_ok (eE.out.trans h)).1 ha.fits
  have okB : Hid (E = 0 → OkT vs' qs) := fun h => tabChk_ok (bothE_ok (eE.out.trans h)).2 hb.fits
  have okN : Hid (E = 0 → OkT vs AN ∧ AN.length ≤ 5864062014805) := fun h => by
    rw [← eAN.out, antiL_fits]
    have h5 : (rs.filter fun r => !fitsL vs vs' qs r).length ≤ rs.length := List.length_filter_le _ _
    exact ⟨(okA.out h).filter _, by omega⟩
  have okP : Hid (E = 0 → OkT vs PP ∧ PP.length ≤ 5864062014805) := fun h => by
    rw [← ePP.out]
    have h5 : (rs.filter (fitsL vs vs' qs)).length ≤ rs.length := List.length_filter_le _ _
    exact ⟨(okA.out h).filter _, by omega⟩
  have okJ : Hid (E = 0 → (allV vs vs').length ≤ 8 → OkT JV JR ∧ JR.length ≤ 5864062014805) := fun h h8 => by
    rw [← eJV.out, ← eJR.out]
    refine ⟨OkT.made (allV_nodup (okA.out h).nodup (okB.out h).nodup) h8 (joinL_ok (okA.out h) (okB.out h)), ?_⟩
    have h1 := madeR_len ((joinL vs vs' rs qs).map fun r => picks r (colsAt (allV vs vs') (madeS (allV vs vs'))))
    rw [List.length_map] at h1
    show (madeR _).length ≤ _
    omega
  have c1 : Hid (∀ W, Below w.heap.size w W → Calls Tryz.prog 24 #[.agg #[Va, Ra], .agg #[Vb, Rb]] W (TellsT W.heap.size E vs AN W)) := fun W hW => by
    refine (anti_any (ha.below hW) (hb.below hW)).mono ?_
    rintro e w' ⟨t, rfl, g1, g2, g3⟩
    rw [eE.out] at g1 g2 ⊢
    rw [eAN.out] at g1
    exact TellsT.of g1 g2 g3
  have c2 : Hid (∀ W, Below w.heap.size w W → Calls Tryz.prog 18 #[.agg #[Va, Ra]] W fun e w' => e = .returned (.int .i64 CA) ∧ Below W.heap.size W w') := fun W hW => by
    have h := (ha.below hW).check
    rwa [eCA.out] at h
  have c3 : Hid (∀ W, Below w.heap.size w W → Calls Tryz.prog 18 #[.agg #[Vb, Rb]] W fun e w' => e = .returned (.int .i64 CB) ∧ Below W.heap.size W w') := fun W hW => by
    have h := (hb.below hW).check
    rwa [eCB.out] at h
  have c4 : Hid (∀ W, Below w.heap.size w W → Calls Tryz.prog 25 #[.agg #[Va, Ra], .agg #[Vb, Rb]] W (TellsT W.heap.size E1 vs AN W)) := fun W hW => by
    refine (tabminus_any (ha.below hW) (hb.below hW)).mono ?_
    rintro e w' ⟨t, rfl, g1, g2, g3⟩
    rw [eE1.out] at g1 g2 ⊢
    rw [eAN.out] at g1
    exact TellsT.of g1 g2 g3
  have c5 : Hid (∀ W, Below w.heap.size w W → Calls Tryz.prog 20 #[.agg #[Va, Ra], .agg #[Vb, Rb]] W (TellsT W.heap.size E2 JV JR W)) := fun W hW => by
    refine (join_any (ha.below hW) (hb.below hW) (by omega)).mono ?_
    rintro e w' ⟨t, rfl, g1, g2, g3⟩
    rw [eE2.out] at g1 g2 ⊢
    rw [eJV.out, eJR.out] at g1
    exact TellsT.of g1 g2 g3
  have c6 : Hid (∀ W U Q B, E = 0 → (allV vs vs').length ≤ 8 → Below w.heap.size w W → OwnT B (.agg #[U, Q]) JV JR W → Calls Tryz.prog 9 #[.agg #[U, Q], Va] W (TellsT W.heap.size 0 vs PP W)) := fun W U Q B h h8 hW ho => by
    obtain ⟨oj, lj⟩ := okJ.out h h8
    obtain ⟨⟨zs, ht⟩, -⟩ := oj.tabAt ho lj
    refine (project_any ht (ha.vars.below hW) (by have := ha.names; omega)).mono ?_
    rintro e w' ⟨t, rfl, g1, g2, g3⟩
    have hz : projE JV JR vs = 0 := by
      unfold projE
      rw [if_pos oj.chk]
      have hn := (okA.out h).nodup
      rw [colsO_all (repB_false vs [] (by simpa using hn)) (fun x hx => by
        rw [← eJV.out]
        exact found_self _ x ((mem_madeS (allV_nodup hn (okB.out h).nodup) x).2 (List.mem_append_left _ hx)))]
      rfl
    rw [hz] at g1 g2 ⊢
    have hp : projR JV vs JR = PP := by rw [← eJV.out, ← eJR.out, ← ePP.out]; exact join_back (okA.out h) (okB.out h)
    rw [hp, madeS_self (okA.out h).rise] at g1
    exact TellsT.of g1 g2 g3
  have c7 : Hid (∀ W U Q B, E = 0 → Below w.heap.size w W → OwnT B (.agg #[U, Q]) vs PP W → Calls Tryz.prog 25 #[.agg #[Va, Ra], .agg #[U, Q]] W (TellsT W.heap.size 0 vs AN W)) := fun W U Q B h hW ho => by
    obtain ⟨op, lp⟩ := okP.out h
    obtain ⟨⟨zs, ht⟩, -⟩ := op.tabAt ho lp
    refine (tabminus_any (ha.below hW) ht).mono ?_
    rintro e w' ⟨t, rfl, g1, g2, g3⟩
    have hz : alikeE vs rs vs PP = 0 := by
      unfold alikeE bothE
      rw [if_pos (okA.out h).chk, op.chk, if_pos rfl, if_pos rfl]
    rw [hz] at g1 g2 ⊢
    have hp : antiL vs vs rs PP = AN := by rw [← ePP.out, ← eAN.out]; exact anti_again (okA.out h)
    rw [hp] at g1
    exact TellsT.of g1 g2 g3
  have c8 : Hid (∀ W U Q X Y B B', E = 0 → OwnT B (.agg #[X, Y]) vs AN W → OwnT B' (.agg #[U, Q]) vs PP W → Calls Tryz.prog 19 #[.agg #[X, Y], .agg #[U, Q]] W (TellsT W.heap.size 0 vs rs W)) := fun W U Q X Y B B' h h1 h2 => by
    obtain ⟨op, lp⟩ := okP.out h
    obtain ⟨on, ln⟩ := okN.out h
    obtain ⟨⟨zs, ht⟩, hc⟩ := on.tabAt h1 ln
    obtain ⟨⟨ys, hu⟩, hd⟩ := op.tabAt h2 lp
    have l1 : AN.length ≤ rs.length := by rw [← eAN.out]; exact List.length_filter_le _ _
    have l2 : PP.length ≤ rs.length := by rw [← ePP.out]; exact List.length_filter_le _ _
    refine (union_any ht hu hc hd (by omega)).mono ?_
    rintro e w' ⟨t, rfl, g1, g2, g3⟩
    have hz : alikeE vs AN vs PP = 0 := by
      unfold alikeE bothE
      rw [if_pos on.chk, op.chk, if_pos rfl, if_pos rfl]
    rw [hz] at g1 g2 ⊢
    have hp : mergeL AN PP = rs := by rw [← ePP.out, ← eAN.out]; exact whole_again (okA.out h)
    rw [hp] at g1
    exact TellsT.of g1 g2 g3
  have c9 : Hid (∀ W U Q X Y B B', E = 0 → OwnT B (.agg #[X, Y]) vs AN W → OwnT B' (.agg #[U, Q]) vs AN W → Calls Tryz.prog 23 #[.agg #[X, Y], .agg #[U, Q]] W fun e w' => e = .returned (.bool true) ∧ Below W.heap.size W w') := fun W U Q X Y B B' h h1 h2 => same_own (okN.out h).1 h1 h2 (okN.out h).2
  have c10 : Hid (∀ W U Q B, E = 0 → Below w.heap.size w W → OwnT B (.agg #[U, Q]) vs rs W → Calls Tryz.prog 23 #[.agg #[U, Q], .agg #[Va, Ra]] W fun e w' => e = .returned (.bool true) ∧ Below W.heap.size W w') := fun W U Q B h hW h1 => by
    have hTa := ha.below hW
    have h2 := own_two h1
    have h3 := tabsame_any U Q Va Ra vs vs rs rs W h2.1 hTa.vars h2.2 (tab_of_vals hTa.vals hTa.rows) ha.names ha.names (by omega) (by omega) ha.long ha.long
    rw [rowsS_refl, show decide (vs = vs) = true by simp] at h3
    exact h3
  obtain ⟨p1, k1, p2, k2, eV, eR⟩ := ha.forms
  obtain ⟨p3, k3, p4, k4, eV', eR'⟩ := hb.forms
  subst eV eR eV' eR'
  have SJ : Hid (∀ h : (allV vs vs').length ≤ 8, (allV vs vs').length ≤ 8) := fun h => h
  generalize vs.length = n1 at *
  generalize us.length = n2 at *
  generalize vs'.length = n3 at *
  generalize us'.length = n4 at *
  clear ha hb br br' hJl eE eCA eCB eE1 eE2 eAN ePP eJV eJR okA okB okN okP okJ SJ
  go_enter Tryz.func6, Tryz.ntmps6
  go_upto_region 1 with fail
  refine wp_world ?_
  intro W0 hW0
  have K0 : Below w.heap.size w W0 := by rw [hW0]; go_grown
  have VA_0 : Hid (Var W0 w.heap.size (.slice p1 n1 k1) (.slice p2 n2 k2)) := by
    rw [hW0]
    exact (Var.made w _ _).below ((Below.refl _ _).alloc (Nat.le_refl _) _)
  have VB_0 : Hid (Var W0 (w.heap.size + 1) (.slice p3 n3 k3) (.slice p4 n4 k4)) := by
    rw [hW0]
    have h := Var.made (w.alloc (.cells #[.slice p1 n1 k1, .slice p2 n2 k2] 25)) (.slice p3 n3 k3) (.slice p4 n4 k4)
    exact at_size (P := fun g => Var _ g _ _) h (by simp)
  clear hW0
  have l0a := VA_0.out.c0
  have l0b := VA_0.out.c1
  have l1a := VB_0.out.c0
  have l1b := VB_0.out.c1
  go_wp2_with fail
  refine (c1.out _ (by exact K0)).mono ?_
  rintro e w1 ⟨a11, a12, a13, a14, a15, a16, rfl, ht, hb⟩
  have HN_t : Hid (TabO w.heap.size E vs AN (.agg #[.slice a11 a12 a13, .slice a14 a15 a16]) w1) := OwnT.base ht K0.size
  clear ht l0a l0b l1a l1b
  have K1p : Below w.heap.size w w1 := K0.trans (hb.mono K0.size)
  have VA_1p : Hid (Var w1 w.heap.size (.slice p1 n1 k1) (.slice p2 n2 k2)) := VA_0.out.below hb
  have VB_1p : Hid (Var w1 (w.heap.size + 1) (.slice p3 n3 k3) (.slice p4 n4 k4)) := VB_0.out.below hb
  clear K0 VA_0 VB_0
  clear hb
  go_upto_region 2 with fail
  refine wp_world ?_
  intro W1 hW
  have hH : Below w1.heap.size w1 W1 := by rw [hW]; go_grown
  have VN_t : Hid (Var W1 w1.heap.size (.slice a11 a12 a13) (.slice a14 a15 a16)) := by rw [hW]; exact Var.made _ _ _
  clear hW
  obtain ⟨gN, egN⟩ : ∃ g, Hid (w1.heap.size = g) := ⟨_, rfl⟩
  rw [egN.out] at VN_t ⊢
  have K1 : Below w.heap.size w W1 := K1p.trans (hH.mono K1p.size)
  have VA_1 : Hid (Var W1 w.heap.size (.slice p1 n1 k1) (.slice p2 n2 k2)) := VA_1p.out.below hH
  have VB_1 : Hid (Var W1 (w.heap.size + 1) (.slice p3 n3 k3) (.slice p4 n4 k4)) := VB_1p.out.below hH
  have HN_1 : Hid (TabO w.heap.size E vs AN (.agg #[.slice a11 a12 a13, .slice a14 a15 a16]) W1) := HN_t.out.grown hH
  clear K1p VA_1p VB_1p HN_t
  clear hH
  by_cases h0 : E = 0
  · subst h0
    have HN_c1 : Hid (OwnT w.heap.size (.agg #[.slice a11 a12 a13, .slice a14 a15 a16]) vs AN W1) := TabO.zero HN_1.out
    clear HN_1
    clear c1 c2 c3 hE
    have l0a := VA_1.out.c0
    have l0b := VA_1.out.c1
    have l1a := VB_1.out.c0
    have l1b := VB_1.out.c1
    go_wp2_with fail
    refine (c4.out _ (by exact K1)).mono ?_
    rintro e w2 ⟨a21, a22, a23, a24, a25, a26, rfl, ht, hb⟩
    have HM_t : Hid (TabO w.heap.size E1 vs AN (.agg #[.slice a21 a22 a23, .slice a24 a25 a26]) w2) := OwnT.base ht K1.size
    clear ht l0a l0b l1a l1b
    have K2p : Below w.heap.size w w2 := K1.trans (hb.mono K1.size)
    have VA_2p : Hid (Var w2 w.heap.size (.slice p1 n1 k1) (.slice p2 n2 k2)) := VA_1.out.below hb
    have VB_2p : Hid (Var w2 (w.heap.size + 1) (.slice p3 n3 k3) (.slice p4 n4 k4)) := VB_1.out.below hb
    have VN_2p : Hid (Var w2 gN (.slice a11 a12 a13) (.slice a14 a15 a16)) := VN_t.out.below hb
    have HN_2p : Hid (OwnT w.heap.size (.agg #[.slice a11 a12 a13, .slice a14 a15 a16]) vs AN w2) := HN_c1.out.grown hb
    clear K1 VA_1 VB_1 VN_t HN_c1
    clear hb
    go_upto_region 5 with fail
    refine wp_world ?_
    intro W2 hW
    have hH : Below w2.heap.size w2 W2 := by rw [hW]; go_grown
    have VM_t : Hid (Var W2 w2.heap.size (.slice a21 a22 a23) (.slice a24 a25 a26)) := by rw [hW]; exact Var.made _ _ _
    clear hW
    obtain ⟨gM, egM⟩ : ∃ g, Hid (w2.heap.size = g) := ⟨_, rfl⟩
    rw [egM.out] at VM_t ⊢
    have K2 : Below w.heap.size w W2 := K2p.trans (hH.mono K2p.size)
    have VA_2 : Hid (Var W2 w.heap.size (.slice p1 n1 k1) (.slice p2 n2 k2)) := VA_2p.out.below hH
    have VB_2 : Hid (Var W2 (w.heap.size + 1) (.slice p3 n3 k3) (.slice p4 n4 k4)) := VB_2p.out.below hH
    have VN_2 : Hid (Var W2 gN (.slice a11 a12 a13) (.slice a14 a15 a16)) := VN_2p.out.below hH
    have HN_2 : Hid (OwnT w.heap.size (.agg #[.slice a11 a12 a13, .slice a14 a15 a16]) vs AN W2) := HN_2p.out.grown hH
    have HM_2 : Hid (TabO w.heap.size E1 vs AN (.agg #[.slice a21 a22 a23, .slice a24 a25 a26]) W2) := HM_t.out.grown hH
    clear K2p VA_2p VB_2p VN_2p HN_2p HM_t
    clear hH
    clear c4
    rcases hE1.out (by trivial) with h1 | h1
    · subst h1
      have HM_c2 : Hid (OwnT w.heap.size (.agg #[.slice a21 a22 a23, .slice a24 a25 a26]) vs AN W2) := TabO.zero HM_2.out
      clear HM_2
      have l0a := VM_t.out.c0
      have l0b := VM_t.out.c1
      have l1a := VN_2.out.c0
      have l1b := VN_2.out.c1
      go_wp2_with fail
      refine (c9.out _ _ _ _ _ _ _ (by trivial) HM_c2.out HN_2.out).mono ?_
      rintro e w3 ⟨rfl, hb⟩
      clear l0a l0b l1a l1b
      have K3 : Below w.heap.size w w3 := K2.trans (hb.mono K2.size)
      have VA_3 : Hid (Var w3 w.heap.size (.slice p1 n1 k1) (.slice p2 n2 k2)) := VA_2.out.below hb
      have VB_3 : Hid (Var w3 (w.heap.size + 1) (.slice p3 n3 k3) (.slice p4 n4 k4)) := VB_2.out.below hb
      have VN_3 : Hid (Var w3 gN (.slice a11 a12 a13) (.slice a14 a15 a16)) := VN_2.out.below hb
      have HN_3 : Hid (OwnT w.heap.size (.agg #[.slice a11 a12 a13, .slice a14 a15 a16]) vs AN w3) := HN_2.out.grown hb
      have VM_3 : Hid (Var w3 gM (.slice a21 a22 a23) (.slice a24 a25 a26)) := VM_t.out.below hb
      have HM_3 : Hid (OwnT w.heap.size (.agg #[.slice a21 a22 a23, .slice a24 a25 a26]) vs AN w3) := HM_c2.out.grown hb
      clear K2 VA_2 VB_2 VN_2 HN_2 VM_t HM_c2
      clear hb
      have l0a := VA_3.out.c0
      have l0b := VA_3.out.c1
      have l1a := VB_3.out.c0
      have l1b := VB_3.out.c1
      go_wp2_with fail
      refine (c5.out _ (by exact K3)).mono ?_
      rintro e w4 ⟨a41, a42, a43, a44, a45, a46, rfl, ht, hb⟩
      have HJ_t : Hid (TabO w.heap.size E2 JV JR (.agg #[.slice a41 a42 a43, .slice a44 a45 a46]) w4) := OwnT.base ht K3.size
      clear ht l0a l0b l1a l1b
      have K4p : Below w.heap.size w w4 := K3.trans (hb.mono K3.size)
      have VA_4p : Hid (Var w4 w.heap.size (.slice p1 n1 k1) (.slice p2 n2 k2)) := VA_3.out.below hb
      have VB_4p : Hid (Var w4 (w.heap.size + 1) (.slice p3 n3 k3) (.slice p4 n4 k4)) := VB_3.out.below hb
      have VN_4p : Hid (Var w4 gN (.slice a11 a12 a13) (.slice a14 a15 a16)) := VN_3.out.below hb
      have HN_4p : Hid (OwnT w.heap.size (.agg #[.slice a11 a12 a13, .slice a14 a15 a16]) vs AN w4) := HN_3.out.grown hb
      have VM_4p : Hid (Var w4 gM (.slice a21 a22 a23) (.slice a24 a25 a26)) := VM_3.out.below hb
      have HM_4p : Hid (OwnT w.heap.size (.agg #[.slice a21 a22 a23, .slice a24 a25 a26]) vs AN w4) := HM_3.out.grown hb
      clear K3 VA_3 VB_3 VN_3 HN_3 VM_3 HM_3
      clear hb
      go_upto_region 8 with fail
      refine wp_world ?_
      intro W4 hW
      have hH : Below w4.heap.size w4 W4 := by rw [hW]; go_grown
      have VJ_t : Hid (Var W4 w4.heap.size (.slice a41 a42 a43) (.slice a44 a45 a46)) := by rw [hW]; exact Var.made _ _ _
      clear hW
      obtain ⟨gJ, egJ⟩ : ∃ g, Hid (w4.heap.size = g) := ⟨_, rfl⟩
      rw [egJ.out] at VJ_t ⊢
      have K4 : Below w.heap.size w W4 := K4p.trans (hH.mono K4p.size)
      have VA_4 : Hid (Var W4 w.heap.size (.slice p1 n1 k1) (.slice p2 n2 k2)) := VA_4p.out.below hH
      have VB_4 : Hid (Var W4 (w.heap.size + 1) (.slice p3 n3 k3) (.slice p4 n4 k4)) := VB_4p.out.below hH
      have VN_4 : Hid (Var W4 gN (.slice a11 a12 a13) (.slice a14 a15 a16)) := VN_4p.out.below hH
      have HN_4 : Hid (OwnT w.heap.size (.agg #[.slice a11 a12 a13, .slice a14 a15 a16]) vs AN W4) := HN_4p.out.grown hH
      have VM_4 : Hid (Var W4 gM (.slice a21 a22 a23) (.slice a24 a25 a26)) := VM_4p.out.below hH
      have HM_4 : Hid (OwnT w.heap.size (.agg #[.slice a21 a22 a23, .slice a24 a25 a26]) vs AN W4) := HM_4p.out.grown hH
      have HJ_4 : Hid (TabO w.heap.size E2 JV JR (.agg #[.slice a41 a42 a43, .slice a44 a45 a46]) W4) := HJ_t.out.grown hH
      clear K4p VA_4p VB_4p VN_4p HN_4p VM_4p HM_4p HJ_t
      clear hH
      rcases hE2.out (by trivial) with ⟨hj, h8⟩ | hj
      · subst hj
        have HJ_c4 : Hid (OwnT w.heap.size (.agg #[.slice a41 a42 a43, .slice a44 a45 a46]) JV JR W4) := TabO.zero HJ_4.out
        clear HJ_4
        have l0a := VJ_t.out.c0
        have l0b := VJ_t.out.c1
        have l1a := VA_4.out.c0
        have l1b := VA_4.out.c1
        go_wp2_with fail
        refine (c6.out _ _ _ _ (by trivial) h8 (by exact K4) HJ_c4.out).mono ?_
        rintro e w5 ⟨a51, a52, a53, a54, a55, a56, rfl, ht, hb⟩
        have HP_t : Hid (TabO w.heap.size 0 vs PP (.agg #[.slice a51 a52 a53, .slice a54 a55 a56]) w5) := OwnT.base ht K4.size
        clear ht l0a l0b l1a l1b
        have K5p : Below w.heap.size w w5 := K4.trans (hb.mono K4.size)
        have VA_5p : Hid (Var w5 w.heap.size (.slice p1 n1 k1) (.slice p2 n2 k2)) := VA_4.out.below hb
        have VB_5p : Hid (Var w5 (w.heap.size + 1) (.slice p3 n3 k3) (.slice p4 n4 k4)) := VB_4.out.below hb
        have VN_5p : Hid (Var w5 gN (.slice a11 a12 a13) (.slice a14 a15 a16)) := VN_4.out.below hb
        have HN_5p : Hid (OwnT w.heap.size (.agg #[.slice a11 a12 a13, .slice a14 a15 a16]) vs AN w5) := HN_4.out.grown hb
        have VM_5p : Hid (Var w5 gM (.slice a21 a22 a23) (.slice a24 a25 a26)) := VM_4.out.below hb
        have HM_5p : Hid (OwnT w.heap.size (.agg #[.slice a21 a22 a23, .slice a24 a25 a26]) vs AN w5) := HM_4.out.grown hb
        have VJ_5p : Hid (Var w5 gJ (.slice a41 a42 a43) (.slice a44 a45 a46)) := VJ_t.out.below hb
        have HJ_5p : Hid (OwnT w.heap.size (.agg #[.slice a41 a42 a43, .slice a44 a45 a46]) JV JR w5) := HJ_c4.out.grown hb
        clear K4 VA_4 VB_4 VN_4 HN_4 VM_4 HM_4 VJ_t HJ_c4
        clear hb
        go_upto_region 11 with fail
        refine wp_world ?_
        intro W5 hW
        have hH : Below w5.heap.size w5 W5 := by rw [hW]; go_grown
        have VP_t : Hid (Var W5 w5.heap.size (.slice a51 a52 a53) (.slice a54 a55 a56)) := by rw [hW]; exact Var.made _ _ _
        clear hW
        obtain ⟨gP, egP⟩ : ∃ g, Hid (w5.heap.size = g) := ⟨_, rfl⟩
        rw [egP.out] at VP_t ⊢
        have K5 : Below w.heap.size w W5 := K5p.trans (hH.mono K5p.size)
        have VA_5 : Hid (Var W5 w.heap.size (.slice p1 n1 k1) (.slice p2 n2 k2)) := VA_5p.out.below hH
        have VB_5 : Hid (Var W5 (w.heap.size + 1) (.slice p3 n3 k3) (.slice p4 n4 k4)) := VB_5p.out.below hH
        have VN_5 : Hid (Var W5 gN (.slice a11 a12 a13) (.slice a14 a15 a16)) := VN_5p.out.below hH
        have HN_5 : Hid (OwnT w.heap.size (.agg #[.slice a11 a12 a13, .slice a14 a15 a16]) vs AN W5) := HN_5p.out.grown hH
        have VM_5 : Hid (Var W5 gM (.slice a21 a22 a23) (.slice a24 a25 a26)) := VM_5p.out.below hH
        have HM_5 : Hid (OwnT w.heap.size (.agg #[.slice a21 a22 a23, .slice a24 a25 a26]) vs AN W5) := HM_5p.out.grown hH
        have VJ_5 : Hid (Var W5 gJ (.slice a41 a42 a43) (.slice a44 a45 a46)) := VJ_5p.out.below hH
        have HJ_5 : Hid (OwnT w.heap.size (.agg #[.slice a41 a42 a43, .slice a44 a45 a46]) JV JR W5) := HJ_5p.out.grown hH
        have HP_5 : Hid (TabO w.heap.size 0 vs PP (.agg #[.slice a51 a52 a53, .slice a54 a55 a56]) W5) := HP_t.out.grown hH
        clear K5p VA_5p VB_5p VN_5p HN_5p VM_5p HM_5p VJ_5p HJ_5p HP_t
        clear hH
        have HP_c5 : Hid (OwnT w.heap.size (.agg #[.slice a51 a52 a53, .slice a54 a55 a56]) vs PP W5) := TabO.zero HP_5.out
        clear HP_5
        have l0a := VA_5.out.c0
        have l0b := VA_5.out.c1
        have l1a := VP_t.out.c0
        have l1b := VP_t.out.c1
        go_wp2_with fail
        refine (c7.out _ _ _ _ (by trivial) (by exact K5) HP_c5.out).mono ?_
        rintro e w6 ⟨a61, a62, a63, a64, a65, a66, rfl, ht, hb⟩
        have HD_t : Hid (TabO w.heap.size 0 vs AN (.agg #[.slice a61 a62 a63, .slice a64 a65 a66]) w6) := OwnT.base ht K5.size
        clear ht l0a l0b l1a l1b
        have K6p : Below w.heap.size w w6 := K5.trans (hb.mono K5.size)
        have VA_6p : Hid (Var w6 w.heap.size (.slice p1 n1 k1) (.slice p2 n2 k2)) := VA_5.out.below hb
        have VB_6p : Hid (Var w6 (w.heap.size + 1) (.slice p3 n3 k3) (.slice p4 n4 k4)) := VB_5.out.below hb
        have VN_6p : Hid (Var w6 gN (.slice a11 a12 a13) (.slice a14 a15 a16)) := VN_5.out.below hb
        have HN_6p : Hid (OwnT w.heap.size (.agg #[.slice a11 a12 a13, .slice a14 a15 a16]) vs AN w6) := HN_5.out.grown hb
        have VM_6p : Hid (Var w6 gM (.slice a21 a22 a23) (.slice a24 a25 a26)) := VM_5.out.below hb
        have HM_6p : Hid (OwnT w.heap.size (.agg #[.slice a21 a22 a23, .slice a24 a25 a26]) vs AN w6) := HM_5.out.grown hb
        have VJ_6p : Hid (Var w6 gJ (.slice a41 a42 a43) (.slice a44 a45 a46)) := VJ_5.out.below hb
        have HJ_6p : Hid (OwnT w.heap.size (.agg #[.slice a41 a42 a43, .slice a44 a45 a46]) JV JR w6) := HJ_5.out.grown hb
        have VP_6p : Hid (Var w6 gP (.slice a51 a52 a53) (.slice a54 a55 a56)) := VP_t.out.below hb
        have HP_6p : Hid (OwnT w.heap.size (.agg #[.slice a51 a52 a53, .slice a54 a55 a56]) vs PP w6) := HP_c5.out.grown hb
        clear K5 VA_5 VB_5 VN_5 HN_5 VM_5 HM_5 VJ_5 HJ_5 VP_t HP_c5
        clear hb
        go_upto_region 12 with fail
        refine wp_world ?_
        intro W6 hW
        have hH : Below w6.heap.size w6 W6 := by rw [hW]; go_grown
        have VD_t : Hid (Var W6 w6.heap.size (.slice a61 a62 a63) (.slice a64 a65 a66)) := by rw [hW]; exact Var.made _ _ _
        clear hW
        obtain ⟨gD, egD⟩ : ∃ g, Hid (w6.heap.size = g) := ⟨_, rfl⟩
        rw [egD.out] at VD_t ⊢
        have K6 : Below w.heap.size w W6 := K6p.trans (hH.mono K6p.size)
        have VA_6 : Hid (Var W6 w.heap.size (.slice p1 n1 k1) (.slice p2 n2 k2)) := VA_6p.out.below hH
        have VB_6 : Hid (Var W6 (w.heap.size + 1) (.slice p3 n3 k3) (.slice p4 n4 k4)) := VB_6p.out.below hH
        have VN_6 : Hid (Var W6 gN (.slice a11 a12 a13) (.slice a14 a15 a16)) := VN_6p.out.below hH
        have HN_6 : Hid (OwnT w.heap.size (.agg #[.slice a11 a12 a13, .slice a14 a15 a16]) vs AN W6) := HN_6p.out.grown hH
        have VM_6 : Hid (Var W6 gM (.slice a21 a22 a23) (.slice a24 a25 a26)) := VM_6p.out.below hH
        have HM_6 : Hid (OwnT w.heap.size (.agg #[.slice a21 a22 a23, .slice a24 a25 a26]) vs AN W6) := HM_6p.out.grown hH
        have VJ_6 : Hid (Var W6 gJ (.slice a41 a42 a43) (.slice a44 a45 a46)) := VJ_6p.out.below hH
        have HJ_6 : Hid (OwnT w.heap.size (.agg #[.slice a41 a42 a43, .slice a44 a45 a46]) JV JR W6) := HJ_6p.out.grown hH
        have VP_6 : Hid (Var W6 gP (.slice a51 a52 a53) (.slice a54 a55 a56)) := VP_6p.out.below hH
        have HP_6 : Hid (OwnT w.heap.size (.agg #[.slice a51 a52 a53, .slice a54 a55 a56]) vs PP W6) := HP_6p.out.grown hH
        have HD_6 : Hid (TabO w.heap.size 0 vs AN (.agg #[.slice a61 a62 a63, .slice a64 a65 a66]) W6) := HD_t.out.grown hH
        clear K6p VA_6p VB_6p VN_6p HN_6p VM_6p HM_6p VJ_6p HJ_6p VP_6p HP_6p HD_t
        clear hH
        have HD_c6 : Hid (OwnT w.heap.size (.agg #[.slice a61 a62 a63, .slice a64 a65 a66]) vs AN W6) := TabO.zero HD_6.out
        clear HD_6
        have l0a := VD_t.out.c0
        have l0b := VD_t.out.c1
        have l1a := VP_6.out.c0
        have l1b := VP_6.out.c1
        go_wp2_with fail
        refine (c8.out _ _ _ _ _ _ _ (by trivial) HD_c6.out HP_6.out).mono ?_
        rintro e w7 ⟨a71, a72, a73, a74, a75, a76, rfl, ht, hb⟩
        have HU_t : Hid (TabO w.heap.size 0 vs rs (.agg #[.slice a71 a72 a73, .slice a74 a75 a76]) w7) := OwnT.base ht K6.size
        clear ht l0a l0b l1a l1b
        have K7p : Below w.heap.size w w7 := K6.trans (hb.mono K6.size)
        have VA_7p : Hid (Var w7 w.heap.size (.slice p1 n1 k1) (.slice p2 n2 k2)) := VA_6.out.below hb
        have VB_7p : Hid (Var w7 (w.heap.size + 1) (.slice p3 n3 k3) (.slice p4 n4 k4)) := VB_6.out.below hb
        have VN_7p : Hid (Var w7 gN (.slice a11 a12 a13) (.slice a14 a15 a16)) := VN_6.out.below hb
        have HN_7p : Hid (OwnT w.heap.size (.agg #[.slice a11 a12 a13, .slice a14 a15 a16]) vs AN w7) := HN_6.out.grown hb
        have VM_7p : Hid (Var w7 gM (.slice a21 a22 a23) (.slice a24 a25 a26)) := VM_6.out.below hb
        have HM_7p : Hid (OwnT w.heap.size (.agg #[.slice a21 a22 a23, .slice a24 a25 a26]) vs AN w7) := HM_6.out.grown hb
        have VJ_7p : Hid (Var w7 gJ (.slice a41 a42 a43) (.slice a44 a45 a46)) := VJ_6.out.below hb
        have HJ_7p : Hid (OwnT w.heap.size (.agg #[.slice a41 a42 a43, .slice a44 a45 a46]) JV JR w7) := HJ_6.out.grown hb
        have VP_7p : Hid (Var w7 gP (.slice a51 a52 a53) (.slice a54 a55 a56)) := VP_6.out.below hb
        have HP_7p : Hid (OwnT w.heap.size (.agg #[.slice a51 a52 a53, .slice a54 a55 a56]) vs PP w7) := HP_6.out.grown hb
        have VD_7p : Hid (Var w7 gD (.slice a61 a62 a63) (.slice a64 a65 a66)) := VD_t.out.below hb
        have HD_7p : Hid (OwnT w.heap.size (.agg #[.slice a61 a62 a63, .slice a64 a65 a66]) vs AN w7) := HD_c6.out.grown hb
        clear K6 VA_6 VB_6 VN_6 HN_6 VM_6 HM_6 VJ_6 HJ_6 VP_6 HP_6 VD_t HD_c6
        clear hb
        go_upto_region 13 with fail
        refine wp_world ?_
        intro W7 hW
        have hH : Below w7.heap.size w7 W7 := by rw [hW]; go_grown
        have VU_t : Hid (Var W7 w7.heap.size (.slice a71 a72 a73) (.slice a74 a75 a76)) := by rw [hW]; exact Var.made _ _ _
        clear hW
        obtain ⟨gU, egU⟩ : ∃ g, Hid (w7.heap.size = g) := ⟨_, rfl⟩
        rw [egU.out] at VU_t ⊢
        have K7 : Below w.heap.size w W7 := K7p.trans (hH.mono K7p.size)
        have VA_7 : Hid (Var W7 w.heap.size (.slice p1 n1 k1) (.slice p2 n2 k2)) := VA_7p.out.below hH
        have VB_7 : Hid (Var W7 (w.heap.size + 1) (.slice p3 n3 k3) (.slice p4 n4 k4)) := VB_7p.out.below hH
        have VN_7 : Hid (Var W7 gN (.slice a11 a12 a13) (.slice a14 a15 a16)) := VN_7p.out.below hH
        have HN_7 : Hid (OwnT w.heap.size (.agg #[.slice a11 a12 a13, .slice a14 a15 a16]) vs AN W7) := HN_7p.out.grown hH
        have VM_7 : Hid (Var W7 gM (.slice a21 a22 a23) (.slice a24 a25 a26)) := VM_7p.out.below hH
        have HM_7 : Hid (OwnT w.heap.size (.agg #[.slice a21 a22 a23, .slice a24 a25 a26]) vs AN W7) := HM_7p.out.grown hH
        have VJ_7 : Hid (Var W7 gJ (.slice a41 a42 a43) (.slice a44 a45 a46)) := VJ_7p.out.below hH
        have HJ_7 : Hid (OwnT w.heap.size (.agg #[.slice a41 a42 a43, .slice a44 a45 a46]) JV JR W7) := HJ_7p.out.grown hH
        have VP_7 : Hid (Var W7 gP (.slice a51 a52 a53) (.slice a54 a55 a56)) := VP_7p.out.below hH
        have HP_7 : Hid (OwnT w.heap.size (.agg #[.slice a51 a52 a53, .slice a54 a55 a56]) vs PP W7) := HP_7p.out.grown hH
        have VD_7 : Hid (Var W7 gD (.slice a61 a62 a63) (.slice a64 a65 a66)) := VD_7p.out.below hH
        have HD_7 : Hid (OwnT w.heap.size (.agg #[.slice a61 a62 a63, .slice a64 a65 a66]) vs AN W7) := HD_7p.out.grown hH
        have HU_7 : Hid (TabO w.heap.size 0 vs rs (.agg #[.slice a71 a72 a73, .slice a74 a75 a76]) W7) := HU_t.out.grown hH
        clear K7p VA_7p VB_7p VN_7p HN_7p VM_7p HM_7p VJ_7p HJ_7p VP_7p HP_7p VD_7p HD_7p HU_t
        clear hH
        have HU_c7 : Hid (OwnT w.heap.size (.agg #[.slice a71 a72 a73, .slice a74 a75 a76]) vs rs W7) := TabO.zero HU_7.out
        clear HU_7
        go_wp2_with fail
        refine (tlive_any _).mono ?_
        rintro e w8 ⟨rfl, hb⟩
        have K8 : Below w.heap.size w w8 := K7.trans (hb.mono K7.size)
        have VA_8 : Hid (Var w8 w.heap.size (.slice p1 n1 k1) (.slice p2 n2 k2)) := VA_7.out.below hb
        have VB_8 : Hid (Var w8 (w.heap.size + 1) (.slice p3 n3 k3) (.slice p4 n4 k4)) := VB_7.out.below hb
        have VN_8 : Hid (Var w8 gN (.slice a11 a12 a13) (.slice a14 a15 a16)) := VN_7.out.below hb
        have HN_8 : Hid (OwnT w.heap.size (.agg #[.slice a11 a12 a13, .slice a14 a15 a16]) vs AN w8) := HN_7.out.grown hb
        have VM_8 : Hid (Var w8 gM (.slice a21 a22 a23) (.slice a24 a25 a26)) := VM_7.out.below hb
        have HM_8 : Hid (OwnT w.heap.size (.agg #[.slice a21 a22 a23, .slice a24 a25 a26]) vs AN w8) := HM_7.out.grown hb
        have VJ_8 : Hid (Var w8 gJ (.slice a41 a42 a43) (.slice a44 a45 a46)) := VJ_7.out.below hb
        have HJ_8 : Hid (OwnT w.heap.size (.agg #[.slice a41 a42 a43, .slice a44 a45 a46]) JV JR w8) := HJ_7.out.grown hb
        have VP_8 : Hid (Var w8 gP (.slice a51 a52 a53) (.slice a54 a55 a56)) := VP_7.out.below hb
        have HP_8 : Hid (OwnT w.heap.size (.agg #[.slice a51 a52 a53, .slice a54 a55 a56]) vs PP w8) := HP_7.out.grown hb
        have VD_8 : Hid (Var w8 gD (.slice a61 a62 a63) (.slice a64 a65 a66)) := VD_7.out.below hb
        have HD_8 : Hid (OwnT w.heap.size (.agg #[.slice a61 a62 a63, .slice a64 a65 a66]) vs AN w8) := HD_7.out.grown hb
        have VU_8 : Hid (Var w8 gU (.slice a71 a72 a73) (.slice a74 a75 a76)) := VU_t.out.below hb
        have HU_8 : Hid (OwnT w.heap.size (.agg #[.slice a71 a72 a73, .slice a74 a75 a76]) vs rs w8) := HU_c7.out.grown hb
        clear K7 VA_7 VB_7 VN_7 HN_7 VM_7 HM_7 VJ_7 HJ_7 VP_7 HP_7 VD_7 HD_7 VU_t HU_c7
        clear hb
        have l0a := VD_8.out.c0
        have l0b := VD_8.out.c1
        have l1a := VN_8.out.c0
        have l1b := VN_8.out.c1
        go_wp2_with fail
        refine (c9.out _ _ _ _ _ _ _ (by trivial) HD_8.out HN_8.out).mono ?_
        rintro e w9 ⟨rfl, hb⟩
        clear l0a l0b l1a l1b
        have K9 : Below w.heap.size w w9 := K8.trans (hb.mono K8.size)
        have VA_9 : Hid (Var w9 w.heap.size (.slice p1 n1 k1) (.slice p2 n2 k2)) := VA_8.out.below hb
        have VB_9 : Hid (Var w9 (w.heap.size + 1) (.slice p3 n3 k3) (.slice p4 n4 k4)) := VB_8.out.below hb
        have VN_9 : Hid (Var w9 gN (.slice a11 a12 a13) (.slice a14 a15 a16)) := VN_8.out.below hb
        have HN_9 : Hid (OwnT w.heap.size (.agg #[.slice a11 a12 a13, .slice a14 a15 a16]) vs AN w9) := HN_8.out.grown hb
        have VM_9 : Hid (Var w9 gM (.slice a21 a22 a23) (.slice a24 a25 a26)) := VM_8.out.below hb
        have HM_9 : Hid (OwnT w.heap.size (.agg #[.slice a21 a22 a23, .slice a24 a25 a26]) vs AN w9) := HM_8.out.grown hb
        have VJ_9 : Hid (Var w9 gJ (.slice a41 a42 a43) (.slice a44 a45 a46)) := VJ_8.out.below hb
        have HJ_9 : Hid (OwnT w.heap.size (.agg #[.slice a41 a42 a43, .slice a44 a45 a46]) JV JR w9) := HJ_8.out.grown hb
        have VP_9 : Hid (Var w9 gP (.slice a51 a52 a53) (.slice a54 a55 a56)) := VP_8.out.below hb
        have HP_9 : Hid (OwnT w.heap.size (.agg #[.slice a51 a52 a53, .slice a54 a55 a56]) vs PP w9) := HP_8.out.grown hb
        have VD_9 : Hid (Var w9 gD (.slice a61 a62 a63) (.slice a64 a65 a66)) := VD_8.out.below hb
        have HD_9 : Hid (OwnT w.heap.size (.agg #[.slice a61 a62 a63, .slice a64 a65 a66]) vs AN w9) := HD_8.out.grown hb
        have VU_9 : Hid (Var w9 gU (.slice a71 a72 a73) (.slice a74 a75 a76)) := VU_8.out.below hb
        have HU_9 : Hid (OwnT w.heap.size (.agg #[.slice a71 a72 a73, .slice a74 a75 a76]) vs rs w9) := HU_8.out.grown hb
        clear K8 VA_8 VB_8 VN_8 HN_8 VM_8 HM_8 VJ_8 HJ_8 VP_8 HP_8 VD_8 HD_8 VU_8 HU_8
        clear hb
        have l0a := VU_9.out.c0
        have l0b := VU_9.out.c1
        have l1a := VA_9.out.c0
        have l1b := VA_9.out.c1
        go_wp2_with fail
        refine (c10.out _ _ _ _ (by trivial) (by exact K9) HU_9.out).mono ?_
        rintro e wa ⟨rfl, hb⟩
        clear l0a l0b l1a l1b
        have Ka : Below w.heap.size w wa := K9.trans (hb.mono K9.size)
        have VA_a : Hid (Var wa w.heap.size (.slice p1 n1 k1) (.slice p2 n2 k2)) := VA_9.out.below hb
        have VB_a : Hid (Var wa (w.heap.size + 1) (.slice p3 n3 k3) (.slice p4 n4 k4)) := VB_9.out.below hb
        have VN_a : Hid (Var wa gN (.slice a11 a12 a13) (.slice a14 a15 a16)) := VN_9.out.below hb
        have HN_a : Hid (OwnT w.heap.size (.agg #[.slice a11 a12 a13, .slice a14 a15 a16]) vs AN wa) := HN_9.out.grown hb
        have VM_a : Hid (Var wa gM (.slice a21 a22 a23) (.slice a24 a25 a26)) := VM_9.out.below hb
        have HM_a : Hid (OwnT w.heap.size (.agg #[.slice a21 a22 a23, .slice a24 a25 a26]) vs AN wa) := HM_9.out.grown hb
        have VJ_a : Hid (Var wa gJ (.slice a41 a42 a43) (.slice a44 a45 a46)) := VJ_9.out.below hb
        have HJ_a : Hid (OwnT w.heap.size (.agg #[.slice a41 a42 a43, .slice a44 a45 a46]) JV JR wa) := HJ_9.out.grown hb
        have VP_a : Hid (Var wa gP (.slice a51 a52 a53) (.slice a54 a55 a56)) := VP_9.out.below hb
        have HP_a : Hid (OwnT w.heap.size (.agg #[.slice a51 a52 a53, .slice a54 a55 a56]) vs PP wa) := HP_9.out.grown hb
        have VD_a : Hid (Var wa gD (.slice a61 a62 a63) (.slice a64 a65 a66)) := VD_9.out.below hb
        have HD_a : Hid (OwnT w.heap.size (.agg #[.slice a61 a62 a63, .slice a64 a65 a66]) vs AN wa) := HD_9.out.grown hb
        have VU_a : Hid (Var wa gU (.slice a71 a72 a73) (.slice a74 a75 a76)) := VU_9.out.below hb
        have HU_a : Hid (OwnT w.heap.size (.agg #[.slice a71 a72 a73, .slice a74 a75 a76]) vs rs wa) := HU_9.out.grown hb
        clear K9 VA_9 VB_9 VN_9 HN_9 VM_9 HM_9 VJ_9 HJ_9 VP_9 HP_9 VD_9 HD_9 VU_9 HU_9
        clear hb
        go_wp2
        go_ret
        exact ⟨rfl, Ka⟩
      · subst hj
        go_wp2_with fail
        refine (tlive_any _).mono ?_
        rintro e wb ⟨rfl, hb⟩
        have Kb : Below w.heap.size w wb := K4.trans (hb.mono K4.size)
        have VA_b : Hid (Var wb w.heap.size (.slice p1 n1 k1) (.slice p2 n2 k2)) := VA_4.out.below hb
        have VB_b : Hid (Var wb (w.heap.size + 1) (.slice p3 n3 k3) (.slice p4 n4 k4)) := VB_4.out.below hb
        have VN_b : Hid (Var wb gN (.slice a11 a12 a13) (.slice a14 a15 a16)) := VN_4.out.below hb
        have HN_b : Hid (OwnT w.heap.size (.agg #[.slice a11 a12 a13, .slice a14 a15 a16]) vs AN wb) := HN_4.out.grown hb
        have VM_b : Hid (Var wb gM (.slice a21 a22 a23) (.slice a24 a25 a26)) := VM_4.out.below hb
        have HM_b : Hid (OwnT w.heap.size (.agg #[.slice a21 a22 a23, .slice a24 a25 a26]) vs AN wb) := HM_4.out.grown hb
        have HJ_b : Hid (TabO w.heap.size 30 JV JR (.agg #[.slice a41 a42 a43, .slice a44 a45 a46]) wb) := HJ_4.out.grown hb
        have VJ_b : Hid (Var wb gJ (.slice a41 a42 a43) (.slice a44 a45 a46)) := VJ_t.out.below hb
        clear K4 VA_4 VB_4 VN_4 HN_4 VM_4 HM_4 HJ_4 VJ_t
        clear hb
        go_wp2
        go_ret
        exact ⟨rfl, Kb⟩
    · subst h1
      have l0a := VA_2.out.c0
      have l0b := VA_2.out.c1
      have l1a := VB_2.out.c0
      have l1b := VB_2.out.c1
      go_wp2_with fail
      refine (c5.out _ (by exact K2)).mono ?_
      rintro e w4 ⟨a41, a42, a43, a44, a45, a46, rfl, ht, hb⟩
      have HJ_t : Hid (TabO w.heap.size E2 JV JR (.agg #[.slice a41 a42 a43, .slice a44 a45 a46]) w4) := OwnT.base ht K2.size
      clear ht l0a l0b l1a l1b
      have K4p : Below w.heap.size w w4 := K2.trans (hb.mono K2.size)
      have VA_4p : Hid (Var w4 w.heap.size (.slice p1 n1 k1) (.slice p2 n2 k2)) := VA_2.out.below hb
      have VB_4p : Hid (Var w4 (w.heap.size + 1) (.slice p3 n3 k3) (.slice p4 n4 k4)) := VB_2.out.below hb
      have VN_4p : Hid (Var w4 gN (.slice a11 a12 a13) (.slice a14 a15 a16)) := VN_2.out.below hb
      have HN_4p : Hid (OwnT w.heap.size (.agg #[.slice a11 a12 a13, .slice a14 a15 a16]) vs AN w4) := HN_2.out.grown hb
      have HM_4p : Hid (TabO w.heap.size 30 vs AN (.agg #[.slice a21 a22 a23, .slice a24 a25 a26]) w4) := HM_2.out.grown hb
      have VM_4p : Hid (Var w4 gM (.slice a21 a22 a23) (.slice a24 a25 a26)) := VM_t.out.below hb
      clear K2 VA_2 VB_2 VN_2 HN_2 HM_2 VM_t
      clear hb
      go_upto_region 8 with fail
      refine wp_world ?_
      intro W4 hW
      have hH : Below w4.heap.size w4 W4 := by rw [hW]; go_grown
      have VJ_t : Hid (Var W4 w4.heap.size (.slice a41 a42 a43) (.slice a44 a45 a46)) := by rw [hW]; exact Var.made _ _ _
      clear hW
      obtain ⟨gJ, egJ⟩ : ∃ g, Hid (w4.heap.size = g) := ⟨_, rfl⟩
      rw [egJ.out] at VJ_t ⊢
      have K4 : Below w.heap.size w W4 := K4p.trans (hH.mono K4p.size)
      have VA_4 : Hid (Var W4 w.heap.size (.slice p1 n1 k1) (.slice p2 n2 k2)) := VA_4p.out.below hH
      have VB_4 : Hid (Var W4 (w.heap.size + 1) (.slice p3 n3 k3) (.slice p4 n4 k4)) := VB_4p.out.below hH
      have VN_4 : Hid (Var W4 gN (.slice a11 a12 a13) (.slice a14 a15 a16)) := VN_4p.out.below hH
      have HN_4 : Hid (OwnT w.heap.size (.agg #[.slice a11 a12 a13, .slice a14 a15 a16]) vs AN W4) := HN_4p.out.grown hH
      have HM_4 : Hid (TabO w.heap.size 30 vs AN (.agg #[.slice a21 a22 a23, .slice a24 a25 a26]) W4) := HM_4p.out.grown hH
      have VM_4 : Hid (Var W4 gM (.slice a21 a22 a23) (.slice a24 a25 a26)) := VM_4p.out.below hH
      have HJ_4 : Hid (TabO w.heap.size E2 JV JR (.agg #[.slice a41 a42 a43, .slice a44 a45 a46]) W4) := HJ_t.out.grown hH
      clear K4p VA_4p VB_4p VN_4p HN_4p HM_4p VM_4p HJ_t
      clear hH
      rcases hE2.out (by trivial) with ⟨hj, h8⟩ | hj
      · subst hj
        have HJ_c4 : Hid (OwnT w.heap.size (.agg #[.slice a41 a42 a43, .slice a44 a45 a46]) JV JR W4) := TabO.zero HJ_4.out
        clear HJ_4
        have l0a := VJ_t.out.c0
        have l0b := VJ_t.out.c1
        have l1a := VA_4.out.c0
        have l1b := VA_4.out.c1
        go_wp2_with fail
        refine (c6.out _ _ _ _ (by trivial) h8 (by exact K4) HJ_c4.out).mono ?_
        rintro e w5 ⟨a51, a52, a53, a54, a55, a56, rfl, ht, hb⟩
        have HP_t : Hid (TabO w.heap.size 0 vs PP (.agg #[.slice a51 a52 a53, .slice a54 a55 a56]) w5) := OwnT.base ht K4.size
        clear ht l0a l0b l1a l1b
        have K5p : Below w.heap.size w w5 := K4.trans (hb.mono K4.size)
        have VA_5p : Hid (Var w5 w.heap.size (.slice p1 n1 k1) (.slice p2 n2 k2)) := VA_4.out.below hb
        have VB_5p : Hid (Var w5 (w.heap.size + 1) (.slice p3 n3 k3) (.slice p4 n4 k4)) := VB_4.out.below hb
        have VN_5p : Hid (Var w5 gN (.slice a11 a12 a13) (.slice a14 a15 a16)) := VN_4.out.below hb
        have HN_5p : Hid (OwnT w.heap.size (.agg #[.slice a11 a12 a13, .slice a14 a15 a16]) vs AN w5) := HN_4.out.grown hb
        have HM_5p : Hid (TabO w.heap.size 30 vs AN (.agg #[.slice a21 a22 a23, .slice a24 a25 a26]) w5) := HM_4.out.grown hb
        have VM_5p : Hid (Var w5 gM (.slice a21 a22 a23) (.slice a24 a25 a26)) := VM_4.out.below hb
        have VJ_5p : Hid (Var w5 gJ (.slice a41 a42 a43) (.slice a44 a45 a46)) := VJ_t.out.below hb
        have HJ_5p : Hid (OwnT w.heap.size (.agg #[.slice a41 a42 a43, .slice a44 a45 a46]) JV JR w5) := HJ_c4.out.grown hb
        clear K4 VA_4 VB_4 VN_4 HN_4 HM_4 VM_4 VJ_t HJ_c4
        clear hb
        go_upto_region 11 with fail
        refine wp_world ?_
        intro W5 hW
        have hH : Below w5.heap.size w5 W5 := by rw [hW]; go_grown
        have VP_t : Hid (Var W5 w5.heap.size (.slice a51 a52 a53) (.slice a54 a55 a56)) := by rw [hW]; exact Var.made _ _ _
        clear hW
        obtain ⟨gP, egP⟩ : ∃ g, Hid (w5.heap.size = g) := ⟨_, rfl⟩
        rw [egP.out] at VP_t ⊢
        have K5 : Below w.heap.size w W5 := K5p.trans (hH.mono K5p.size)
        have VA_5 : Hid (Var W5 w.heap.size (.slice p1 n1 k1) (.slice p2 n2 k2)) := VA_5p.out.below hH
        have VB_5 : Hid (Var W5 (w.heap.size + 1) (.slice p3 n3 k3) (.slice p4 n4 k4)) := VB_5p.out.below hH
        have VN_5 : Hid (Var W5 gN (.slice a11 a12 a13) (.slice a14 a15 a16)) := VN_5p.out.below hH
        have HN_5 : Hid (OwnT w.heap.size (.agg #[.slice a11 a12 a13, .slice a14 a15 a16]) vs AN W5) := HN_5p.out.grown hH
        have HM_5 : Hid (TabO w.heap.size 30 vs AN (.agg #[.slice a21 a22 a23, .slice a24 a25 a26]) W5) := HM_5p.out.grown hH
        have VM_5 : Hid (Var W5 gM (.slice a21 a22 a23) (.slice a24 a25 a26)) := VM_5p.out.below hH
        have VJ_5 : Hid (Var W5 gJ (.slice a41 a42 a43) (.slice a44 a45 a46)) := VJ_5p.out.below hH
        have HJ_5 : Hid (OwnT w.heap.size (.agg #[.slice a41 a42 a43, .slice a44 a45 a46]) JV JR W5) := HJ_5p.out.grown hH
        have HP_5 : Hid (TabO w.heap.size 0 vs PP (.agg #[.slice a51 a52 a53, .slice a54 a55 a56]) W5) := HP_t.out.grown hH
        clear K5p VA_5p VB_5p VN_5p HN_5p HM_5p VM_5p VJ_5p HJ_5p HP_t
        clear hH
        have HP_c5 : Hid (OwnT w.heap.size (.agg #[.slice a51 a52 a53, .slice a54 a55 a56]) vs PP W5) := TabO.zero HP_5.out
        clear HP_5
        have l0a := VA_5.out.c0
        have l0b := VA_5.out.c1
        have l1a := VP_t.out.c0
        have l1b := VP_t.out.c1
        go_wp2_with fail
        refine (c7.out _ _ _ _ (by trivial) (by exact K5) HP_c5.out).mono ?_
        rintro e w6 ⟨a61, a62, a63, a64, a65, a66, rfl, ht, hb⟩
        have HD_t : Hid (TabO w.heap.size 0 vs AN (.agg #[.slice a61 a62 a63, .slice a64 a65 a66]) w6) := OwnT.base ht K5.size
        clear ht l0a l0b l1a l1b
        have K6p : Below w.heap.size w w6 := K5.trans (hb.mono K5.size)
        have VA_6p : Hid (Var w6 w.heap.size (.slice p1 n1 k1) (.slice p2 n2 k2)) := VA_5.out.below hb
        have VB_6p : Hid (Var w6 (w.heap.size + 1) (.slice p3 n3 k3) (.slice p4 n4 k4)) := VB_5.out.below hb
        have VN_6p : Hid (Var w6 gN (.slice a11 a12 a13) (.slice a14 a15 a16)) := VN_5.out.below hb
        have HN_6p : Hid (OwnT w.heap.size (.agg #[.slice a11 a12 a13, .slice a14 a15 a16]) vs AN w6) := HN_5.out.grown hb
        have HM_6p : Hid (TabO w.heap.size 30 vs AN (.agg #[.slice a21 a22 a23, .slice a24 a25 a26]) w6) := HM_5.out.grown hb
        have VM_6p : Hid (Var w6 gM (.slice a21 a22 a23) (.slice a24 a25 a26)) := VM_5.out.below hb
        have VJ_6p : Hid (Var w6 gJ (.slice a41 a42 a43) (.slice a44 a45 a46)) := VJ_5.out.below hb
        have HJ_6p : Hid (OwnT w.heap.size (.agg #[.slice a41 a42 a43, .slice a44 a45 a46]) JV JR w6) := HJ_5.out.grown hb
        have VP_6p : Hid (Var w6 gP (.slice a51 a52 a53) (.slice a54 a55 a56)) := VP_t.out.below hb
        have HP_6p : Hid (OwnT w.heap.size (.agg #[.slice a51 a52 a53, .slice a54 a55 a56]) vs PP w6) := HP_c5.out.grown hb
        clear K5 VA_5 VB_5 VN_5 HN_5 HM_5 VM_5 VJ_5 HJ_5 VP_t HP_c5
        clear hb
        go_upto_region 12 with fail
        refine wp_world ?_
        intro W6 hW
        have hH : Below w6.heap.size w6 W6 := by rw [hW]; go_grown
        have VD_t : Hid (Var W6 w6.heap.size (.slice a61 a62 a63) (.slice a64 a65 a66)) := by rw [hW]; exact Var.made _ _ _
        clear hW
        obtain ⟨gD, egD⟩ : ∃ g, Hid (w6.heap.size = g) := ⟨_, rfl⟩
        rw [egD.out] at VD_t ⊢
        have K6 : Below w.heap.size w W6 := K6p.trans (hH.mono K6p.size)
        have VA_6 : Hid (Var W6 w.heap.size (.slice p1 n1 k1) (.slice p2 n2 k2)) := VA_6p.out.below hH
        have VB_6 : Hid (Var W6 (w.heap.size + 1) (.slice p3 n3 k3) (.slice p4 n4 k4)) := VB_6p.out.below hH
        have VN_6 : Hid (Var W6 gN (.slice a11 a12 a13) (.slice a14 a15 a16)) := VN_6p.out.below hH
        have HN_6 : Hid (OwnT w.heap.size (.agg #[.slice a11 a12 a13, .slice a14 a15 a16]) vs AN W6) := HN_6p.out.grown hH
        have HM_6 : Hid (TabO w.heap.size 30 vs AN (.agg #[.slice a21 a22 a23, .slice a24 a25 a26]) W6) := HM_6p.out.grown hH
        have VM_6 : Hid (Var W6 gM (.slice a21 a22 a23) (.slice a24 a25 a26)) := VM_6p.out.below hH
        have VJ_6 : Hid (Var W6 gJ (.slice a41 a42 a43) (.slice a44 a45 a46)) := VJ_6p.out.below hH
        have HJ_6 : Hid (OwnT w.heap.size (.agg #[.slice a41 a42 a43, .slice a44 a45 a46]) JV JR W6) := HJ_6p.out.grown hH
        have VP_6 : Hid (Var W6 gP (.slice a51 a52 a53) (.slice a54 a55 a56)) := VP_6p.out.below hH
        have HP_6 : Hid (OwnT w.heap.size (.agg #[.slice a51 a52 a53, .slice a54 a55 a56]) vs PP W6) := HP_6p.out.grown hH
        have HD_6 : Hid (TabO w.heap.size 0 vs AN (.agg #[.slice a61 a62 a63, .slice a64 a65 a66]) W6) := HD_t.out.grown hH
        clear K6p VA_6p VB_6p VN_6p HN_6p HM_6p VM_6p VJ_6p HJ_6p VP_6p HP_6p HD_t
        clear hH
        have HD_c6 : Hid (OwnT w.heap.size (.agg #[.slice a61 a62 a63, .slice a64 a65 a66]) vs AN W6) := TabO.zero HD_6.out
        clear HD_6
        have l0a := VD_t.out.c0
        have l0b := VD_t.out.c1
        have l1a := VP_6.out.c0
        have l1b := VP_6.out.c1
        go_wp2_with fail
        refine (c8.out _ _ _ _ _ _ _ (by trivial) HD_c6.out HP_6.out).mono ?_
        rintro e w7 ⟨a71, a72, a73, a74, a75, a76, rfl, ht, hb⟩
        have HU_t : Hid (TabO w.heap.size 0 vs rs (.agg #[.slice a71 a72 a73, .slice a74 a75 a76]) w7) := OwnT.base ht K6.size
        clear ht l0a l0b l1a l1b
        have K7p : Below w.heap.size w w7 := K6.trans (hb.mono K6.size)
        have VA_7p : Hid (Var w7 w.heap.size (.slice p1 n1 k1) (.slice p2 n2 k2)) := VA_6.out.below hb
        have VB_7p : Hid (Var w7 (w.heap.size + 1) (.slice p3 n3 k3) (.slice p4 n4 k4)) := VB_6.out.below hb
        have VN_7p : Hid (Var w7 gN (.slice a11 a12 a13) (.slice a14 a15 a16)) := VN_6.out.below hb
        have HN_7p : Hid (OwnT w.heap.size (.agg #[.slice a11 a12 a13, .slice a14 a15 a16]) vs AN w7) := HN_6.out.grown hb
        have HM_7p : Hid (TabO w.heap.size 30 vs AN (.agg #[.slice a21 a22 a23, .slice a24 a25 a26]) w7) := HM_6.out.grown hb
        have VM_7p : Hid (Var w7 gM (.slice a21 a22 a23) (.slice a24 a25 a26)) := VM_6.out.below hb
        have VJ_7p : Hid (Var w7 gJ (.slice a41 a42 a43) (.slice a44 a45 a46)) := VJ_6.out.below hb
        have HJ_7p : Hid (OwnT w.heap.size (.agg #[.slice a41 a42 a43, .slice a44 a45 a46]) JV JR w7) := HJ_6.out.grown hb
        have VP_7p : Hid (Var w7 gP (.slice a51 a52 a53) (.slice a54 a55 a56)) := VP_6.out.below hb
        have HP_7p : Hid (OwnT w.heap.size (.agg #[.slice a51 a52 a53, .slice a54 a55 a56]) vs PP w7) := HP_6.out.grown hb
        have VD_7p : Hid (Var w7 gD (.slice a61 a62 a63) (.slice a64 a65 a66)) := VD_t.out.below hb
        have HD_7p : Hid (OwnT w.heap.size (.agg #[.slice a61 a62 a63, .slice a64 a65 a66]) vs AN w7) := HD_c6.out.grown hb
        clear K6 VA_6 VB_6 VN_6 HN_6 HM_6 VM_6 VJ_6 HJ_6 VP_6 HP_6 VD_t HD_c6
        clear hb
        go_upto_region 13 with fail
        refine wp_world ?_
        intro W7 hW
        have hH : Below w7.heap.size w7 W7 := by rw [hW]; go_grown
        have VU_t : Hid (Var W7 w7.heap.size (.slice a71 a72 a73) (.slice a74 a75 a76)) := by rw [hW]; exact Var.made _ _ _
        clear hW
        obtain ⟨gU, egU⟩ : ∃ g, Hid (w7.heap.size = g) := ⟨_, rfl⟩
        rw [egU.out] at VU_t ⊢
        have K7 : Below w.heap.size w W7 := K7p.trans (hH.mono K7p.size)
        have VA_7 : Hid (Var W7 w.heap.size (.slice p1 n1 k1) (.slice p2 n2 k2)) := VA_7p.out.below hH
        have VB_7 : Hid (Var W7 (w.heap.size + 1) (.slice p3 n3 k3) (.slice p4 n4 k4)) := VB_7p.out.below hH
        have VN_7 : Hid (Var W7 gN (.slice a11 a12 a13) (.slice a14 a15 a16)) := VN_7p.out.below hH
        have HN_7 : Hid (OwnT w.heap.size (.agg #[.slice a11 a12 a13, .slice a14 a15 a16]) vs AN W7) := HN_7p.out.grown hH
        have HM_7 : Hid (TabO w.heap.size 30 vs AN (.agg #[.slice a21 a22 a23, .slice a24 a25 a26]) W7) := HM_7p.out.grown hH
        have VM_7 : Hid (Var W7 gM (.slice a21 a22 a23) (.slice a24 a25 a26)) := VM_7p.out.below hH
        have VJ_7 : Hid (Var W7 gJ (.slice a41 a42 a43) (.slice a44 a45 a46)) := VJ_7p.out.below hH
        have HJ_7 : Hid (OwnT w.heap.size (.agg #[.slice a41 a42 a43, .slice a44 a45 a46]) JV JR W7) := HJ_7p.out.grown hH
        have VP_7 : Hid (Var W7 gP (.slice a51 a52 a53) (.slice a54 a55 a56)) := VP_7p.out.below hH
        have HP_7 : Hid (OwnT w.heap.size (.agg #[.slice a51 a52 a53, .slice a54 a55 a56]) vs PP W7) := HP_7p.out.grown hH
        have VD_7 : Hid (Var W7 gD (.slice a61 a62 a63) (.slice a64 a65 a66)) := VD_7p.out.below hH
        have HD_7 : Hid (OwnT w.heap.size (.agg #[.slice a61 a62 a63, .slice a64 a65 a66]) vs AN W7) := HD_7p.out.grown hH
        have HU_7 : Hid (TabO w.heap.size 0 vs rs (.agg #[.slice a71 a72 a73, .slice a74 a75 a76]) W7) := HU_t.out.grown hH
        clear K7p VA_7p VB_7p VN_7p HN_7p HM_7p VM_7p VJ_7p HJ_7p VP_7p HP_7p VD_7p HD_7p HU_t
        clear hH
        have HU_c7 : Hid (OwnT w.heap.size (.agg #[.slice a71 a72 a73, .slice a74 a75 a76]) vs rs W7) := TabO.zero HU_7.out
        clear HU_7
        go_wp2_with fail
        refine (tlive_any _).mono ?_
        rintro e w8 ⟨rfl, hb⟩
        have K8 : Below w.heap.size w w8 := K7.trans (hb.mono K7.size)
        have VA_8 : Hid (Var w8 w.heap.size (.slice p1 n1 k1) (.slice p2 n2 k2)) := VA_7.out.below hb
        have VB_8 : Hid (Var w8 (w.heap.size + 1) (.slice p3 n3 k3) (.slice p4 n4 k4)) := VB_7.out.below hb
        have VN_8 : Hid (Var w8 gN (.slice a11 a12 a13) (.slice a14 a15 a16)) := VN_7.out.below hb
        have HN_8 : Hid (OwnT w.heap.size (.agg #[.slice a11 a12 a13, .slice a14 a15 a16]) vs AN w8) := HN_7.out.grown hb
        have HM_8 : Hid (TabO w.heap.size 30 vs AN (.agg #[.slice a21 a22 a23, .slice a24 a25 a26]) w8) := HM_7.out.grown hb
        have VM_8 : Hid (Var w8 gM (.slice a21 a22 a23) (.slice a24 a25 a26)) := VM_7.out.below hb
        have VJ_8 : Hid (Var w8 gJ (.slice a41 a42 a43) (.slice a44 a45 a46)) := VJ_7.out.below hb
        have HJ_8 : Hid (OwnT w.heap.size (.agg #[.slice a41 a42 a43, .slice a44 a45 a46]) JV JR w8) := HJ_7.out.grown hb
        have VP_8 : Hid (Var w8 gP (.slice a51 a52 a53) (.slice a54 a55 a56)) := VP_7.out.below hb
        have HP_8 : Hid (OwnT w.heap.size (.agg #[.slice a51 a52 a53, .slice a54 a55 a56]) vs PP w8) := HP_7.out.grown hb
        have VD_8 : Hid (Var w8 gD (.slice a61 a62 a63) (.slice a64 a65 a66)) := VD_7.out.below hb
        have HD_8 : Hid (OwnT w.heap.size (.agg #[.slice a61 a62 a63, .slice a64 a65 a66]) vs AN w8) := HD_7.out.grown hb
        have VU_8 : Hid (Var w8 gU (.slice a71 a72 a73) (.slice a74 a75 a76)) := VU_t.out.below hb
        have HU_8 : Hid (OwnT w.heap.size (.agg #[.slice a71 a72 a73, .slice a74 a75 a76]) vs rs w8) := HU_c7.out.grown hb
        clear K7 VA_7 VB_7 VN_7 HN_7 HM_7 VM_7 VJ_7 HJ_7 VP_7 HP_7 VD_7 HD_7 VU_t HU_c7
        clear hb
        have l0a := VD_8.out.c0
        have l0b := VD_8.out.c1
        have l1a := VN_8.out.c0
        have l1b := VN_8.out.c1
        go_wp2_with fail
        refine (c9.out _ _ _ _ _ _ _ (by trivial) HD_8.out HN_8.out).mono ?_
        rintro e w9 ⟨rfl, hb⟩
        clear l0a l0b l1a l1b
        have K9 : Below w.heap.size w w9 := K8.trans (hb.mono K8.size)
        have VA_9 : Hid (Var w9 w.heap.size (.slice p1 n1 k1) (.slice p2 n2 k2)) := VA_8.out.below hb
        have VB_9 : Hid (Var w9 (w.heap.size + 1) (.slice p3 n3 k3) (.slice p4 n4 k4)) := VB_8.out.below hb
        have VN_9 : Hid (Var w9 gN (.slice a11 a12 a13) (.slice a14 a15 a16)) := VN_8.out.below hb
        have HN_9 : Hid (OwnT w.heap.size (.agg #[.slice a11 a12 a13, .slice a14 a15 a16]) vs AN w9) := HN_8.out.grown hb
        have HM_9 : Hid (TabO w.heap.size 30 vs AN (.agg #[.slice a21 a22 a23, .slice a24 a25 a26]) w9) := HM_8.out.grown hb
        have VM_9 : Hid (Var w9 gM (.slice a21 a22 a23) (.slice a24 a25 a26)) := VM_8.out.below hb
        have VJ_9 : Hid (Var w9 gJ (.slice a41 a42 a43) (.slice a44 a45 a46)) := VJ_8.out.below hb
        have HJ_9 : Hid (OwnT w.heap.size (.agg #[.slice a41 a42 a43, .slice a44 a45 a46]) JV JR w9) := HJ_8.out.grown hb
        have VP_9 : Hid (Var w9 gP (.slice a51 a52 a53) (.slice a54 a55 a56)) := VP_8.out.below hb
        have HP_9 : Hid (OwnT w.heap.size (.agg #[.slice a51 a52 a53, .slice a54 a55 a56]) vs PP w9) := HP_8.out.grown hb
        have VD_9 : Hid (Var w9 gD (.slice a61 a62 a63) (.slice a64 a65 a66)) := VD_8.out.below hb
        have HD_9 : Hid (OwnT w.heap.size (.agg #[.slice a61 a62 a63, .slice a64 a65 a66]) vs AN w9) := HD_8.out.grown hb
        have VU_9 : Hid (Var w9 gU (.slice a71 a72 a73) (.slice a74 a75 a76)) := VU_8.out.below hb
        have HU_9 : Hid (OwnT w.heap.size (.agg #[.slice a71 a72 a73, .slice a74 a75 a76]) vs rs w9) := HU_8.out.grown hb
        clear K8 VA_8 VB_8 VN_8 HN_8 HM_8 VM_8 VJ_8 HJ_8 VP_8 HP_8 VD_8 HD_8 VU_8 HU_8
        clear hb
        have l0a := VU_9.out.c0
        have l0b := VU_9.out.c1
        have l1a := VA_9.out.c0
        have l1b := VA_9.out.c1
        go_wp2_with fail
        refine (c10.out _ _ _ _ (by trivial) (by exact K9) HU_9.out).mono ?_
        rintro e wa ⟨rfl, hb⟩
        clear l0a l0b l1a l1b
        have Ka : Below w.heap.size w wa := K9.trans (hb.mono K9.size)
        have VA_a : Hid (Var wa w.heap.size (.slice p1 n1 k1) (.slice p2 n2 k2)) := VA_9.out.below hb
        have VB_a : Hid (Var wa (w.heap.size + 1) (.slice p3 n3 k3) (.slice p4 n4 k4)) := VB_9.out.below hb
        have VN_a : Hid (Var wa gN (.slice a11 a12 a13) (.slice a14 a15 a16)) := VN_9.out.below hb
        have HN_a : Hid (OwnT w.heap.size (.agg #[.slice a11 a12 a13, .slice a14 a15 a16]) vs AN wa) := HN_9.out.grown hb
        have HM_a : Hid (TabO w.heap.size 30 vs AN (.agg #[.slice a21 a22 a23, .slice a24 a25 a26]) wa) := HM_9.out.grown hb
        have VM_a : Hid (Var wa gM (.slice a21 a22 a23) (.slice a24 a25 a26)) := VM_9.out.below hb
        have VJ_a : Hid (Var wa gJ (.slice a41 a42 a43) (.slice a44 a45 a46)) := VJ_9.out.below hb
        have HJ_a : Hid (OwnT w.heap.size (.agg #[.slice a41 a42 a43, .slice a44 a45 a46]) JV JR wa) := HJ_9.out.grown hb
        have VP_a : Hid (Var wa gP (.slice a51 a52 a53) (.slice a54 a55 a56)) := VP_9.out.below hb
        have HP_a : Hid (OwnT w.heap.size (.agg #[.slice a51 a52 a53, .slice a54 a55 a56]) vs PP wa) := HP_9.out.grown hb
        have VD_a : Hid (Var wa gD (.slice a61 a62 a63) (.slice a64 a65 a66)) := VD_9.out.below hb
        have HD_a : Hid (OwnT w.heap.size (.agg #[.slice a61 a62 a63, .slice a64 a65 a66]) vs AN wa) := HD_9.out.grown hb
        have VU_a : Hid (Var wa gU (.slice a71 a72 a73) (.slice a74 a75 a76)) := VU_9.out.below hb
        have HU_a : Hid (OwnT w.heap.size (.agg #[.slice a71 a72 a73, .slice a74 a75 a76]) vs rs wa) := HU_9.out.grown hb
        clear K9 VA_9 VB_9 VN_9 HN_9 HM_9 VM_9 VJ_9 HJ_9 VP_9 HP_9 VD_9 HD_9 VU_9 HU_9
        clear hb
        go_wp2
        go_ret
        exact ⟨rfl, Ka⟩
      · subst hj
        go_wp2_with fail
        refine (tlive_any _).mono ?_
        rintro e wb ⟨rfl, hb⟩
        have Kb : Below w.heap.size w wb := K4.trans (hb.mono K4.size)
        have VA_b : Hid (Var wb w.heap.size (.slice p1 n1 k1) (.slice p2 n2 k2)) := VA_4.out.below hb
        have VB_b : Hid (Var wb (w.heap.size + 1) (.slice p3 n3 k3) (.slice p4 n4 k4)) := VB_4.out.below hb
        have VN_b : Hid (Var wb gN (.slice a11 a12 a13) (.slice a14 a15 a16)) := VN_4.out.below hb
        have HN_b : Hid (OwnT w.heap.size (.agg #[.slice a11 a12 a13, .slice a14 a15 a16]) vs AN wb) := HN_4.out.grown hb
        have HM_b : Hid (TabO w.heap.size 30 vs AN (.agg #[.slice a21 a22 a23, .slice a24 a25 a26]) wb) := HM_4.out.grown hb
        have VM_b : Hid (Var wb gM (.slice a21 a22 a23) (.slice a24 a25 a26)) := VM_4.out.below hb
        have HJ_b : Hid (TabO w.heap.size 30 JV JR (.agg #[.slice a41 a42 a43, .slice a44 a45 a46]) wb) := HJ_4.out.grown hb
        have VJ_b : Hid (Var wb gJ (.slice a41 a42 a43) (.slice a44 a45 a46)) := VJ_t.out.below hb
        clear K4 VA_4 VB_4 VN_4 HN_4 HM_4 VM_4 HJ_4 VJ_t
        clear hb
        go_wp2
        go_ret
        exact ⟨rfl, Kb⟩
  · have hE0 : (E == 0) = false := by simpa using h0
    clear hE1 hE2 c1 c4 c5 c6 c7 c8 c9 c10
    go_wp2_with fail
    refine (tlive_any _).mono ?_
    rintro e wc ⟨rfl, hb⟩
    have Kc : Below w.heap.size w wc := K1.trans (hb.mono K1.size)
    have VA_c : Hid (Var wc w.heap.size (.slice p1 n1 k1) (.slice p2 n2 k2)) := VA_1.out.below hb
    have VB_c : Hid (Var wc (w.heap.size + 1) (.slice p3 n3 k3) (.slice p4 n4 k4)) := VB_1.out.below hb
    have HN_c : Hid (TabO w.heap.size E vs AN (.agg #[.slice a11 a12 a13, .slice a14 a15 a16]) wc) := HN_1.out.grown hb
    have VN_c : Hid (Var wc gN (.slice a11 a12 a13) (.slice a14 a15 a16)) := VN_t.out.below hb
    clear K1 VA_1 VB_1 HN_1 VN_t
    clear hb
    have l0a := VA_c.out.c0
    have l0b := VA_c.out.c1
    go_wp2_with fail
    refine (c2.out _ (by exact Kc)).mono ?_
    rintro e wd ⟨rfl, hb⟩
    clear l0a l0b
    have Kd : Below w.heap.size w wd := Kc.trans (hb.mono Kc.size)
    have VA_d : Hid (Var wd w.heap.size (.slice p1 n1 k1) (.slice p2 n2 k2)) := VA_c.out.below hb
    have VB_d : Hid (Var wd (w.heap.size + 1) (.slice p3 n3 k3) (.slice p4 n4 k4)) := VB_c.out.below hb
    have HN_d : Hid (TabO w.heap.size E vs AN (.agg #[.slice a11 a12 a13, .slice a14 a15 a16]) wd) := HN_c.out.grown hb
    have VN_d : Hid (Var wd gN (.slice a11 a12 a13) (.slice a14 a15 a16)) := VN_c.out.below hb
    clear Kc VA_c VB_c HN_c VN_c
    clear hb
    by_cases hca : CA = 0
    · have hcb : ¬ CB = 0 := fun h => h0 (by rw [hE.out, if_pos hca]; exact h)
      have hcb2 : (CB == 0) = false := by simpa using hcb
      subst hca
      have l0a := VB_d.out.c0
      have l0b := VB_d.out.c1
      go_wp2_with fail
      refine (c3.out _ (by exact Kd)).mono ?_
      rintro e we ⟨rfl, hb⟩
      clear l0a l0b
      have Ke : Below w.heap.size w we := Kd.trans (hb.mono Kd.size)
      have VA_e : Hid (Var we w.heap.size (.slice p1 n1 k1) (.slice p2 n2 k2)) := VA_d.out.below hb
      have VB_e : Hid (Var we (w.heap.size + 1) (.slice p3 n3 k3) (.slice p4 n4 k4)) := VB_d.out.below hb
      have HN_e : Hid (TabO w.heap.size E vs AN (.agg #[.slice a11 a12 a13, .slice a14 a15 a16]) we) := HN_d.out.grown hb
      have VN_e : Hid (Var we gN (.slice a11 a12 a13) (.slice a14 a15 a16)) := VN_d.out.below hb
      clear Kd VA_d VB_d HN_d VN_d
      clear hb
      go_wp2
      go_ret
      exact ⟨ret_bool (by simpa using hcb), Ke⟩
    · have hca2 : (CA == 0) = false := by simpa using hca
      go_wp2
      go_ret
      exact ⟨rfl, Kd⟩

end Go.Proofs.YteipohpfaofchabGreat

namespace Go.Proofs.YteipohpfaofchabGreat
open Go.Joins Go.ChangeShapes Go.WideShapes Go.ChangeAt Go.RowKit Go.Deep
set_option linter.unusedVariables false
set_option maxRecDepth 100000

theorem bulk_one {H : Type} (d : DataW H) : 1 ≤ Rows.uptoBulk d := by
  cases d with
  | lit l => cases l <;> simp [Rows.uptoBulk]
  | _ => simp [Rows.uptoBulk]
theorem bulk_part {H : Type} {d : DataW H} : ∀ {l : List (DataW H)}, d ∈ l → Rows.uptoBulk d ≤ Rows.uptoBulkAll l
  | [], h => by cases h
  | x :: l, h => by
    rw [Rows.uptoBulkAll]
    rcases List.mem_cons.1 h with rfl | h
    · omega
    · have := bulk_part h
      omega
theorem bulk_len {H : Type} : ∀ l : List (DataW H), l.length ≤ Rows.uptoBulkAll l
  | [] => by simp
  | x :: l => by
    rw [Rows.uptoBulkAll, List.length_cons]
    have := bulk_len l
    have := bulk_one x
    omega
theorem bulk_elems {H : Type} (elems spare : List (DataW H)) : Rows.uptoBulkAll elems + 1 ≤ Rows.uptoBulk (.slice elems spare) := by
  rw [Rows.uptoBulk]
  omega
/-- A slice that came in is no longer than the bulk. -/
theorem bulk_slice {H : Type} {enc : TypeId × Value → H} {w : World} {sp : Nat → Bool} {held : Bool} {n : Nat} {t e : TypeId} (ht : Tryz.prog.underlying t = some (.slice e)) {v : Value} {x : DataW H × List MemPlace} (h : DataW.trod enc Tryz.prog w 0 sp held n t [v] = some x) : ∀ p m c, v = .slice p m c → m ≤ Rows.uptoBulk x.1 := by
  rcases open_slice ht h with ⟨hcs, hx⟩ | ⟨a, len, cap, m, n', D, Pl, hcs, hb, hl, hm, em, hx, he⟩
  · injection hcs with hcs
    subst hcs
    intro p m c e
    injection e with _ e _
    omega
  · injection hcs with hcs
    subst hcs hx
    intro p k c e
    injection e with _ e _
    have h1 := bulk_elems ((List.range len).map D) ((List.range (m - len)).map fun j => D (len + j))
    have h2 := bulk_len ((List.range len).map D)
    rw [List.length_map, List.length_range] at h2
    show k ≤ Rows.uptoBulk (.slice _ _)
    omega
theorem bulk_rows {H : Type} {enc : TypeId × Value → H} {w : World} {sp : Nat → Bool} {held : Bool} {n : Nat} {v : Value} {x : DataW H × List MemPlace} (h : DataW.trod enc Tryz.prog w 0 sp held n 23 [v] = some x) {rs : List (List Val)} (hT : TabRows w v rs) : rs.length ≤ Rows.uptoBulk x.1 ∧ ∀ r ∈ rs, r.length ≤ Rows.uptoBulk x.1 := by
  obtain ⟨p, c, ev, hr⟩ := hT
  refine ⟨bulk_slice Tryz.underlying23 h _ _ _ ev, fun r hm => ?_⟩
  rcases hr with hr | ⟨b, off, rfl, hb, hr⟩
  · subst hr; cases hm
  obtain ⟨i, hi, rfl⟩ := List.getElem_of_mem hm
  rcases open_slice1 Tryz.underlying23 (by kernel_rfl) h with ⟨hcs, hx⟩ | ⟨a, len, cap, m, n', V, D, Pl, hcs, hb2, hl, hm2, em, hx, he⟩
  · injection hcs with hcs
    rw [hcs] at ev
    injection ev with _ e _
    omega
  · injection hcs with hcs
    rw [hcs] at ev
    injection ev with e1 e2 e3
    injection e1 with e1
    subst hx e1 e2
    have hlm : rs.length ≤ m := by rw [em]; split <;> omega
    obtain ⟨u, g1, g2⟩ := hr i hi
    obtain ⟨h1, h2⟩ := he i (by omega)
    rw [add_plain, g1] at h1
    injection h1 with h1
    subst h1
    obtain ⟨pu, cu, eu⟩ := g2.form
    have h3 := bulk_slice Tryz.underlying40 h2 _ _ _ eu
    have h4 := bulk_part (l := (List.range rs.length).map D) (d := D i) (List.mem_map.2 ⟨i, by simpa using hi, rfl⟩)
    have h5 := bulk_elems ((List.range rs.length).map D) ((List.range (m - rs.length)).map fun j => D (rs.length + j))
    show _ ≤ Rows.uptoBulk (.slice _ _)
    dsimp only at h3
    omega
theorem bulk_tab {H : Type} {enc : TypeId × Value → H} {W : World} {r : Reach} {b0 : Nat} {V R : Value} {d : DataW H} {p : List MemPlace} (hv : Value.okWide Tryz.prog W r b0 25 (.agg #[V, R])) (h : DataW.Trod enc Tryz.prog W 0 (fun _ => true) true 25 (.agg #[V, R]) d p) {vs : List ByteArray} {rs : List (List Val)} (h1 : StrsAt W V vs) (h2 : TabRows W R rs) : vs.length ≤ Rows.uptoBulk d ∧ rs.length ≤ Rows.uptoBulk d ∧ ∀ r ∈ rs, r.length ≤ Rows.uptoBulk d := by
  obtain ⟨V', R', y0, y1, n, e, ed, rfl, g0, g1⟩ := open_agg2 Tryz.underlying25 (by kernel_rfl) (by kernel_rfl) hv h
  injection e with e
  injection e with e
  simp only [List.cons.injEq, and_true] at e
  obtain ⟨rfl, rfl⟩ := e
  obtain ⟨pv, cv, ev⟩ := h1.form
  have k1 := bulk_slice Tryz.underlying22 g0 _ _ _ ev
  obtain ⟨k2, k3⟩ := bulk_rows g1 h2
  have e : Rows.uptoBulk d = Rows.uptoBulk y0.1 + (Rows.uptoBulk y1.1 + 0) + 1 := by rw [ed, Rows.uptoBulk, Rows.uptoBulkAll, Rows.uptoBulkAll, Rows.uptoBulkAll]
  refine ⟨by omega, by omega, fun r hr => ?_⟩
  have := k3 r hr
  omega
/-- Rows that came in, by the values that the cells hold. -/
theorem vals_in {W : World} {r : Reach} {base : Nat} {v : Value} {rs : List (List Val)} (ok : Cell.okWide Tryz.prog W r base 23 v) (h : TabRows W v rs) : ∃ us, ValsAt W v us ∧ RowsOf W us rs := by
  obtain ⟨p, c, rfl, h | ⟨b, off, rfl, hb, hr⟩⟩ := h
  · subst h
    cases p with
    | none => exact ⟨[], Or.inl ⟨c, rfl, rfl⟩, rfl, fun i h => absurd h (Nat.not_lt_zero _)⟩
    | some a =>
      obtain ⟨b, off, spot⟩ := a
      have hs : spot = none := by
        simp only [Cell.okWide, Cell.ok, Tryz.underlying23, World.has] at ok
        exact ok.2.2.2.1
      subst hs
      exact ⟨[], Or.inr ⟨b, off, c, rfl, Or.inl rfl, fun i h => absurd h (Nat.not_lt_zero _)⟩, rfl, fun i h => absurd h (Nat.not_lt_zero _)⟩
  · obtain ⟨f, hf⟩ := choose_lt (n := rs.length) (p := fun i v => W.cell? ⟨b, off + i, none⟩ = some v ∧ ∀ h : i < rs.length, RowAt W v rs[i]) (fun i hi => by
      obtain ⟨v, h1, h2⟩ := hr i hi
      exact ⟨v, h1, fun _ => h2⟩)
    refine ⟨(List.range rs.length).map f, Or.inr ⟨b, off, c, by simp, Or.inr hb, fun i h => ?_⟩, by simp, fun i h g => ?_⟩
    · rw [List.getElem_map, List.getElem_range]
      exact (hf i (by simpa using h)).1
    · rw [List.getElem_map, List.getElem_range]
      exact (hf i g).2 g
theorem cellT : Tryz.prog.cellTypes Tryz.prog.depth 25 = some [22, 23] := by kernel_rfl
theorem tab_cell {W : World} {r : Reach} {base : Nat} {V R : Value} (hv : Value.okWide Tryz.prog W r base 25 (.agg #[V, R])) : Cell.okWide Tryz.prog W r base 23 R := by
  simp only [Value.okWide, Tryz.underlying25] at hv
  obtain ⟨cs, e, -, ts, e1, -, h⟩ := hv
  rw [cellT] at e1
  injection e1 with e1
  injection e with e
  subst e e1
  obtain ⟨u, h1, h2⟩ := h 1 R rfl
  injection h1 with h1
  subst h1
  exact h2
/-- A table that came in, as the walks ask for it. -/
theorem openu_tab {H : Type} {enc : TypeId × Value → H} {W : World} {r : Reach} {b0 : Nat} {v : Value} {d : DataW H} {p : List MemPlace} (hv : Value.okWide Tryz.prog W r b0 25 v) (h : DataW.Trod enc Tryz.prog W 0 (fun _ => true) true 25 v d p) (hlt : ∀ y ∈ p, y.block < W.heap.size) (hk : Rows.uptoBulk d ≤ 1048576) :
    ∃ V R vs us rs, v = .agg #[V, R] ∧ TabAt W V R vs us rs ∧ (∀ p n c, V = .slice p n c → n ≤ c) ∧ (∀ p n c, R = .slice p n c → n ≤ c) ∧ vs.length ≤ 1048576 ∧ rs.length ≤ 1048576 ∧ ∀ r ∈ rs, r.length ≤ 1048576 := by
  obtain ⟨V, R, vs, rs, rfl, a1, a2, a3, a4, a5, a6, a7, a8⟩ := open_tab hv h hlt
  obtain ⟨k1, k2, k3⟩ := bulk_tab hv h a1 a4
  obtain ⟨us, u1, u2⟩ := vals_in (tab_cell hv) a4
  exact ⟨V, R, vs, us, rs, rfl, ⟨a1, u1, u2, a5, a6, a2, by have := u2.1; omega, fun u hu => u2.slices u hu⟩, a3, a8, by omega, by omega, fun r hr => by have := k3 r hr; omega⟩

end Go.Proofs.YteipohpfaofchabGreat
