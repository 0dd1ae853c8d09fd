/- How much a table that came in may hold, by the bulk of what is read. -/
import Derived.Test.YtiliaincniiijaaGreatZ07
import Derived.Test.YtiliaincniiijaaGreatRows
import Derived.Test.YtiliaincniiijaaGreatZ06
import Derived.Test.YtiliaincniiijaaGreatZ05

namespace Go.Proofs.YtiliaincniiijaaGreat
open Go.RowKit Go.Shelf Go.Sort
set_option linter.unusedVariables false

theorem TabO.zero {B : Nat} {vs : List ByteArray} {L : List (List Val)} {t : Value} {w : World} (h : TabO B 0 vs L t w) : OwnT B t vs L w := by
  unfold TabO at h
  rwa [if_pos rfl, if_pos rfl] at h
/-- A table of one's own that may be, as the walks ask for it. -/
theorem OkT.tabAt {B : Nat} {V R : Value} {vs : List ByteArray} {L : List (List Val)} {w : World} (o : OkT vs L) (h : OwnT B (.agg #[V, R]) vs L w) (many : L.length ≤ 5864062014805) : (∃ us, TabAt w V R vs us L) ∧ ∀ p n c, R = .slice p n c → n ≤ c := by
  have few := o.few
  obtain ⟨V', R', us, e, ht⟩ := h.tab (fun r hr v hv => ((o.rows r hr).2 v hv).2) (fun r hr => by rw [(o.rows r hr).1]; omega) (by omega) many
  obtain ⟨a, b, zs, e2, h1, h2, h3⟩ := h
  injection e with e
  injection e with e
  simp only [List.cons.injEq, and_true] at e
  injection e2 with e2
  injection e2 with e2
  simp only [List.cons.injEq, and_true] at e2
  obtain ⟨rfl, rfl⟩ := e
  obtain ⟨rfl, rfl⟩ := e2
  exact ⟨⟨us, ht⟩, own_cap2 h2⟩
end Go.Proofs.YtiliaincniiijaaGreat

namespace Go.Proofs.YtiliaincniiijaaGreat
open Go.RowKit Go.Shelf Go.Sort
set_option linter.unusedVariables false

theorem Var.lt {W : World} {g : Nat} {V R : Value} (h : Var W g V R) : g < W.heap.size := (Array.getElem?_eq_some_iff.1 h).1

set_option maxRecDepth 100000 in
set_option maxHeartbeats 32000000 in
theorem trows_any {Va Ra Vb Rb Y : Value} {vs vs' : List ByteArray} {us us' : List Value} {rs qs : List (List Val)} {x : List Val} (w : World) (ha : TabAt w Va Ra vs us rs) (hb : TabAt w Vb Rb vs' us' qs) (capA : ∀ p n c, Ra = .slice p n c → n ≤ c) (capB : ∀ p n c, Rb = .slice p n c → n ≤ c) (hy : RowAt w Y x) (lx : x.length ≤ 9223372036854775807) (br : rs.length ≤ 1048576) (br' : qs.length ≤ 1048576) :
    Calls Tryz.prog 3 #[.agg #[Va, Ra], .agg #[Vb, Rb], Y] w fun e w' => e = .returned (.bool true) ∧ Below w.heap.size w w' := by
  have hJl : (joinL vs vs' rs qs).length ≤ 1099511627776 := by
    have h1 := joinL_len vs vs' rs qs
    have h2 : rs.length * qs.length ≤ 1048576 * 1048576 := Nat.mul_le_mul br br'
    omega
  obtain ⟨CA, eCA⟩ : ∃ C, Hid (tabChk vs rs = C) := ⟨_, rfl⟩
  obtain ⟨CB, eCB⟩ : ∃ C, Hid (tabChk vs' qs = C) := ⟨_, rfl⟩
  obtain ⟨E1, eE1⟩ : ∃ E1, Hid (alikeE vs rs vs' qs = E1) := ⟨_, rfl⟩
  obtain ⟨E2, eE2⟩ : ∃ E2, Hid (joinE vs rs vs' qs = E2) := ⟨_, rfl⟩
  have hE0 : CA = 0 → CB = 0 → bothE vs rs vs' qs = 0 := fun h1 h2 => by
    unfold bothE
    rw [if_pos (eCA.out.trans h1)]
    exact eCB.out.trans h2
  have hE1 : Hid (CA = 0 → CB = 0 → (E1 = 0 ∧ vs = vs') ∨ E1 = 30) := fun h1 h2 => by
    rw [← eE1.out]
    unfold alikeE
    rw [if_pos (hE0 h1 h2)]
    by_cases hv : vs = vs'
    · rw [if_pos hv]; exact Or.inl ⟨rfl, hv⟩
    · rw [if_neg hv]; exact Or.inr rfl
  have hE2 : Hid (CA = 0 → CB = 0 → (E2 = 0 ∧ (allV vs vs').length ≤ 8) ∨ E2 = 30) := fun h1 h2 => by
    rw [← eE2.out]
    unfold joinE
    rw [if_pos (hE0 h1 h2)]
    by_cases hv : (allV vs vs').length ≤ 8
    · rw [if_pos hv]; exact Or.inl ⟨rfl, hv⟩
    · rw [if_neg hv]; exact Or.inr rfl
  obtain ⟨UL, eUL⟩ : ∃ L, Hid (mergeL rs qs = L) := ⟨_, rfl⟩
  obtain ⟨ML, eML⟩ : ∃ L, Hid (antiL vs vs' rs qs = L) := ⟨_, rfl⟩
  obtain ⟨JV, eJV⟩ : ∃ JV, Hid (madeS (allV vs vs') = JV) := ⟨_, rfl⟩
  obtain ⟨JR, eJR⟩ : ∃ JR, Hid (ofRows (allV vs vs') (joinL vs vs' rs qs) = JR) := ⟨_, rfl⟩
  obtain ⟨IN, eIN⟩ : ∃ b, Hid (anyS x rs = b) := ⟨_, rfl⟩
  obtain ⟨OUT, eOUT⟩ : ∃ b, Hid (anyS x qs = b) := ⟨_, rfl⟩
  have okA : Hid (CA = 0 → OkT vs rs) := fun h => tabChk_ok (eCA.out.trans h) ha.fits
  have okB : Hid (CB = 0 → OkT vs' qs) := fun h => tabChk_ok (eCB.out.trans h) hb.fits
  have okU : Hid (CA = 0 → CB = 0 → vs = vs' → (OkT vs UL ∧ UL.length ≤ 5864062014805) ∧ anyS x UL = (IN || OUT)) := fun h1 h2 hv => by
    have o1 := okA.out h1
    have o2 := okB.out h2
    rw [← eUL.out, ← eIN.out, ← eOUT.out]
    rw [← hv] at o2
    refine ⟨⟨⟨o1.few, o1.rise, fun r hr => ?_, mergeL_rises _ rs qs (Nat.le_refl _) (fun r hr => (o1.rows r hr).2) (fun r hr => (o2.rows r hr).2) o1.sorted o2.sorted⟩, ?_⟩, has_union o1 o2 x⟩
    · rcases (mem_mergeL _ rs qs (Nat.le_refl _) (fun r hr => (o1.rows r hr).2) (fun r hr => (o2.rows r hr).2) r).1 hr with hr | hr
      · exact o1.rows r hr
      · exact o2.rows r hr
    · have := mergeL_len _ rs qs (Nat.le_refl _)
      omega
  have okM : Hid (CA = 0 → CB = 0 → vs = vs' → (OkT vs ML ∧ ML.length ≤ 5864062014805) ∧ anyS x ML = (IN && !OUT)) := fun h1 h2 hv => by
    have o1 := okA.out h1
    have o2 := okB.out h2
    rw [← eML.out, ← eIN.out, ← eOUT.out]
    have h5 : (antiL vs vs' rs qs).length ≤ rs.length := List.length_filter_le _ _
    refine ⟨⟨?_, by omega⟩, ?_⟩
    · rw [antiL_fits]
      exact o1.filter _
    · rw [← hv] at o2 ⊢
      exact has_minus o1 o2 x
  have okJ : Hid (CA = 0 → CB = 0 → (allV vs vs').length ≤ 8 → OkT JV JR ∧ JR.length ≤ 1099511627776 ∧ fitM vs vs' rs qs = JR.length ∧ ∀ z ∈ JR, (rs.any fun r => fitB JV vs z r 0) = true) := fun h1 h2 h8 => by
    have o1 := okA.out h1
    have o2 := okB.out h2
    have h5 := join_count o1 o2
    rw [← eJV.out, ← eJR.out]
    exact ⟨join_okT o1 o2 h8, by omega, by rw [h5]; exact fitM_join vs vs' rs qs, fun z hz => join_fits o1 o2 hz⟩
  have c1 : Hid (∀ W, Below w.heap.size w W → Calls Tryz.prog 4 #[.agg #[Va, Ra]] W fun e w' => e = .returned (.int .i64 CA) ∧ Below W.heap.size W w') := fun W hW => by
    have h := (ha.below hW).check
    rwa [eCA.out] at h
  have c2 : Hid (∀ W, Below w.heap.size w W → Calls Tryz.prog 4 #[.agg #[Vb, Rb]] W fun e w' => e = .returned (.int .i64 CB) ∧ Below W.heap.size W w') := fun W hW => by
    have h := (hb.below hW).check
    rwa [eCB.out] at h
  have c3 : Hid (∀ W, Below w.heap.size w W → Calls Tryz.prog 6 #[.agg #[Va, Ra], Y] W fun e w' => e = .returned (.bool IN) ∧ Below W.heap.size W w') := fun W hW => by
    obtain ⟨p, c, e⟩ := ha.vars.form
    have h := tabhas_any Va Ra Y _ _ _ e rs x W (tab_of_vals (ha.below hW).vals (ha.below hW).rows) (hy.below hW) (by omega) ha.long lx
    rwa [eIN.out] at h
  have c4 : Hid (∀ W, Below w.heap.size w W → Calls Tryz.prog 6 #[.agg #[Vb, Rb], Y] W fun e w' => e = .returned (.bool OUT) ∧ Below W.heap.size W w') := fun W hW => by
    obtain ⟨p, c, e⟩ := hb.vars.form
    have h := tabhas_any Vb Rb Y _ _ _ e qs x W (tab_of_vals (hb.below hW).vals (hb.below hW).rows) (hy.below hW) (by omega) hb.long lx
    rwa [eOUT.out] at h
  have c5 : Hid (∀ W, Below w.heap.size w W → Calls Tryz.prog 7 #[.agg #[Va, Ra], .agg #[Vb, Rb]] W (TellsT W.heap.size E1 vs UL W)) := fun W hW => by
    refine (union_any (ha.below hW) (hb.below hW) capA capB (by omega)).mono ?_
    rintro e w' ⟨t, rfl, g1, g2, g3⟩
    rw [eE1.out] at g1 g2 ⊢
    rw [eUL.out] at g1
    exact TellsT.of g1 g2 g3
  have c6 : Hid (∀ W, Below w.heap.size w W → Calls Tryz.prog 8 #[.agg #[Va, Ra], .agg #[Vb, Rb]] W (TellsT W.heap.size E1 vs ML W)) := fun W hW => by
    refine (tabminus_any (ha.below hW) (hb.below hW)).mono ?_
    rintro e w' ⟨t, rfl, g1, g2, g3⟩
    rw [eE1.out] at g1 g2 ⊢
    rw [eML.out] at g1
    exact TellsT.of g1 g2 g3
  have c7 : Hid (∀ W, Below w.heap.size w W → Calls Tryz.prog 9 #[.agg #[Va, Ra], .agg #[Vb, Rb]] W (TellsT W.heap.size E2 JV JR W)) := fun W hW => by
    refine (join_any (ha.below hW) (hb.below hW) (by omega)).mono ?_
    rintro e w' ⟨t, rfl, g1, g2, g3⟩
    rw [eE2.out] at g1 g2 ⊢
    rw [eJV.out, eJR.out] at g1
    exact TellsT.of g1 g2 g3
  have chk : ∀ {W : World} {B : Nat} {U Q : Value} {zs : List ByteArray} {L : List (List Val)}, OkT zs L ∧ L.length ≤ 5864062014805 → OwnT B (.agg #[U, Q]) zs L W → Calls Tryz.prog 4 #[.agg #[U, Q]] W fun e w' => e = .returned (.int .i64 0) ∧ Below W.heap.size W w' := fun {W B U Q zs L} o h => by
    obtain ⟨⟨ws, ht⟩, -⟩ := o.1.tabAt h o.2
    have h5 := ht.check
    rwa [o.1.chk] at h5
  have has : ∀ {W : World} {B : Nat} {U Q : Value} {zs : List ByteArray} {L : List (List Val)} {b : Bool}, OkT zs L ∧ L.length ≤ 5864062014805 → anyS x L = b → Below w.heap.size w W → OwnT B (.agg #[U, Q]) zs L W → Calls Tryz.prog 6 #[.agg #[U, Q], Y] W fun e w' => e = .returned (.bool b) ∧ Below W.heap.size W w' := fun {W B U Q zs L b} o hb hW h => by
    obtain ⟨⟨ws, ht⟩, -⟩ := o.1.tabAt h o.2
    obtain ⟨p, c, e⟩ := ht.vars.form
    have h5 := tabhas_any U Q Y _ _ _ e L x W (own_two h).2 (hy.below hW) (by have := o.2; omega) ht.long lx
    rwa [hb] at h5
  have c8 : Hid (∀ W U Q B, CA = 0 → CB = 0 → vs = vs' → OwnT B (.agg #[U, Q]) vs UL W → Calls Tryz.prog 4 #[.agg #[U, Q]] W fun e w' => e = .returned (.int .i64 0) ∧ Below W.heap.size W w') := fun W U Q B h1 h2 hv h => chk (okU.out h1 h2 hv).1 h
  have c9 : Hid (∀ W U Q B, CA = 0 → CB = 0 → vs = vs' → OwnT B (.agg #[U, Q]) vs ML W → Calls Tryz.prog 4 #[.agg #[U, Q]] W fun e w' => e = .returned (.int .i64 0) ∧ Below W.heap.size W w') := fun W U Q B h1 h2 hv h => chk (okM.out h1 h2 hv).1 h
  have c10 : Hid (∀ W U Q B, CA = 0 → CB = 0 → vs = vs' → Below w.heap.size w W → OwnT B (.agg #[U, Q]) vs UL W → Calls Tryz.prog 6 #[.agg #[U, Q], Y] W fun e w' => e = .returned (.bool (IN || OUT)) ∧ Below W.heap.size W w') := fun W U Q B h1 h2 hv hW h => has (okU.out h1 h2 hv).1 (okU.out h1 h2 hv).2 hW h
  have c11 : Hid (∀ W U Q B, CA = 0 → CB = 0 → vs = vs' → Below w.heap.size w W → OwnT B (.agg #[U, Q]) vs ML W → Calls Tryz.prog 6 #[.agg #[U, Q], Y] W fun e w' => e = .returned (.bool (IN && !OUT)) ∧ Below W.heap.size W w') := fun W U Q B h1 h2 hv hW h => has (okM.out h1 h2 hv).1 (okM.out h1 h2 hv).2 hW h
  have c12 : Hid (∀ W U Q B, CA = 0 → CB = 0 → (allV vs vs').length ≤ 8 → OwnT B (.agg #[U, Q]) JV JR W → Calls Tryz.prog 4 #[.agg #[U, Q]] W fun e w' => e = .returned (.int .i64 0) ∧ Below W.heap.size W w') := fun W U Q B h1 h2 h8 h => by
    obtain ⟨o, l, -⟩ := okJ.out h1 h2 h8
    exact chk ⟨o, by omega⟩ h
  have FITS : Hid (∀ W Y Z (r q : List Val), CA = 0 → CB = 0 → Below w.heap.size w W → RowAt W Y r → RowAt W Z q → r ∈ rs → q ∈ qs → Calls Tryz.prog 10 #[Va, Y, Vb, Z] W fun e w' => e = .returned (.bool (fitB vs vs' r q 0)) ∧ Below W.heap.size W w') := fun W Y Z r q h1 h2 hW g1 g2 m1 m2 => by
    have o1 := okA.out h1
    have o2 := okB.out h2
    exact dfits_any (ha.vars.below hW) g1 (hb.vars.below hW) g2 (o1.rows r m1).1 (o2.rows q m2).1 o1.few o2.few
  have FITJ : Hid (∀ W U Y Z (z r : List Val), CA = 0 → CB = 0 → (allV vs vs').length ≤ 8 → Below w.heap.size w W → StrsAt W U JV → RowAt W Y z → RowAt W Z r → z ∈ JR → r ∈ rs → Calls Tryz.prog 10 #[U, Y, Va, Z] W fun e w' => e = .returned (.bool (fitB JV vs z r 0)) ∧ Below W.heap.size W w') := fun W U Y Z z r h1 h2 h8 hW hU g1 g2 m1 m2 => by
    have o1 := okA.out h1
    have o2 := (okJ.out h1 h2 h8).1
    exact dfits_any hU g1 (ha.vars.below hW) g2 (o2.rows z m1).1 (o1.rows r m2).1 o2.few o1.few
  have hML : Hid (∀ k, (fitM vs vs' (rs.take k) qs) ≤ 1099511627776) := fun k => by
    have h1 := fitM_join vs vs' (rs.take k) qs
    have h2 := joinL_len vs vs' (rs.take k) qs
    have h3 : (rs.take k).length * qs.length ≤ 1048576 * 1048576 := Nat.mul_le_mul (by rw [List.length_take]; omega) br'
    omega
  obtain ⟨p1, k1, eV⟩ := ha.vars.form
  obtain ⟨p2, k2, eR, HXA0⟩ := (tab_of_vals ha.vals ha.rows).form
  obtain ⟨p3, k3, eV'⟩ := hb.vars.form
  obtain ⟨p4, k4, eR', HXB0⟩ := (tab_of_vals hb.vals hb.rows).form
  obtain ⟨p8, k8, eY⟩ := hy.form
  have HXA : Hid (∀ k (hk : k < rs.length), ∃ b off u, p2 = some ⟨b, off, none⟩ ∧ b < w.heap.size ∧ w.cell? ⟨b, off + k, none⟩ = some u ∧ RowAt w u rs[k]) := HXA0
  have HXB : Hid (∀ k (hk : k < qs.length), ∃ b off u, p4 = some ⟨b, off, none⟩ ∧ b < w.heap.size ∧ w.cell? ⟨b, off + k, none⟩ = some u ∧ RowAt w u qs[k]) := HXB0
  clear HXA0 HXB0 chk has hE0
  subst eV eR eV' eR' eY
  obtain ⟨n1, en1⟩ : ∃ n, Hid (vs.length = n) := ⟨_, rfl⟩
  obtain ⟨n2, en2⟩ : ∃ n, Hid (rs.length = n) := ⟨_, rfl⟩
  obtain ⟨n3, en3⟩ : ∃ n, Hid (vs'.length = n) := ⟨_, rfl⟩
  obtain ⟨n4, en4⟩ : ∃ n, Hid (qs.length = n) := ⟨_, rfl⟩
  obtain ⟨n8, en8⟩ : ∃ n, Hid (x.length = n) := ⟨_, rfl⟩
  have okJ2 : Hid (CA = 0 → CB = 0 → (allV vs vs').length ≤ 8 → JR.length ≤ 1099511627776 ∧ fitM vs vs' rs qs = JR.length ∧ ∀ z ∈ JR, (rs.any fun r => fitB JV vs z r 0) = true) := fun h1 h2 h3 => (okJ.out h1 h2 h3).2
  clear ha hb hy capA capB lx hJl eCA eCB eE1 eE2 eUL eML eJV eJR eIN eOUT okA okB okU okM okJ
  rw [en1.out] at c1 c3 c5 c6 c7 FITS FITJ ⊢
  rw [en2.out] at c1 c3 c5 c6 c7 ⊢
  rw [en3.out] at c2 c4 c5 c6 c7 FITS ⊢
  rw [en4.out] at c2 c4 c5 c6 c7 ⊢
  rw [en8.out] at c3 c4 c10 c11 ⊢
  have b2 : n2 ≤ 1048576 := by have := en2.out; omega
  have b4 : n4 ≤ 1048576 := by have := en4.out; omega
  clear br br'
  go_enter Tryz.func3, Tryz.ntmps3
  go_upto_region 1 with fail
  refine wp_world ?_
  intro W0 hW0
  have K0 : Below w.heap.size w W0 := by rw [hW0]; go_grown
  have VA_0 : Hid (Var W0 w.heap.size (.slice p1 n1 k1) (.slice p2 n2 k2)) := by
    rw [hW0]
    exact (Var.made w _ _).below ((Below.refl _ _).alloc (Nat.le_refl _) _)
  have VB_0 : Hid (Var W0 (w.heap.size + 1) (.slice p3 n3 k3) (.slice p4 n4 k4)) := by
    rw [hW0]
    have h := Var.made (w.alloc (.cells #[.slice p1 n1 k1, .slice p2 n2 k2] 25)) (.slice p3 n3 k3) (.slice p4 n4 k4)
    exact at_size (P := fun g => Var _ g _ _) h (by simp)
  clear hW0
  have l0a := VA_0.out.c0
  have l0b := VA_0.out.c1
  go_wp2_with fail
  refine (c1.out _ (by exact K0)).mono ?_
  rintro e w1 ⟨rfl, hb⟩
  clear l0a l0b
  have K1 : Below w.heap.size w w1 := K0.trans (hb.mono K0.size)
  have VA_1 : Hid (Var w1 w.heap.size (.slice p1 n1 k1) (.slice p2 n2 k2)) := VA_0.out.below hb
  have VB_1 : Hid (Var w1 (w.heap.size + 1) (.slice p3 n3 k3) (.slice p4 n4 k4)) := VB_0.out.below hb
  clear K0 VA_0 VB_0
  clear hb
  by_cases hca : CA = 0
  · subst hca
    have l0a := VB_1.out.c0
    have l0b := VB_1.out.c1
    go_wp2_with fail
    refine (c2.out _ (by exact K1)).mono ?_
    rintro e w2 ⟨rfl, hb⟩
    clear l0a l0b
    have K2 : Below w.heap.size w w2 := K1.trans (hb.mono K1.size)
    have VA_2 : Hid (Var w2 w.heap.size (.slice p1 n1 k1) (.slice p2 n2 k2)) := VA_1.out.below hb
    have VB_2 : Hid (Var w2 (w.heap.size + 1) (.slice p3 n3 k3) (.slice p4 n4 k4)) := VB_1.out.below hb
    clear K1 VA_1 VB_1
    clear hb
    by_cases hcb : CB = 0
    · subst hcb
      clear c1 c2
      have l0a := VA_2.out.c0
      have l0b := VA_2.out.c1
      go_wp2_with fail
      refine (c3.out _ (by exact K2)).mono ?_
      rintro e w3 ⟨rfl, hb⟩
      clear l0a l0b
      have K3 : Below w.heap.size w w3 := K2.trans (hb.mono K2.size)
      have VA_3 : Hid (Var w3 w.heap.size (.slice p1 n1 k1) (.slice p2 n2 k2)) := VA_2.out.below hb
      have VB_3 : Hid (Var w3 (w.heap.size + 1) (.slice p3 n3 k3) (.slice p4 n4 k4)) := VB_2.out.below hb
      clear K2 VA_2 VB_2
      clear hb
      have l0a := VB_3.out.c0
      have l0b := VB_3.out.c1
      go_wp2_with fail
      refine (c4.out _ (by exact K3)).mono ?_
      rintro e w4 ⟨rfl, hb⟩
      clear l0a l0b
      have K4 : Below w.heap.size w w4 := K3.trans (hb.mono K3.size)
      have VA_4 : Hid (Var w4 w.heap.size (.slice p1 n1 k1) (.slice p2 n2 k2)) := VA_3.out.below hb
      have VB_4 : Hid (Var w4 (w.heap.size + 1) (.slice p3 n3 k3) (.slice p4 n4 k4)) := VB_3.out.below hb
      clear K3 VA_3 VB_3
      clear hb
      have l0a := VA_4.out.c0
      have l0b := VA_4.out.c1
      have l1a := VB_4.out.c0
      have l1b := VB_4.out.c1
      go_wp2_with fail
      refine (c5.out _ (by exact K4)).mono ?_
      rintro e w5 ⟨a51, a52, a53, a54, a55, a56, rfl, ht, hb⟩
      have HU_t : Hid (TabO w.heap.size E1 vs UL (.agg #[.slice a51 a52 a53, .slice a54 a55 a56]) w5) := OwnT.base ht K4.size
      clear ht l0a l0b l1a l1b
      have K5p : Below w.heap.size w w5 := K4.trans (hb.mono K4.size)
      have VA_5p : Hid (Var w5 w.heap.size (.slice p1 n1 k1) (.slice p2 n2 k2)) := VA_4.out.below hb
      have VB_5p : Hid (Var w5 (w.heap.size + 1) (.slice p3 n3 k3) (.slice p4 n4 k4)) := VB_4.out.below hb
      clear K4 VA_4 VB_4
      clear hb
      go_upto_region 6 with fail
      refine wp_world ?_
      intro W5 hW
      have hH : Below w5.heap.size w5 W5 := by rw [hW]; go_grown
      have VU_t : Hid (Var W5 w5.heap.size (.slice a51 a52 a53) (.slice a54 a55 a56)) := by rw [hW]; exact Var.made _ _ _
      clear hW
      obtain ⟨gU, egU⟩ : ∃ g, Hid (w5.heap.size = g) := ⟨_, rfl⟩
      rw [egU.out] at VU_t ⊢
      have K5 : Below w.heap.size w W5 := K5p.trans (hH.mono K5p.size)
      have VA_5 : Hid (Var W5 w.heap.size (.slice p1 n1 k1) (.slice p2 n2 k2)) := VA_5p.out.below hH
      have VB_5 : Hid (Var W5 (w.heap.size + 1) (.slice p3 n3 k3) (.slice p4 n4 k4)) := VB_5p.out.below hH
      have HU_5 : Hid (TabO w.heap.size E1 vs UL (.agg #[.slice a51 a52 a53, .slice a54 a55 a56]) W5) := HU_t.out.grown hH
      clear K5p VA_5p VB_5p HU_t
      clear hH
      have l0a := VA_5.out.c0
      have l0b := VA_5.out.c1
      have l1a := VB_5.out.c0
      have l1b := VB_5.out.c1
      go_wp2_with fail
      refine (c6.out _ (by exact K5)).mono ?_
      rintro e w6 ⟨a61, a62, a63, a64, a65, a66, rfl, ht, hb⟩
      have HM_t : Hid (TabO w.heap.size E1 vs ML (.agg #[.slice a61 a62 a63, .slice a64 a65 a66]) w6) := OwnT.base ht K5.size
      clear ht l0a l0b l1a l1b
      have K6p : Below w.heap.size w w6 := K5.trans (hb.mono K5.size)
      have VA_6p : Hid (Var w6 w.heap.size (.slice p1 n1 k1) (.slice p2 n2 k2)) := VA_5.out.below hb
      have VB_6p : Hid (Var w6 (w.heap.size + 1) (.slice p3 n3 k3) (.slice p4 n4 k4)) := VB_5.out.below hb
      have HU_6p : Hid (TabO w.heap.size E1 vs UL (.agg #[.slice a51 a52 a53, .slice a54 a55 a56]) w6) := HU_5.out.grown hb
      have VU_6p : Hid (Var w6 gU (.slice a51 a52 a53) (.slice a54 a55 a56)) := VU_t.out.below hb
      clear K5 VA_5 VB_5 HU_5 VU_t
      clear hb
      go_upto_region 7 with fail
      refine wp_world ?_
      intro W6 hW
      have hH : Below w6.heap.size w6 W6 := by rw [hW]; go_grown
      have VM_t : Hid (Var W6 w6.heap.size (.slice a61 a62 a63) (.slice a64 a65 a66)) := by rw [hW]; exact Var.made _ _ _
      clear hW
      obtain ⟨gM, egM⟩ : ∃ g, Hid (w6.heap.size = g) := ⟨_, rfl⟩
      rw [egM.out] at VM_t ⊢
      have K6 : Below w.heap.size w W6 := K6p.trans (hH.mono K6p.size)
      have VA_6 : Hid (Var W6 w.heap.size (.slice p1 n1 k1) (.slice p2 n2 k2)) := VA_6p.out.below hH
      have VB_6 : Hid (Var W6 (w.heap.size + 1) (.slice p3 n3 k3) (.slice p4 n4 k4)) := VB_6p.out.below hH
      have HU_6 : Hid (TabO w.heap.size E1 vs UL (.agg #[.slice a51 a52 a53, .slice a54 a55 a56]) W6) := HU_6p.out.grown hH
      have VU_6 : Hid (Var W6 gU (.slice a51 a52 a53) (.slice a54 a55 a56)) := VU_6p.out.below hH
      have HM_6 : Hid (TabO w.heap.size E1 vs ML (.agg #[.slice a61 a62 a63, .slice a64 a65 a66]) W6) := HM_t.out.grown hH
      clear K6p VA_6p VB_6p HU_6p VU_6p HM_t
      clear hH
      clear c3 c4 c5 c6
      rcases hE1.out (by trivial) (by trivial) with ⟨h1, hv⟩ | h1
      · subst h1
        have HU_c6 : Hid (OwnT w.heap.size (.agg #[.slice a51 a52 a53, .slice a54 a55 a56]) vs UL W6) := TabO.zero HU_6.out
        clear HU_6
        have HM_c6 : Hid (OwnT w.heap.size (.agg #[.slice a61 a62 a63, .slice a64 a65 a66]) vs ML W6) := TabO.zero HM_6.out
        clear HM_6
        cases IN <;> cases OUT <;> simp only [Bool.or_true, Bool.or_false, Bool.and_true, Bool.and_false, Bool.not_true, Bool.not_false, Bool.or_self, Bool.and_self] at c10 c11
        all_goals
          have l0a := VU_6.out.c0
          have l0b := VU_6.out.c1
          go_wp2_with fail
          refine (c8.out _ _ _ _ (by trivial) (by trivial) hv HU_c6.out).mono ?_
          rintro e w7 ⟨rfl, hb⟩
          clear l0a l0b
          have K7 : Below w.heap.size w w7 := K6.trans (hb.mono K6.size)
          have VA_7 : Hid (Var w7 w.heap.size (.slice p1 n1 k1) (.slice p2 n2 k2)) := VA_6.out.below hb
          have VB_7 : Hid (Var w7 (w.heap.size + 1) (.slice p3 n3 k3) (.slice p4 n4 k4)) := VB_6.out.below hb
          have VU_7 : Hid (Var w7 gU (.slice a51 a52 a53) (.slice a54 a55 a56)) := VU_6.out.below hb
          have VM_7 : Hid (Var w7 gM (.slice a61 a62 a63) (.slice a64 a65 a66)) := VM_t.out.below hb
          have HU_7 : Hid (OwnT w.heap.size (.agg #[.slice a51 a52 a53, .slice a54 a55 a56]) vs UL w7) := HU_c6.out.grown hb
          have HM_7 : Hid (OwnT w.heap.size (.agg #[.slice a61 a62 a63, .slice a64 a65 a66]) vs ML w7) := HM_c6.out.grown hb
          clear K6 VA_6 VB_6 VU_6 VM_t HU_c6 HM_c6
          clear hb
          have l0a := VM_7.out.c0
          have l0b := VM_7.out.c1
          go_wp2_with fail
          refine (c9.out _ _ _ _ (by trivial) (by trivial) hv HM_7.out).mono ?_
          rintro e w8 ⟨rfl, hb⟩
          clear l0a l0b
          have K8 : Below w.heap.size w w8 := K7.trans (hb.mono K7.size)
          have VA_8 : Hid (Var w8 w.heap.size (.slice p1 n1 k1) (.slice p2 n2 k2)) := VA_7.out.below hb
          have VB_8 : Hid (Var w8 (w.heap.size + 1) (.slice p3 n3 k3) (.slice p4 n4 k4)) := VB_7.out.below hb
          have VU_8 : Hid (Var w8 gU (.slice a51 a52 a53) (.slice a54 a55 a56)) := VU_7.out.below hb
          have VM_8 : Hid (Var w8 gM (.slice a61 a62 a63) (.slice a64 a65 a66)) := VM_7.out.below hb
          have HU_8 : Hid (OwnT w.heap.size (.agg #[.slice a51 a52 a53, .slice a54 a55 a56]) vs UL w8) := HU_7.out.grown hb
          have HM_8 : Hid (OwnT w.heap.size (.agg #[.slice a61 a62 a63, .slice a64 a65 a66]) vs ML w8) := HM_7.out.grown hb
          clear K7 VA_7 VB_7 VU_7 VM_7 HU_7 HM_7
          clear hb
          have l0a := VU_8.out.c0
          have l0b := VU_8.out.c1
          go_wp2_with fail
          refine (c10.out _ _ _ _ (by trivial) (by trivial) hv (by exact K8) HU_8.out).mono ?_
          rintro e w9 ⟨rfl, hb⟩
          clear l0a l0b
          have K9 : Below w.heap.size w w9 := K8.trans (hb.mono K8.size)
          have VA_9 : Hid (Var w9 w.heap.size (.slice p1 n1 k1) (.slice p2 n2 k2)) := VA_8.out.below hb
          have VB_9 : Hid (Var w9 (w.heap.size + 1) (.slice p3 n3 k3) (.slice p4 n4 k4)) := VB_8.out.below hb
          have VU_9 : Hid (Var w9 gU (.slice a51 a52 a53) (.slice a54 a55 a56)) := VU_8.out.below hb
          have VM_9 : Hid (Var w9 gM (.slice a61 a62 a63) (.slice a64 a65 a66)) := VM_8.out.below hb
          have HU_9 : Hid (OwnT w.heap.size (.agg #[.slice a51 a52 a53, .slice a54 a55 a56]) vs UL w9) := HU_8.out.grown hb
          have HM_9 : Hid (OwnT w.heap.size (.agg #[.slice a61 a62 a63, .slice a64 a65 a66]) vs ML w9) := HM_8.out.grown hb
          clear K8 VA_8 VB_8 VU_8 VM_8 HU_8 HM_8
          clear hb
          have l0a := VM_9.out.c0
          have l0b := VM_9.out.c1
          go_wp2_with fail
          refine (c11.out _ _ _ _ (by trivial) (by trivial) hv (by exact K9) HM_9.out).mono ?_
          rintro e wa ⟨rfl, hb⟩
          clear l0a l0b
          have Ka : Below w.heap.size w wa := K9.trans (hb.mono K9.size)
          have VA_a : Hid (Var wa w.heap.size (.slice p1 n1 k1) (.slice p2 n2 k2)) := VA_9.out.below hb
          have VB_a : Hid (Var wa (w.heap.size + 1) (.slice p3 n3 k3) (.slice p4 n4 k4)) := VB_9.out.below hb
          have VU_a : Hid (Var wa gU (.slice a51 a52 a53) (.slice a54 a55 a56)) := VU_9.out.below hb
          have VM_a : Hid (Var wa gM (.slice a61 a62 a63) (.slice a64 a65 a66)) := VM_9.out.below hb
          have HU_a : Hid (OwnT w.heap.size (.agg #[.slice a51 a52 a53, .slice a54 a55 a56]) vs UL wa) := HU_9.out.grown hb
          have HM_a : Hid (OwnT w.heap.size (.agg #[.slice a61 a62 a63, .slice a64 a65 a66]) vs ML wa) := HM_9.out.grown hb
          clear K9 VA_9 VB_9 VU_9 VM_9 HU_9 HM_9
          clear hb
          clear VU_a
          clear VM_a
          clear HU_a
          clear HM_a
          clear c8 c9 c10 c11
          have l0a := VA_a.out.c0
          have l0b := VA_a.out.c1
          have l1a := VB_a.out.c0
          have l1b := VB_a.out.c1
          go_wp2_with fail
          refine (c7.out _ (by exact Ka)).mono ?_
          rintro e wb ⟨ab1, ab2, ab3, ab4, ab5, ab6, rfl, ht, hb⟩
          have HJ_t : Hid (TabO w.heap.size E2 JV JR (.agg #[.slice ab1 ab2 ab3, .slice ab4 ab5 ab6]) wb) := OwnT.base ht Ka.size
          clear ht l0a l0b l1a l1b
          have Kbp : Below w.heap.size w wb := Ka.trans (hb.mono Ka.size)
          have VA_bp : Hid (Var wb w.heap.size (.slice p1 n1 k1) (.slice p2 n2 k2)) := VA_a.out.below hb
          have VB_bp : Hid (Var wb (w.heap.size + 1) (.slice p3 n3 k3) (.slice p4 n4 k4)) := VB_a.out.below hb
          clear Ka VA_a VB_a
          clear hb
          go_upto_region 12 with fail
          refine wp_world ?_
          intro Wb hW
          have hH : Below wb.heap.size wb Wb := by rw [hW]; go_grown
          have VJ_t : Hid (Var Wb wb.heap.size (.slice ab1 ab2 ab3) (.slice ab4 ab5 ab6)) := by rw [hW]; exact Var.made _ _ _
          clear hW
          obtain ⟨gJ, egJ⟩ : ∃ g, Hid (wb.heap.size = g) := ⟨_, rfl⟩
          rw [egJ.out] at VJ_t ⊢
          have Kb : Below w.heap.size w Wb := Kbp.trans (hH.mono Kbp.size)
          have VA_b : Hid (Var Wb w.heap.size (.slice p1 n1 k1) (.slice p2 n2 k2)) := VA_bp.out.below hH
          have VB_b : Hid (Var Wb (w.heap.size + 1) (.slice p3 n3 k3) (.slice p4 n4 k4)) := VB_bp.out.below hH
          have HJ_b : Hid (TabO w.heap.size E2 JV JR (.agg #[.slice ab1 ab2 ab3, .slice ab4 ab5 ab6]) Wb) := HJ_t.out.grown hH
          clear Kbp VA_bp VB_bp HJ_t
          clear hH
          rcases hE2.out (by trivial) (by trivial) with ⟨hj, h8⟩ | hj
          · subst hj
            have HJ_cb : Hid (OwnT w.heap.size (.agg #[.slice ab1 ab2 ab3, .slice ab4 ab5 ab6]) JV JR Wb) := TabO.zero HJ_b.out
            clear HJ_b
            have l0a := VJ_t.out.c0
            have l0b := VJ_t.out.c1
            go_wp2_with fail
            refine (c12.out _ _ _ _ (by trivial) (by trivial) h8 HJ_cb.out).mono ?_
            rintro e wc ⟨rfl, hb⟩
            clear l0a l0b
            have Kc : Below w.heap.size w wc := Kb.trans (hb.mono Kb.size)
            have VA_c : Hid (Var wc w.heap.size (.slice p1 n1 k1) (.slice p2 n2 k2)) := VA_b.out.below hb
            have VB_c : Hid (Var wc (w.heap.size + 1) (.slice p3 n3 k3) (.slice p4 n4 k4)) := VB_b.out.below hb
            have VJ_c : Hid (Var wc gJ (.slice ab1 ab2 ab3) (.slice ab4 ab5 ab6)) := VJ_t.out.below hb
            have HJ_c : Hid (OwnT w.heap.size (.agg #[.slice ab1 ab2 ab3, .slice ab4 ab5 ab6]) JV JR wc) := HJ_cb.out.grown hb
            clear Kb VA_b VB_b VJ_t HJ_cb
            clear hb
            obtain ⟨lJ, eMJ, anyJ⟩ := okJ2.out (by trivial) (by trivial) h8
            have LJ : Hid (JR.length ≤ 1099511627776) := lJ
            have EMJ : Hid (fitM vs vs' rs qs = JR.length) := eMJ
            have ANYJ : Hid (∀ z ∈ JR, (rs.any fun r => fitB JV vs z r 0) = true) := anyJ
            clear lJ eMJ anyJ
            have hJ2 := own_two HJ_c.out
            have HJV : Hid (StrsAt wc (.slice ab1 ab2 ab3) JV) := hJ2.1
            obtain ⟨q9, c9, e9, HXJ0⟩ := hJ2.2.form
            injection e9 with e91 e92 e93
            subst e91 e93
            obtain ⟨nj, enj⟩ : ∃ n, Hid (JR.length = n) := ⟨_, rfl⟩
            have e94 : ab5 = nj := e92.trans enj.out
            subst e94
            have HXJ : Hid (∀ k (hk : k < JR.length), ∃ b off u, ab4 = some ⟨b, off, none⟩ ∧ b < wc.heap.size ∧ wc.cell? ⟨b, off + k, none⟩ = some u ∧ RowAt wc u JR[k]) := HXJ0
            clear HXJ0 hJ2 e92 HJ_c
            have bj : ab5 ≤ 1099511627776 := by have := LJ.out; have := enj.out; omega
            have za : w.heap.size < wc.heap.size := VA_c.out.lt
            have zb : w.heap.size + 1 < wc.heap.size := VB_c.out.lt
            have zj : gJ < wc.heap.size := VJ_c.out.lt
            have KK : Below w.heap.size w wc := Kc
            have kz : w.heap.size ≤ wc.heap.size := KK.size
            go_wp2
            go_loopw [15, 16] (fun v i wr => ∃ (k : Nat), k ≤ n2 ∧ i = .int .i64 k ∧ v = .int .i64 (fitM vs vs' (rs.take k) qs) ∧ Hid (Below wc.heap.size wc wr)) (fun _ i _ => n2 - (intOf i).toNat)
            case atStart => exact ⟨0, Nat.zero_le _, rfl, rfl, Below.refl _ _⟩
            case round =>
              obtain ⟨k, hk, rfl, rfl, hB⟩ := hrel
              have KW : Below w.heap.size w wr := KK.trans (hB.out.mono kz)
              have va : Hid (Var wr w.heap.size (.slice p1 n1 k1) (.slice p2 n2 k2)) := VA_c.out.below hB.out
              have A1 := va.out.c1
              obtain ⟨mk, emk⟩ : ∃ n : Nat, Hid (fitM vs vs' (rs.take k) qs = n) := ⟨_, rfl⟩
              have bmk : mk ≤ 1099511627776 := by have := hML.out k; have := emk.out; omega
              rw [emk.out]
              by_cases hlt : k < n2
              · have kx : k < rs.length := by have := en2.out; omega
                obtain ⟨ba, oa, Y, rfl, hba, q1, row⟩ := HXA.out k kx
                have mr : Hid (rs[k] ∈ rs) := List.getElem_mem kx
                have hst : Hid (fitM vs vs' (rs.take (k + 1)) qs = mk + fitN vs vs' qs rs[k]) := by
                  show _ = _
                  rw [fitM_step kx, emk.out]
                have hfn : Hid (∀ j, fitN vs vs' (qs.take j) rs[k] ≤ n4) := fun j => by
                  have h1 : fitN vs vs' (qs.take j) rs[k] ≤ fitN vs vs' qs rs[k] := fitN_le j
                  have h2 : fitN vs vs' qs rs[k] ≤ qs.length := List.length_filter_le _ _
                  have := en4.out
                  omega
                generalize rs[k] = r at row hst mr hfn
                obtain ⟨pu, cu, rfl⟩ := row.form
                have ROW : Hid (RowAt w (.slice pu r.length cu) r) := row
                obtain ⟨nu, enu⟩ : ∃ nu : Nat, Hid (r.length = nu) := ⟨_, rfl⟩
                rw [enu.out] at q1 ROW
                have Q1 : Hid (w.cell? ⟨ba, oa + k, none⟩ = some (.slice pu nu cu)) := q1
                clear q1 row
                go_wp2
                go_loopw [15, 17] (fun s i wx => ∃ (j : Nat), j ≤ n4 ∧ i = .int .i64 j ∧ s = .int .i64 (mk + fitN vs vs' (qs.take j) r : Nat) ∧ Hid (Below wc.heap.size wc wx)) (fun _ i _ => n4 - (intOf i).toNat)
                case atStart => exact ⟨0, Nat.zero_le _, rfl, rfl, hB⟩
                case round =>
                  obtain ⟨j, hj, rfl, rfl, hX⟩ := hrel
                  clear A1 va hB KW
                  rename World => wx
                  have va : Hid (Var wx w.heap.size (.slice p1 n1 k1) (.slice (some ⟨ba, oa, none⟩) n2 k2)) := VA_c.out.below hX.out
                  have vb : Hid (Var wx (w.heap.size + 1) (.slice p3 n3 k3) (.slice p4 n4 k4)) := VB_c.out.below hX.out
                  have KX : Below w.heap.size w wx := KK.trans (hX.out.mono kz)
                  have B1 := vb.out.c1
                  obtain ⟨mj, emj⟩ : ∃ n : Nat, Hid (fitN vs vs' (qs.take j) r = n) := ⟨_, rfl⟩
                  have bmj : mj ≤ n4 := by have := hfn.out j; have := emj.out; omega
                  rw [emj.out]
                  by_cases hlj : j < n4
                  · have jx : j < qs.length := by have := en4.out; omega
                    obtain ⟨bb, ob, Z, rfl, hbb, q2, row2⟩ := HXB.out j jx
                    have mq : Hid (qs[j] ∈ qs) := List.getElem_mem jx
                    have hsj : Hid (fitN vs vs' (qs.take (j + 1)) r = mj + if fitB vs vs' r qs[j] 0 then 1 else 0) := by
                      show _ = _
                      rw [fitN_step jx, emj.out]
                    generalize qs[j] = q at row2 mq hsj
                    obtain ⟨py, cy, rfl⟩ := row2.form
                    have ct : Hid (∀ W, Below wx.heap.size wx W → Calls Tryz.prog 10 #[.slice p1 n1 k1, .slice pu r.length cu, .slice p3 n3 k3, .slice py q.length cy] W fun e w' => e = .returned (.bool (fitB vs vs' r q 0)) ∧ Below W.heap.size W w') := fun W hW => by
                      have hWW := KX.trans (hW.mono KX.size)
                      have ROW2 := ROW.out
                      rw [← enu.out] at ROW2
                      exact FITS.out W _ _ r q (by trivial) (by trivial) hWW (ROW2.below hWW) (row2.below hWW) mr.out mq.out
                    obtain ⟨ny, eny⟩ : ∃ ny : Nat, Hid (q.length = ny) := ⟨_, rfl⟩
                    obtain ⟨F, eF⟩ : ∃ F : Bool, Hid (fitB vs vs' r q 0 = F) := ⟨_, rfl⟩
                    rw [enu.out, eny.out, eF.out] at ct
                    rw [eny.out] at q2
                    rw [eF.out] at hsj
                    have A0 := va.out.c0
                    have A1 := va.out.c1
                    have B0 := vb.out.c0
                    have a1 : wx.cell? ⟨ba, oa + k, none⟩ = some (.slice pu nu cu) := (KX.cell (p := ⟨ba, oa + k, none⟩) hba).trans Q1.out
                    have b1 : wx.cell? ⟨bb, ob + j, none⟩ = some (.slice py ny cy) := (KX.cell (p := ⟨bb, ob + j, none⟩) hbb).trans q2
                    have wza : w.heap.size < wx.heap.size := va.out.lt
                    have wzb : w.heap.size + 1 < wx.heap.size := vb.out.lt
                    have wba : ba < wx.heap.size := Nat.lt_of_lt_of_le hba KX.size
                    have wbb : bb < wx.heap.size := Nat.lt_of_lt_of_le hbb KX.size
                    have i1 : (0 : Int) ≤ (k : Int) := by omega
                    have i2 : (k : Int) < (n2 : Int) := by omega
                    have i3 : (0 : Int) ≤ (j : Int) := by omega
                    have i4 : (j : Int) < (n4 : Int) := by omega
                    clear q2 row2
                    go_upto_region 23 with fail
                    go_region_held3 (fun w' => w'.cell? ⟨w.heap.size, 0, none⟩ = some (.slice p1 n1 k1) ∧ w'.cell? ⟨w.heap.size, 1, none⟩ = some (.slice (some ⟨ba, oa, none⟩) n2 k2) ∧ w'.cell? ⟨w.heap.size + 1, 0, none⟩ = some (.slice p3 n3 k3) ∧ w'.cell? ⟨w.heap.size + 1, 1, none⟩ = some (.slice (some ⟨bb, ob, none⟩) n4 k4) ∧ w'.cell? ⟨ba, oa + k, none⟩ = some (.slice pu nu cu) ∧ w'.cell? ⟨bb, ob + j, none⟩ = some (.slice py ny cy))
                      (exact ⟨bcl (n := wx.heap.size) (by go_grown) A0 wza, bcl (n := wx.heap.size) (by go_grown) A1 wza, bcl (n := wx.heap.size) (by go_grown) B0 wzb, bcl (n := wx.heap.size) (by go_grown) B1 wzb, bcl (n := wx.heap.size) (by go_grown) a1 wba, bcl (n := wx.heap.size) (by go_grown) b1 wbb⟩)
                      (first
                        | (go_at_call 10; refine (ct.out _ (by go_grown)).mono ?_; rintro e v1 ⟨rfl, hv1⟩; obtain ⟨hw1, hn1⟩ := bg0 (n := wx.heap.size) (W0 := wx) (by go_grown) (by go_size) hv1; clear hv1))
                    have X3 : Hid (Below wc.heap.size wc v1) := hX.out.trans (hw1.mono hX.out.size)
                    clear hw1 hn1 ct A0 A1 B0 B1 a1 b1 hX KX va vb wza wzb wba wbb
                    cases F with
                    | true =>
                      have hs2 : Hid (fitN vs vs' (qs.take (j + 1)) r = mj + 1) := by show _ = _; rw [hsj.out]; simp
                      clear hsj
                      go_wp2
                      exact ⟨⟨j + 1, by omega, by go_num, by rw [hs2.out]; go_num, X3⟩, by simp [intOf]; omega⟩
                    | false =>
                      have hs2 : Hid (fitN vs vs' (qs.take (j + 1)) r = mj) := by show _ = _; rw [hsj.out]; simp
                      clear hsj
                      go_wp2
                      exact ⟨⟨j + 1, by omega, by go_num, by rw [hs2.out]; first | rfl | go_num | simp, X3⟩, by simp [intOf]; omega⟩
                  · have c3 : ¬ (j : Int) < (n4 : Int) := by omega
                    have hs2 : Hid (fitM vs vs' (rs.take (k + 1)) qs = mk + mj) := by
                      have h := emj.out
                      rw [List.take_of_length_le (by have := en4.out; omega)] at h
                      show _ = _
                      rw [hst.out, h]
                    clear hst
                    go_wp2
                    exact ⟨⟨k + 1, by omega, by go_num, by rw [hs2.out], hX⟩, by simp [intOf]; omega⟩
              · have c3 : ¬ (k : Int) < (n2 : Int) := by omega
                have hmk : mk = ab5 := by
                  have h := emk.out
                  rw [List.take_of_length_le (by have := en2.out; omega), EMJ.out, enj.out] at h
                  exact h.symm
                rw [hmk]
                have kw : wc.heap.size ≤ wr.heap.size := hB.out.size
                clear emk hmk bmk
                go_wp2
                go_loopw [18] (fun i wx => ∃ (t : Nat), t ≤ ab5 ∧ i = .int .i64 t ∧ Hid (Below wc.heap.size wc wx)) (fun i _ => ab5 - (intOf i).toNat)
                case atStart => exact ⟨0, Nat.zero_le _, rfl, hB⟩
                case round =>
                  obtain ⟨t, ht, rfl, hX⟩ := hrel
                  clear va hB KW kw A1
                  rename World => wx
                  have vj : Hid (Var wx gJ (.slice ab1 ab2 ab3) (.slice ab4 ab5 ab6)) := VJ_c.out.below hX.out
                  have J1 := vj.out.c1
                  by_cases hltt : t < ab5
                  · have tx : t < JR.length := by have := enj.out; omega
                    obtain ⟨bt, ot, Y, e95, hbt, q1, row⟩ := HXJ.out t tx
                    subst e95
                    have mz : Hid (JR[t] ∈ JR) := List.getElem_mem tx
                    generalize JR[t] = z at row mz
                    obtain ⟨pu, cu, rfl⟩ := row.form
                    have ROW : Hid (RowAt wc (.slice pu z.length cu) z) := row
                    obtain ⟨nu, enu⟩ : ∃ nu : Nat, Hid (z.length = nu) := ⟨_, rfl⟩
                    rw [enu.out] at q1 ROW
                    have Q1 : Hid (wc.cell? ⟨bt, ot + t, none⟩ = some (.slice pu nu cu)) := q1
                    have ANZ : Hid ((rs.any fun r => fitB JV vs z r 0) = true) := ANYJ.out z mz.out
                    clear q1 row
                    go_wp2
                    go_loopw [19, 20] (fun s i wy => ∃ (j : Nat), j ≤ n2 ∧ i = .int .i64 j ∧ s = .bool ((rs.take j).any fun r => fitB JV vs z r 0) ∧ Hid (Below wc.heap.size wc wy)) (fun _ i _ => n2 - (intOf i).toNat)
                    case atStart => exact ⟨0, Nat.zero_le _, rfl, rfl, hX⟩
                    case round =>
                      obtain ⟨j, hj, rfl, rfl, hZ⟩ := hrel
                      clear J1 vj hX
                      rename World => wy
                      have va : Hid (Var wy w.heap.size (.slice p1 n1 k1) (.slice p2 n2 k2)) := VA_c.out.below hZ.out
                      have vj : Hid (Var wy gJ (.slice ab1 ab2 ab3) (.slice (some ⟨bt, ot, none⟩) ab5 ab6)) := VJ_c.out.below hZ.out
                      have KX : Below w.heap.size w wy := KK.trans (hZ.out.mono kz)
                      have A1 := va.out.c1
                      obtain ⟨sm, esm⟩ : ∃ sm : Bool, Hid (((rs.take j).any fun r => fitB JV vs z r 0) = sm) := ⟨_, rfl⟩
                      rw [esm.out]
                      by_cases hlj : j < n2
                      · have jx : j < rs.length := by have := en2.out; omega
                        obtain ⟨bb, ob, Z, e96, hbb, q2, row2⟩ := HXA.out j jx
                        subst e96
                        have mq : Hid (rs[j] ∈ rs) := List.getElem_mem jx
                        have hsj : Hid (((rs.take (j + 1)).any fun r => fitB JV vs z r 0) = (sm || fitB JV vs z rs[j] 0)) := by
                          show _ = _
                          rw [List.take_succ_eq_append_getElem jx, List.any_append, esm.out]
                          simp
                        generalize rs[j] = q at row2 mq hsj
                        obtain ⟨py, cy, rfl⟩ := row2.form
                        have ct : Hid (∀ W, Below wy.heap.size wy W → Calls Tryz.prog 10 #[.slice ab1 ab2 ab3, .slice pu z.length cu, .slice p1 n1 k1, .slice py q.length cy] W fun e w' => e = .returned (.bool (fitB JV vs z q 0)) ∧ Below W.heap.size W w') := fun W hW => by
                          have hWW := KX.trans (hW.mono KX.size)
                          have hWJ := hZ.out.trans (hW.mono hZ.out.size)
                          have ROW2 := ROW.out
                          rw [← enu.out] at ROW2
                          exact FITJ.out W _ _ _ z q (by trivial) (by trivial) h8 hWW (HJV.out.below hWJ) (ROW2.below hWJ) (row2.below hWW) mz.out mq.out
                        obtain ⟨ny, eny⟩ : ∃ ny : Nat, Hid (q.length = ny) := ⟨_, rfl⟩
                        obtain ⟨F, eF⟩ : ∃ F : Bool, Hid (fitB JV vs z q 0 = F) := ⟨_, rfl⟩
                        rw [enu.out, eny.out, eF.out] at ct
                        rw [eny.out] at q2
                        rw [eF.out] at hsj
                        have A0 := va.out.c0
                        have J0 := vj.out.c0
                        have J1 := vj.out.c1
                        have a1 : wy.cell? ⟨bt, ot + t, none⟩ = some (.slice pu nu cu) := (hZ.out.cell (p := ⟨bt, ot + t, none⟩) hbt).trans Q1.out
                        have b1 : wy.cell? ⟨bb, ob + j, none⟩ = some (.slice py ny cy) := (KX.cell (p := ⟨bb, ob + j, none⟩) hbb).trans q2
                        have wza : w.heap.size < wy.heap.size := va.out.lt
                        have wzj : gJ < wy.heap.size := vj.out.lt
                        have wba : bt < wy.heap.size := Nat.lt_of_lt_of_le hbt hZ.out.size
                        have wbb : bb < wy.heap.size := Nat.lt_of_lt_of_le hbb KX.size
                        have i1 : (0 : Int) ≤ (t : Int) := by omega
                        have i2 : (t : Int) < (ab5 : Int) := by omega
                        have i3 : (0 : Int) ≤ (j : Int) := by omega
                        have i4 : (j : Int) < (n2 : Int) := by omega
                        clear q2 row2
                        have X4 : Hid (∀ v1, Below wy.heap.size wy v1 → Below wc.heap.size wc v1) := fun v1 h => hZ.out.trans (h.mono hZ.out.size)
                        clear hZ KX va vj
                        cases sm with
                        | true =>
                          go_upto_region 32 with fail
                          go_quiet (fail)
                          go_wp2
                          exact ⟨⟨j + 1, by omega, by go_num, by rw [hsj.out]; rfl, X4.out _ (bdrewN _ (Below.refl _ _))⟩, by simp [intOf]; omega⟩
                        | false =>
                          go_upto_region 32 with fail
                          go_region_held3 (fun w' => w'.cell? ⟨gJ, 0, none⟩ = some (.slice ab1 ab2 ab3) ∧ w'.cell? ⟨gJ, 1, none⟩ = some (.slice (some ⟨bt, ot, none⟩) ab5 ab6) ∧ w'.cell? ⟨w.heap.size, 0, none⟩ = some (.slice p1 n1 k1) ∧ w'.cell? ⟨w.heap.size, 1, none⟩ = some (.slice (some ⟨bb, ob, none⟩) n2 k2) ∧ w'.cell? ⟨bt, ot + t, none⟩ = some (.slice pu nu cu) ∧ w'.cell? ⟨bb, ob + j, none⟩ = some (.slice py ny cy)) (exact ⟨bcl (n := wy.heap.size) (by go_grown) J0 wzj, bcl (n := wy.heap.size) (by go_grown) J1 wzj, bcl (n := wy.heap.size) (by go_grown) A0 wza, bcl (n := wy.heap.size) (by go_grown) A1 wza, bcl (n := wy.heap.size) (by go_grown) a1 wba, bcl (n := wy.heap.size) (by go_grown) b1 wbb⟩) (first | (go_at_call 10; refine (ct.out _ (by go_grown)).mono ?_; rintro e v1 ⟨rfl, hv1⟩; obtain ⟨hw1, hn1⟩ := bg0 (n := wy.heap.size) (W0 := wy) (by go_grown) (by go_size) hv1; clear hv1))
                          have X3 : Hid (Below wc.heap.size wc v1) := X4.out _ hw1
                          clear hw1 hn1 ct A0 A1 J0 J1 a1 b1 X4
                          go_wp2
                          exact ⟨⟨j + 1, by omega, by go_num, by rw [hsj.out]; rfl, X3⟩, by simp [intOf]; omega⟩
                      · have c3 : ¬ (j : Int) < (n2 : Int) := by omega
                        have hsm : sm = true := by
                          have h := esm.out
                          rw [List.take_of_length_le (by have := en2.out; omega), ANZ.out] at h
                          exact h.symm
                        subst hsm
                        clear esm
                        go_wp2
                        exact ⟨⟨t + 1, by omega, by go_num, hZ⟩, by simp [intOf]; omega⟩
                  · have c3 : ¬ (t : Int) < (ab5 : Int) := by omega
                    have K9 : Below w.heap.size w wx := KK.trans (hX.out.mono kz)
                    go_wp2_with fail
                    refine (tlive_any _).mono ?_
                    rintro e w9 ⟨rfl, hb9⟩
                    have vj9 : Hid (Var w9 gJ (.slice ab1 ab2 ab3) (.slice ab4 ab5 ab6)) := vj.out.below hb9
                    clear J1
                    have J1 := vj9.out.c1
                    have K10 : Below w.heap.size w w9 := K9.trans (hb9.mono K9.size)
                    clear hb9 K9 hX vj
                    go_wp2
                    go_ret
                    exact ⟨by simp, K10⟩
          · subst hj
            go_wp2_with fail
            refine (tlive_any _).mono ?_
            rintro e wd ⟨rfl, hb⟩
            have Kd : Below w.heap.size w wd := Kb.trans (hb.mono Kb.size)
            have VA_d : Hid (Var wd w.heap.size (.slice p1 n1 k1) (.slice p2 n2 k2)) := VA_b.out.below hb
            have VB_d : Hid (Var wd (w.heap.size + 1) (.slice p3 n3 k3) (.slice p4 n4 k4)) := VB_b.out.below hb
            have HJ_d : Hid (TabO w.heap.size 30 JV JR (.agg #[.slice ab1 ab2 ab3, .slice ab4 ab5 ab6]) wd) := HJ_b.out.grown hb
            have VJ_d : Hid (Var wd gJ (.slice ab1 ab2 ab3) (.slice ab4 ab5 ab6)) := VJ_t.out.below hb
            clear Kb VA_b VB_b HJ_b VJ_t
            clear hb
            go_wp2
            go_ret
            exact ⟨rfl, Kd⟩
      · subst h1
        clear HU_6
        clear VU_6
        clear HM_6
        clear VM_t
        clear c8 c9 c10 c11
        have l0a := VA_6.out.c0
        have l0b := VA_6.out.c1
        have l1a := VB_6.out.c0
        have l1b := VB_6.out.c1
        go_wp2_with fail
        refine (c7.out _ (by exact K6)).mono ?_
        rintro e wb ⟨ab1, ab2, ab3, ab4, ab5, ab6, rfl, ht, hb⟩
        have HJ_t : Hid (TabO w.heap.size E2 JV JR (.agg #[.slice ab1 ab2 ab3, .slice ab4 ab5 ab6]) wb) := OwnT.base ht K6.size
        clear ht l0a l0b l1a l1b
        have Kbp : Below w.heap.size w wb := K6.trans (hb.mono K6.size)
        have VA_bp : Hid (Var wb w.heap.size (.slice p1 n1 k1) (.slice p2 n2 k2)) := VA_6.out.below hb
        have VB_bp : Hid (Var wb (w.heap.size + 1) (.slice p3 n3 k3) (.slice p4 n4 k4)) := VB_6.out.below hb
        clear K6 VA_6 VB_6
        clear hb
        go_upto_region 12 with fail
        refine wp_world ?_
        intro Wb hW
        have hH : Below wb.heap.size wb Wb := by rw [hW]; go_grown
        have VJ_t : Hid (Var Wb wb.heap.size (.slice ab1 ab2 ab3) (.slice ab4 ab5 ab6)) := by rw [hW]; exact Var.made _ _ _
        clear hW
        obtain ⟨gJ, egJ⟩ : ∃ g, Hid (wb.heap.size = g) := ⟨_, rfl⟩
        rw [egJ.out] at VJ_t ⊢
        have Kb : Below w.heap.size w Wb := Kbp.trans (hH.mono Kbp.size)
        have VA_b : Hid (Var Wb w.heap.size (.slice p1 n1 k1) (.slice p2 n2 k2)) := VA_bp.out.below hH
        have VB_b : Hid (Var Wb (w.heap.size + 1) (.slice p3 n3 k3) (.slice p4 n4 k4)) := VB_bp.out.below hH
        have HJ_b : Hid (TabO w.heap.size E2 JV JR (.agg #[.slice ab1 ab2 ab3, .slice ab4 ab5 ab6]) Wb) := HJ_t.out.grown hH
        clear Kbp VA_bp VB_bp HJ_t
        clear hH
        rcases hE2.out (by trivial) (by trivial) with ⟨hj, h8⟩ | hj
        · subst hj
          have HJ_cb : Hid (OwnT w.heap.size (.agg #[.slice ab1 ab2 ab3, .slice ab4 ab5 ab6]) JV JR Wb) := TabO.zero HJ_b.out
          clear HJ_b
          have l0a := VJ_t.out.c0
          have l0b := VJ_t.out.c1
          go_wp2_with fail
          refine (c12.out _ _ _ _ (by trivial) (by trivial) h8 HJ_cb.out).mono ?_
          rintro e wc ⟨rfl, hb⟩
          clear l0a l0b
          have Kc : Below w.heap.size w wc := Kb.trans (hb.mono Kb.size)
          have VA_c : Hid (Var wc w.heap.size (.slice p1 n1 k1) (.slice p2 n2 k2)) := VA_b.out.below hb
          have VB_c : Hid (Var wc (w.heap.size + 1) (.slice p3 n3 k3) (.slice p4 n4 k4)) := VB_b.out.below hb
          have VJ_c : Hid (Var wc gJ (.slice ab1 ab2 ab3) (.slice ab4 ab5 ab6)) := VJ_t.out.below hb
          have HJ_c : Hid (OwnT w.heap.size (.agg #[.slice ab1 ab2 ab3, .slice ab4 ab5 ab6]) JV JR wc) := HJ_cb.out.grown hb
          clear Kb VA_b VB_b VJ_t HJ_cb
          clear hb
          obtain ⟨lJ, eMJ, anyJ⟩ := okJ2.out (by trivial) (by trivial) h8
          have LJ : Hid (JR.length ≤ 1099511627776) := lJ
          have EMJ : Hid (fitM vs vs' rs qs = JR.length) := eMJ
          have ANYJ : Hid (∀ z ∈ JR, (rs.any fun r => fitB JV vs z r 0) = true) := anyJ
          clear lJ eMJ anyJ
          have hJ2 := own_two HJ_c.out
          have HJV : Hid (StrsAt wc (.slice ab1 ab2 ab3) JV) := hJ2.1
          obtain ⟨q9, c9, e9, HXJ0⟩ := hJ2.2.form
          injection e9 with e91 e92 e93
          subst e91 e93
          obtain ⟨nj, enj⟩ : ∃ n, Hid (JR.length = n) := ⟨_, rfl⟩
          have e94 : ab5 = nj := e92.trans enj.out
          subst e94
          have HXJ : Hid (∀ k (hk : k < JR.length), ∃ b off u, ab4 = some ⟨b, off, none⟩ ∧ b < wc.heap.size ∧ wc.cell? ⟨b, off + k, none⟩ = some u ∧ RowAt wc u JR[k]) := HXJ0
          clear HXJ0 hJ2 e92 HJ_c
          have bj : ab5 ≤ 1099511627776 := by have := LJ.out; have := enj.out; omega
          have za : w.heap.size < wc.heap.size := VA_c.out.lt
          have zb : w.heap.size + 1 < wc.heap.size := VB_c.out.lt
          have zj : gJ < wc.heap.size := VJ_c.out.lt
          have KK : Below w.heap.size w wc := Kc
          have kz : w.heap.size ≤ wc.heap.size := KK.size
          go_wp2
          go_loopw [15, 16] (fun v i wr => ∃ (k : Nat), k ≤ n2 ∧ i = .int .i64 k ∧ v = .int .i64 (fitM vs vs' (rs.take k) qs) ∧ Hid (Below wc.heap.size wc wr)) (fun _ i _ => n2 - (intOf i).toNat)
          case atStart => exact ⟨0, Nat.zero_le _, rfl, rfl, Below.refl _ _⟩
          case round =>
            obtain ⟨k, hk, rfl, rfl, hB⟩ := hrel
            have KW : Below w.heap.size w wr := KK.trans (hB.out.mono kz)
            have va : Hid (Var wr w.heap.size (.slice p1 n1 k1) (.slice p2 n2 k2)) := VA_c.out.below hB.out
            have A1 := va.out.c1
            obtain ⟨mk, emk⟩ : ∃ n : Nat, Hid (fitM vs vs' (rs.take k) qs = n) := ⟨_, rfl⟩
            have bmk : mk ≤ 1099511627776 := by have := hML.out k; have := emk.out; omega
            rw [emk.out]
            by_cases hlt : k < n2
            · have kx : k < rs.length := by have := en2.out; omega
              obtain ⟨ba, oa, Y, rfl, hba, q1, row⟩ := HXA.out k kx
              have mr : Hid (rs[k] ∈ rs) := List.getElem_mem kx
              have hst : Hid (fitM vs vs' (rs.take (k + 1)) qs = mk + fitN vs vs' qs rs[k]) := by
                show _ = _
                rw [fitM_step kx, emk.out]
              have hfn : Hid (∀ j, fitN vs vs' (qs.take j) rs[k] ≤ n4) := fun j => by
                have h1 : fitN vs vs' (qs.take j) rs[k] ≤ fitN vs vs' qs rs[k] := fitN_le j
                have h2 : fitN vs vs' qs rs[k] ≤ qs.length := List.length_filter_le _ _
                have := en4.out
                omega
              generalize rs[k] = r at row hst mr hfn
              obtain ⟨pu, cu, rfl⟩ := row.form
              have ROW : Hid (RowAt w (.slice pu r.length cu) r) := row
              obtain ⟨nu, enu⟩ : ∃ nu : Nat, Hid (r.length = nu) := ⟨_, rfl⟩
              rw [enu.out] at q1 ROW
              have Q1 : Hid (w.cell? ⟨ba, oa + k, none⟩ = some (.slice pu nu cu)) := q1
              clear q1 row
              go_wp2
              go_loopw [15, 17] (fun s i wx => ∃ (j : Nat), j ≤ n4 ∧ i = .int .i64 j ∧ s = .int .i64 (mk + fitN vs vs' (qs.take j) r : Nat) ∧ Hid (Below wc.heap.size wc wx)) (fun _ i _ => n4 - (intOf i).toNat)
              case atStart => exact ⟨0, Nat.zero_le _, rfl, rfl, hB⟩
              case round =>
                obtain ⟨j, hj, rfl, rfl, hX⟩ := hrel
                clear A1 va hB KW
                rename World => wx
                have va : Hid (Var wx w.heap.size (.slice p1 n1 k1) (.slice (some ⟨ba, oa, none⟩) n2 k2)) := VA_c.out.below hX.out
                have vb : Hid (Var wx (w.heap.size + 1) (.slice p3 n3 k3) (.slice p4 n4 k4)) := VB_c.out.below hX.out
                have KX : Below w.heap.size w wx := KK.trans (hX.out.mono kz)
                have B1 := vb.out.c1
                obtain ⟨mj, emj⟩ : ∃ n : Nat, Hid (fitN vs vs' (qs.take j) r = n) := ⟨_, rfl⟩
                have bmj : mj ≤ n4 := by have := hfn.out j; have := emj.out; omega
                rw [emj.out]
                by_cases hlj : j < n4
                · have jx : j < qs.length := by have := en4.out; omega
                  obtain ⟨bb, ob, Z, rfl, hbb, q2, row2⟩ := HXB.out j jx
                  have mq : Hid (qs[j] ∈ qs) := List.getElem_mem jx
                  have hsj : Hid (fitN vs vs' (qs.take (j + 1)) r = mj + if fitB vs vs' r qs[j] 0 then 1 else 0) := by
                    show _ = _
                    rw [fitN_step jx, emj.out]
                  generalize qs[j] = q at row2 mq hsj
                  obtain ⟨py, cy, rfl⟩ := row2.form
                  have ct : Hid (∀ W, Below wx.heap.size wx W → Calls Tryz.prog 10 #[.slice p1 n1 k1, .slice pu r.length cu, .slice p3 n3 k3, .slice py q.length cy] W fun e w' => e = .returned (.bool (fitB vs vs' r q 0)) ∧ Below W.heap.size W w') := fun W hW => by
                    have hWW := KX.trans (hW.mono KX.size)
                    have ROW2 := ROW.out
                    rw [← enu.out] at ROW2
                    exact FITS.out W _ _ r q (by trivial) (by trivial) hWW (ROW2.below hWW) (row2.below hWW) mr.out mq.out
                  obtain ⟨ny, eny⟩ : ∃ ny : Nat, Hid (q.length = ny) := ⟨_, rfl⟩
                  obtain ⟨F, eF⟩ : ∃ F : Bool, Hid (fitB vs vs' r q 0 = F) := ⟨_, rfl⟩
                  rw [enu.out, eny.out, eF.out] at ct
                  rw [eny.out] at q2
                  rw [eF.out] at hsj
                  have A0 := va.out.c0
                  have A1 := va.out.c1
                  have B0 := vb.out.c0
                  have a1 : wx.cell? ⟨ba, oa + k, none⟩ = some (.slice pu nu cu) := (KX.cell (p := ⟨ba, oa + k, none⟩) hba).trans Q1.out
                  have b1 : wx.cell? ⟨bb, ob + j, none⟩ = some (.slice py ny cy) := (KX.cell (p := ⟨bb, ob + j, none⟩) hbb).trans q2
                  have wza : w.heap.size < wx.heap.size := va.out.lt
                  have wzb : w.heap.size + 1 < wx.heap.size := vb.out.lt
                  have wba : ba < wx.heap.size := Nat.lt_of_lt_of_le hba KX.size
                  have wbb : bb < wx.heap.size := Nat.lt_of_lt_of_le hbb KX.size
                  have i1 : (0 : Int) ≤ (k : Int) := by omega
                  have i2 : (k : Int) < (n2 : Int) := by omega
                  have i3 : (0 : Int) ≤ (j : Int) := by omega
                  have i4 : (j : Int) < (n4 : Int) := by omega
                  clear q2 row2
                  go_upto_region 23 with fail
                  go_region_held3 (fun w' => w'.cell? ⟨w.heap.size, 0, none⟩ = some (.slice p1 n1 k1) ∧ w'.cell? ⟨w.heap.size, 1, none⟩ = some (.slice (some ⟨ba, oa, none⟩) n2 k2) ∧ w'.cell? ⟨w.heap.size + 1, 0, none⟩ = some (.slice p3 n3 k3) ∧ w'.cell? ⟨w.heap.size + 1, 1, none⟩ = some (.slice (some ⟨bb, ob, none⟩) n4 k4) ∧ w'.cell? ⟨ba, oa + k, none⟩ = some (.slice pu nu cu) ∧ w'.cell? ⟨bb, ob + j, none⟩ = some (.slice py ny cy))
                    (exact ⟨bcl (n := wx.heap.size) (by go_grown) A0 wza, bcl (n := wx.heap.size) (by go_grown) A1 wza, bcl (n := wx.heap.size) (by go_grown) B0 wzb, bcl (n := wx.heap.size) (by go_grown) B1 wzb, bcl (n := wx.heap.size) (by go_grown) a1 wba, bcl (n := wx.heap.size) (by go_grown) b1 wbb⟩)
                    (first
                      | (go_at_call 10; refine (ct.out _ (by go_grown)).mono ?_; rintro e v1 ⟨rfl, hv1⟩; obtain ⟨hw1, hn1⟩ := bg0 (n := wx.heap.size) (W0 := wx) (by go_grown) (by go_size) hv1; clear hv1))
                  have X3 : Hid (Below wc.heap.size wc v1) := hX.out.trans (hw1.mono hX.out.size)
                  clear hw1 hn1 ct A0 A1 B0 B1 a1 b1 hX KX va vb wza wzb wba wbb
                  cases F with
                  | true =>
                    have hs2 : Hid (fitN vs vs' (qs.take (j + 1)) r = mj + 1) := by show _ = _; rw [hsj.out]; simp
                    clear hsj
                    go_wp2
                    exact ⟨⟨j + 1, by omega, by go_num, by rw [hs2.out]; go_num, X3⟩, by simp [intOf]; omega⟩
                  | false =>
                    have hs2 : Hid (fitN vs vs' (qs.take (j + 1)) r = mj) := by show _ = _; rw [hsj.out]; simp
                    clear hsj
                    go_wp2
                    exact ⟨⟨j + 1, by omega, by go_num, by rw [hs2.out]; first | rfl | go_num | simp, X3⟩, by simp [intOf]; omega⟩
                · have c3 : ¬ (j : Int) < (n4 : Int) := by omega
                  have hs2 : Hid (fitM vs vs' (rs.take (k + 1)) qs = mk + mj) := by
                    have h := emj.out
                    rw [List.take_of_length_le (by have := en4.out; omega)] at h
                    show _ = _
                    rw [hst.out, h]
                  clear hst
                  go_wp2
                  exact ⟨⟨k + 1, by omega, by go_num, by rw [hs2.out], hX⟩, by simp [intOf]; omega⟩
            · have c3 : ¬ (k : Int) < (n2 : Int) := by omega
              have hmk : mk = ab5 := by
                have h := emk.out
                rw [List.take_of_length_le (by have := en2.out; omega), EMJ.out, enj.out] at h
                exact h.symm
              rw [hmk]
              have kw : wc.heap.size ≤ wr.heap.size := hB.out.size
              clear emk hmk bmk
              go_wp2
              go_loopw [18] (fun i wx => ∃ (t : Nat), t ≤ ab5 ∧ i = .int .i64 t ∧ Hid (Below wc.heap.size wc wx)) (fun i _ => ab5 - (intOf i).toNat)
              case atStart => exact ⟨0, Nat.zero_le _, rfl, hB⟩
              case round =>
                obtain ⟨t, ht, rfl, hX⟩ := hrel
                clear va hB KW kw A1
                rename World => wx
                have vj : Hid (Var wx gJ (.slice ab1 ab2 ab3) (.slice ab4 ab5 ab6)) := VJ_c.out.below hX.out
                have J1 := vj.out.c1
                by_cases hltt : t < ab5
                · have tx : t < JR.length := by have := enj.out; omega
                  obtain ⟨bt, ot, Y, e95, hbt, q1, row⟩ := HXJ.out t tx
                  subst e95
                  have mz : Hid (JR[t] ∈ JR) := List.getElem_mem tx
                  generalize JR[t] = z at row mz
                  obtain ⟨pu, cu, rfl⟩ := row.form
                  have ROW : Hid (RowAt wc (.slice pu z.length cu) z) := row
                  obtain ⟨nu, enu⟩ : ∃ nu : Nat, Hid (z.length = nu) := ⟨_, rfl⟩
                  rw [enu.out] at q1 ROW
                  have Q1 : Hid (wc.cell? ⟨bt, ot + t, none⟩ = some (.slice pu nu cu)) := q1
                  have ANZ : Hid ((rs.any fun r => fitB JV vs z r 0) = true) := ANYJ.out z mz.out
                  clear q1 row
                  go_wp2
                  go_loopw [19, 20] (fun s i wy => ∃ (j : Nat), j ≤ n2 ∧ i = .int .i64 j ∧ s = .bool ((rs.take j).any fun r => fitB JV vs z r 0) ∧ Hid (Below wc.heap.size wc wy)) (fun _ i _ => n2 - (intOf i).toNat)
                  case atStart => exact ⟨0, Nat.zero_le _, rfl, rfl, hX⟩
                  case round =>
                    obtain ⟨j, hj, rfl, rfl, hZ⟩ := hrel
                    clear J1 vj hX
                    rename World => wy
                    have va : Hid (Var wy w.heap.size (.slice p1 n1 k1) (.slice p2 n2 k2)) := VA_c.out.below hZ.out
                    have vj : Hid (Var wy gJ (.slice ab1 ab2 ab3) (.slice (some ⟨bt, ot, none⟩) ab5 ab6)) := VJ_c.out.below hZ.out
                    have KX : Below w.heap.size w wy := KK.trans (hZ.out.mono kz)
                    have A1 := va.out.c1
                    obtain ⟨sm, esm⟩ : ∃ sm : Bool, Hid (((rs.take j).any fun r => fitB JV vs z r 0) = sm) := ⟨_, rfl⟩
                    rw [esm.out]
                    by_cases hlj : j < n2
                    · have jx : j < rs.length := by have := en2.out; omega
                      obtain ⟨bb, ob, Z, e96, hbb, q2, row2⟩ := HXA.out j jx
                      subst e96
                      have mq : Hid (rs[j] ∈ rs) := List.getElem_mem jx
                      have hsj : Hid (((rs.take (j + 1)).any fun r => fitB JV vs z r 0) = (sm || fitB JV vs z rs[j] 0)) := by
                        show _ = _
                        rw [List.take_succ_eq_append_getElem jx, List.any_append, esm.out]
                        simp
                      generalize rs[j] = q at row2 mq hsj
                      obtain ⟨py, cy, rfl⟩ := row2.form
                      have ct : Hid (∀ W, Below wy.heap.size wy W → Calls Tryz.prog 10 #[.slice ab1 ab2 ab3, .slice pu z.length cu, .slice p1 n1 k1, .slice py q.length cy] W fun e w' => e = .returned (.bool (fitB JV vs z q 0)) ∧ Below W.heap.size W w') := fun W hW => by
                        have hWW := KX.trans (hW.mono KX.size)
                        have hWJ := hZ.out.trans (hW.mono hZ.out.size)
                        have ROW2 := ROW.out
                        rw [← enu.out] at ROW2
                        exact FITJ.out W _ _ _ z q (by trivial) (by trivial) h8 hWW (HJV.out.below hWJ) (ROW2.below hWJ) (row2.below hWW) mz.out mq.out
                      obtain ⟨ny, eny⟩ : ∃ ny : Nat, Hid (q.length = ny) := ⟨_, rfl⟩
                      obtain ⟨F, eF⟩ : ∃ F : Bool, Hid (fitB JV vs z q 0 = F) := ⟨_, rfl⟩
                      rw [enu.out, eny.out, eF.out] at ct
                      rw [eny.out] at q2
                      rw [eF.out] at hsj
                      have A0 := va.out.c0
                      have J0 := vj.out.c0
                      have J1 := vj.out.c1
                      have a1 : wy.cell? ⟨bt, ot + t, none⟩ = some (.slice pu nu cu) := (hZ.out.cell (p := ⟨bt, ot + t, none⟩) hbt).trans Q1.out
                      have b1 : wy.cell? ⟨bb, ob + j, none⟩ = some (.slice py ny cy) := (KX.cell (p := ⟨bb, ob + j, none⟩) hbb).trans q2
                      have wza : w.heap.size < wy.heap.size := va.out.lt
                      have wzj : gJ < wy.heap.size := vj.out.lt
                      have wba : bt < wy.heap.size := Nat.lt_of_lt_of_le hbt hZ.out.size
                      have wbb : bb < wy.heap.size := Nat.lt_of_lt_of_le hbb KX.size
                      have i1 : (0 : Int) ≤ (t : Int) := by omega
                      have i2 : (t : Int) < (ab5 : Int) := by omega
                      have i3 : (0 : Int) ≤ (j : Int) := by omega
                      have i4 : (j : Int) < (n2 : Int) := by omega
                      clear q2 row2
                      have X4 : Hid (∀ v1, Below wy.heap.size wy v1 → Below wc.heap.size wc v1) := fun v1 h => hZ.out.trans (h.mono hZ.out.size)
                      clear hZ KX va vj
                      cases sm with
                      | true =>
                        go_upto_region 32 with fail
                        go_quiet (fail)
                        go_wp2
                        exact ⟨⟨j + 1, by omega, by go_num, by rw [hsj.out]; rfl, X4.out _ (bdrewN _ (Below.refl _ _))⟩, by simp [intOf]; omega⟩
                      | false =>
                        go_upto_region 32 with fail
                        go_region_held3 (fun w' => w'.cell? ⟨gJ, 0, none⟩ = some (.slice ab1 ab2 ab3) ∧ w'.cell? ⟨gJ, 1, none⟩ = some (.slice (some ⟨bt, ot, none⟩) ab5 ab6) ∧ w'.cell? ⟨w.heap.size, 0, none⟩ = some (.slice p1 n1 k1) ∧ w'.cell? ⟨w.heap.size, 1, none⟩ = some (.slice (some ⟨bb, ob, none⟩) n2 k2) ∧ w'.cell? ⟨bt, ot + t, none⟩ = some (.slice pu nu cu) ∧ w'.cell? ⟨bb, ob + j, none⟩ = some (.slice py ny cy)) (exact ⟨bcl (n := wy.heap.size) (by go_grown) J0 wzj, bcl (n := wy.heap.size) (by go_grown) J1 wzj, bcl (n := wy.heap.size) (by go_grown) A0 wza, bcl (n := wy.heap.size) (by go_grown) A1 wza, bcl (n := wy.heap.size) (by go_grown) a1 wba, bcl (n := wy.heap.size) (by go_grown) b1 wbb⟩) (first | (go_at_call 10; refine (ct.out _ (by go_grown)).mono ?_; rintro e v1 ⟨rfl, hv1⟩; obtain ⟨hw1, hn1⟩ := bg0 (n := wy.heap.size) (W0 := wy) (by go_grown) (by go_size) hv1; clear hv1))
                        have X3 : Hid (Below wc.heap.size wc v1) := X4.out _ hw1
                        clear hw1 hn1 ct A0 A1 J0 J1 a1 b1 X4
                        go_wp2
                        exact ⟨⟨j + 1, by omega, by go_num, by rw [hsj.out]; rfl, X3⟩, by simp [intOf]; omega⟩
                    · have c3 : ¬ (j : Int) < (n2 : Int) := by omega
                      have hsm : sm = true := by
                        have h := esm.out
                        rw [List.take_of_length_le (by have := en2.out; omega), ANZ.out] at h
                        exact h.symm
                      subst hsm
                      clear esm
                      go_wp2
                      exact ⟨⟨t + 1, by omega, by go_num, hZ⟩, by simp [intOf]; omega⟩
                · have c3 : ¬ (t : Int) < (ab5 : Int) := by omega
                  have K9 : Below w.heap.size w wx := KK.trans (hX.out.mono kz)
                  go_wp2_with fail
                  refine (tlive_any _).mono ?_
                  rintro e w9 ⟨rfl, hb9⟩
                  have vj9 : Hid (Var w9 gJ (.slice ab1 ab2 ab3) (.slice ab4 ab5 ab6)) := vj.out.below hb9
                  clear J1
                  have J1 := vj9.out.c1
                  have K10 : Below w.heap.size w w9 := K9.trans (hb9.mono K9.size)
                  clear hb9 K9 hX vj
                  go_wp2
                  go_ret
                  exact ⟨by simp, K10⟩
        · subst hj
          go_wp2_with fail
          refine (tlive_any _).mono ?_
          rintro e wd ⟨rfl, hb⟩
          have Kd : Below w.heap.size w wd := Kb.trans (hb.mono Kb.size)
          have VA_d : Hid (Var wd w.heap.size (.slice p1 n1 k1) (.slice p2 n2 k2)) := VA_b.out.below hb
          have VB_d : Hid (Var wd (w.heap.size + 1) (.slice p3 n3 k3) (.slice p4 n4 k4)) := VB_b.out.below hb
          have HJ_d : Hid (TabO w.heap.size 30 JV JR (.agg #[.slice ab1 ab2 ab3, .slice ab4 ab5 ab6]) wd) := HJ_b.out.grown hb
          have VJ_d : Hid (Var wd gJ (.slice ab1 ab2 ab3) (.slice ab4 ab5 ab6)) := VJ_t.out.below hb
          clear Kb VA_b VB_b HJ_b VJ_t
          clear hb
          go_wp2
          go_ret
          exact ⟨rfl, Kd⟩
    · have hcb2 : (CB == 0) = false := by simpa using hcb
      clear c1 c2 c3 c4 c5 c6 c7 c8 c9 c10 c11 c12 FITS FITJ
      go_wp2_with fail
      refine (tlive_any _).mono ?_
      rintro e we ⟨rfl, hb⟩
      have Ke : Below w.heap.size w we := K2.trans (hb.mono K2.size)
      have VA_e : Hid (Var we w.heap.size (.slice p1 n1 k1) (.slice p2 n2 k2)) := VA_2.out.below hb
      have VB_e : Hid (Var we (w.heap.size + 1) (.slice p3 n3 k3) (.slice p4 n4 k4)) := VB_2.out.below hb
      clear K2 VA_2 VB_2
      clear hb
      go_wp2
      go_ret
      exact ⟨rfl, Ke⟩
  · have hca2 : (CA == 0) = false := by simpa using hca
    clear c1 c2 c3 c4 c5 c6 c7 c8 c9 c10 c11 c12 FITS FITJ
    go_wp2_with fail
    refine (tlive_any _).mono ?_
    rintro e wf ⟨rfl, hb⟩
    have Kf : Below w.heap.size w wf := K1.trans (hb.mono K1.size)
    have VA_f : Hid (Var wf w.heap.size (.slice p1 n1 k1) (.slice p2 n2 k2)) := VA_1.out.below hb
    have VB_f : Hid (Var wf (w.heap.size + 1) (.slice p3 n3 k3) (.slice p4 n4 k4)) := VB_1.out.below hb
    clear K1 VA_1 VB_1
    clear hb
    go_wp2
    go_ret
    exact ⟨rfl, Kf⟩

end Go.Proofs.YtiliaincniiijaaGreat

namespace Go.Proofs.YtiliaincniiijaaGreat
open Go.Joins Go.ChangeShapes Go.WideShapes Go.ChangeAt Go.RowKit Go.Deep
set_option linter.unusedVariables false
set_option maxRecDepth 100000

theorem bulk_one {H : Type} (d : DataW H) : 1 ≤ Rows.uptoBulk d := by
  cases d with
  | lit l => cases l <;> simp [Rows.uptoBulk]
  | _ => simp [Rows.uptoBulk]
theorem bulk_part {H : Type} {d : DataW H} : ∀ {l : List (DataW H)}, d ∈ l → Rows.uptoBulk d ≤ Rows.uptoBulkAll l
  | [], h => by cases h
  | x :: l, h => by
    rw [Rows.uptoBulkAll]
    rcases List.mem_cons.1 h with rfl | h
    · omega
    · have := bulk_part h
      omega
theorem bulk_len {H : Type} : ∀ l : List (DataW H), l.length ≤ Rows.uptoBulkAll l
  | [] => by simp
  | x :: l => by
    rw [Rows.uptoBulkAll, List.length_cons]
    have := bulk_len l
    have := bulk_one x
    omega
theorem bulk_elems {H : Type} (elems spare : List (DataW H)) : Rows.uptoBulkAll elems + 1 ≤ Rows.uptoBulk (.slice elems spare) := by
  rw [Rows.uptoBulk]
  omega
/-- A slice that came in is no longer than the bulk. -/
theorem bulk_slice {H : Type} {enc : TypeId × Value → H} {w : World} {sp : Nat → Bool} {held : Bool} {n : Nat} {t e : TypeId} (ht : Tryz.prog.underlying t = some (.slice e)) {v : Value} {x : DataW H × List MemPlace} (h : DataW.trod enc Tryz.prog w 0 sp held n t [v] = some x) : ∀ p m c, v = .slice p m c → m ≤ Rows.uptoBulk x.1 := by
  rcases open_slice ht h with ⟨hcs, hx⟩ | ⟨a, len, cap, m, n', D, Pl, hcs, hb, hl, hm, em, hx, he⟩
  · injection hcs with hcs
    subst hcs
    intro p m c e
    injection e with _ e _
    omega
  · injection hcs with hcs
    subst hcs hx
    intro p k c e
    injection e with _ e _
    have h1 := bulk_elems ((List.range len).map D) ((List.range (m - len)).map fun j => D (len + j))
    have h2 := bulk_len ((List.range len).map D)
    rw [List.length_map, List.length_range] at h2
    show k ≤ Rows.uptoBulk (.slice _ _)
    omega
theorem bulk_rows {H : Type} {enc : TypeId × Value → H} {w : World} {sp : Nat → Bool} {held : Bool} {n : Nat} {v : Value} {x : DataW H × List MemPlace} (h : DataW.trod enc Tryz.prog w 0 sp held n 23 [v] = some x) {rs : List (List Val)} (hT : TabRows w v rs) : rs.length ≤ Rows.uptoBulk x.1 ∧ ∀ r ∈ rs, r.length ≤ Rows.uptoBulk x.1 := by
  obtain ⟨p, c, ev, hr⟩ := hT
  refine ⟨bulk_slice Tryz.underlying23 h _ _ _ ev, fun r hm => ?_⟩
  rcases hr with hr | ⟨b, off, rfl, hb, hr⟩
  · subst hr; cases hm
  obtain ⟨i, hi, rfl⟩ := List.getElem_of_mem hm
  rcases open_slice1 Tryz.underlying23 (by kernel_rfl) h with ⟨hcs, hx⟩ | ⟨a, len, cap, m, n', V, D, Pl, hcs, hb2, hl, hm2, em, hx, he⟩
  · injection hcs with hcs
    rw [hcs] at ev
    injection ev with _ e _
    omega
  · injection hcs with hcs
    rw [hcs] at ev
    injection ev with e1 e2 e3
    injection e1 with e1
    subst hx e1 e2
    have hlm : rs.length ≤ m := by rw [em]; split <;> omega
    obtain ⟨u, g1, g2⟩ := hr i hi
    obtain ⟨h1, h2⟩ := he i (by omega)
    rw [add_plain, g1] at h1
    injection h1 with h1
    subst h1
    obtain ⟨pu, cu, eu⟩ := g2.form
    have h3 := bulk_slice Tryz.underlying26 h2 _ _ _ eu
    have h4 := bulk_part (l := (List.range rs.length).map D) (d := D i) (List.mem_map.2 ⟨i, by simpa using hi, rfl⟩)
    have h5 := bulk_elems ((List.range rs.length).map D) ((List.range (m - rs.length)).map fun j => D (rs.length + j))
    show _ ≤ Rows.uptoBulk (.slice _ _)
    dsimp only at h3
    omega
theorem bulk_tab {H : Type} {enc : TypeId × Value → H} {W : World} {r : Reach} {b0 : Nat} {V R : Value} {d : DataW H} {p : List MemPlace} (hv : Value.okWide Tryz.prog W r b0 25 (.agg #[V, R])) (h : DataW.Trod enc Tryz.prog W 0 (fun _ => true) true 25 (.agg #[V, R]) d p) {vs : List ByteArray} {rs : List (List Val)} (h1 : StrsAt W V vs) (h2 : TabRows W R rs) : vs.length ≤ Rows.uptoBulk d ∧ rs.length ≤ Rows.uptoBulk d ∧ ∀ r ∈ rs, r.length ≤ Rows.uptoBulk d := by
  obtain ⟨V', R', y0, y1, n, e, ed, rfl, g0, g1⟩ := open_agg2 Tryz.underlying25 (by kernel_rfl) (by kernel_rfl) hv h
  injection e with e
  injection e with e
  simp only [List.cons.injEq, and_true] at e
  obtain ⟨rfl, rfl⟩ := e
  obtain ⟨pv, cv, ev⟩ := h1.form
  have k1 := bulk_slice Tryz.underlying22 g0 _ _ _ ev
  obtain ⟨k2, k3⟩ := bulk_rows g1 h2
  have e : Rows.uptoBulk d = Rows.uptoBulk y0.1 + (Rows.uptoBulk y1.1 + 0) + 1 := by rw [ed, Rows.uptoBulk, Rows.uptoBulkAll, Rows.uptoBulkAll, Rows.uptoBulkAll]
  refine ⟨by omega, by omega, fun r hr => ?_⟩
  have := k3 r hr
  omega
/-- Rows that came in, by the values that the cells hold. -/
theorem vals_in {W : World} {r : Reach} {base : Nat} {v : Value} {rs : List (List Val)} (ok : Cell.okWide Tryz.prog W r base 23 v) (h : TabRows W v rs) : ∃ us, ValsAt W v us ∧ RowsOf W us rs := by
  obtain ⟨p, c, rfl, h | ⟨b, off, rfl, hb, hr⟩⟩ := h
  · subst h
    cases p with
    | none => exact ⟨[], Or.inl ⟨c, rfl, rfl⟩, rfl, fun i h => absurd h (Nat.not_lt_zero _)⟩
    | some a =>
      obtain ⟨b, off, spot⟩ := a
      have hs : spot = none := by
        simp only [Cell.okWide, Cell.ok, Tryz.underlying23, World.has] at ok
        exact ok.2.2.2.1
      subst hs
      exact ⟨[], Or.inr ⟨b, off, c, rfl, Or.inl rfl, fun i h => absurd h (Nat.not_lt_zero _)⟩, rfl, fun i h => absurd h (Nat.not_lt_zero _)⟩
  · obtain ⟨f, hf⟩ := choose_lt (n := rs.length) (p := fun i v => W.cell? ⟨b, off + i, none⟩ = some v ∧ ∀ h : i < rs.length, RowAt W v rs[i]) (fun i hi => by
      obtain ⟨v, h1, h2⟩ := hr i hi
      exact ⟨v, h1, fun _ => h2⟩)
    refine ⟨(List.range rs.length).map f, Or.inr ⟨b, off, c, by simp, Or.inr hb, fun i h => ?_⟩, by simp, fun i h g => ?_⟩
    · rw [List.getElem_map, List.getElem_range]
      exact (hf i (by simpa using h)).1
    · rw [List.getElem_map, List.getElem_range]
      exact (hf i g).2 g
theorem cellT : Tryz.prog.cellTypes Tryz.prog.depth 25 = some [22, 23] := by kernel_rfl
theorem tab_cell {W : World} {r : Reach} {base : Nat} {V R : Value} (hv : Value.okWide Tryz.prog W r base 25 (.agg #[V, R])) : Cell.okWide Tryz.prog W r base 23 R := by
  simp only [Value.okWide, Tryz.underlying25] at hv
  obtain ⟨cs, e, -, ts, e1, -, h⟩ := hv
  rw [cellT] at e1
  injection e1 with e1
  injection e with e
  subst e e1
  obtain ⟨u, h1, h2⟩ := h 1 R rfl
  injection h1 with h1
  subst h1
  exact h2
/-- A table that came in, as the walks ask for it. -/
theorem openu_tab {H : Type} {enc : TypeId × Value → H} {W : World} {r : Reach} {b0 : Nat} {v : Value} {d : DataW H} {p : List MemPlace} (hv : Value.okWide Tryz.prog W r b0 25 v) (h : DataW.Trod enc Tryz.prog W 0 (fun _ => true) true 25 v d p) (hlt : ∀ y ∈ p, y.block < W.heap.size) (hk : Rows.uptoBulk d ≤ 1048576) :
    ∃ V R vs us rs, v = .agg #[V, R] ∧ TabAt W V R vs us rs ∧ (∀ p n c, V = .slice p n c → n ≤ c) ∧ (∀ p n c, R = .slice p n c → n ≤ c) ∧ vs.length ≤ 1048576 ∧ rs.length ≤ 1048576 ∧ ∀ r ∈ rs, r.length ≤ 1048576 := by
  obtain ⟨V, R, vs, rs, rfl, a1, a2, a3, a4, a5, a6, a7, a8⟩ := open_tab hv h hlt
  obtain ⟨k1, k2, k3⟩ := bulk_tab hv h a1 a4
  obtain ⟨us, u1, u2⟩ := vals_in (tab_cell hv) a4
  exact ⟨V, R, vs, us, rs, rfl, ⟨a1, u1, u2, a5, a6, a2, by have := u2.1; omega, fun u hu => u2.slices u hu⟩, a3, a8, by omega, by omega, fun r hr => by have := k3 r hr; omega⟩

end Go.Proofs.YtiliaincniiijaaGreat
