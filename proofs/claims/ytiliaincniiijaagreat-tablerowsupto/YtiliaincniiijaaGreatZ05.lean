/- The document's side: are two tables the same; is a row one of a table's? -/
import Derived.Test.YtiliaincniiijaaGreatZ04

namespace Go.Proofs.YtiliaincniiijaaGreat
open Go.RowKit Go.Shelf Go.Sort
set_option linter.unusedVariables false

/-- What stands behind one row more. -/
theorem arr_step2 (px : Option Addr) (nx cx : Nat) (pb : Option Addr) (nb cb : Nat) (A : Value) (zs : List Value) (v' : Value) (row : List Val) (rows : List (List Val)) (wr w7 wx w2 : World) (hTl : w7.heap.size < wr.heap.size)
    (HT2 : wx.heap[w7.heap.size]? = some (.cells #[A, .slice pb nb cb] 25 (0, 0))) (HOB2 : wx.ownsRow w7.heap.size 26 1 (.slice pb nb cb) zs.length zs) (HRS : OwnRs w7.heap.size zs rows wr) (HB : Below w7.heap.size w7 wr) (HW1 : Below wr.heap.size wr wx) (HX : OwnV wr.heap.size (.slice px nx cx) row wx)
    (h2 : w2.ownsRow w7.heap.size 26 1 v' (zs.length + 1) (zs ++ [.slice px nx cx])) (h3 : (wx.alloc (.cells #[.slice px nx cx] 26)).grownBy w2 (Value.slice pb nb cb).ownBlock) :
    ∃ pv nv cv, w2.heap[w7.heap.size]? = some (.cells #[A, .slice pb nb cb] 25 (0, 0)) ∧ w2.cell? ⟨w7.heap.size, 1, none⟩ = some (.slice pb nb cb) ∧ w2.frozen? ⟨w7.heap.size, 1, none⟩ = false ∧
      Hid (∃ b zs', (w2.setCell ⟨w7.heap.size, 1, none⟩ (.slice pv nv cv)).heap[w7.heap.size]? = some (.cells #[A, b] 25 (0, 0)) ∧ (w2.setCell ⟨w7.heap.size, 1, none⟩ (.slice pv nv cv)).ownsRow w7.heap.size 26 1 b zs'.length zs' ∧ OwnRs w7.heap.size zs' (rows ++ [row]) (w2.setCell ⟨w7.heap.size, 1, none⟩ (.slice pv nv cv)) ∧ Below w7.heap.size w7 (w2.setCell ⟨w7.heap.size, 1, none⟩ (.slice pv nv cv))) ∧ v' = .slice pv nv cv := by
  have hTl2 : w7.heap.size < wx.heap.size := Nat.lt_of_lt_of_le hTl HW1.size
  have hneT : (Value.slice pb nb cb).ownBlock ≠ some w7.heap.size := own_ne HOB2 HT2 (by decide)
  have T3 : w2.heap[w7.heap.size]? = some (.cells #[A, .slice pb nb cb] 25 (0, 0)) := (h3.block _ (by simp; omega) (fun e => hneT e.symm)).trans ((heap_alloc_lt wx _ hTl2).trans HT2)
  obtain ⟨pv, nv, cv, rfl⟩ : ∃ pv nv cv, v' = .slice pv nv cv := by
    obtain ⟨-, ⟨e, hn⟩ | ⟨g, cap, cur, e, -⟩⟩ := h2
    · exact ⟨_, _, _, e⟩
    · exact ⟨_, _, _, e⟩
  refine ⟨pv, nv, cv, T3, cell_of_heap T3 1 rfl, frozen_of_heap T3 1, ?_, rfl⟩
  have hg := grownBy_setCell w2 w7.heap.size 1 (.slice pv nv cv)
  have keepV : ∀ (u : Value) (r : List Val) (B : Nat), OwnV B u r wx → OwnV B u r (w2.setCell ⟨w7.heap.size, 1, none⟩ (.slice pv nv cv)) := fun u r B h => by
    have a1 := World.ownsRow.alloc h (.cells #[.slice px nx cx] 26)
    have a2 := World.ownsRow.kept a1 h3 (own_ne2 a1 (World.ownsRow.alloc HOB2 _) (by decide))
    exact World.ownsRow.kept a2 hg (Or.inr (own_ne a2 T3 (by decide)))
  refine ⟨.slice pv nv cv, zs ++ [.slice px nx cx], ?_, ?_, ?_, ?_⟩
  · rw [setCell_eq]
    show (w2.heap.modify _ _)[_]? = _
    rw [Array.getElem?_modify, if_pos rfl, T3]
    rfl
  · rw [List.length_append]
    exact World.ownsRow.kept h2 hg (Or.inr (own_ne h2 T3 (by decide)))
  · obtain ⟨hl, hr⟩ := HRS
    refine ⟨by simp [hl], fun i h1 h2 => ?_⟩
    by_cases hi : i < zs.length
    · rw [List.getElem_append_left hi, List.getElem_append_left (by omega)]
      exact keepV _ _ _ (own_below (hr i hi (by omega)) HW1)
    · have e1 : i = zs.length := by simp at h1; omega
      subst e1
      rw [List.getElem_append_right (Nat.le_refl _), List.getElem_append_right (by omega)]
      simp only [Nat.sub_self, hl, List.getElem_cons_zero]
      exact keepV _ _ _ (own_base HX (Nat.le_of_lt hTl))
  · have b1 : Below w7.heap.size w7 wx := HB.trans (HW1.mono HB.size)
    have b2 : Below w7.heap.size w7 w2 := Below.grown (b1.alloc b1.size _) h3 (by simp; have := b1.size; omega) (fun q hq => (World.ownsRow.lt HOB2 q hq).1)
    exact b2.grown hg b2.size (fun q hq => by injection hq with hq; omega)


/-- The rows that nothing fits. -/
def antiOf (G : List Val → List Value) (cs : List Nat) (rs : List (List Val)) : List (List Val) := rs.filter fun r => (G (padK (picks r cs))).isEmpty

set_option maxRecDepth 100000 in
set_option maxHeartbeats 8000000 in
theorem without_any {Va Ra Vb Rb : Value} {vs vs' : List ByteArray} {us us' : List Value} {rs qs : List (List Val)} {w : World} (hTa : TabAt w Va Ra vs us rs) (hTb : TabAt w Vb Rb vs' us' qs) (okA : OkT vs rs) (okB : OkT vs' qs) :
    Calls Tryz.prog 28 #[.agg #[Va, Ra], .agg #[Vb, Rb]] w fun e w' => ∃ t, e = .returned t ∧ OwnT w.heap.size t vs (antiOf (grp w ((bothL vs' 0 vs).map (·.2)) us') ((bothL vs' 0 vs).map (·.1)) rs) w' ∧ Below w.heap.size w w' := by
  obtain ⟨i0, hi, hz0, hz1, hz2⟩ := info_parts inR
  have lv := okA.few
  have lv' := okB.few
  obtain ⟨hcs0, hds0, -⟩ := both_cs (vs := vs) (vs' := vs')
  have lcs0 : ((bothL vs' 0 vs).map (·.1)).length ≤ 8 := by rw [List.length_map]; have := bothL_len (us := vs') vs 0; omega
  have lds0 : ((bothL vs' 0 vs).map (·.2)).length ≤ 8 := by rw [List.length_map]; have := bothL_len (us := vs') vs 0; omega
  have hpk : Hid (∀ x : List Val, x.length = vs.length → (picks x ((bothL vs' 0 vs).map (·.1))).length ≤ 8) := fun x hx => by
    rw [picks_len (fun c hc => by rw [hx]; exact hcs0 c hc)]
    exact lcs0
  have cb : Hid (∀ W, Below w.heap.size w W → Calls Tryz.prog 49 #[Va, Vb] W fun e w' => ∃ v v', e = .returned (.tuple #[v, v']) ∧ OwnI W.heap.size v ((bothL vs' 0 vs).map (·.1)) w' ∧ OwnI W.heap.size v' ((bothL vs' 0 vs).map (·.2)) w' ∧ Below W.heap.size W w') := fun W hW => cboth_any Va Vb vs vs' W (hTa.vars.below hW) (hTb.vars.below hW) (by omega) (by omega)
  generalize (bothL vs' 0 vs).map (·.1) = cs at *
  generalize (bothL vs' 0 vs).map (·.2) = ds at *
  have hrowq : ∀ u ∈ us', RowAt w u (rwOf w u) ∧ okR (rwOf w u) ∧ (rwOf w u).length = vs'.length := fun u hu => by
    obtain ⟨i, hi, e⟩ := List.getElem_of_mem hu
    have g : i < qs.length := by have := hTb.rows.1; omega
    have h := hTb.rows.2 i hi g
    rw [e] at h
    rw [rwOf_eq h]
    exact ⟨h, (okB.rows _ (List.getElem_mem g)).2, (okB.rows _ (List.getElem_mem g)).1⟩
  have hfit : ∀ u ∈ us', Fit w ds u := fun u hu => by
    obtain ⟨a, b, c⟩ := hrowq u hu
    exact ⟨_, a, b, fun d hd => by rw [c]; exact hds0 d hd, by omega⟩
  have ix : Hid (∀ (W : World) (D : Value), Below w.heap.size w W → IntsAt W D ds → Calls Tryz.prog 50 #[Rb, D] W fun e w' => e = .returned (.map (some W.heap.size)) ∧ MapG w' W.heap.size (W.heap.size + 1) us'.length (grp w ds us') ∧ Below W.heap.size W w') := fun W D hW hD => by
    have h := index_any Rb D us' ds W (hTb.vals.below hW) hD (fun u hu => (hfit u hu).below hW) lds0 hTb.many
    rw [grp_below hfit hW] at h
    exact h
  have kc : Hid (∀ (W : World) (u : Value) (x : List Val) (D : Value), RowAt W u x → IntsAt W D cs → x.length = vs.length → Calls Tryz.prog 51 #[u, D] W fun e w' => e = .returned (keyV (padK (picks x cs))) ∧ Below W.heap.size W w') := fun W u x D hu hD hx => keyOf_any u D x cs W hu hD (fun c hc => by rw [hx]; exact hcs0 c hc) (by omega) lcs0
  have cS : Hid (∀ W, Below w.heap.size w W → Calls Tryz.prog 26 #[Va] W fun e w' => ∃ v, e = .returned v ∧ OwnS W.heap.size v vs w' ∧ Below W.heap.size W w') := fun W hW => cloneS_any Va vs W (hTa.vars.below hW) (by omega)
  have HPL : Hid (∀ u ∈ us, Plain u) := hTa.plain
  have HOR : Hid (∀ r ∈ rs, r.length = vs.length ∧ okR r) := okA.rows
  have HR : Hid (RowsOf w us rs) := hTa.rows
  obtain ⟨p1, k1, rfl⟩ := hTa.vars.form
  obtain ⟨p2, k2, rfl⟩ := hTb.vars.form
  obtain ⟨p3, k3, rfl, H3⟩ := hTa.vals.form
  obtain ⟨p4, k4, rfl, -⟩ := hTb.vals.form
  have HV : Hid (∀ k (hk : k < us.length), ∃ b off, p3 = some ⟨b, off, none⟩ ∧ b < w.heap.size ∧ w.cell? ⟨b, off + k, none⟩ = some us[k]) := H3
  have lu := hTa.many
  have lu' := hTb.many
  clear hTa hTb okA okB hrowq hfit H3
  obtain ⟨G, eG⟩ : ∃ G, Hid (grp w ds us' = G) := ⟨_, rfl⟩
  rw [eG.out] at ix ⊢
  obtain ⟨F, eF⟩ : ∃ F, Hid (antiOf G cs rs = F) := ⟨_, rfl⟩
  rw [eF.out]
  obtain ⟨n, en⟩ : ∃ n : Nat, Hid (us.length = n) := ⟨_, rfl⟩
  obtain ⟨m, em⟩ : ∃ n : Nat, Hid (us'.length = n) := ⟨_, rfl⟩
  rw [en.out] at lu ⊢
  rw [em.out] at lu' ix ⊢
  generalize vs.length = n1 at *
  generalize vs'.length = n2 at *
  go_enter Tryz.func28, Tryz.ntmps28
  go_upto_region 1 with fail
  refine wp_world ?_
  intro W0 hW0
  have bx0 : Hid (Box3 W0 w.heap.size (.slice p1 n1 k1) (.slice p3 n k3) (.slice p2 n2 k2) (.slice p4 m k4)) := by rw [hW0]; exact Box3.made _ _ _ _ _
  have K0 : Below w.heap.size w W0 := by rw [hW0]; go_grown
  have z0 : W0.heap.size = w.heap.size + 3 := by rw [hW0]; simp
  clear hW0
  have A0 := cell_of_heap bx0.out.a 0 rfl
  have B0 := cell_of_heap bx0.out.b 0 rfl
  go_wp2_with fail
  refine (cb.out W0 K0).mono ?_
  rintro e w1 ⟨vo, vt, rfl, o1, o2, hb1⟩
  have bx1 : Hid (Box3 w1 w.heap.size (.slice p1 n1 k1) (.slice p3 n k3) (.slice p2 n2 k2) (.slice p4 m k4)) := bx0.out.below hb1
  have K1 : Below w.heap.size w w1 := K0.trans (hb1.mono K0.size)
  have z1 : w.heap.size + 3 ≤ w1.heap.size := by have := hb1.size; omega
  have I1 : Hid (IntsAt w1 vo cs) := o1.ints
  have I2 : Hid (IntsAt w1 vt ds) := o2.ints
  obtain ⟨po, ko, eo⟩ := o1.ints.form
  obtain ⟨pt, kt, et⟩ := o2.ints.form
  generalize cs.length = no at *
  generalize ds.length = nt at *
  subst eo et
  clear A0 B0 o1 o2 cb K0 hb1 bx0 z0
  have b1 := cell_of_heap bx1.out.b 1 rfl
  go_wp2_with fail
  refine (ix.out w1 _ K1 I2.out).mono ?_
  rintro e w2 ⟨rfl, hM, hb2⟩
  have bx2 : Hid (Box3 w2 w.heap.size (.slice p1 n1 k1) (.slice p3 n k3) (.slice p2 n2 k2) (.slice p4 m k4)) := bx1.out.below hb2
  have K2 : Below w.heap.size w w2 := K1.trans (hb2.mono K1.size)
  have J1 : Hid (IntsAt w2 (.slice po no ko) cs) := I1.out.below hb2
  have HM : Hid (MapG w2 w1.heap.size (w1.heap.size + 1) m G) := hM
  have z2 : w.heap.size + 3 ≤ w2.heap.size := Nat.le_trans z1 hb2.size
  clear b1 I1 I2 ix hM hb2 bx1 K1
  have a0 := cell_of_heap bx2.out.a 0 rfl
  go_wp2_with fail
  refine (cS.out w2 K2).mono ?_
  rintro e w7 ⟨vv, rfl, ov, hb7⟩
  obtain ⟨pA, nA, cA, rfl⟩ := slice_of ov
  have bx7 : Hid (Box3 w7 w.heap.size (.slice p1 n1 k1) (.slice p3 n k3) (.slice p2 n2 k2) (.slice p4 m k4)) := bx2.out.below hb7
  have OV : Hid (OwnS w2.heap.size (.slice pA nA cA) vs w7) := ov
  have B7 : Below w2.heap.size w2 w7 := hb7
  clear a0 cS ov hb7 bx2
  have a1 := cell_of_heap (bx7.out.below ((Below.refl _ _).alloc (Nat.le_refl _) (.cells #[.slice pA nA cA, .slice none 0 0] 25))).a 1 rfl
  have z7 : w.heap.size + 3 ≤ w7.heap.size := Nat.le_trans z2 B7.size
  go_wp2
  go_loopw [30] (fun i wr => ∃ k : Nat, k ≤ n ∧ i = .int .i64 k ∧ Hid (∃ b zs, wr.heap[w7.heap.size]? = some (.cells #[.slice pA nA cA, b] 25 (0, 0)) ∧ wr.ownsRow w7.heap.size 26 1 b zs.length zs ∧ OwnRs w7.heap.size zs (antiOf G cs (rs.take k)) wr ∧ Below w7.heap.size w7 wr)) (fun i _ => n - (intOf i).toNat)
  case atStart => exact ⟨0, Nat.zero_le _, rfl, ⟨.slice none 0 0, [], heap_alloc _ _, World.ownsRow_nil _ _ _ _, (show OwnRs _ [] (antiOf G cs (rs.take 0)) _ by simpa [antiOf] using OwnRs.nil _ _), (Below.refl _ _).alloc (Nat.le_refl _) _⟩⟩
  case round =>
    obtain ⟨k, hk, rfl, hI⟩ := hrel
    obtain ⟨b, zs, hT, hob, hrs, hB⟩ := hI.out
    have KI : Below w2.heap.size w2 wr := B7.trans (hB.mono B7.size)
    have KW : Below w.heap.size w wr := K2.trans (KI.mono K2.size)
    by_cases hlt : k < n
    · have kx : k < us.length := by have := en.out; omega
      have ky : k < rs.length := by have := en.out; have := HR.out.1; omega
      obtain ⟨bb, off, rfl, hbb, q1⟩ := HV.out k kx
      have q2 : wr.cell? ⟨bb, off + k, none⟩ = some us[k] := (KW.cell (p := ⟨bb, _, none⟩) hbb).trans q1
      have hx0 := HR.out.2 k kx ky
      have hx := hx0.below KW
      obtain ⟨hxl, hxo⟩ := HOR.out _ (List.getElem_mem ky)
      have hpu := HPL.out _ (List.getElem_mem kx)
      have htk : rs.take (k + 1) = rs.take k ++ [rs[k]] := List.take_succ_eq_append_getElem ky
      have hF2 : Hid (antiOf G cs (rs.take (k + 1)) = antiOf G cs (rs.take k) ++ if (G (padK (picks rs[k] cs))).isEmpty = true then [rs[k]] else []) := by
        show _ = _
        unfold antiOf
        rw [htk, List.filter_append]
        congr 1
        by_cases h : (G (padK (picks rs[k] cs))).isEmpty = true <;> simp [h]
      have hzl : zs.length ≤ k := by
        have h1 := hrs.1
        have h2 : (antiOf G cs (rs.take k)).length ≤ (rs.take k).length := List.length_filter_le ..
        rw [List.length_take] at h2
        omega
      clear q1 htk
      generalize us[k] = u at q2 hx hx0 hpu
      generalize rs[k] = x at hx hx0 hxl hxo hF2
      have hpl : (picks x cs).length ≤ 8 := hpk.out x hxl
      have hkb : ∀ v ∈ padK (picks x cs), Kb v := fun v hv => by
        rcases List.mem_append.1 hv with hv | hv
        · exact kb_of (hxo.picks cs v hv).1 (hxo.picks cs v hv).2
        · rw [List.eq_of_mem_replicate hv]; exact kb_val0
      obtain ⟨kl, hkl⟩ := keyV_key (padK_len hpl) hkb
      obtain ⟨gv, hgo, hgr⟩ := HM.out.at2 (padK_len hpl) hkl
      have kcall : Hid (Calls Tryz.prog 51 #[u, .slice po no ko] wr fun e w' => e = .returned (keyV (padK (picks x cs))) ∧ Below wr.heap.size wr w') := kc.out wr u x _ hx (J1.out.below KI) hxl
      obtain ⟨pg, cg, rfl, -⟩ := own_form hgo
      have CV : Hid (∀ W, Below w.heap.size w W → Calls Tryz.prog 47 #[u] W fun e w' => ∃ v, e = .returned v ∧ OwnV W.heap.size v x w' ∧ Below W.heap.size W w') := fun W hW => cloneV_any u x W (hx0.below hW) (by omega) hpu
      obtain ⟨pu, cu, rfl⟩ := hx.form
      rw [hxl] at q2 kcall CV
      generalize padK (picks x cs) = ks at hF2 hgo hgr kcall hkl
      clear hpl hkb hx hx0 hxo hxl hpu
      obtain ⟨m2, em2⟩ : ∃ m2 : Nat, Hid ((G ks).length = m2) := ⟨_, rfl⟩
      rw [em2.out] at hgr
      obtain ⟨KV, eKV⟩ : ∃ KV, Hid (keyV ks = KV) := ⟨_, rfl⟩
      rw [eKV.out] at kcall hgr
      have HGR : Hid (∀ W, Below w2.heap.size w2 W → (Instr.lookup 76 (.map (some w1.heap.size)) KV false).run Tryz.prog W = .ok (.slice pg m2 cg) W) := hgr
      have hm2 : m2 ≤ 5864062014805 := by
        have h := grp_len w ds us' ks
        rw [eG.out] at h
        have := em2.out
        have := em.out
        omega
      have HT0 : Hid (wr.heap[w7.heap.size]? = some (.cells #[.slice pA nA cA, b] 25 (0, 0))) := hT
      have HOB0 : Hid (wr.ownsRow w7.heap.size 26 1 b zs.length zs) := hob
      have HRS0 : Hid (OwnRs w7.heap.size zs (antiOf G cs (rs.take k)) wr) := hrs
      have HB0 : Hid (Below w7.heap.size w7 wr) := hB
      clear hgo hgr hkl hT hob hrs hB hI
      go_wp2_with fail
      refine kcall.out.mono ?_
      rintro e w3 ⟨rfl, hb3⟩
      have hrun := HGR.out w3 (KI.trans (hb3.mono KI.size))
      have KW3 : Below w.heap.size w w3 := KW.trans (hb3.mono KW.size)
      have HT3 : Hid (w3.heap[w7.heap.size]? = some (.cells #[.slice pA nA cA, b] 25 (0, 0))) := (hb3.block _ (Array.getElem?_eq_some_iff.1 HT0.out).1).trans HT0.out
      have HOB3 : Hid (w3.ownsRow w7.heap.size 26 1 b zs.length zs) := own_below HOB0.out hb3
      have HRS3 : Hid (OwnRs w7.heap.size zs (antiOf G cs (rs.take k)) w3) := HRS0.out.below hb3
      have HB3 : Hid (Below w7.heap.size w7 w3) := HB0.out.trans (hb3.mono HB0.out.size)
      clear kcall q2 HT0 HOB0 HRS0 HB0 hb3 HGR KW KI
      by_cases hm0 : m2 = 0
      · subst hm0
        have hstep : Hid (antiOf G cs (rs.take (k + 1)) = antiOf G cs (rs.take k) ++ [x]) := by
          have h := hF2.out
          have h0 : (G ks).isEmpty = true := by rw [List.isEmpty_iff]; exact List.eq_nil_of_length_eq_zero em2.out
          rw [if_pos h0] at h
          exact h
        clear hF2
        obtain ⟨pb, nb, cb, rfl⟩ := slice_of HOB3.out
        have HT : Hid (w3.heap[w7.heap.size]? = some (.cells #[.slice pA nA cA, .slice pb nb cb] 25 (0, 0))) := HT3
        have HOB : Hid (w3.ownsRow w7.heap.size 26 1 (.slice pb nb cb) zs.length zs) := HOB3
        have HRS : Hid (OwnRs w7.heap.size zs (antiOf G cs (rs.take k)) w3) := HRS3
        have HB : Hid (Below w7.heap.size w7 w3) := HB3
        have t1 : w3.cell? ⟨w7.heap.size, 1, none⟩ = some (.slice pb nb cb) := cell_of_heap HT3.out 1 rfl
        have hTl : w7.heap.size < w3.heap.size := (Array.getElem?_eq_some_iff.1 HT3.out).1
        have PV : Hid (∀ W, Below w3.heap.size w3 W → Calls Tryz.prog 47 #[.slice pu n1 cu] W fun e w' => ∃ v, e = .returned v ∧ OwnV W.heap.size v x w' ∧ Below W.heap.size W w') := fun W hW => CV.out W (KW3.trans (hW.mono KW3.size))
        clear HT3 HOB3 HRS3 HB3 CV
        go_upto_region 8 with (refine wpList_lookup_run _ rfl (.tmp 34) (.tmp 37) 76 rfl (.map (some w1.heap.size)) KV rfl rfl (.slice pg 0 cg) w3 hrun ?_)
        refine wp_region_held_drew (S := fun _ => True) (by kernel_rfl) trivial (fun hHeld => ?_)
        refine wpAnyH_take (i := 0) (oi := ({ dst := some 41, op := Op.fieldAddr 25 (Operand.tmp 8) 1, type := 0, pos := "table.go:313", after := #[], guard := none } : Oper)) (v := ?yv4) rfl (by kernel_rfl) (by kernel_rfl) (by kernel_rfl) (fun _ _ _ h => h) (Or.inl ⟨by rfl, ?yh4⟩) (by assumption) ?yr4
        case yh4 => (intro wq hSw; (try dsimp only at hSw); go_simp; first | done | with_reducible rfl)
        try simp only [Act.put, List.setIfInBounds_toArray, List.set_cons_zero, List.set_cons_succ]
        refine wpAnyH_take (i := 2) (oi := ({ dst := some 43, op := Op.move (Operand.tmp 10), type := 26, pos := "table.go:313", after := #[], guard := none } : Oper)) (v := ?yv5) rfl (by kernel_rfl) (by kernel_rfl) (by kernel_rfl) (fun _ _ _ h => h) (Or.inl ⟨by rfl, ?yh5⟩) (by assumption) ?yr5
        case yh5 => (intro wq hSw; (try dsimp only at hSw); go_simp; first | done | with_reducible rfl)
        try simp only [Act.put, List.setIfInBounds_toArray, List.set_cons_zero, List.set_cons_succ]
        refine wpAnyH_ready (rs := [1, 3]) (by kernel_rfl) (by simp) ?_
        refine AllReadyH.cons (o := ({ dst := some 42, op := Op.load 23 (Operand.tmp 41), type := 23, pos := "table.go:313", after := #[{ on := 0, ground := Ground.data }], guard := none } : Oper)) rfl (fun K hK => ?_) (AllReadyH.cons (o := ({ dst := some 44, op := Op.call { callee := Callee.value (Operand.func 47), args := #[Operand.tmp 43], argTypes := #[26] }, type := 26, pos := "table.go:313", after := #[{ on := 2, ground := Ground.data }], guard := none } : Oper)) rfl (fun K hK => ?_) AllReadyH.nil)
        · go_simp
          refine hK.out _ _ trivial (fun hHeld => ?_)
          clear hK K
          try simp only [Act.put, List.setIfInBounds_toArray, List.set_cons_zero, List.set_cons_succ]
          refine wpAnyH_ready (rs := [3]) (by kernel_rfl) (by simp) ?_
          refine AllReadyH.cons (o := ({ dst := some 44, op := Op.call { callee := Callee.value (Operand.func 47), args := #[Operand.tmp 43], argTypes := #[26] }, type := 26, pos := "table.go:313", after := #[{ on := 2, ground := Ground.data }], guard := none } : Oper)) rfl (fun K hK => ?_) AllReadyH.nil
          go_simp
          refine (PV.out _ (by go_grown)).mono ?_
          rintro e wx ⟨xv, rfl, hox, hbx⟩
          have hw1 : Below w3.heap.size w3 wx := ⟨hbx.os, hbx.tape, hbx.output, hbx.size, hbx.block⟩
          have HX : Hid (OwnV w3.heap.size xv x wx) := hox
          obtain ⟨px, nx, cx, rfl⟩ := slice_of hox
          have T2 : wx.heap[w7.heap.size]? = some (.cells #[.slice pA nA cA, .slice pb nb cb] 25 (0, 0)) := (hw1.block _ hTl).trans HT.out
          have t2 : wx.cell? ⟨w7.heap.size, 1, none⟩ = some (.slice pb nb cb) := cell_of_heap T2 1 rfl
          have OB2 := own_below HOB.out hw1
          have HT2 : Hid (wx.heap[w7.heap.size]? = some (.cells #[.slice pA nA cA, .slice pb nb cb] 25 (0, 0))) := T2
          have HOB2 : Hid (wx.ownsRow w7.heap.size 26 1 (.slice pb nb cb) zs.length zs) := OB2
          have HW1 : Hid (Below w3.heap.size w3 wx) := hw1
          have hTl2 : w7.heap.size < wx.heap.size := Nat.lt_of_lt_of_le hTl hw1.size
          clear hox hbx hw1 T2 OB2 HOB HT PV t1
          dsimp only
          refine hK.out _ _ trivial (fun hHeld => ?_)
          clear hK K
          try simp only [Act.put, List.setIfInBounds_toArray, List.set_cons_zero, List.set_cons_succ]
          refine wpAnyH_ready (rs := [4]) (by kernel_rfl) (by simp) ?_
          refine AllReadyH.cons (o := ({ dst := some 45, op := Op.buildSlice 23 1 #[(0, Operand.tmp 44)], type := 23, pos := "table.go:313", after := #[{ on := 3, ground := Ground.data }], guard := none } : Oper)) rfl (fun K hK => ?_) AllReadyH.nil
          go_simp
          refine hK.out _ _ trivial (fun hHeld => ?_)
          clear hK K
          try simp only [Act.put, List.setIfInBounds_toArray, List.set_cons_zero, List.set_cons_succ]
          refine wpAnyH_ready (rs := [5]) (by kernel_rfl) (by simp) ?_
          refine AllReadyH.cons (o := ({ dst := some 46, op := Op.call { callee := Callee.builtin Builtin.append, args := #[Operand.tmp 42, Operand.tmp 45], argTypes := #[23, 23] }, type := 23, pos := "table.go:313", after := #[{ on := 1, ground := Ground.data }, { on := 4, ground := Ground.data }, { on := 3, ground := Ground.chain }], guard := none } : Oper)) rfl (fun K hK => ?_) AllReadyH.nil
          refine step_appendR rfl (.tmp 42) (.tmp 45) 23 rfl w7.heap.size 26 i0 (.slice none 0 0) 1 24 Tryz.underlying23 hi hz0 hz1 hz2 rfl (by decide) (.slice pb nb cb) _ _ (by simp [Act.eval]) (World.ownsRow.alloc HOB2.out _) ⟨wx.heap.size, 0, none⟩ 1 1 [.slice px nx cx] (by simp [Act.eval]) rfl ?c1A ?c2A (by unfold maxLen; omega) (by omega) (by simp; omega) (fun v' w2 h2 h3 => ?_)
          case c1A => (intro j u hj; rw [Addr.add_lit]; (rcases j with _ | j) <;> simp at hj; subst hj; simp (maxDischargeDepth := 12) [go_sem])
          case c2A => (intro u hu; simp at hu; subst hu; rfl)
          obtain ⟨pv, nv, cv, T3, t3, f3, W3, rfl⟩ := arr_step2 px nx cx pb nb cb (.slice pA nA cA) zs v' _ _ w3 w7 wx w2 hTl HT2.out HOB2.out HRS.out HB.out HW1.out HX.out h2 h3
          rw [← hstep.out] at W3
          clear h2 h3 T3 HX HRS hstep HB HW1 HOB2 HT2
          refine hK.out _ _ trivial (fun hHeld => ?_)
          clear hK K
          try simp only [Act.put, List.setIfInBounds_toArray, List.set_cons_zero, List.set_cons_succ]
          refine wpAnyH_take (i := 6) (oi := ({ dst := some 47, op := Op.fieldAddr 25 (Operand.tmp 8) 1, type := 0, pos := "table.go:313", after := #[{ on := 0, ground := Ground.phase }, { on := 1, ground := Ground.phase }, { on := 2, ground := Ground.phase }, { on := 3, ground := Ground.phase }, { on := 4, ground := Ground.phase }, { on := 5, ground := Ground.phase }], guard := none } : Oper)) (v := ?yv1) rfl (by kernel_rfl) (by kernel_rfl) (by kernel_rfl) (fun _ _ _ h => h) (Or.inl ⟨by rfl, ?yh1⟩) (by assumption) ?yr1
          case yh1 => (intro wq hSw; (try dsimp only at hSw); go_simp; first | done | with_reducible rfl)
          try simp only [Act.put, List.setIfInBounds_toArray, List.set_cons_zero, List.set_cons_succ]
          refine wpAnyH_ready (rs := [7]) (by kernel_rfl) (by simp) ?_
          refine AllReadyH.cons (o := ({ dst := none, op := Op.store 23 (Operand.tmp 47) (Operand.tmp 46), type := 0, pos := "table.go:313", after := #[{ on := 6, ground := Ground.data }, { on := 5, ground := Ground.data }, { on := 5, ground := Ground.chain }, { on := 0, ground := Ground.phase }, { on := 1, ground := Ground.phase }, { on := 2, ground := Ground.phase }, { on := 3, ground := Ground.phase }, { on := 4, ground := Ground.phase }, { on := 5, ground := Ground.phase }], guard := none } : Oper)) rfl (fun K hK => ?_) AllReadyH.nil
          go_simp
          refine hK.out _ _ trivial (fun hHeld => ?_)
          clear hK K
          try simp only [Act.put, List.setIfInBounds_toArray, List.set_cons_zero, List.set_cons_succ]
          refine wpAnyH_done (by kernel_rfl) ?_ _
          clear t3 f3
          (try go_wp2)
          exact ⟨⟨k + 1, by omega, by go_num, W3⟩, by simp [intOf]; omega⟩
        · go_simp
          refine (PV.out _ (by go_grown)).mono ?_
          rintro e wx ⟨xv, rfl, hox, hbx⟩
          have hw1 : Below w3.heap.size w3 wx := ⟨hbx.os, hbx.tape, hbx.output, hbx.size, hbx.block⟩
          have HX : Hid (OwnV w3.heap.size xv x wx) := hox
          obtain ⟨px, nx, cx, rfl⟩ := slice_of hox
          have T2 : wx.heap[w7.heap.size]? = some (.cells #[.slice pA nA cA, .slice pb nb cb] 25 (0, 0)) := (hw1.block _ hTl).trans HT.out
          have t2 : wx.cell? ⟨w7.heap.size, 1, none⟩ = some (.slice pb nb cb) := cell_of_heap T2 1 rfl
          have OB2 := own_below HOB.out hw1
          have HT2 : Hid (wx.heap[w7.heap.size]? = some (.cells #[.slice pA nA cA, .slice pb nb cb] 25 (0, 0))) := T2
          have HOB2 : Hid (wx.ownsRow w7.heap.size 26 1 (.slice pb nb cb) zs.length zs) := OB2
          have HW1 : Hid (Below w3.heap.size w3 wx) := hw1
          have hTl2 : w7.heap.size < wx.heap.size := Nat.lt_of_lt_of_le hTl hw1.size
          clear hox hbx hw1 T2 OB2 HOB HT PV t1
          dsimp only
          refine hK.out _ _ trivial (fun hHeld => ?_)
          clear hK K
          try simp only [Act.put, List.setIfInBounds_toArray, List.set_cons_zero, List.set_cons_succ]
          refine wpAnyH_ready (rs := [1, 4]) (by kernel_rfl) (by simp) ?_
          refine AllReadyH.cons (o := ({ dst := some 42, op := Op.load 23 (Operand.tmp 41), type := 23, pos := "table.go:313", after := #[{ on := 0, ground := Ground.data }], guard := none } : Oper)) rfl (fun K hK => ?_) (AllReadyH.cons (o := ({ dst := some 45, op := Op.buildSlice 23 1 #[(0, Operand.tmp 44)], type := 23, pos := "table.go:313", after := #[{ on := 3, ground := Ground.data }], guard := none } : Oper)) rfl (fun K hK => ?_) AllReadyH.nil)
          · go_simp
            refine hK.out _ _ trivial (fun hHeld => ?_)
            clear hK K
            try simp only [Act.put, List.setIfInBounds_toArray, List.set_cons_zero, List.set_cons_succ]
            refine wpAnyH_ready (rs := [4]) (by kernel_rfl) (by simp) ?_
            refine AllReadyH.cons (o := ({ dst := some 45, op := Op.buildSlice 23 1 #[(0, Operand.tmp 44)], type := 23, pos := "table.go:313", after := #[{ on := 3, ground := Ground.data }], guard := none } : Oper)) rfl (fun K hK => ?_) AllReadyH.nil
            go_simp
            refine hK.out _ _ trivial (fun hHeld => ?_)
            clear hK K
            try simp only [Act.put, List.setIfInBounds_toArray, List.set_cons_zero, List.set_cons_succ]
            refine wpAnyH_ready (rs := [5]) (by kernel_rfl) (by simp) ?_
            refine AllReadyH.cons (o := ({ dst := some 46, op := Op.call { callee := Callee.builtin Builtin.append, args := #[Operand.tmp 42, Operand.tmp 45], argTypes := #[23, 23] }, type := 23, pos := "table.go:313", after := #[{ on := 1, ground := Ground.data }, { on := 4, ground := Ground.data }, { on := 3, ground := Ground.chain }], guard := none } : Oper)) rfl (fun K hK => ?_) AllReadyH.nil
            refine step_appendR rfl (.tmp 42) (.tmp 45) 23 rfl w7.heap.size 26 i0 (.slice none 0 0) 1 24 Tryz.underlying23 hi hz0 hz1 hz2 rfl (by decide) (.slice pb nb cb) _ _ (by simp [Act.eval]) (World.ownsRow.alloc HOB2.out _) ⟨wx.heap.size, 0, none⟩ 1 1 [.slice px nx cx] (by simp [Act.eval]) rfl ?c1A ?c2A (by unfold maxLen; omega) (by omega) (by simp; omega) (fun v' w2 h2 h3 => ?_)
            case c1A => (intro j u hj; rw [Addr.add_lit]; (rcases j with _ | j) <;> simp at hj; subst hj; simp (maxDischargeDepth := 12) [go_sem])
            case c2A => (intro u hu; simp at hu; subst hu; rfl)
            obtain ⟨pv, nv, cv, T3, t3, f3, W3, rfl⟩ := arr_step2 px nx cx pb nb cb (.slice pA nA cA) zs v' _ _ w3 w7 wx w2 hTl HT2.out HOB2.out HRS.out HB.out HW1.out HX.out h2 h3
            rw [← hstep.out] at W3
            clear h2 h3 T3 HX HRS hstep HB HW1 HOB2 HT2
            refine hK.out _ _ trivial (fun hHeld => ?_)
            clear hK K
            try simp only [Act.put, List.setIfInBounds_toArray, List.set_cons_zero, List.set_cons_succ]
            refine wpAnyH_take (i := 6) (oi := ({ dst := some 47, op := Op.fieldAddr 25 (Operand.tmp 8) 1, type := 0, pos := "table.go:313", after := #[{ on := 0, ground := Ground.phase }, { on := 1, ground := Ground.phase }, { on := 2, ground := Ground.phase }, { on := 3, ground := Ground.phase }, { on := 4, ground := Ground.phase }, { on := 5, ground := Ground.phase }], guard := none } : Oper)) (v := ?yv2) rfl (by kernel_rfl) (by kernel_rfl) (by kernel_rfl) (fun _ _ _ h => h) (Or.inl ⟨by rfl, ?yh2⟩) (by assumption) ?yr2
            case yh2 => (intro wq hSw; (try dsimp only at hSw); go_simp; first | done | with_reducible rfl)
            try simp only [Act.put, List.setIfInBounds_toArray, List.set_cons_zero, List.set_cons_succ]
            refine wpAnyH_ready (rs := [7]) (by kernel_rfl) (by simp) ?_
            refine AllReadyH.cons (o := ({ dst := none, op := Op.store 23 (Operand.tmp 47) (Operand.tmp 46), type := 0, pos := "table.go:313", after := #[{ on := 6, ground := Ground.data }, { on := 5, ground := Ground.data }, { on := 5, ground := Ground.chain }, { on := 0, ground := Ground.phase }, { on := 1, ground := Ground.phase }, { on := 2, ground := Ground.phase }, { on := 3, ground := Ground.phase }, { on := 4, ground := Ground.phase }, { on := 5, ground := Ground.phase }], guard := none } : Oper)) rfl (fun K hK => ?_) AllReadyH.nil
            go_simp
            refine hK.out _ _ trivial (fun hHeld => ?_)
            clear hK K
            try simp only [Act.put, List.setIfInBounds_toArray, List.set_cons_zero, List.set_cons_succ]
            refine wpAnyH_done (by kernel_rfl) ?_ _
            clear t3 f3
            (try go_wp2)
            exact ⟨⟨k + 1, by omega, by go_num, W3⟩, by simp [intOf]; omega⟩
          · go_simp
            refine hK.out _ _ trivial (fun hHeld => ?_)
            clear hK K
            try simp only [Act.put, List.setIfInBounds_toArray, List.set_cons_zero, List.set_cons_succ]
            refine wpAnyH_ready (rs := [1]) (by kernel_rfl) (by simp) ?_
            refine AllReadyH.cons (o := ({ dst := some 42, op := Op.load 23 (Operand.tmp 41), type := 23, pos := "table.go:313", after := #[{ on := 0, ground := Ground.data }], guard := none } : Oper)) rfl (fun K hK => ?_) AllReadyH.nil
            go_simp
            refine hK.out _ _ trivial (fun hHeld => ?_)
            clear hK K
            try simp only [Act.put, List.setIfInBounds_toArray, List.set_cons_zero, List.set_cons_succ]
            refine wpAnyH_ready (rs := [5]) (by kernel_rfl) (by simp) ?_
            refine AllReadyH.cons (o := ({ dst := some 46, op := Op.call { callee := Callee.builtin Builtin.append, args := #[Operand.tmp 42, Operand.tmp 45], argTypes := #[23, 23] }, type := 23, pos := "table.go:313", after := #[{ on := 1, ground := Ground.data }, { on := 4, ground := Ground.data }, { on := 3, ground := Ground.chain }], guard := none } : Oper)) rfl (fun K hK => ?_) AllReadyH.nil
            refine step_appendR rfl (.tmp 42) (.tmp 45) 23 rfl w7.heap.size 26 i0 (.slice none 0 0) 1 24 Tryz.underlying23 hi hz0 hz1 hz2 rfl (by decide) (.slice pb nb cb) _ _ (by simp [Act.eval]) (World.ownsRow.alloc HOB2.out _) ⟨wx.heap.size, 0, none⟩ 1 1 [.slice px nx cx] (by simp [Act.eval]) rfl ?c1A ?c2A (by unfold maxLen; omega) (by omega) (by simp; omega) (fun v' w2 h2 h3 => ?_)
            case c1A => (intro j u hj; rw [Addr.add_lit]; (rcases j with _ | j) <;> simp at hj; subst hj; simp (maxDischargeDepth := 12) [go_sem])
            case c2A => (intro u hu; simp at hu; subst hu; rfl)
            obtain ⟨pv, nv, cv, T3, t3, f3, W3, rfl⟩ := arr_step2 px nx cx pb nb cb (.slice pA nA cA) zs v' _ _ w3 w7 wx w2 hTl HT2.out HOB2.out HRS.out HB.out HW1.out HX.out h2 h3
            rw [← hstep.out] at W3
            clear h2 h3 T3 HX HRS hstep HB HW1 HOB2 HT2
            refine hK.out _ _ trivial (fun hHeld => ?_)
            clear hK K
            try simp only [Act.put, List.setIfInBounds_toArray, List.set_cons_zero, List.set_cons_succ]
            refine wpAnyH_take (i := 6) (oi := ({ dst := some 47, op := Op.fieldAddr 25 (Operand.tmp 8) 1, type := 0, pos := "table.go:313", after := #[{ on := 0, ground := Ground.phase }, { on := 1, ground := Ground.phase }, { on := 2, ground := Ground.phase }, { on := 3, ground := Ground.phase }, { on := 4, ground := Ground.phase }, { on := 5, ground := Ground.phase }], guard := none } : Oper)) (v := ?yv3) rfl (by kernel_rfl) (by kernel_rfl) (by kernel_rfl) (fun _ _ _ h => h) (Or.inl ⟨by rfl, ?yh3⟩) (by assumption) ?yr3
            case yh3 => (intro wq hSw; (try dsimp only at hSw); go_simp; first | done | with_reducible rfl)
            try simp only [Act.put, List.setIfInBounds_toArray, List.set_cons_zero, List.set_cons_succ]
            refine wpAnyH_ready (rs := [7]) (by kernel_rfl) (by simp) ?_
            refine AllReadyH.cons (o := ({ dst := none, op := Op.store 23 (Operand.tmp 47) (Operand.tmp 46), type := 0, pos := "table.go:313", after := #[{ on := 6, ground := Ground.data }, { on := 5, ground := Ground.data }, { on := 5, ground := Ground.chain }, { on := 0, ground := Ground.phase }, { on := 1, ground := Ground.phase }, { on := 2, ground := Ground.phase }, { on := 3, ground := Ground.phase }, { on := 4, ground := Ground.phase }, { on := 5, ground := Ground.phase }], guard := none } : Oper)) rfl (fun K hK => ?_) AllReadyH.nil
            go_simp
            refine hK.out _ _ trivial (fun hHeld => ?_)
            clear hK K
            try simp only [Act.put, List.setIfInBounds_toArray, List.set_cons_zero, List.set_cons_succ]
            refine wpAnyH_done (by kernel_rfl) ?_ _
            clear t3 f3
            (try go_wp2)
            exact ⟨⟨k + 1, by omega, by go_num, W3⟩, by simp [intOf]; omega⟩
      · have hm3 : ((m2 : Int) == 0) = false := by simp; omega
        have W3 : Hid (∃ b zs, w3.heap[w7.heap.size]? = some (.cells #[.slice pA nA cA, b] 25 (0, 0)) ∧ w3.ownsRow w7.heap.size 26 1 b zs.length zs ∧ OwnRs w7.heap.size zs (antiOf G cs (rs.take (k + 1))) w3 ∧ Below w7.heap.size w7 w3) := by
          have h0 : ¬ (G ks).isEmpty = true := by
            rw [List.isEmpty_iff]
            intro h
            have := em2.out
            rw [h] at this
            exact hm0 this.symm
          have h := hF2.out
          rw [if_neg h0, List.append_nil] at h
          exact ⟨b, zs, HT3.out, HOB3.out, by rw [h]; exact HRS3.out, HB3.out⟩
        clear HT3 HOB3 HRS3 HB3
        go_wp2_with (refine wpList_lookup_run _ rfl (.tmp 34) (.tmp 37) 76 rfl (.map (some w1.heap.size)) KV rfl rfl (.slice pg m2 cg) w3 ?hr ?_)
        case hr => exact hrun
        exact ⟨⟨k + 1, by omega, by go_num, W3⟩, by simp [intOf]; omega⟩
    · have c2 : ¬ (k : Int) < n := by omega
      have hF2 : Hid (antiOf G cs (rs.take k) = F) := by
        show _ = _
        rw [List.take_of_length_le (by have := en.out; have := HR.out.1; omega)]
        exact eF.out
      obtain ⟨pb, nb, cb, rfl⟩ := slice_of hob
      rw [hF2.out] at hrs
      have t0 := cell_of_heap hT 0 rfl
      have t1 := cell_of_heap hT 1 rfl
      have HOV : OwnS w2.heap.size (.slice pA nA cA) vs wr := own_below OV.out hB
      have hZ : w.heap.size + 3 ≤ w7.heap.size := z7
      have bx := bx7.out.below hB
      have r0 := cell_of_heap bx.r 0 rfl
      have r1 := cell_of_heap bx.r 1 rfl
      have f0 := frozen_of_heap bx.r 0
      have f1 := frozen_of_heap bx.r 1
      have x0 : (wr.setCell ⟨w.heap.size + 2, 0, none⟩ (.slice pA nA cA)).cell? ⟨w.heap.size + 2, 0, none⟩ = some (.slice pA nA cA) := set_same r0
      have x1 : ((wr.setCell ⟨w.heap.size + 2, 0, none⟩ (.slice pA nA cA)).setCell ⟨w.heap.size + 2, 1, none⟩ (.slice pb nb cb)).cell? ⟨w.heap.size + 2, 1, none⟩ = some (.slice pb nb cb) := set_same ((set_other (by simp)).trans r1)
      have HT : Hid (OwnT w2.heap.size (.agg #[.slice pA nA cA, .slice pb nb cb]) vs F wr) := ⟨_, _, zs, rfl, HOV, own_base hob B7.size, hrs.base B7.size⟩
      have HSET : Hid (Below w.heap.size w ((wr.setCell ⟨w.heap.size + 2, 0, none⟩ (.slice pA nA cA)).setCell ⟨w.heap.size + 2, 1, none⟩ (.slice pb nb cb))) := by
        have b2 := KW.grown (grownBy_setCell wr (w.heap.size + 2) 0 (.slice pA nA cA)) KW.size (fun q hq => by injection hq with hq; omega)
        exact b2.grown (grownBy_setCell _ (w.heap.size + 2) 1 (.slice pb nb cb)) b2.size (fun q hq => by injection hq with hq; omega)
      clear hT hob hrs hB hI HOV bx
      go_wp2
      (try simp only [Exit.inBlock, Exit.then])
      refine bodyPost_ret (by simp [results, Tryz.results28, go_sem, x0, x1]; try rfl) rfl ?_
      exact ⟨_, rfl, ((HT.out.set (by omega)).set (by omega)).base (by omega), HSET.out⟩

end Go.Proofs.YtiliaincniiijaaGreat

namespace Go.Proofs.YtiliaincniiijaaGreat
open Go.RowKit Go.Shelf Go.Sort
set_option linter.unusedVariables false

/-- The rows that nothing fits. -/
def antiR (cs ds : List Nat) (rs qs : List (List Val)) : List (List Val) := rs.filter fun r => !(qs.any fun q => rowS (picks r cs) (picks q ds))
open Classical in
theorem antiOf_eq {w : World} {us : List Value} {rs qs : List (List Val)} {cs ds : List Nat} (h : RowsOf w us qs) (hcs : ∀ r ∈ rs, ∀ c ∈ cs, c < r.length) (hds : ∀ r ∈ qs, ∀ c ∈ ds, c < r.length) (hl : cs.length = ds.length) : antiOf (grp w ds us) cs rs = antiR cs ds rs qs := by
  unfold antiOf antiR
  refine List.filter_congr fun r hr => ?_
  rw [← map_rw h, Bool.eq_iff_iff, List.isEmpty_iff, Bool.not_eq_true', ← Bool.not_eq_true, List.any_eq_true]
  unfold grp
  rw [List.filter_eq_nil_iff]
  constructor
  · rintro hno ⟨q, hq, he⟩
    obtain ⟨u, hu, rfl⟩ := List.mem_map.1 hq
    refine hno u hu ?_
    rw [decide_eq_true_eq, rowS_iff.1 he]
  · intro hno u hu he
    rw [decide_eq_true_eq] at he
    have hq : rwOf w u ∈ qs := by rw [← map_rw h]; exact List.mem_map_of_mem hu
    have hlen : (picks (rwOf w u) ds).length = (picks r cs).length := by rw [picks_len (hds _ hq), picks_len (hcs r hr), hl]
    exact hno ⟨_, List.mem_map_of_mem hu, rowS_iff.2 (padK_inj hlen he).symm⟩
def antiL (vs vs' : List ByteArray) (rs qs : List (List Val)) : List (List Val) := antiR ((bothL vs' 0 vs).map (·.1)) ((bothL vs' 0 vs).map (·.2)) rs qs
theorem without_any2 {Va Ra Vb Rb : Value} {vs vs' : List ByteArray} {us us' : List Value} {rs qs : List (List Val)} {w : World} (hTa : TabAt w Va Ra vs us rs) (hTb : TabAt w Vb Rb vs' us' qs) (okA : OkT vs rs) (okB : OkT vs' qs) :
    Calls Tryz.prog 28 #[.agg #[Va, Ra], .agg #[Vb, Rb]] w fun e w' => ∃ t, e = .returned t ∧ OwnT w.heap.size t vs (antiL vs vs' rs qs) w' ∧ Below w.heap.size w w' := by
  have h := without_any hTa hTb okA okB
  rw [antiOf_eq hTb.rows (fun r hr c hc => by rw [(okA.rows r hr).1]; exact both_cs.1 c hc) (fun r hr c hc => by rw [(okB.rows r hr).1]; exact both_cs.2.1 c hc) both_cs.2.2] at h
  exact h

set_option maxRecDepth 100000 in
set_option maxHeartbeats 8000000 in
theorem anti_any {Va Ra Vb Rb : Value} {vs vs' : List ByteArray} {us us' : List Value} {rs qs : List (List Val)} {w : World} (ha : TabAt w Va Ra vs us rs) (hb : TabAt w Vb Rb vs' us' qs) :
    Calls Tryz.prog 16 #[.agg #[Va, Ra], .agg #[Vb, Rb]] w fun e w' => ∃ t, e = .returned (.tuple #[t, .int .i64 (bothE vs rs vs' qs)]) ∧ (bothE vs rs vs' qs = 0 → OwnT w.heap.size t vs (antiL vs vs' rs qs) w') ∧ (bothE vs rs vs' qs ≠ 0 → t = .agg #[.slice none 0 0, .slice none 0 0]) ∧ Below w.heap.size w w' := by
  have HA : Hid (TabAt w Va Ra vs us rs) := ha
  have HB : Hid (TabAt w Vb Rb vs' us' qs) := hb
  have cE : Hid (∀ W, Below w.heap.size w W → Calls Tryz.prog 29 #[.agg #[Va, Ra], .agg #[Vb, Rb]] W fun e w' => e = .returned (.int .i64 (bothE vs rs vs' qs)) ∧ Below W.heap.size W w') := fun W hW => cboth2_any (ha.below hW) (hb.below hW)
  obtain ⟨p1, k1, p2, k2, rfl, rfl⟩ := ha.forms
  obtain ⟨p3, k3, p4, k4, rfl, rfl⟩ := hb.forms
  obtain ⟨E, eE⟩ : ∃ E, Hid (bothE vs rs vs' qs = E) := ⟨_, rfl⟩
  obtain ⟨n1, en1⟩ : ∃ n, Hid (vs.length = n) := ⟨_, rfl⟩
  obtain ⟨n2, en2⟩ : ∃ n, Hid (us.length = n) := ⟨_, rfl⟩
  obtain ⟨n3, en3⟩ : ∃ n, Hid (vs'.length = n) := ⟨_, rfl⟩
  obtain ⟨n4, en4⟩ : ∃ n, Hid (us'.length = n) := ⟨_, rfl⟩
  rw [eE.out] at cE ⊢
  rw [en1.out] at HA cE ⊢
  rw [en2.out] at HA cE ⊢
  rw [en3.out] at HB cE ⊢
  rw [en4.out] at HB cE ⊢
  clear ha hb
  go_enter Tryz.func16, Tryz.ntmps16
  go_upto_region 1 with fail
  refine wp_world ?_
  intro W0 hW0
  have bx0 : Hid (Box3 W0 w.heap.size (.slice p1 n1 k1) (.slice p2 n2 k2) (.slice p3 n3 k3) (.slice p4 n4 k4)) := by rw [hW0]; exact Box3.made _ _ _ _ _
  have K0 : Below w.heap.size w W0 := by rw [hW0]; go_grown
  have z0 : W0.heap.size = w.heap.size + 3 := by rw [hW0]; simp
  clear hW0
  have A0 := cell_of_heap bx0.out.a 0 rfl
  have A1 := cell_of_heap bx0.out.a 1 rfl
  have B0 := cell_of_heap bx0.out.b 0 rfl
  have B1 := cell_of_heap bx0.out.b 1 rfl
  go_wp2_with fail
  refine (cE.out W0 K0).mono ?_
  rintro e w1 ⟨rfl, hb1⟩
  have bx1 : Hid (Box3 w1 w.heap.size (.slice p1 n1 k1) (.slice p2 n2 k2) (.slice p3 n3 k3) (.slice p4 n4 k4)) := bx0.out.below hb1
  have K1 : Below w.heap.size w w1 := K0.trans (hb1.mono K0.size)
  have z1 : w.heap.size + 3 ≤ w1.heap.size := by have := hb1.size; omega
  clear A0 A1 B0 B1 bx0 K0 hb1 z0
  have HSET : Hid (∀ W, Below w.heap.size w W → ∀ x y, Below w.heap.size w ((W.setCell ⟨w.heap.size + 2, 0, none⟩ x).setCell ⟨w.heap.size + 2, 1, none⟩ y)) := fun W h x y => by
    have b2 := h.grown (grownBy_setCell W (w.heap.size + 2) 0 x) h.size (fun q hq => by injection hq with hq; omega)
    exact b2.grown (grownBy_setCell _ (w.heap.size + 2) 1 y) b2.size (fun q hq => by injection hq with hq; omega)
  by_cases hE : E = 0
  · have HE : Hid (E = 0) := hE
    have okA : OkT vs rs := tabChk_ok (bothE_ok (eE.out.trans hE)).1 HA.out.fits
    have okB : OkT vs' qs := tabChk_ok (bothE_ok (eE.out.trans hE)).2 HB.out.fits
    have cW : Hid (Calls Tryz.prog 28 #[.agg #[.slice p1 n1 k1, .slice p2 n2 k2], .agg #[.slice p3 n3 k3, .slice p4 n4 k4]] w1 fun e w' => ∃ t, e = .returned t ∧ OwnT w1.heap.size t vs (antiL vs vs' rs qs) w' ∧ Below w1.heap.size w1 w') := without_any2 (HA.out.below K1) (HB.out.below K1) okA okB
    have A0 := cell_of_heap bx1.out.a 0 rfl
    have A1 := cell_of_heap bx1.out.a 1 rfl
    have B0 := cell_of_heap bx1.out.b 0 rfl
    have B1 := cell_of_heap bx1.out.b 1 rfl
    clear okA okB cE
    go_wp2_with fail
    refine cW.out.mono ?_
    rintro e w6 ⟨t, rfl, ht, hb6⟩
    have bx6 := bx1.out.below hb6
    have K6 : Below w.heap.size w w6 := K1.trans (hb6.mono K1.size)
    have ht2 := ht
    obtain ⟨ta, tb, zt, rfl, t1, t2, t3⟩ := ht2
    obtain ⟨pta, nta, cta, rfl⟩ := slice_of t1
    obtain ⟨ptb, ntb, ctb, rfl⟩ := slice_of t2
    have HT : Hid (OwnT w1.heap.size (.agg #[.slice pta nta cta, .slice ptb ntb ctb]) vs (antiL vs vs' rs qs) w6) := ht
    have r0 := cell_of_heap bx6.r 0 rfl
    have r1 := cell_of_heap bx6.r 1 rfl
    have f0 := frozen_of_heap bx6.r 0
    have f1 := frozen_of_heap bx6.r 1
    have x0 : (w6.setCell ⟨w.heap.size + 2, 0, none⟩ (.slice pta nta cta)).cell? ⟨w.heap.size + 2, 0, none⟩ = some (.slice pta nta cta) := set_same r0
    have x1 : ((w6.setCell ⟨w.heap.size + 2, 0, none⟩ (.slice pta nta cta)).setCell ⟨w.heap.size + 2, 1, none⟩ (.slice ptb ntb ctb)).cell? ⟨w.heap.size + 2, 1, none⟩ = some (.slice ptb ntb ctb) := set_same ((set_other (by simp)).trans r1)
    clear A0 A1 B0 B1 cW t1 t2 t3 ht hb6 bx6 hE
    go_wp2
    (try simp only [Exit.inBlock, Exit.then])
    refine bodyPost_ret (by simp [results, Tryz.results16, go_sem, x0, x1]; try rfl) rfl ?_
    exact ⟨_, by rw [HE.out], fun _ => ((HT.out.set (by omega)).set (by omega)).base (by omega), fun h => absurd HE.out h, HSET.out _ K6 _ _⟩
  · have hE2 : (E == 0) = false := by simpa using hE
    have r0 := cell_of_heap bx1.out.r 0 rfl
    have r1 := cell_of_heap bx1.out.r 1 rfl
    have f0 := frozen_of_heap bx1.out.r 0
    have f1 := frozen_of_heap bx1.out.r 1
    have x0 : (w1.setCell ⟨w.heap.size + 2, 0, none⟩ (.slice none 0 0)).cell? ⟨w.heap.size + 2, 0, none⟩ = some (.slice none 0 0) := set_same r0
    have x1 : ((w1.setCell ⟨w.heap.size + 2, 0, none⟩ (.slice none 0 0)).setCell ⟨w.heap.size + 2, 1, none⟩ (.slice none 0 0)).cell? ⟨w.heap.size + 2, 1, none⟩ = some (.slice none 0 0) := set_same ((set_other (by simp)).trans r1)
    go_wp2
    (try simp only [Exit.inBlock, Exit.then])
    refine bodyPost_ret (by simp [results, Tryz.results16, go_sem, x0, x1]; try rfl) rfl ?_
    exact ⟨_, rfl, fun h => absurd h hE, fun _ => rfl, HSET.out _ K1 _ _⟩

end Go.Proofs.YtiliaincniiijaaGreat

namespace Go.Proofs.YtiliaincniiijaaGreat
open Go.RowKit Go.Shelf Go.Sort
set_option linter.unusedVariables false

def alikeE (vs : List ByteArray) (rs : List (List Val)) (vs' : List ByteArray) (qs : List (List Val)) : Int := if bothE vs rs vs' qs = 0 then (if vs = vs' then 0 else 30) else bothE vs rs vs' qs
theorem alikeE_ok {vs vs' : List ByteArray} {rs qs : List (List Val)} (h : alikeE vs rs vs' qs = 0) : tabChk vs rs = 0 ∧ tabChk vs' qs = 0 ∧ vs = vs' := by
  unfold alikeE at h
  by_cases h1 : bothE vs rs vs' qs = 0
  · rw [if_pos h1] at h
    by_cases h2 : vs = vs'
    · exact ⟨(bothE_ok h1).1, (bothE_ok h1).2, h2⟩
    · rw [if_neg h2] at h; cases h
  · rw [if_neg h1] at h; exact absurd h h1

set_option maxRecDepth 100000 in
set_option maxHeartbeats 2000000 in
theorem calike_any {Va Ra Vb Rb : Value} {vs vs' : List ByteArray} {us us' : List Value} {rs qs : List (List Val)} {w : World} (ha : TabAt w Va Ra vs us rs) (hb : TabAt w Vb Rb vs' us' qs) :
    Calls Tryz.prog 25 #[.agg #[Va, Ra], .agg #[Vb, Rb]] w fun e w' => e = .returned (.int .i64 (alikeE vs rs vs' qs)) ∧ Below w.heap.size w w' := by
  have c1 : Hid (∀ W, Below w.heap.size w W → Calls Tryz.prog 29 #[.agg #[Va, Ra], .agg #[Vb, Rb]] W fun e w' => e = .returned (.int .i64 (bothE vs rs vs' qs)) ∧ Below W.heap.size W w') := fun W hW => cboth2_any (ha.below hW) (hb.below hW)
  have c2 : Hid (∀ W, Below w.heap.size w W → Calls Tryz.prog 42 #[Va, Vb] W fun e w' => e = .returned (.bool (decide (vs = vs'))) ∧ Below W.heap.size W w') := fun W hW => (eqS_any _ _ _ _ W (ha.vars.below hW) (hb.vars.below hW) ha.names hb.names).mono (by
    rintro e w' ⟨h1, q, rfl⟩
    exact ⟨h1, bdrewN _ (Below.refl _ _)⟩)
  obtain ⟨p1, k1, p2, k2, rfl, rfl⟩ := ha.forms
  obtain ⟨p3, k3, p4, k4, rfl, rfl⟩ := hb.forms
  unfold alikeE
  obtain ⟨D, eD⟩ : ∃ D : Bool, Hid (decide (vs = vs') = D) := ⟨_, rfl⟩
  have e2 : (if vs = vs' then (0 : Int) else 30) = if D then 0 else 30 := by rw [← eD.out]; simp
  rw [e2]
  rw [eD.out] at c2
  clear e2
  generalize vs.length = n1 at *
  generalize us.length = n2 at *
  generalize vs'.length = n3 at *
  generalize us'.length = n4 at *
  generalize bothE vs rs vs' qs = E at *
  clear ha hb
  go_enter Tryz.func25, Tryz.ntmps25
  go_wp2_with fail
  refine (c1.out _ (by go_grown)).mono ?_
  rintro e w1 ⟨rfl, hb1⟩
  have a0 : w1.cell? ⟨w.heap.size, 0, none⟩ = some (.slice p1 n1 k1) := (hb1.cell (p := ⟨w.heap.size, 0, none⟩) (by simp; omega)).trans (by simp (maxDischargeDepth := 8) [go_sem])
  have b0 : w1.cell? ⟨w.heap.size + 1, 0, none⟩ = some (.slice p3 n3 k3) := (hb1.cell (p := ⟨w.heap.size + 1, 0, none⟩) (by simp)).trans (by simp (maxDischargeDepth := 8) [go_sem])
  have hs1 : w.heap.size + 2 ≤ w1.heap.size := by have := hb1.size; simp at this; omega
  have hB1 : Below w.heap.size w w1 := by
    obtain ⟨hw1, -⟩ := bg0 (n := w.heap.size) (W0 := w) (by go_grown) (by go_size) hb1
    exact hw1
  clear hb1 c1
  by_cases hE : E = 0
  · subst hE
    go_wp2_with fail
    refine (c2.out _ hB1).mono ?_
    rintro e w2 ⟨rfl, hb2⟩
    have hw1 : Below w.heap.size w w2 := hB1.trans (hb2.mono hB1.size)
    clear a0 b0 c2
    cases D <;> (go_wp2; go_ret; exact ⟨ret_int (by simp), hw1⟩)
  · have hE2 : (E == 0) = false := by simpa using hE
    go_wp2
    go_ret
    exact ⟨ret_int (by simp), hB1⟩

set_option maxRecDepth 100000 in
set_option maxHeartbeats 8000000 in
theorem tabminus_any {Va Ra Vb Rb : Value} {vs vs' : List ByteArray} {us us' : List Value} {rs qs : List (List Val)} {w : World} (ha : TabAt w Va Ra vs us rs) (hb : TabAt w Vb Rb vs' us' qs) :
    Calls Tryz.prog 8 #[.agg #[Va, Ra], .agg #[Vb, Rb]] w fun e w' => ∃ t, e = .returned (.tuple #[t, .int .i64 (alikeE vs rs vs' qs)]) ∧ (alikeE vs rs vs' qs = 0 → OwnT w.heap.size t vs (antiL vs vs' rs qs) w') ∧ (alikeE vs rs vs' qs ≠ 0 → t = .agg #[.slice none 0 0, .slice none 0 0]) ∧ Below w.heap.size w w' := by
  have HA : Hid (TabAt w Va Ra vs us rs) := ha
  have HB : Hid (TabAt w Vb Rb vs' us' qs) := hb
  have cE : Hid (∀ W, Below w.heap.size w W → Calls Tryz.prog 25 #[.agg #[Va, Ra], .agg #[Vb, Rb]] W fun e w' => e = .returned (.int .i64 (alikeE vs rs vs' qs)) ∧ Below W.heap.size W w') := fun W hW => calike_any (ha.below hW) (hb.below hW)
  obtain ⟨p1, k1, p2, k2, rfl, rfl⟩ := ha.forms
  obtain ⟨p3, k3, p4, k4, rfl, rfl⟩ := hb.forms
  obtain ⟨E, eE⟩ : ∃ E, Hid (alikeE vs rs vs' qs = E) := ⟨_, rfl⟩
  obtain ⟨n1, en1⟩ : ∃ n, Hid (vs.length = n) := ⟨_, rfl⟩
  obtain ⟨n2, en2⟩ : ∃ n, Hid (us.length = n) := ⟨_, rfl⟩
  obtain ⟨n3, en3⟩ : ∃ n, Hid (vs'.length = n) := ⟨_, rfl⟩
  obtain ⟨n4, en4⟩ : ∃ n, Hid (us'.length = n) := ⟨_, rfl⟩
  rw [eE.out] at cE ⊢
  rw [en1.out] at HA cE ⊢
  rw [en2.out] at HA cE ⊢
  rw [en3.out] at HB cE ⊢
  rw [en4.out] at HB cE ⊢
  clear ha hb
  go_enter Tryz.func8, Tryz.ntmps8
  go_upto_region 1 with fail
  refine wp_world ?_
  intro W0 hW0
  have bx0 : Hid (Box3 W0 w.heap.size (.slice p1 n1 k1) (.slice p2 n2 k2) (.slice p3 n3 k3) (.slice p4 n4 k4)) := by rw [hW0]; exact Box3.made _ _ _ _ _
  have K0 : Below w.heap.size w W0 := by rw [hW0]; go_grown
  have z0 : W0.heap.size = w.heap.size + 3 := by rw [hW0]; simp
  clear hW0
  have A0 := cell_of_heap bx0.out.a 0 rfl
  have A1 := cell_of_heap bx0.out.a 1 rfl
  have B0 := cell_of_heap bx0.out.b 0 rfl
  have B1 := cell_of_heap bx0.out.b 1 rfl
  go_wp2_with fail
  refine (cE.out W0 K0).mono ?_
  rintro e w1 ⟨rfl, hb1⟩
  have bx1 : Hid (Box3 w1 w.heap.size (.slice p1 n1 k1) (.slice p2 n2 k2) (.slice p3 n3 k3) (.slice p4 n4 k4)) := bx0.out.below hb1
  have K1 : Below w.heap.size w w1 := K0.trans (hb1.mono K0.size)
  have z1 : w.heap.size + 3 ≤ w1.heap.size := by have := hb1.size; omega
  clear A0 A1 B0 B1 bx0 K0 hb1 z0
  have HSET : Hid (∀ W, Below w.heap.size w W → ∀ x y, Below w.heap.size w ((W.setCell ⟨w.heap.size + 2, 0, none⟩ x).setCell ⟨w.heap.size + 2, 1, none⟩ y)) := fun W h x y => by
    have b2 := h.grown (grownBy_setCell W (w.heap.size + 2) 0 x) h.size (fun q hq => by injection hq with hq; omega)
    exact b2.grown (grownBy_setCell _ (w.heap.size + 2) 1 y) b2.size (fun q hq => by injection hq with hq; omega)
  by_cases hE : E = 0
  · have HE : Hid (E = 0) := hE
    have okA : OkT vs rs := tabChk_ok (alikeE_ok (eE.out.trans hE)).1 HA.out.fits
    have okB : OkT vs' qs := tabChk_ok (alikeE_ok (eE.out.trans hE)).2.1 HB.out.fits
    have cW : Hid (Calls Tryz.prog 28 #[.agg #[.slice p1 n1 k1, .slice p2 n2 k2], .agg #[.slice p3 n3 k3, .slice p4 n4 k4]] w1 fun e w' => ∃ t, e = .returned t ∧ OwnT w1.heap.size t vs (antiL vs vs' rs qs) w' ∧ Below w1.heap.size w1 w') := without_any2 (HA.out.below K1) (HB.out.below K1) okA okB
    have A0 := cell_of_heap bx1.out.a 0 rfl
    have A1 := cell_of_heap bx1.out.a 1 rfl
    have B0 := cell_of_heap bx1.out.b 0 rfl
    have B1 := cell_of_heap bx1.out.b 1 rfl
    clear okA okB cE
    go_wp2_with fail
    refine cW.out.mono ?_
    rintro e w6 ⟨t, rfl, ht, hb6⟩
    have bx6 := bx1.out.below hb6
    have K6 : Below w.heap.size w w6 := K1.trans (hb6.mono K1.size)
    have ht2 := ht
    obtain ⟨ta, tb, zt, rfl, t1, t2, t3⟩ := ht2
    obtain ⟨pta, nta, cta, rfl⟩ := slice_of t1
    obtain ⟨ptb, ntb, ctb, rfl⟩ := slice_of t2
    have HT : Hid (OwnT w1.heap.size (.agg #[.slice pta nta cta, .slice ptb ntb ctb]) vs (antiL vs vs' rs qs) w6) := ht
    have r0 := cell_of_heap bx6.r 0 rfl
    have r1 := cell_of_heap bx6.r 1 rfl
    have f0 := frozen_of_heap bx6.r 0
    have f1 := frozen_of_heap bx6.r 1
    have x0 : (w6.setCell ⟨w.heap.size + 2, 0, none⟩ (.slice pta nta cta)).cell? ⟨w.heap.size + 2, 0, none⟩ = some (.slice pta nta cta) := set_same r0
    have x1 : ((w6.setCell ⟨w.heap.size + 2, 0, none⟩ (.slice pta nta cta)).setCell ⟨w.heap.size + 2, 1, none⟩ (.slice ptb ntb ctb)).cell? ⟨w.heap.size + 2, 1, none⟩ = some (.slice ptb ntb ctb) := set_same ((set_other (by simp)).trans r1)
    clear A0 A1 B0 B1 cW t1 t2 t3 ht hb6 bx6 hE
    go_wp2
    (try simp only [Exit.inBlock, Exit.then])
    refine bodyPost_ret (by simp [results, Tryz.results8, go_sem, x0, x1]; try rfl) rfl ?_
    exact ⟨_, by rw [HE.out], fun _ => ((HT.out.set (by omega)).set (by omega)).base (by omega), fun h => absurd HE.out h, HSET.out _ K6 _ _⟩
  · have hE2 : (E == 0) = false := by simpa using hE
    have r0 := cell_of_heap bx1.out.r 0 rfl
    have r1 := cell_of_heap bx1.out.r 1 rfl
    have f0 := frozen_of_heap bx1.out.r 0
    have f1 := frozen_of_heap bx1.out.r 1
    have x0 : (w1.setCell ⟨w.heap.size + 2, 0, none⟩ (.slice none 0 0)).cell? ⟨w.heap.size + 2, 0, none⟩ = some (.slice none 0 0) := set_same r0
    have x1 : ((w1.setCell ⟨w.heap.size + 2, 0, none⟩ (.slice none 0 0)).setCell ⟨w.heap.size + 2, 1, none⟩ (.slice none 0 0)).cell? ⟨w.heap.size + 2, 1, none⟩ = some (.slice none 0 0) := set_same ((set_other (by simp)).trans r1)
    go_wp2
    (try simp only [Exit.inBlock, Exit.then])
    refine bodyPost_ret (by simp [results, Tryz.results8, go_sem, x0, x1]; try rfl) rfl ?_
    exact ⟨_, rfl, fun h => absurd h hE, fun _ => rfl, HSET.out _ K1 _ _⟩

end Go.Proofs.YtiliaincniiijaaGreat

namespace Go.Proofs.YtiliaincniiijaaGreat
open Go.RowKit Go.Shelf Go.Sort
set_option linter.unusedVariables false

def mergeL : List (List Val) → List (List Val) → List (List Val)
  | [], qs => qs
  | r :: rs, [] => r :: rs
  | r :: rs, q :: qs => if rowC r q < 0 then r :: mergeL rs (q :: qs) else if rowC r q = 0 then r :: mergeL rs qs else q :: mergeL (r :: rs) qs
termination_by rs qs => rs.length + qs.length
theorem mergeL_left (qs : List (List Val)) : mergeL [] qs = qs := by rw [mergeL]
theorem mergeL_right (rs : List (List Val)) : mergeL rs [] = rs := by cases rs <;> rw [mergeL]
theorem mergeL_step (r q : List Val) (rs qs : List (List Val)) : mergeL (r :: rs) (q :: qs) = if rowC r q < 0 then r :: mergeL rs (q :: qs) else if rowC r q = 0 then r :: mergeL rs qs else q :: mergeL (r :: rs) qs := by
  rw [mergeL]
theorem mem_mergeL : ∀ (n : Nat) (rs qs : List (List Val)), rs.length + qs.length ≤ n → (∀ r ∈ rs, okR r) → (∀ r ∈ qs, okR r) → ∀ z, z ∈ mergeL rs qs ↔ z ∈ rs ∨ z ∈ qs
  | n, [], qs, _, _, _, z => by rw [mergeL_left]; simp
  | n, r :: rs, [], _, _, _, z => by rw [mergeL_right]; simp
  | 0, r :: rs, q :: qs, h, _, _, z => by simp at h
  | n + 1, r :: rs, q :: qs, h, o1, o2, z => by
    have o1' : ∀ x ∈ rs, okR x := fun x hx => o1 x (List.mem_cons_of_mem _ hx)
    have o2' : ∀ x ∈ qs, okR x := fun x hx => o2 x (List.mem_cons_of_mem _ hx)
    simp only [List.length_cons] at h
    rw [mergeL_step]
    split
    · have ih := mem_mergeL n rs (q :: qs) (by simp; omega) o1' o2 z
      simp only [List.mem_cons, ih]
      constructor
      · rintro (h | h | h | h) <;> simp [h]
      · rintro ((h | h) | h | h) <;> simp [h]
    · split
      · rename_i h2
        have e := rowC_eq (o1 r (List.mem_cons_self ..)) (o2 q (List.mem_cons_self ..)) h2
        subst e
        have ih := mem_mergeL n rs qs (by omega) o1' o2' z
        simp only [List.mem_cons, ih]
        constructor
        · rintro (h | h | h) <;> simp [h]
        · rintro ((h | h) | h | h) <;> simp [h]
      · have ih := mem_mergeL n (r :: rs) qs (by simp; omega) o1 o2' z
        simp only [List.mem_cons, ih]
        constructor
        · rintro (h | (h | h) | h) <;> simp [h]
        · rintro ((h | h) | h | h) <;> simp [h]
theorem mergeL_rises : ∀ (n : Nat) (rs qs : List (List Val)), rs.length + qs.length ≤ n → (∀ r ∈ rs, okR r) → (∀ r ∈ qs, okR r) → rs.Pairwise (fun a b => rowC a b < 0) → qs.Pairwise (fun a b => rowC a b < 0) → (mergeL rs qs).Pairwise (fun a b => rowC a b < 0)
  | n, [], qs, _, _, _, _, h => by rw [mergeL_left]; exact h
  | n, r :: rs, [], _, _, _, h, _ => by rw [mergeL_right]; exact h
  | 0, r :: rs, q :: qs, h, _, _, _, _ => by simp at h
  | n + 1, r :: rs, q :: qs, h, o1, o2, p1, p2 => by
    have o1' : ∀ x ∈ rs, okR x := fun x hx => o1 x (List.mem_cons_of_mem _ hx)
    have o2' : ∀ x ∈ qs, okR x := fun x hx => o2 x (List.mem_cons_of_mem _ hx)
    obtain ⟨a1, a2⟩ := List.pairwise_cons.1 p1
    obtain ⟨b1, b2⟩ := List.pairwise_cons.1 p2
    have hr := o1 r (List.mem_cons_self ..)
    have hq := o2 q (List.mem_cons_self ..)
    simp only [List.length_cons] at h
    rw [mergeL_step]
    split
    · rename_i hlt
      refine List.pairwise_cons.2 ⟨fun z hz => ?_, mergeL_rises n rs (q :: qs) (by simp; omega) o1' o2 a2 p2⟩
      rcases (mem_mergeL n rs (q :: qs) (by simp; omega) o1' o2 z).1 hz with hz | hz
      · exact a1 z hz
      · rcases List.mem_cons.1 hz with rfl | hz
        · exact hlt
        · exact rowC_lt hr hq (o2' z hz) hlt (b1 z hz)
    · split
      · rename_i h2
        have e := rowC_eq hr hq h2
        subst e
        refine List.pairwise_cons.2 ⟨fun z hz => ?_, mergeL_rises n rs qs (by omega) o1' o2' a2 b2⟩
        rcases (mem_mergeL n rs qs (by omega) o1' o2' z).1 hz with hz | hz
        · exact a1 z hz
        · exact b1 z hz
      · rename_i n1 n2
        have ht := rowC_turn hr hq
        have hlt : rowC q r < 0 := by omega
        refine List.pairwise_cons.2 ⟨fun z hz => ?_, mergeL_rises n (r :: rs) qs (by simp; omega) o1 o2' p1 b2⟩
        rcases (mem_mergeL n (r :: rs) qs (by simp; omega) o1 o2' z).1 hz with hz | hz
        · rcases List.mem_cons.1 hz with rfl | hz
          · exact hlt
          · exact rowC_lt hq hr (o1' z hz) hlt (a1 z hz)
        · exact b1 z hz
theorem mergeL_len : ∀ (n : Nat) (rs qs : List (List Val)), rs.length + qs.length ≤ n → (mergeL rs qs).length ≤ rs.length + qs.length
  | n, [], qs, _ => by rw [mergeL_left]; simp
  | n, r :: rs, [], _ => by rw [mergeL_right]; simp
  | 0, r :: rs, q :: qs, h => by simp at h
  | n + 1, r :: rs, q :: qs, h => by
    simp only [List.length_cons] at h
    rw [mergeL_step]
    split
    · have ih := mergeL_len n rs (q :: qs) (by simp; omega)
      simp only [List.length_cons] at ih ⊢
      omega
    · split
      · have ih := mergeL_len n rs qs (by omega)
        simp only [List.length_cons] at ih ⊢
        omega
      · have ih := mergeL_len n (r :: rs) qs (by simp; omega)
        simp only [List.length_cons] at ih ⊢
        omega
/-- Rows that rise and may be, in the columns' own order, are what is made of them. -/
theorem picks_self {α : Type} (r : List α) : picks r (List.range r.length) = r := by
  unfold picks
  induction r with
  | nil => rfl
  | cons x r ih =>
    rw [List.length_cons, List.range_succ_eq_map, List.filterMap_cons]
    simp only [List.getElem?_cons_zero, List.filterMap_map]
    refine congrArg (x :: ·) ?_
    exact ih
end Go.Proofs.YtiliaincniiijaaGreat

namespace Go.Proofs.YtiliaincniiijaaGreat
open Go.RowKit Go.Shelf
set_option linter.unusedVariables false

def ListsOf (w : World) (us : List Value) (rs : List (List Value)) : Prop := us.length = rs.length ∧ ∀ i (h : i < us.length) (g : i < rs.length), ValsAt w us[i] rs[i]

/-- Room for values, and none there. -/
theorem growR_any (n : Nat) (w : World) (hn : n ≤ 5864062014805) : Calls Tryz.prog 71 #[.slice none 0 0, .int .i64 n] w fun e w' => ∃ v, e = .returned v ∧ w'.ownsRow w.heap.size 26 1 v 0 [] ∧ Below w.heap.size w w' := by
  obtain ⟨i0, hi, hz0, hz1, hz2⟩ := info_parts inR
  by_cases h0 : n = 0
  · subst h0
    refine (Any8.slices_Grow_room Tryz.grR none 0 0 0 w (by omega) (by omega) (by omega) (by omega)).mono ?_
    rintro e w' ⟨rfl, rfl⟩
    exact ⟨_, rfl, World.ownsRow_nil _ _ _ _, Below.refl _ _⟩
  · refine (Any8.slices_Grow_grow Tryz.grR i0 _ hi hz0 (by omega) none 0 0 n [] w (by omega) (by omega) (by rw [hz2]; omega) (by omega) (by simp) (fun _ => rfl) (by intro a h; cases h)).mono ?_
    rintro e w' ⟨rfl, rfl⟩
    refine ⟨_, rfl, ⟨rfl, Or.inr ⟨w.heap.size, _, _, rfl, Nat.le_refl _, heap_alloc _ _, Nat.zero_le _, ?_, ?_, by simp⟩⟩, ((Below.refl _ _).drew).alloc (Nat.le_refl _) _⟩
    · exact grownCap_le_maxLen w _ _ _ (by unfold maxLen; omega)
    · have hG := grownCap_ge w (0 + n) 0 (Tryz.grR_ren.t 25)
      simp only [Nat.zero_add] at hG
      simp [Builtin.zeroCells, Value.cells]
      omega

set_option maxRecDepth 100000 in
set_option maxHeartbeats 2000000 in
theorem concatR_any (A : Value) (us : List Value) (rs : List (List Value)) (w : World) (hA : ValsAt w A us) (hrs : ListsOf w us rs) (hs : ∀ x ∈ rs, ∀ u ∈ x, ∃ p n c, u = .slice p n c) (lt : rs.flatten.length ≤ 5864062014805) (lu : us.length ≤ 5864062014805) :
    Calls Tryz.prog 48 #[A] w fun e w' => ∃ v, e = .returned v ∧ w'.ownsRow w.heap.size 26 1 v rs.flatten.length rs.flatten ∧ Below w.heap.size w w' := by
  obtain ⟨i0, hi, hz0, hz1, hz2⟩ := info_parts inR
  obtain ⟨p, c, rfl, HV0⟩ := hA.form
  have HV : Hid (∀ k (hk : k < us.length), ∃ b off, p = some ⟨b, off, none⟩ ∧ b < w.heap.size ∧ w.cell? ⟨b, off + k, none⟩ = some us[k]) := HV0
  have HR : Hid (ListsOf w us rs) := hrs
  have HT : Hid (rs.flatten.length ≤ 5864062014805) := lt
  have GR : Hid (∀ (n : Nat) (W : World), n ≤ 5864062014805 → Calls Tryz.prog 71 #[.slice none 0 0, .int .i64 n] W fun e w' => ∃ v, e = .returned v ∧ w'.ownsRow W.heap.size 26 1 v 0 [] ∧ Below W.heap.size W w') := growR_any
  obtain ⟨n, en⟩ : ∃ n : Nat, Hid (us.length = n) := ⟨_, rfl⟩
  have er : Hid (rs.length = n) := hrs.1.symm.trans en.out
  rw [en.out] at lu ⊢
  have HSL : Hid (∀ x ∈ rs, ∀ u ∈ x, ∃ p n c, u = Value.slice p n c) := hs
  clear hA hrs HV0 lt hs
  go_enter Tryz.func48, Tryz.ntmps48
  go_wp2
  go_loopw [3, 11] (fun s i wr => ∃ (k T : Nat), k ≤ n ∧ i = .int .i64 k ∧ s = .int .i64 T ∧ Hid (T = (rs.take k).flatten.length) ∧ T ≤ 5864062014805 ∧ w = wr) (fun _ i _ => n - (intOf i).toNat)
  case atStart => exact ⟨0, 0, Nat.zero_le _, rfl, rfl, (show 0 = ((rs.take 0).flatten).length by simp), by omega, rfl⟩
  case round =>
    obtain ⟨k, T, hk, rfl, rfl, hT, lT, rfl⟩ := hrel
    by_cases hlt : k < n
    · have kx : k < us.length := by have := en.out; omega
      have ky : k < rs.length := by have := er.out; omega
      obtain ⟨b, off, rfl, hb, q1⟩ := HV.out k kx
      have hx := HR.out.2 k kx ky
      have hT2 : Hid (T + rs[k].length = (rs.take (k + 1)).flatten.length) := by
        show _ = _
        rw [List.take_succ_eq_append_getElem ky, List.flatten_append, List.length_append, ← hT.out]
        simp
      have hT3 : T + rs[k].length ≤ 5864062014805 := by
        have h := HT.out
        have h2 : (rs.take (k + 1)).flatten.length ≤ rs.flatten.length := by
          conv => rhs; rw [← List.take_append_drop (k + 1) rs]
          rw [List.flatten_append, List.length_append]
          omega
        have := hT2.out
        omega
      generalize us[k] = u at q1 hx
      obtain ⟨pu, cu, rfl, -⟩ := hx.form
      generalize rs[k].length = nx at q1 hT2 hT3
      clear hx
      go_wp2
      exact ⟨⟨k + 1, T + nx, by omega, by go_num, by go_num, hT2, hT3, by trivial⟩, by simp [intOf]; omega⟩
    · have c2 : ¬ (k : Int) < n := by omega
      have hT2 : Hid (T = rs.flatten.length) := by
        have h := hT.out
        rwa [List.take_of_length_le (by have := er.out; omega)] at h
      go_wp2_with fail
      refine (GR.out T _ lT).mono ?_
      rintro e w1 ⟨v, rfl, ho, hb1⟩
      have HO : Hid (w1.ownsRow w.heap.size 26 1 v 0 []) := ho
      obtain ⟨pv, nv, cv, rfl⟩ : ∃ pv nv cv, v = .slice pv nv cv := by
        obtain ⟨-, ⟨e, -⟩ | ⟨g, cap, cur, e, -⟩⟩ := ho
        · exact ⟨_, _, _, e⟩
        · exact ⟨_, _, _, e⟩
      clear ho
      go_wp2
      go_loopw [6, 27] (fun v i wr => ∃ (k : Nat), k ≤ n ∧ i = .int .i64 k ∧ Hid (wr.ownsRow w.heap.size 26 1 v (rs.take k).flatten.length (rs.take k).flatten) ∧ Below w.heap.size w wr) (fun _ i _ => n - (intOf i).toNat)
      case atStart => exact ⟨0, Nat.zero_le _, rfl, HO, hb1⟩
      case round =>
        obtain ⟨k2, hk2, rfl, HO2, hB2⟩ := hrel
        by_cases hlt2 : k2 < n
        · have kx : k2 < us.length := by have := en.out; omega
          have ky : k2 < rs.length := by have := er.out; omega
          obtain ⟨b, off, rfl, hb, q1⟩ := HV.out k2 kx
          have q2 : wr.cell? ⟨b, off + k2, none⟩ = some us[k2] := (hB2.cell (p := ⟨b, _, none⟩) hb).trans q1
          have hx := (HR.out.2 k2 kx ky).below hB2
          have hF : Hid ((rs.take (k2 + 1)).flatten = (rs.take k2).flatten ++ rs[k2]) := by
            show _ = _
            rw [List.take_succ_eq_append_getElem ky, List.flatten_append]
            simp
          have hT3 : ((rs.take k2).flatten).length + rs[k2].length ≤ 5864062014805 := by
            have h := HT.out
            have h2 : (rs.take (k2 + 1)).flatten.length ≤ rs.flatten.length := by
              conv => rhs; rw [← List.take_append_drop (k2 + 1) rs]
              rw [List.flatten_append, List.length_append]
              omega
            rw [hF.out, List.length_append] at h2
            omega
          clear q1
          generalize us[k2] = u at q2 hx
          have hx1 : Hid (∀ u ∈ rs[k2], ∃ p n c, u = Value.slice p n c) := HSL.out rs[k2] (List.getElem_mem ky)
          generalize rs[k2] = x at hx hF hT3 hx1
          obtain ⟨F, eF⟩ : ∃ F, Hid ((rs.take k2).flatten = F) := ⟨_, rfl⟩
          rw [eF.out] at HO2 hF hT3
          have HX : Hid (Src wr 1 u x.length x) := src_vals hx
          obtain ⟨pu, cu, rfl, -⟩ := hx.form
          have hK := hB2.size
          have HK : Hid (∀ q, u6.ownBlock = some q → w.heap.size ≤ q) := fun q hq => (World.ownsRow.lt HO2.out q hq).1
          clear hx
          go_wp2_with (at_builtin; refine wpList_append_src rfl (.tmp 31) (.tmp 32) 23 rfl w.heap.size 26 i0 _ 1 24 Tryz.underlying23 hi hz0 hz1 hz2 rfl (by decide) _ _ _ rfl HO2.out _ x.length x rfl HX.out (fun u hu => by obtain ⟨a1, a2, a3, rfl⟩ := hx1.out u hu; rfl) (by unfold maxLen; omega) (by omega) hK ?grow)
          case grow =>
            intro v' w3 h2 h3 _
            have O3 : Hid (w3.ownsRow w.heap.size 26 1 v' (rs.take (k2 + 1)).flatten.length (rs.take (k2 + 1)).flatten) := by
              show World.ownsRow _ _ _ _ _ _ _
              rw [hF.out, List.length_append]
              exact h2
            have B3 : Below w.heap.size w w3 := hB2.grown h3 hK HK.out
            clear h2 h3 HX HO2 HK
            go_wp2
            exact ⟨⟨k2 + 1, by omega, by go_num, O3, B3⟩, by simp [intOf]; omega⟩
        · have c3 : ¬ (k2 : Int) < n := by omega
          have O3 : Hid (wr.ownsRow w.heap.size 26 1 u6 rs.flatten.length rs.flatten) := by
            have h := HO2.out
            rwa [List.take_of_length_le (by have := er.out; omega)] at h
          go_wp2
          go_ret
          exact ⟨_, rfl, by have h := O3.out; simpa using h, hB2⟩

end Go.Proofs.YtiliaincniiijaaGreat

namespace Go.Proofs.YtiliaincniiijaaGreat
open Go.RowKit Go.Shelf Go.Sort
set_option linter.unusedVariables false

def lenV : Value → Nat
  | .slice _ n _ => n
  | _ => 0
/-- Rows that a slice holds, each where it lies, each one that may be. -/
structure RowsX (w : World) (A : Value) (us0 : List Value) (xs : List (List Val)) : Prop where
  vals : ValsAt w A us0
  rows : RowsOf w us0 xs
  ok : ∀ r ∈ xs, okR r ∧ r.length ≤ 8
  cap : ∀ p n c, A = .slice p n c → n ≤ c
theorem RowsOf.app {w : World} {a b : List Value} {x y : List (List Val)} (h : RowsOf w a x) (g : RowsOf w b y) : RowsOf w (a ++ b) (x ++ y) := by
  refine ⟨by rw [List.length_append, List.length_append, h.1, g.1], fun i h1 h2 => ?_⟩
  by_cases hi : i < a.length
  · rw [List.getElem_append_left hi, List.getElem_append_left (by have := h.1; omega)]
    exact h.2 i hi (by have := h.1; omega)
  · rw [List.length_append] at h1 h2
    have := h.1
    rw [List.getElem_append_right (by omega), List.getElem_append_right (by omega)]
    have e : i - a.length = i - x.length := by omega
    have := g.2 (i - x.length) (by omega) (by omega)
    simpa only [e] using this
theorem RowsOf.slices {w : World} {a : List Value} {x : List (List Val)} (h : RowsOf w a x) : ∀ u ∈ a, ∃ p n c, u = .slice p n c := fun u hu => by
  obtain ⟨i, hi, rfl⟩ := List.getElem_of_mem hu
  obtain ⟨p, c, e⟩ := (h.2 i hi (by have := h.1; omega)).form
  exact ⟨_, _, _, e⟩
theorem RowsX.nil {w : World} {A : Value} {us0 : List Value} (h : RowsX w A us0 []) : us0 = [] := List.eq_nil_of_length_eq_zero h.rows.1
theorem RowsX.cons {w : World} {A : Value} {us0 : List Value} {r : List Val} {xs : List (List Val)} (h : RowsX w A us0 (r :: xs)) : ∃ b off c u us1, A = .slice (some ⟨b, off, none⟩) (xs.length + 1) c ∧ us0 = u :: us1 ∧ b < w.heap.size ∧ xs.length + 1 ≤ c ∧ w.cell? ⟨b, off, none⟩ = some u ∧ RowAt w u r ∧ okR r ∧ r.length ≤ 8 ∧
    RowsX w (.slice (some ⟨b, off + 1, none⟩) xs.length (c - 1)) us1 xs ∧ (c = 1 → RowsX w (.slice (some ⟨b, off, none⟩) xs.length (c - 1)) us1 xs) := by
  obtain ⟨h1, h2, h3, h4⟩ := h
  have hl := h2.1
  cases us0 with
  | nil => cases hl
  | cons u us1 =>
    simp only [List.length_cons, Nat.add_right_cancel_iff] at hl
    rcases h1 with ⟨c, -, e⟩ | ⟨b, off, c, rfl, g1, g2⟩
    · cases e
    · have hc := h4 _ _ _ rfl
      have hb : b < w.heap.size := by
        rcases g1 with g1 | g1
        · cases g1
        · exact g1
      have hrow : RowAt w u r := h2.2 0 (by simp) (by simp)
      have hrows : RowsOf w us1 xs := ⟨hl, fun i a c => by have := h2.2 (i + 1) (by simpa using a) (by simpa using c); simpa using this⟩
      obtain ⟨o1, o2⟩ := h3 r (List.mem_cons_self ..)
      have hok : ∀ r ∈ xs, okR r ∧ r.length ≤ 8 := fun x hx => h3 x (List.mem_cons_of_mem _ hx)
      simp only [List.length_cons] at hc
      rw [List.length_cons, hl]
      refine ⟨b, off, c, u, us1, rfl, rfl, hb, by omega, by have := g2 0 (by simp); simpa using this, hrow, o1, o2, ⟨Or.inr ⟨b, off + 1, c - 1, by rw [hl], Or.inr hb, fun i a => ?_⟩, hrows, hok, fun p n c' e => by injection e with _ e1 e2; omega⟩, fun hc1 => ?_⟩
      · have := g2 (i + 1) (by simpa using a)
        rw [show off + (i + 1) = off + 1 + i by omega] at this
        simpa using this
      · have e0 : xs.length = 0 := by omega
        have ex : xs = [] := List.eq_nil_of_length_eq_zero e0
        subst ex
        have ea : us1 = [] := List.eq_nil_of_length_eq_zero hl
        subst ea
        exact ⟨Or.inr ⟨b, off, c - 1, rfl, Or.inl rfl, fun i a => absurd a (Nat.not_lt_zero _)⟩, hrows, hok, fun p n c' e => by injection e with _ e1 e2; omega⟩

set_option maxRecDepth 100000 in
set_option maxHeartbeats 16000000 in
theorem merge_any {A0 B0 : Value} {us us' : List Value} {rs qs : List (List Val)} {w : World} (hA : RowsX w A0 us rs) (hB0 : RowsX w B0 us' qs) (many : rs.length + qs.length ≤ 5864062014805) :
    Calls Tryz.prog 27 #[A0, B0] w fun e w' => ∃ v zs, e = .returned v ∧ w'.ownsRow w.heap.size 26 1 v zs.length zs ∧ OwnRs w.heap.size zs (mergeL rs qs) w' ∧ Below w.heap.size w w' := by
  obtain ⟨i0, hi, hz0, hz1, hz2⟩ := info_parts inR
  obtain ⟨p1, c1, eA, -⟩ := hA.vals.form
  obtain ⟨p2, c2, eB, -⟩ := hB0.vals.form
  obtain ⟨F, eF⟩ : ∃ F, Hid (mergeL rs qs = F) := ⟨_, rfl⟩
  rw [eF.out]
  have HA : Hid (RowsX w A0 us rs) := hA
  have HB : Hid (RowsX w B0 us' qs) := hB0
  clear hA hB0
  subst eA eB
  go_enter Tryz.func27, Tryz.ntmps27
  go_wp2
  go_loopw [0, 1, 5] (fun a b v wr => ∃ (us0 bs zs : List Value) (xs ys P : List (List Val)), Hid (RowsX w a us0 xs) ∧ Hid (RowsX w b bs ys) ∧ Hid (P ++ mergeL xs ys = F) ∧ Hid (wr.ownsRow w.heap.size 26 1 v zs.length zs) ∧ Hid (OwnRs w.heap.size zs P wr) ∧ Hid (P.length + xs.length + ys.length ≤ 5864062014805) ∧ Below w.heap.size w wr) (fun a b _ _ => lenV a + lenV b)
  case atStart => exact ⟨us, us', [], rs, qs, [], HA, HB, (show [] ++ mergeL rs qs = F from eF.out), (show World.ownsRow _ _ _ _ _ _ _ from World.ownsRow_nil _ _ _ _), OwnRs.nil _ _, (show [].length + rs.length + qs.length ≤ 5864062014805 by simpa using many), Below.refl _ _⟩
  case round =>
    obtain ⟨us0, bs, zs, xs, ys, P, hA, hB, hF, hO, hR, hN, hK⟩ := hrel
    clear HA HB
    cases xs with
    | nil =>
      obtain ⟨pa, ca, rfl, -⟩ := hA.out.vals.form
      obtain ⟨pb, cb, rfl, -⟩ := hB.out.vals.form
      have hF2 : Hid (F = P ++ ([] ++ ys)) := by
        have h := hF.out
        rw [mergeL_left] at h
        show _ = _
        rw [← h]
        simp
      have hRO : Hid (RowsOf w (us0 ++ bs) ([] ++ ys)) := hA.out.rows.app hB.out.rows
      have hOK : Hid (∀ rz ∈ [] ++ ys, okR rz ∧ rz.length ≤ 8) := fun rz hr => (List.mem_append.1 hr).elim (hA.out.ok rz) (hB.out.ok rz)
      have hLN : Hid (P.length + ([] ++ ys).length ≤ 5864062014805) := by
        have h := hN.out
        show _ ≤ _
        rw [List.length_append]
        omega
      obtain ⟨na, ena⟩ : ∃ na : Nat, Hid (us0.length = na) := ⟨_, rfl⟩
      obtain ⟨nb, enb⟩ : ∃ nb : Nat, Hid (bs.length = nb) := ⟨_, rfl⟩
      rw [ena.out] at hA ⊢
      rw [enb.out] at hB ⊢
      have f1 : ¬ (0 : Int) < (na : Int) := by have h1 := hA.out.rows.1; simp at h1; have := ena.out; subst h1; simp at this; omega
      have hLX : Hid ((us0 ++ bs).length = ([] ++ ys).length) := hRO.out.1
      obtain ⟨xy, exy⟩ : ∃ xy, Hid ([] ++ ys = xy) := ⟨[] ++ ys, (rfl : [] ++ ys = [] ++ ys)⟩
      rw [exy.out] at hF2 hRO hOK hLN hLX
      have CC : Hid (Calls Tryz.prog 48 #[.slice (some ⟨wr.heap.size, 0, none⟩) 2 2] (wr.alloc (.cells #[.slice pa na ca, .slice pb nb cb] 23)) fun e w' => ∃ v, e = .returned v ∧ w'.ownsRow (wr.alloc (.cells #[.slice pa na ca, .slice pb nb cb] 23)).heap.size 26 1 v (us0 ++ bs).length (us0 ++ bs) ∧ Below (wr.alloc (.cells #[.slice pa na ca, .slice pb nb cb] 23)).heap.size (wr.alloc (.cells #[.slice pa na ca, .slice pb nb cb] 23)) w') := by
        have hW : Below wr.heap.size wr (wr.alloc (.cells #[.slice pa na ca, .slice pb nb cb] 23)) := (Below.refl _ _).alloc (Nat.le_refl _) _
        have hW2 : Below w.heap.size w (wr.alloc (.cells #[.slice pa na ca, .slice pb nb cb] 23)) := hK.trans (hW.mono hK.size)
        have h := concatR_any (.slice (some ⟨wr.heap.size, 0, none⟩) 2 2) [.slice pa na ca, .slice pb nb cb] [us0, bs] (wr.alloc (.cells #[.slice pa na ca, .slice pb nb cb] 23)) (Or.inr ⟨wr.heap.size, 0, 2, rfl, Or.inr (by simp), fun i h => by
          have hi2 : i = 0 ∨ i = 1 := by simp at h; omega
          rw [Nat.zero_add]
          rcases hi2 with rfl | rfl
          · exact cell_of_heap (heap_alloc wr _) 0 rfl
          · exact cell_of_heap (heap_alloc wr _) 1 rfl⟩) ⟨rfl, fun i h g => by
          have hi2 : i = 0 ∨ i = 1 := by simp at h; omega
          rcases hi2 with rfl | rfl
          · exact hA.out.vals.below hW2
          · exact hB.out.vals.below hW2⟩ (fun x hx u hu => by
          have hm : u ∈ us0 ++ bs := by
            simp only [List.mem_cons, List.not_mem_nil, or_false] at hx
            rcases hx with rfl | rfl
            · exact List.mem_append_left _ hu
            · exact List.mem_append_right _ hu
          exact hRO.out.slices u hm) (by
          have h1 := hLN.out
          have h2 := hLX.out
          rw [List.length_append] at h2
          simp only [List.flatten_cons, List.flatten_nil, List.append_nil, List.length_append]
          omega) (by simp)
        simp only [List.flatten_cons, List.flatten_nil, List.append_nil] at h
        exact h
      have NE0 : Hid (∀ q, u5.ownBlock = some q → q < wr.heap.size) := fun q hq => (World.ownsRow.lt hO.out q hq).2
      go_wp2_with fail
      refine CC.out.mono ?_
      rintro e w2 ⟨v, rfl, ov, hb2⟩
      obtain ⟨pv, cv, rfl, -⟩ := own_form ov
      have hW : Below wr.heap.size wr (wr.alloc (.cells #[.slice pa na ca, .slice pb nb cb] 23)) := (Below.refl _ _).alloc (Nat.le_refl _) _
      have hz : (wr.alloc (.cells #[.slice pa na ca, .slice pb nb cb] 23)).heap.size = wr.heap.size + 1 := by simp
      rw [hz] at ov hb2
      have hb3 : Below wr.heap.size wr w2 := hW.trans (hb2.mono (Nat.le_succ _))
      have B2 : Below w.heap.size w w2 := hK.trans (hb3.mono hK.size)
      have O2 : Hid (w2.ownsRow w.heap.size 26 1 u5 zs.length zs) := own_below hO.out hb3
      have R2 : Hid (OwnRs w.heap.size zs P w2) := hR.out.below hb3
      obtain ⟨N, eN⟩ : ∃ N : Nat, Hid ((us0 ++ bs).length = N) := ⟨_, rfl⟩
      have lN : N ≤ 5864062014805 := by have h1 := eN.out; have h2 := hLX.out; have h3 := hLN.out; omega
      rw [eN.out] at ov ⊢
      have V2 : Hid (w2.ownsRow w.heap.size 26 1 (.slice pv N cv) N (us0 ++ bs)) := own_base ov (Nat.le_trans hK.size (Nat.le_succ _))
      have D2 : Hid ((Value.slice pv N cv).ownBlock = none ∨ (Value.slice pv N cv).ownBlock ≠ u5.ownBlock) := by
        cases h : (Value.slice pv N cv).ownBlock with
        | none => exact Or.inl rfl
        | some g =>
          right
          intro e
          have h1 := (World.ownsRow.lt ov g h).1
          have h2 := NE0.out g e.symm
          omega
      clear ov hb2 hb3 hW hz CC hO hR hA hB hF hK NE0
      go_wp2
      go_loopw [5, 51] (fun v i wx => ∃ (k : Nat) (zs2 : List Value), k ≤ N ∧ i = .int .i64 k ∧ Hid (wx.ownsRow w.heap.size 26 1 v zs2.length zs2) ∧ Hid (OwnRs w.heap.size zs2 (P ++ xy.take k) wx) ∧ Hid (wx.ownsRow w.heap.size 26 1 (.slice pv N cv) N (us0 ++ bs)) ∧ Hid ((Value.slice pv N cv).ownBlock = none ∨ (Value.slice pv N cv).ownBlock ≠ v.ownBlock) ∧ Below w.heap.size w wx) (fun _ i _ => N - (intOf i).toNat)
      case atStart => exact ⟨0, zs, Nat.zero_le _, rfl, O2, (by rw [List.take_zero, List.append_nil]; exact R2), V2, D2, B2⟩
      case round =>
        obtain ⟨k, zs2, hk, rfl, hO, hR, hV, hD, hK⟩ := hrel
        clear O2 R2 V2 D2 B2
        by_cases hlt : k < N
        · have kx : k < (us0 ++ bs).length := by have := eN.out; omega
          have ky : k < xy.length := by have := hLX.out; omega
          obtain ⟨p9, c9, e9, h9⟩ := own_form hV.out
          injection e9 with e9 e9b e9c
          clear e9b e9c
          subst e9
          obtain ⟨gv, e8, -, lgv, q1⟩ := h9 k kx
          subst e8
          clear h9
          have ra := hRO.out.2 k kx ky
          obtain ⟨oka, lra⟩ := hOK.out xy[k] (List.getElem_mem ky)
          have hst : Hid (xy.take (k + 1) = xy.take k ++ [xy[k]]) := List.take_succ_eq_append_getElem ky
          have hzl : Hid (zs2.length + 1 ≤ 5864062014805) := by
            have h1 := hR.out.1
            have h2 := hLN.out
            simp only [List.length_append, List.length_take] at h1
            show _ ≤ _
            omega
          generalize (us0 ++ bs)[k] = u at q1 ra
          generalize xy[k] = r2 at ra oka lra hst
          obtain ⟨pu, ku, rfl⟩ := ra.form
          have cl : Hid (∀ W : World, Below w.heap.size w W → Calls Tryz.prog 47 #[.slice pu r2.length ku] W fun e w' => ∃ v, e = .returned v ∧ OwnV W.heap.size v r2 w' ∧ Below W.heap.size W w') := fun W hW => cloneV_any _ r2 W (ra.below hW) (by omega) ⟨_, _, _, rfl⟩
          generalize r2.length = n2 at q1 cl
          have i1 : (0 : Int) ≤ (k : Int) := by omega
          have i2 : (k : Int) < (N : Int) := by omega
          obtain ⟨p5, n5, c5, rfl⟩ := slice_of hO.out
          clear ra oka lra
          go_wp2_with fail
          refine (cl.out _ (by exact hK)).mono ?_
          rintro e w3 ⟨X, rfl, oX, hb3⟩
          obtain ⟨px, mx, cx, rfl⟩ := slice_of oX
          have B3 : Below w.heap.size w w3 := hK.trans (hb3.mono hK.size)
          have O3 : Hid (w3.ownsRow w.heap.size 26 1 (.slice p5 n5 c5) zs2.length zs2) := own_below hO.out hb3
          have R3 : Hid (OwnRs w.heap.size zs2 (P ++ xy.take k) w3) := hR.out.below hb3
          have X3 : Hid (OwnV w.heap.size (.slice px mx cx) r2 w3) := own_base oX hK.size
          have V3 : Hid (w3.ownsRow w.heap.size 26 1 (.slice (some ⟨gv, 0, none⟩) N cv) N (us0 ++ bs)) := own_below hV.out hb3
          have HSRC : Hid (Src (w3.alloc (.cells #[.slice px mx cx] 26)) 1 (.slice (some ⟨w3.heap.size, 0, none⟩) 1 1) 1 [.slice px mx cx]) := Or.inr ⟨_, 1, rfl, rfl, fun j x hj => by
            rw [Addr.add_lit, Nat.zero_add]
            exact cell_of_heap (heap_alloc w3 _) j (by simpa using hj)⟩
          have HO4 : Hid ((w3.alloc (.cells #[.slice px mx cx] 26)).ownsRow w.heap.size 26 1 (.slice p5 n5 c5) zs2.length zs2) := World.ownsRow.alloc O3.out _
          have HK4 : Hid (∀ q, (Value.slice p5 n5 c5).ownBlock = some q → w.heap.size ≤ q) := fun q hq => (World.ownsRow.lt O3.out q hq).1
          have s1 : zs2.length + 1 ≤ maxLen := by unfold maxLen; have := hzl.out; omega
          have s2 : (zs2.length + 1) * 24 ≤ 140737488355328 := by have := hzl.out; omega
          have s3 : w.heap.size ≤ (w3.alloc (.cells #[.slice px mx cx] 26)).heap.size := by simp; have := B3.size; omega
          clear oX hb3 q1 hO hR hV hK cl
          go_wp2_with (at_builtin; refine wpList_append_src rfl (.tmp 55) (.tmp 58) 23 rfl w.heap.size 26 i0 _ 1 24 Tryz.underlying23 hi hz0 hz1 hz2 rfl (by decide) (.slice p5 n5 c5) zs2.length zs2 rfl HO4.out (.slice (some ⟨w3.heap.size, 0, none⟩) 1 1) 1 [.slice px mx cx] rfl HSRC.out ?one s1 s2 s3 ?grow)
          case one => (intro u hu; simp at hu; subst hu; rfl)
          case grow =>
            intro v' w4 h2 h3 h4
            have R4 : Hid (OwnRs w.heap.size (zs2 ++ [Value.slice px mx cx]) (P ++ xy.take (k + 1)) w4) := by
              have h := rs_more O3.out R3.out X3.out h3
              show OwnRs _ _ _ _
              rw [hst.out, ← List.append_assoc]
              exact h
            have O4 : Hid (w4.ownsRow w.heap.size 26 1 v' (zs2 ++ [Value.slice px mx cx]).length (zs2 ++ [Value.slice px mx cx])) := by
              show World.ownsRow _ _ _ _ _ _ _
              rw [List.length_append]
              exact h2
            have B4 : Below w.heap.size w w4 := (B3.alloc B3.size _).grown h3 s3 HK4.out
            have V4 : Hid (w4.ownsRow w.heap.size 26 1 (.slice (some ⟨gv, 0, none⟩) N cv) N (us0 ++ bs)) := World.ownsRow.kept (World.ownsRow.alloc V3.out _) h3 hD.out
            have D4 : Hid ((Value.slice (some ⟨gv, 0, none⟩) N cv).ownBlock = none ∨ (Value.slice (some ⟨gv, 0, none⟩) N cv).ownBlock ≠ v'.ownBlock) := by
              rcases h4 with h4 | h4
              · rw [h4]; exact hD.out
              · right
                intro e
                rw [h4] at e
                injection e with e
                have h5 := (World.ownsRow.lt V3.out gv rfl).2
                simp at e
                omega
            clear h2 h3 h4 HSRC HO4 HK4 O3 R3 X3 V3 s1 s2 s3 B3 hD
            go_wp2
            exact ⟨⟨k + 1, zs2 ++ [Value.slice px mx cx], by omega, by go_num, O4, R4, V4, D4, B4⟩, by simp [intOf]; omega⟩
        · have c3 : ¬ (k : Int) < (N : Int) := by omega
          have R4 : Hid (OwnRs w.heap.size zs2 F wr) := by
            have h := hR.out
            rw [List.take_of_length_le (by have := hLX.out; have := eN.out; omega)] at h
            show OwnRs _ _ _ _
            rw [hF2.out]
            exact h
          go_wp2
          go_ret
          exact ⟨_, rfl, zs2, hO.out, R4.out, hK⟩
    | cons r xs =>
      cases ys with
      | nil =>
        obtain ⟨pa, ca, rfl, -⟩ := hA.out.vals.form
        obtain ⟨pb, cb, rfl, -⟩ := hB.out.vals.form
        have hF2 : Hid (F = P ++ ((r :: xs) ++ [])) := by
          have h := hF.out
          rw [mergeL_right] at h
          show _ = _
          rw [← h]
          simp
        have hRO : Hid (RowsOf w (us0 ++ bs) ((r :: xs) ++ [])) := hA.out.rows.app hB.out.rows
        have hOK : Hid (∀ rz ∈ (r :: xs) ++ [], okR rz ∧ rz.length ≤ 8) := fun rz hr => (List.mem_append.1 hr).elim (hA.out.ok rz) (hB.out.ok rz)
        have hLN : Hid (P.length + ((r :: xs) ++ []).length ≤ 5864062014805) := by
          have h := hN.out
          show _ ≤ _
          rw [List.length_append]
          omega
        obtain ⟨na, ena⟩ : ∃ na : Nat, Hid (us0.length = na) := ⟨_, rfl⟩
        obtain ⟨nb, enb⟩ : ∃ nb : Nat, Hid (bs.length = nb) := ⟨_, rfl⟩
        rw [ena.out] at hA ⊢
        rw [enb.out] at hB ⊢
        have f1 : (0 : Int) < (na : Int) := by have h1 := hA.out.rows.1; have := ena.out; simp at h1; omega
        have f2 : ¬ (0 : Int) < (nb : Int) := by have h1 := hB.out.rows.1; have := enb.out; simp at h1; subst h1; simp at this; omega
        have hLX : Hid ((us0 ++ bs).length = ((r :: xs) ++ []).length) := hRO.out.1
        obtain ⟨xy, exy⟩ : ∃ xy, Hid ((r :: xs) ++ [] = xy) := ⟨(r :: xs) ++ [], (rfl : (r :: xs) ++ [] = (r :: xs) ++ [])⟩
        rw [exy.out] at hF2 hRO hOK hLN hLX
        have CC : Hid (Calls Tryz.prog 48 #[.slice (some ⟨wr.heap.size, 0, none⟩) 2 2] (wr.alloc (.cells #[.slice pa na ca, .slice pb nb cb] 23)) fun e w' => ∃ v, e = .returned v ∧ w'.ownsRow (wr.alloc (.cells #[.slice pa na ca, .slice pb nb cb] 23)).heap.size 26 1 v (us0 ++ bs).length (us0 ++ bs) ∧ Below (wr.alloc (.cells #[.slice pa na ca, .slice pb nb cb] 23)).heap.size (wr.alloc (.cells #[.slice pa na ca, .slice pb nb cb] 23)) w') := by
          have hW : Below wr.heap.size wr (wr.alloc (.cells #[.slice pa na ca, .slice pb nb cb] 23)) := (Below.refl _ _).alloc (Nat.le_refl _) _
          have hW2 : Below w.heap.size w (wr.alloc (.cells #[.slice pa na ca, .slice pb nb cb] 23)) := hK.trans (hW.mono hK.size)
          have h := concatR_any (.slice (some ⟨wr.heap.size, 0, none⟩) 2 2) [.slice pa na ca, .slice pb nb cb] [us0, bs] (wr.alloc (.cells #[.slice pa na ca, .slice pb nb cb] 23)) (Or.inr ⟨wr.heap.size, 0, 2, rfl, Or.inr (by simp), fun i h => by
            have hi2 : i = 0 ∨ i = 1 := by simp at h; omega
            rw [Nat.zero_add]
            rcases hi2 with rfl | rfl
            · exact cell_of_heap (heap_alloc wr _) 0 rfl
            · exact cell_of_heap (heap_alloc wr _) 1 rfl⟩) ⟨rfl, fun i h g => by
            have hi2 : i = 0 ∨ i = 1 := by simp at h; omega
            rcases hi2 with rfl | rfl
            · exact hA.out.vals.below hW2
            · exact hB.out.vals.below hW2⟩ (fun x hx u hu => by
            have hm : u ∈ us0 ++ bs := by
              simp only [List.mem_cons, List.not_mem_nil, or_false] at hx
              rcases hx with rfl | rfl
              · exact List.mem_append_left _ hu
              · exact List.mem_append_right _ hu
            exact hRO.out.slices u hm) (by
            have h1 := hLN.out
            have h2 := hLX.out
            rw [List.length_append] at h2
            simp only [List.flatten_cons, List.flatten_nil, List.append_nil, List.length_append]
            omega) (by simp)
          simp only [List.flatten_cons, List.flatten_nil, List.append_nil] at h
          exact h
        have NE0 : Hid (∀ q, u5.ownBlock = some q → q < wr.heap.size) := fun q hq => (World.ownsRow.lt hO.out q hq).2
        go_wp2_with fail
        refine CC.out.mono ?_
        rintro e w2 ⟨v, rfl, ov, hb2⟩
        obtain ⟨pv, cv, rfl, -⟩ := own_form ov
        have hW : Below wr.heap.size wr (wr.alloc (.cells #[.slice pa na ca, .slice pb nb cb] 23)) := (Below.refl _ _).alloc (Nat.le_refl _) _
        have hz : (wr.alloc (.cells #[.slice pa na ca, .slice pb nb cb] 23)).heap.size = wr.heap.size + 1 := by simp
        rw [hz] at ov hb2
        have hb3 : Below wr.heap.size wr w2 := hW.trans (hb2.mono (Nat.le_succ _))
        have B2 : Below w.heap.size w w2 := hK.trans (hb3.mono hK.size)
        have O2 : Hid (w2.ownsRow w.heap.size 26 1 u5 zs.length zs) := own_below hO.out hb3
        have R2 : Hid (OwnRs w.heap.size zs P w2) := hR.out.below hb3
        obtain ⟨N, eN⟩ : ∃ N : Nat, Hid ((us0 ++ bs).length = N) := ⟨_, rfl⟩
        have lN : N ≤ 5864062014805 := by have h1 := eN.out; have h2 := hLX.out; have h3 := hLN.out; omega
        rw [eN.out] at ov ⊢
        have V2 : Hid (w2.ownsRow w.heap.size 26 1 (.slice pv N cv) N (us0 ++ bs)) := own_base ov (Nat.le_trans hK.size (Nat.le_succ _))
        have D2 : Hid ((Value.slice pv N cv).ownBlock = none ∨ (Value.slice pv N cv).ownBlock ≠ u5.ownBlock) := by
          cases h : (Value.slice pv N cv).ownBlock with
          | none => exact Or.inl rfl
          | some g =>
            right
            intro e
            have h1 := (World.ownsRow.lt ov g h).1
            have h2 := NE0.out g e.symm
            omega
        clear ov hb2 hb3 hW hz CC hO hR hA hB hF hK NE0
        go_wp2
        go_loopw [5, 51] (fun v i wx => ∃ (k : Nat) (zs2 : List Value), k ≤ N ∧ i = .int .i64 k ∧ Hid (wx.ownsRow w.heap.size 26 1 v zs2.length zs2) ∧ Hid (OwnRs w.heap.size zs2 (P ++ xy.take k) wx) ∧ Hid (wx.ownsRow w.heap.size 26 1 (.slice pv N cv) N (us0 ++ bs)) ∧ Hid ((Value.slice pv N cv).ownBlock = none ∨ (Value.slice pv N cv).ownBlock ≠ v.ownBlock) ∧ Below w.heap.size w wx) (fun _ i _ => N - (intOf i).toNat)
        case atStart => exact ⟨0, zs, Nat.zero_le _, rfl, O2, (by rw [List.take_zero, List.append_nil]; exact R2), V2, D2, B2⟩
        case round =>
          obtain ⟨k, zs2, hk, rfl, hO, hR, hV, hD, hK⟩ := hrel
          clear O2 R2 V2 D2 B2
          by_cases hlt : k < N
          · have kx : k < (us0 ++ bs).length := by have := eN.out; omega
            have ky : k < xy.length := by have := hLX.out; omega
            obtain ⟨p9, c9, e9, h9⟩ := own_form hV.out
            injection e9 with e9 e9b e9c
            clear e9b e9c
            subst e9
            obtain ⟨gv, e8, -, lgv, q1⟩ := h9 k kx
            subst e8
            clear h9
            have ra := hRO.out.2 k kx ky
            obtain ⟨oka, lra⟩ := hOK.out xy[k] (List.getElem_mem ky)
            have hst : Hid (xy.take (k + 1) = xy.take k ++ [xy[k]]) := List.take_succ_eq_append_getElem ky
            have hzl : Hid (zs2.length + 1 ≤ 5864062014805) := by
              have h1 := hR.out.1
              have h2 := hLN.out
              simp only [List.length_append, List.length_take] at h1
              show _ ≤ _
              omega
            generalize (us0 ++ bs)[k] = u at q1 ra
            generalize xy[k] = r2 at ra oka lra hst
            obtain ⟨pu, ku, rfl⟩ := ra.form
            have cl : Hid (∀ W : World, Below w.heap.size w W → Calls Tryz.prog 47 #[.slice pu r2.length ku] W fun e w' => ∃ v, e = .returned v ∧ OwnV W.heap.size v r2 w' ∧ Below W.heap.size W w') := fun W hW => cloneV_any _ r2 W (ra.below hW) (by omega) ⟨_, _, _, rfl⟩
            generalize r2.length = n2 at q1 cl
            have i1 : (0 : Int) ≤ (k : Int) := by omega
            have i2 : (k : Int) < (N : Int) := by omega
            obtain ⟨p5, n5, c5, rfl⟩ := slice_of hO.out
            clear ra oka lra
            go_wp2_with fail
            refine (cl.out _ (by exact hK)).mono ?_
            rintro e w3 ⟨X, rfl, oX, hb3⟩
            obtain ⟨px, mx, cx, rfl⟩ := slice_of oX
            have B3 : Below w.heap.size w w3 := hK.trans (hb3.mono hK.size)
            have O3 : Hid (w3.ownsRow w.heap.size 26 1 (.slice p5 n5 c5) zs2.length zs2) := own_below hO.out hb3
            have R3 : Hid (OwnRs w.heap.size zs2 (P ++ xy.take k) w3) := hR.out.below hb3
            have X3 : Hid (OwnV w.heap.size (.slice px mx cx) r2 w3) := own_base oX hK.size
            have V3 : Hid (w3.ownsRow w.heap.size 26 1 (.slice (some ⟨gv, 0, none⟩) N cv) N (us0 ++ bs)) := own_below hV.out hb3
            have HSRC : Hid (Src (w3.alloc (.cells #[.slice px mx cx] 26)) 1 (.slice (some ⟨w3.heap.size, 0, none⟩) 1 1) 1 [.slice px mx cx]) := Or.inr ⟨_, 1, rfl, rfl, fun j x hj => by
              rw [Addr.add_lit, Nat.zero_add]
              exact cell_of_heap (heap_alloc w3 _) j (by simpa using hj)⟩
            have HO4 : Hid ((w3.alloc (.cells #[.slice px mx cx] 26)).ownsRow w.heap.size 26 1 (.slice p5 n5 c5) zs2.length zs2) := World.ownsRow.alloc O3.out _
            have HK4 : Hid (∀ q, (Value.slice p5 n5 c5).ownBlock = some q → w.heap.size ≤ q) := fun q hq => (World.ownsRow.lt O3.out q hq).1
            have s1 : zs2.length + 1 ≤ maxLen := by unfold maxLen; have := hzl.out; omega
            have s2 : (zs2.length + 1) * 24 ≤ 140737488355328 := by have := hzl.out; omega
            have s3 : w.heap.size ≤ (w3.alloc (.cells #[.slice px mx cx] 26)).heap.size := by simp; have := B3.size; omega
            clear oX hb3 q1 hO hR hV hK cl
            go_wp2_with (at_builtin; refine wpList_append_src rfl (.tmp 55) (.tmp 58) 23 rfl w.heap.size 26 i0 _ 1 24 Tryz.underlying23 hi hz0 hz1 hz2 rfl (by decide) (.slice p5 n5 c5) zs2.length zs2 rfl HO4.out (.slice (some ⟨w3.heap.size, 0, none⟩) 1 1) 1 [.slice px mx cx] rfl HSRC.out ?one s1 s2 s3 ?grow)
            case one => (intro u hu; simp at hu; subst hu; rfl)
            case grow =>
              intro v' w4 h2 h3 h4
              have R4 : Hid (OwnRs w.heap.size (zs2 ++ [Value.slice px mx cx]) (P ++ xy.take (k + 1)) w4) := by
                have h := rs_more O3.out R3.out X3.out h3
                show OwnRs _ _ _ _
                rw [hst.out, ← List.append_assoc]
                exact h
              have O4 : Hid (w4.ownsRow w.heap.size 26 1 v' (zs2 ++ [Value.slice px mx cx]).length (zs2 ++ [Value.slice px mx cx])) := by
                show World.ownsRow _ _ _ _ _ _ _
                rw [List.length_append]
                exact h2
              have B4 : Below w.heap.size w w4 := (B3.alloc B3.size _).grown h3 s3 HK4.out
              have V4 : Hid (w4.ownsRow w.heap.size 26 1 (.slice (some ⟨gv, 0, none⟩) N cv) N (us0 ++ bs)) := World.ownsRow.kept (World.ownsRow.alloc V3.out _) h3 hD.out
              have D4 : Hid ((Value.slice (some ⟨gv, 0, none⟩) N cv).ownBlock = none ∨ (Value.slice (some ⟨gv, 0, none⟩) N cv).ownBlock ≠ v'.ownBlock) := by
                rcases h4 with h4 | h4
                · rw [h4]; exact hD.out
                · right
                  intro e
                  rw [h4] at e
                  injection e with e
                  have h5 := (World.ownsRow.lt V3.out gv rfl).2
                  simp at e
                  omega
              clear h2 h3 h4 HSRC HO4 HK4 O3 R3 X3 V3 s1 s2 s3 B3 hD
              go_wp2
              exact ⟨⟨k + 1, zs2 ++ [Value.slice px mx cx], by omega, by go_num, O4, R4, V4, D4, B4⟩, by simp [intOf]; omega⟩
          · have c3 : ¬ (k : Int) < (N : Int) := by omega
            have R4 : Hid (OwnRs w.heap.size zs2 F wr) := by
              have h := hR.out
              rw [List.take_of_length_le (by have := hLX.out; have := eN.out; omega)] at h
              show OwnRs _ _ _ _
              rw [hF2.out]
              exact h
            go_wp2
            go_ret
            exact ⟨_, rfl, zs2, hO.out, R4.out, hK⟩
      | cons t ys =>
        obtain ⟨ba, oa, ca, u, us1, rfl, rfl, lba, hca, qa, ra, oka, lra, TA, TA1⟩ := hA.out.cons
        obtain ⟨bb, ob, cb, y, bs1, rfl, rfl, lbb, hcb, qb, rb, okb, lrb, TB, TB1⟩ := hB.out.cons
        have RA : Hid (RowAt w u r) := ra
        have RB : Hid (RowAt w y t) := rb
        have OA : Hid (okR r) := oka
        have OB : Hid (okR t) := okb
        have HTA : Hid (RowsX w (.slice (some ⟨ba, oa + 1, none⟩) xs.length (ca - 1)) us1 xs) := TA
        have HTB : Hid (RowsX w (.slice (some ⟨bb, ob + 1, none⟩) ys.length (cb - 1)) bs1 ys) := TB
        have HTA1 : Hid (ca = 1 → RowsX w (.slice (some ⟨ba, oa, none⟩) xs.length (ca - 1)) us1 xs) := TA1
        have HTB1 : Hid (cb = 1 → RowsX w (.slice (some ⟨bb, ob, none⟩) ys.length (cb - 1)) bs1 ys) := TB1
        have QA : Hid (w.cell? ⟨ba, oa, none⟩ = some u) := qa
        have QB : Hid (w.cell? ⟨bb, ob, none⟩ = some y) := qb
        have q1 : wr.cell? ⟨ba, oa, none⟩ = some u := (hK.cell (p := ⟨ba, oa, none⟩) lba).trans qa
        have q2 : wr.cell? ⟨bb, ob, none⟩ = some y := (hK.cell (p := ⟨bb, ob, none⟩) lbb).trans qb
        obtain ⟨pu, ku, rfl⟩ := ra.form
        obtain ⟨py, ky, rfl⟩ := rb.form
        obtain ⟨nr, enr⟩ : ∃ nr : Nat, Hid (r.length = nr) := ⟨_, rfl⟩
        obtain ⟨nt, ent⟩ : ∃ nt : Nat, Hid (t.length = nt) := ⟨_, rfl⟩
        rw [enr.out] at RA QA q1 qa lra
        rw [ent.out] at RB QB q2 qb lrb
        obtain ⟨nx, enx⟩ : ∃ nx : Nat, Hid (xs.length = nx) := ⟨_, rfl⟩
        obtain ⟨ny, eny⟩ : ∃ ny : Nat, Hid (ys.length = ny) := ⟨_, rfl⟩
        rw [enx.out] at HTA HTA1 hca ⊢
        rw [eny.out] at HTB HTB1 hcb ⊢
        obtain ⟨D, eD⟩ : ∃ D : Int, Hid (rowC r t = D) := ⟨_, rfl⟩
        have ct : Hid (∀ W : World, Below w.heap.size w W → Calls Tryz.prog 13 #[.slice pu nr ku, .slice py nt ky] W fun e w' => e = .returned (.int .i64 D) ∧ Below W.heap.size W w') := fun W hW => by
          have h := row_gen _ _ r t W (fun v hv => (OA.out v hv).2) (fun v hv => (OB.out v hv).2) (RA.out.below hW) (RB.out.below hW) (by rw [enr.out]; omega) (by rw [ent.out]; omega)
          rwa [eD.out] at h
        have cl : Hid (∀ W : World, Below w.heap.size w W → Calls Tryz.prog 47 #[.slice pu nr ku] W fun e w' => ∃ v, e = .returned v ∧ OwnV W.heap.size v r w' ∧ Below W.heap.size W w') := fun W hW => cloneV_any _ r W (RA.out.below hW) (by rw [enr.out]; omega) ⟨_, _, _, rfl⟩
        have cl2 : Hid (∀ W : World, Below w.heap.size w W → Calls Tryz.prog 47 #[.slice py nt ky] W fun e w' => ∃ v, e = .returned v ∧ OwnV W.heap.size v t w' ∧ Below W.heap.size W w') := fun W hW => cloneV_any _ t W (RB.out.below hW) (by rw [ent.out]; omega) ⟨_, _, _, rfl⟩
        have hF2 : Hid (F = P ++ (if D < 0 then r :: mergeL xs (t :: ys) else if D = 0 then r :: mergeL xs ys else t :: mergeL (r :: xs) ys)) := by
          have h := hF.out
          rw [mergeL_step, eD.out] at h
          exact h.symm
        have hN2 : Hid (P.length + nx + ny + 2 ≤ 5864062014805) := by
          have h := hN.out
          simp only [List.length_cons] at h
          rw [enx.out, eny.out] at h
          show _ ≤ _
          omega
        have wlba : ba < wr.heap.size := Nat.lt_of_lt_of_le lba hK.size
        have wlbb : bb < wr.heap.size := Nat.lt_of_lt_of_le lbb hK.size
        have i1 : (0 : Int) < (nx : Int) + 1 := by omega
        have i2 : (0 : Int) < (ny : Int) + 1 := by omega
        clear ra rb oka okb TA TB TA1 TB1 qa qb hF hN
        go_upto_region 3 with fail
        go_region_held3 (fun w' => w'.cell? ⟨ba, oa, none⟩ = some (.slice pu nr ku) ∧ w'.cell? ⟨bb, ob, none⟩ = some (.slice py nt ky))
          (exact ⟨bcl (n := wr.heap.size) (by go_grown) q1 wlba, bcl (n := wr.heap.size) (by go_grown) q2 wlbb⟩)
          (first
            | (go_at_call 13; refine (ct.out _ (by go_grown)).mono ?_; rintro e v1 ⟨rfl, hv1⟩; obtain ⟨hw1, hn1⟩ := bg0 (n := wr.heap.size) (W0 := wr) (by go_grown) (by go_size) hv1; clear hv1))
        have B1 : Below w.heap.size w v1 := hK.trans (hw1.mono hK.size)
        have O1 : Hid (v1.ownsRow w.heap.size 26 1 u5 zs.length zs) := own_below hO.out hw1
        have R1 : Hid (OwnRs w.heap.size zs P v1) := hR.out.below hw1
        have a0 : v1.cell? ⟨ba, oa, none⟩ = some (.slice pu nr ku) := (B1.cell (p := ⟨ba, oa, none⟩) lba).trans QA.out
        have b0 : v1.cell? ⟨bb, ob, none⟩ = some (.slice py nt ky) := (B1.cell (p := ⟨bb, ob, none⟩) lbb).trans QB.out
        rw [enx.out, enr.out] at hA
        rw [eny.out, ent.out] at hB
        obtain ⟨p5, n5, c5, rfl⟩ := slice_of O1.out
        have hzl : Hid (zs.length = P.length) := R1.out.1
        have j1 : (1 : Int) ≤ (nx : Int) + 1 := by omega
        have j2 : (nx : Int) + 1 ≤ (ca : Int) := by omega
        have j3 : (1 : Int) ≤ (ny : Int) + 1 := by omega
        have j4 : (ny : Int) + 1 ≤ (cb : Int) := by omega
        have j5 : (1 : Int) ≤ (ca : Int) := by omega
        have j6 : (1 : Int) ≤ (cb : Int) := by omega
        clear hw1 hn1 ct q1 q2 hK hO hR
        by_cases hD : D < 0
        · have hF3 : Hid ((P ++ [r]) ++ mergeL xs (t :: ys) = F) := by
            have h := hF2.out
            rw [if_pos hD] at h
            show _ = _
            rw [h]
            simp
          have d1 : D ≤ 0 := by omega
          have d2 : ¬ 0 < D := by omega
          have d3 : ¬ 0 ≤ D := by omega
          go_wp2_with fail
          refine (cl.out _ (by exact B1)).mono ?_
          rintro e w2 ⟨X, rfl, oX, hb2⟩
          obtain ⟨px, mx, cx, rfl⟩ := slice_of oX
          have B2 : Below w.heap.size w w2 := B1.trans (hb2.mono B1.size)
          have O2 : Hid (w2.ownsRow w.heap.size 26 1 (.slice p5 n5 c5) zs.length zs) := own_below O1.out hb2
          have R2 : Hid (OwnRs w.heap.size zs P w2) := R1.out.below hb2
          have X2 : Hid (OwnV w.heap.size (.slice px mx cx) r w2) := own_base oX B1.size
          have HSRC : Hid (Src (w2.alloc (.cells #[.slice px mx cx] 26)) 1 (.slice (some ⟨w2.heap.size, 0, none⟩) 1 1) 1 [.slice px mx cx]) := Or.inr ⟨_, 1, rfl, rfl, fun j x hj => by
            rw [Addr.add_lit, Nat.zero_add]
            exact cell_of_heap (heap_alloc w2 _) j (by simpa using hj)⟩
          have HO4 : Hid ((w2.alloc (.cells #[.slice px mx cx] 26)).ownsRow w.heap.size 26 1 (.slice p5 n5 c5) zs.length zs) := World.ownsRow.alloc O2.out _
          have HK4 : Hid (∀ q, (Value.slice p5 n5 c5).ownBlock = some q → w.heap.size ≤ q) := fun q hq => (World.ownsRow.lt O2.out q hq).1
          have s1 : zs.length + 1 ≤ maxLen := by unfold maxLen; have := hN2.out; have := hzl.out; omega
          have s2 : (zs.length + 1) * 24 ≤ 140737488355328 := by have := hN2.out; have := hzl.out; omega
          have s3 : w.heap.size ≤ (w2.alloc (.cells #[.slice px mx cx] 26)).heap.size := by simp; have := B2.size; omega
          clear oX hb2 a0 b0 O1 R1 B1 cl
          go_wp2_with (at_builtin; refine wpList_append_src rfl (.tmp 33) (.tmp 36) 23 rfl w.heap.size 26 i0 _ 1 24 Tryz.underlying23 hi hz0 hz1 hz2 rfl (by decide) (.slice p5 n5 c5) zs.length zs rfl HO4.out (.slice (some ⟨w2.heap.size, 0, none⟩) 1 1) 1 [.slice px mx cx] rfl HSRC.out ?one s1 s2 s3 ?grow)
          case one => (intro u hu; simp at hu; subst hu; rfl)
          case grow =>
            intro v' w3 h2 h3 _
            have R3 : Hid (OwnRs w.heap.size (zs ++ [Value.slice px mx cx]) (P ++ [r]) w3) := rs_more O2.out R2.out X2.out h3
            have O3 : Hid (w3.ownsRow w.heap.size 26 1 v' (zs ++ [Value.slice px mx cx]).length (zs ++ [Value.slice px mx cx])) := by
              show World.ownsRow _ _ _ _ _ _ _
              rw [List.length_append]
              exact h2
            have B3 : Below w.heap.size w w3 := (B2.alloc B2.size _).grown h3 s3 HK4.out
            clear h2 h3 HSRC HO4 HK4 O2 R2 X2 s1 s2 s3 B2
            by_cases hc1 : ca = 1
            · have HT1 : Hid (RowsX w (.slice (some ⟨ba, oa, none⟩) nx 0) us1 xs) := by have h := HTA1.out hc1; rw [hc1] at h; exact h
              go_wp2
              exact ⟨⟨us1, (Value.slice py nt ky :: bs1), zs ++ [Value.slice px mx cx], xs, (t :: ys), P ++ [r], HT1, hB, hF3, O3, R3, (by show _ ≤ _; have h := hN2.out; simp only [List.length_append, List.length_cons, List.length_nil, enx.out, eny.out]; omega), B3⟩, by simp only [lenV]; omega⟩
            · have hc2 : ¬ (ca : Int) = 1 := by omega
              go_wp2
              exact ⟨⟨us1, (Value.slice py nt ky :: bs1), zs ++ [Value.slice px mx cx], xs, (t :: ys), P ++ [r], HTA, hB, hF3, O3, R3, (by show _ ≤ _; have h := hN2.out; simp only [List.length_append, List.length_cons, List.length_nil, enx.out, eny.out]; omega), B3⟩, by simp only [lenV]; omega⟩
        · by_cases hE : D = 0
          · have hF3 : Hid ((P ++ [r]) ++ mergeL xs ys = F) := by
              have h := hF2.out
              rw [if_neg hD, if_pos hE] at h
              show _ = _
              rw [h]
              simp
            subst hE
            go_wp2_with fail
            refine (cl.out _ (by exact B1)).mono ?_
            rintro e w2 ⟨X, rfl, oX, hb2⟩
            obtain ⟨px, mx, cx, rfl⟩ := slice_of oX
            have B2 : Below w.heap.size w w2 := B1.trans (hb2.mono B1.size)
            have O2 : Hid (w2.ownsRow w.heap.size 26 1 (.slice p5 n5 c5) zs.length zs) := own_below O1.out hb2
            have R2 : Hid (OwnRs w.heap.size zs P w2) := R1.out.below hb2
            have X2 : Hid (OwnV w.heap.size (.slice px mx cx) r w2) := own_base oX B1.size
            have HSRC : Hid (Src (w2.alloc (.cells #[.slice px mx cx] 26)) 1 (.slice (some ⟨w2.heap.size, 0, none⟩) 1 1) 1 [.slice px mx cx]) := Or.inr ⟨_, 1, rfl, rfl, fun j x hj => by
              rw [Addr.add_lit, Nat.zero_add]
              exact cell_of_heap (heap_alloc w2 _) j (by simpa using hj)⟩
            have HO4 : Hid ((w2.alloc (.cells #[.slice px mx cx] 26)).ownsRow w.heap.size 26 1 (.slice p5 n5 c5) zs.length zs) := World.ownsRow.alloc O2.out _
            have HK4 : Hid (∀ q, (Value.slice p5 n5 c5).ownBlock = some q → w.heap.size ≤ q) := fun q hq => (World.ownsRow.lt O2.out q hq).1
            have s1 : zs.length + 1 ≤ maxLen := by unfold maxLen; have := hN2.out; have := hzl.out; omega
            have s2 : (zs.length + 1) * 24 ≤ 140737488355328 := by have := hN2.out; have := hzl.out; omega
            have s3 : w.heap.size ≤ (w2.alloc (.cells #[.slice px mx cx] 26)).heap.size := by simp; have := B2.size; omega
            clear oX hb2 a0 b0 O1 R1 B1 cl
            go_wp2_with (at_builtin; refine wpList_append_src rfl (.tmp 33) (.tmp 36) 23 rfl w.heap.size 26 i0 _ 1 24 Tryz.underlying23 hi hz0 hz1 hz2 rfl (by decide) (.slice p5 n5 c5) zs.length zs rfl HO4.out (.slice (some ⟨w2.heap.size, 0, none⟩) 1 1) 1 [.slice px mx cx] rfl HSRC.out ?one s1 s2 s3 ?grow)
            case one => (intro u hu; simp at hu; subst hu; rfl)
            case grow =>
              intro v' w3 h2 h3 _
              have R3 : Hid (OwnRs w.heap.size (zs ++ [Value.slice px mx cx]) (P ++ [r]) w3) := rs_more O2.out R2.out X2.out h3
              have O3 : Hid (w3.ownsRow w.heap.size 26 1 v' (zs ++ [Value.slice px mx cx]).length (zs ++ [Value.slice px mx cx])) := by
                show World.ownsRow _ _ _ _ _ _ _
                rw [List.length_append]
                exact h2
              have B3 : Below w.heap.size w w3 := (B2.alloc B2.size _).grown h3 s3 HK4.out
              clear h2 h3 HSRC HO4 HK4 O2 R2 X2 s1 s2 s3 B2
              by_cases hc1 : ca = 1
              · have HT1 : Hid (RowsX w (.slice (some ⟨ba, oa, none⟩) nx 0) us1 xs) := by have h := HTA1.out hc1; rw [hc1] at h; exact h
                by_cases hc3 : cb = 1
                · have HT2 : Hid (RowsX w (.slice (some ⟨bb, ob, none⟩) ny 0) bs1 ys) := by have h := HTB1.out hc3; rw [hc3] at h; exact h
                  go_wp2
                  exact ⟨⟨us1, bs1, zs ++ [Value.slice px mx cx], xs, ys, P ++ [r], HT1, HT2, hF3, O3, R3, (by show _ ≤ _; have h := hN2.out; simp only [List.length_append, List.length_cons, List.length_nil, enx.out, eny.out]; omega), B3⟩, by simp only [lenV]; omega⟩
                · have hc4 : ¬ (cb : Int) = 1 := by omega
                  go_wp2
                  exact ⟨⟨us1, bs1, zs ++ [Value.slice px mx cx], xs, ys, P ++ [r], HT1, HTB, hF3, O3, R3, (by show _ ≤ _; have h := hN2.out; simp only [List.length_append, List.length_cons, List.length_nil, enx.out, eny.out]; omega), B3⟩, by simp only [lenV]; omega⟩
              · have hc2 : ¬ (ca : Int) = 1 := by omega
                by_cases hc3 : cb = 1
                · have HT2 : Hid (RowsX w (.slice (some ⟨bb, ob, none⟩) ny 0) bs1 ys) := by have h := HTB1.out hc3; rw [hc3] at h; exact h
                  go_wp2
                  exact ⟨⟨us1, bs1, zs ++ [Value.slice px mx cx], xs, ys, P ++ [r], HTA, HT2, hF3, O3, R3, (by show _ ≤ _; have h := hN2.out; simp only [List.length_append, List.length_cons, List.length_nil, enx.out, eny.out]; omega), B3⟩, by simp only [lenV]; omega⟩
                · have hc4 : ¬ (cb : Int) = 1 := by omega
                  go_wp2
                  exact ⟨⟨us1, bs1, zs ++ [Value.slice px mx cx], xs, ys, P ++ [r], HTA, HTB, hF3, O3, R3, (by show _ ≤ _; have h := hN2.out; simp only [List.length_append, List.length_cons, List.length_nil, enx.out, eny.out]; omega), B3⟩, by simp only [lenV]; omega⟩
          · have hF3 : Hid ((P ++ [t]) ++ mergeL (r :: xs) ys = F) := by
              have h := hF2.out
              rw [if_neg hD, if_neg hE] at h
              show _ = _
              rw [h]
              simp
            have d1 : ¬ D ≤ 0 := by omega
            have d2 : 0 < D := by omega
            have d3 : 0 ≤ D := by omega
            go_wp2_with fail
            refine (cl2.out _ (by exact B1)).mono ?_
            rintro e w2 ⟨X, rfl, oX, hb2⟩
            obtain ⟨px, mx, cx, rfl⟩ := slice_of oX
            have B2 : Below w.heap.size w w2 := B1.trans (hb2.mono B1.size)
            have O2 : Hid (w2.ownsRow w.heap.size 26 1 (.slice p5 n5 c5) zs.length zs) := own_below O1.out hb2
            have R2 : Hid (OwnRs w.heap.size zs P w2) := R1.out.below hb2
            have X2 : Hid (OwnV w.heap.size (.slice px mx cx) t w2) := own_base oX B1.size
            have HSRC : Hid (Src (w2.alloc (.cells #[.slice px mx cx] 26)) 1 (.slice (some ⟨w2.heap.size, 0, none⟩) 1 1) 1 [.slice px mx cx]) := Or.inr ⟨_, 1, rfl, rfl, fun j x hj => by
              rw [Addr.add_lit, Nat.zero_add]
              exact cell_of_heap (heap_alloc w2 _) j (by simpa using hj)⟩
            have HO4 : Hid ((w2.alloc (.cells #[.slice px mx cx] 26)).ownsRow w.heap.size 26 1 (.slice p5 n5 c5) zs.length zs) := World.ownsRow.alloc O2.out _
            have HK4 : Hid (∀ q, (Value.slice p5 n5 c5).ownBlock = some q → w.heap.size ≤ q) := fun q hq => (World.ownsRow.lt O2.out q hq).1
            have s1 : zs.length + 1 ≤ maxLen := by unfold maxLen; have := hN2.out; have := hzl.out; omega
            have s2 : (zs.length + 1) * 24 ≤ 140737488355328 := by have := hN2.out; have := hzl.out; omega
            have s3 : w.heap.size ≤ (w2.alloc (.cells #[.slice px mx cx] 26)).heap.size := by simp; have := B2.size; omega
            clear oX hb2 a0 b0 O1 R1 B1 cl2
            go_wp2_with (at_builtin; refine wpList_append_src rfl (.tmp 33) (.tmp 36) 23 rfl w.heap.size 26 i0 _ 1 24 Tryz.underlying23 hi hz0 hz1 hz2 rfl (by decide) (.slice p5 n5 c5) zs.length zs rfl HO4.out (.slice (some ⟨w2.heap.size, 0, none⟩) 1 1) 1 [.slice px mx cx] rfl HSRC.out ?one s1 s2 s3 ?grow)
            case one => (intro u hu; simp at hu; subst hu; rfl)
            case grow =>
              intro v' w3 h2 h3 _
              have R3 : Hid (OwnRs w.heap.size (zs ++ [Value.slice px mx cx]) (P ++ [t]) w3) := rs_more O2.out R2.out X2.out h3
              have O3 : Hid (w3.ownsRow w.heap.size 26 1 v' (zs ++ [Value.slice px mx cx]).length (zs ++ [Value.slice px mx cx])) := by
                show World.ownsRow _ _ _ _ _ _ _
                rw [List.length_append]
                exact h2
              have B3 : Below w.heap.size w w3 := (B2.alloc B2.size _).grown h3 s3 HK4.out
              clear h2 h3 HSRC HO4 HK4 O2 R2 X2 s1 s2 s3 B2
              by_cases hc3 : cb = 1
              · have HT2 : Hid (RowsX w (.slice (some ⟨bb, ob, none⟩) ny 0) bs1 ys) := by have h := HTB1.out hc3; rw [hc3] at h; exact h
                go_wp2
                exact ⟨⟨(Value.slice pu nr ku :: us1), bs1, zs ++ [Value.slice px mx cx], (r :: xs), ys, P ++ [t], hA, HT2, hF3, O3, R3, (by show _ ≤ _; have h := hN2.out; simp only [List.length_append, List.length_cons, List.length_nil, enx.out, eny.out]; omega), B3⟩, by simp only [lenV]; omega⟩
              · have hc4 : ¬ (cb : Int) = 1 := by omega
                go_wp2
                exact ⟨⟨(Value.slice pu nr ku :: us1), bs1, zs ++ [Value.slice px mx cx], (r :: xs), ys, P ++ [t], hA, HTB, hF3, O3, R3, (by show _ ≤ _; have h := hN2.out; simp only [List.length_append, List.length_cons, List.length_nil, enx.out, eny.out]; omega), B3⟩, by simp only [lenV]; omega⟩

end Go.Proofs.YtiliaincniiijaaGreat

namespace Go.Proofs.YtiliaincniiijaaGreat
open Go.RowKit Go.Shelf Go.Sort
set_option linter.unusedVariables false

theorem RowsX.below {w w' : World} {A : Value} {us0 : List Value} {xs : List (List Val)} (h : RowsX w A us0 xs) (hb : Below w.heap.size w w') : RowsX w' A us0 xs := ⟨h.vals.below hb, h.rows.below hb, h.ok, h.cap⟩

set_option maxRecDepth 100000 in
set_option maxHeartbeats 8000000 in
theorem union_any {Va Ra Vb Rb : Value} {vs vs' : List ByteArray} {us us' : List Value} {rs qs : List (List Val)} {w : World} (ha : TabAt w Va Ra vs us rs) (hb : TabAt w Vb Rb vs' us' qs) (capA : ∀ p n c, Ra = .slice p n c → n ≤ c) (capB : ∀ p n c, Rb = .slice p n c → n ≤ c) (many : rs.length + qs.length ≤ 5864062014805) :
    Calls Tryz.prog 7 #[.agg #[Va, Ra], .agg #[Vb, Rb]] w fun e w' => ∃ t, e = .returned (.tuple #[t, .int .i64 (alikeE vs rs vs' qs)]) ∧ (alikeE vs rs vs' qs = 0 → OwnT w.heap.size t vs (mergeL rs qs) w') ∧ (alikeE vs rs vs' qs ≠ 0 → t = .agg #[.slice none 0 0, .slice none 0 0]) ∧ Below w.heap.size w w' := by
  have HA : Hid (TabAt w Va Ra vs us rs) := ha
  have HB : Hid (TabAt w Vb Rb vs' us' qs) := hb
  have CA : Hid (∀ p n c, Ra = .slice p n c → n ≤ c) := capA
  have CB : Hid (∀ p n c, Rb = .slice p n c → n ≤ c) := capB
  have MN : Hid (rs.length + qs.length ≤ 5864062014805) := many
  clear capA capB many
  have cE : Hid (∀ W, Below w.heap.size w W → Calls Tryz.prog 25 #[.agg #[Va, Ra], .agg #[Vb, Rb]] W fun e w' => e = .returned (.int .i64 (alikeE vs rs vs' qs)) ∧ Below W.heap.size W w') := fun W hW => calike_any (ha.below hW) (hb.below hW)
  obtain ⟨p1, k1, p2, k2, rfl, rfl⟩ := ha.forms
  obtain ⟨p3, k3, p4, k4, rfl, rfl⟩ := hb.forms
  obtain ⟨E, eE⟩ : ∃ E, Hid (alikeE vs rs vs' qs = E) := ⟨_, rfl⟩
  obtain ⟨n1, en1⟩ : ∃ n, Hid (vs.length = n) := ⟨_, rfl⟩
  obtain ⟨n2, en2⟩ : ∃ n, Hid (us.length = n) := ⟨_, rfl⟩
  obtain ⟨n3, en3⟩ : ∃ n, Hid (vs'.length = n) := ⟨_, rfl⟩
  obtain ⟨n4, en4⟩ : ∃ n, Hid (us'.length = n) := ⟨_, rfl⟩
  rw [eE.out] at cE ⊢
  rw [en1.out] at HA cE ⊢
  rw [en2.out] at HA CA cE ⊢
  rw [en3.out] at HB cE ⊢
  rw [en4.out] at HB CB cE ⊢
  clear ha hb
  go_enter Tryz.func7, Tryz.ntmps7
  go_upto_region 1 with fail
  refine wp_world ?_
  intro W0 hW0
  have bx0 : Hid (Box3 W0 w.heap.size (.slice p1 n1 k1) (.slice p2 n2 k2) (.slice p3 n3 k3) (.slice p4 n4 k4)) := by rw [hW0]; exact Box3.made _ _ _ _ _
  have K0 : Below w.heap.size w W0 := by rw [hW0]; go_grown
  have z0 : W0.heap.size = w.heap.size + 3 := by rw [hW0]; simp
  clear hW0
  have A0 := cell_of_heap bx0.out.a 0 rfl
  have A1 := cell_of_heap bx0.out.a 1 rfl
  have B0 := cell_of_heap bx0.out.b 0 rfl
  have B1 := cell_of_heap bx0.out.b 1 rfl
  go_wp2_with fail
  refine (cE.out W0 K0).mono ?_
  rintro e w1 ⟨rfl, hb1⟩
  have bx1 : Hid (Box3 w1 w.heap.size (.slice p1 n1 k1) (.slice p2 n2 k2) (.slice p3 n3 k3) (.slice p4 n4 k4)) := bx0.out.below hb1
  have K1 : Below w.heap.size w w1 := K0.trans (hb1.mono K0.size)
  have z1 : w.heap.size + 3 ≤ w1.heap.size := by have := hb1.size; omega
  clear A0 A1 B0 B1 bx0 K0 hb1 z0
  have HSET : Hid (∀ W, Below w.heap.size w W → ∀ x y, Below w.heap.size w ((W.setCell ⟨w.heap.size + 2, 0, none⟩ x).setCell ⟨w.heap.size + 2, 1, none⟩ y)) := fun W h x y => by
    have b2 := h.grown (grownBy_setCell W (w.heap.size + 2) 0 x) h.size (fun q hq => by injection hq with hq; omega)
    exact b2.grown (grownBy_setCell _ (w.heap.size + 2) 1 y) b2.size (fun q hq => by injection hq with hq; omega)
  by_cases hE : E = 0
  · have HE : Hid (E = 0) := hE
    have okA : OkT vs rs := tabChk_ok (alikeE_ok (eE.out.trans hE)).1 HA.out.fits
    have okB : OkT vs' qs := tabChk_ok (alikeE_ok (eE.out.trans hE)).2.1 HB.out.fits
    have xA : RowsX w (.slice p2 n2 k2) us rs := ⟨HA.out.vals, HA.out.rows, fun r hr => ⟨(okA.rows r hr).2, by rw [(okA.rows r hr).1]; exact okA.few⟩, CA.out⟩
    have xB : RowsX w (.slice p4 n4 k4) us' qs := ⟨HB.out.vals, HB.out.rows, fun r hr => ⟨(okB.rows r hr).2, by rw [(okB.rows r hr).1]; exact okB.few⟩, CB.out⟩
    have few := okA.few
    have cM : Hid (∀ W, Below w.heap.size w W → Calls Tryz.prog 27 #[.slice p2 n2 k2, .slice p4 n4 k4] W fun e w' => ∃ v zs, e = .returned v ∧ w'.ownsRow W.heap.size 26 1 v zs.length zs ∧ OwnRs W.heap.size zs (mergeL rs qs) w' ∧ Below W.heap.size W w') := fun W hW => merge_any (xA.below hW) (xB.below hW) MN.out
    have cC : Hid (∀ W, Below w.heap.size w W → Calls Tryz.prog 26 #[.slice p1 n1 k1] W fun e w' => ∃ v, e = .returned v ∧ OwnS W.heap.size v vs w' ∧ Below W.heap.size W w') := fun W hW => cloneS_any _ vs W (HA.out.vars.below hW) (by omega)
    have A0 := cell_of_heap bx1.out.a 0 rfl
    have A1 := cell_of_heap bx1.out.a 1 rfl
    have B1 := cell_of_heap bx1.out.b 1 rfl
    have z2 : w.heap.size < w.heap.size + 2 := by omega
    have z3 : w.heap.size + 1 < w.heap.size + 2 := by omega
    have z4 : w.heap.size + 2 ≤ w1.heap.size := by omega
    have zr : w.heap.size + 2 < w1.heap.size := by omega
    clear okA okB cE xA xB few
    go_upto_region 4 with fail
    go_region_held3 (fun w' => w'.cell? ⟨w.heap.size, 0, none⟩ = some (.slice p1 n1 k1) ∧ w'.cell? ⟨w.heap.size, 1, none⟩ = some (.slice p2 n2 k2) ∧ w'.cell? ⟨w.heap.size + 1, 1, none⟩ = some (.slice p4 n4 k4))
      (exact ⟨bcl (n := w.heap.size + 2) (by go_grown) A0 z2, bcl (n := w.heap.size + 2) (by go_grown) A1 z2, bcl (n := w.heap.size + 2) (by go_grown) B1 z3⟩)
      (first
        | (go_at_call 27; refine (cM.out _ (by go_grown)).mono ?_; rintro e v1 ⟨vm, zm, rfl, om, rm, hv1⟩; have HV1 : Hid (Below _ _ _) := hv1; have hw0 : Below w1.heap.size w1 v1 := (bg0 (n := w1.heap.size) (W0 := w1) (by go_grown) (by go_size) hv1).1; have hw1 : Below (w.heap.size + 2) w1 v1 := hw0.mono z4; have hn1 : w1.heap.size ≤ v1.heap.size := hw0.size; have hk1 : Below w.heap.size w v1 := K1.trans (hw0.mono K1.size); clear hv1; obtain ⟨pm, nm, km, rfl⟩ := slice_of om; have rr1 : Hid (_) := (hw0.block _ zr).trans bx1.out.r; have r0 := cell_of_heap rr1.out 0 rfl; have r1 := cell_of_heap rr1.out 1 rfl; have f0 := frozen_of_heap rr1.out 0; have f1 := frozen_of_heap rr1.out 1)
        | (go_at_call 26; refine (cC.out _ (by go_grown)).mono ?_; rintro e v2 ⟨vc, rfl, oc, hv2⟩; have HV2 : Hid (Below _ _ _) := hv2; have hw9 : Below w1.heap.size w1 v2 := (bg0 (n := w1.heap.size) (W0 := w1) (by go_grown) (by go_size) hv2).1; have hw2 : Below (w.heap.size + 2) w1 v2 := hw9.mono z4; have hn2 : w1.heap.size ≤ v2.heap.size := hw9.size; have hk2 : Below w.heap.size w v2 := K1.trans (hw9.mono K1.size); clear hv2; obtain ⟨pc, nc, kc, rfl⟩ := slice_of oc))
    have HT : Hid (OwnT w1.heap.size (.agg #[.slice pc nc kc, .slice pm nm km]) vs (mergeL rs qs) v1) := ⟨_, _, zm, rfl, own_below (own_base oc (Nat.le_refl _)) HV1.out, own_base om hn2, rm.base hn2⟩
    have x0 : (v1.setCell ⟨w.heap.size + 2, 0, none⟩ (.slice pc nc kc)).cell? ⟨w.heap.size + 2, 0, none⟩ = some (.slice pc nc kc) := set_same r0
    have x1 : ((v1.setCell ⟨w.heap.size + 2, 0, none⟩ (.slice pc nc kc)).setCell ⟨w.heap.size + 2, 1, none⟩ (.slice pm nm km)).cell? ⟨w.heap.size + 2, 1, none⟩ = some (.slice pm nm km) := set_same ((set_other (by simp)).trans r1)
    clear A0 A1 B1 oc om rm HV1 HV2 hw0 hw1 hw2 hw9 hE
    go_wp2
    (try simp only [Exit.inBlock, Exit.then])
    refine bodyPost_ret (by simp [results, Tryz.results7, go_sem, x0, x1]; try rfl) rfl ?_
    exact ⟨_, by rw [HE.out], fun _ => ((HT.out.set (by omega)).set (by omega)).base (by omega), fun h => absurd HE.out h, HSET.out _ hk1 _ _⟩
  · have hE2 : (E == 0) = false := by simpa using hE
    have r0 := cell_of_heap bx1.out.r 0 rfl
    have r1 := cell_of_heap bx1.out.r 1 rfl
    have f0 := frozen_of_heap bx1.out.r 0
    have f1 := frozen_of_heap bx1.out.r 1
    have x0 : (w1.setCell ⟨w.heap.size + 2, 0, none⟩ (.slice none 0 0)).cell? ⟨w.heap.size + 2, 0, none⟩ = some (.slice none 0 0) := set_same r0
    have x1 : ((w1.setCell ⟨w.heap.size + 2, 0, none⟩ (.slice none 0 0)).setCell ⟨w.heap.size + 2, 1, none⟩ (.slice none 0 0)).cell? ⟨w.heap.size + 2, 1, none⟩ = some (.slice none 0 0) := set_same ((set_other (by simp)).trans r1)
    go_wp2
    (try simp only [Exit.inBlock, Exit.then])
    refine bodyPost_ret (by simp [results, Tryz.results7, go_sem, x0, x1]; try rfl) rfl ?_
    exact ⟨_, rfl, fun h => absurd h hE, fun _ => rfl, HSET.out _ K1 _ _⟩

end Go.Proofs.YtiliaincniiijaaGreat

namespace Go.Proofs.YtiliaincniiijaaGreat
open Go.RowKit Go.Shelf Go.Sort
set_option linter.unusedVariables false

set_option maxRecDepth 100000 in
theorem hasf_any (U Y : Value) (xs ys : List Val) (B : Nat) (w : World) (hB : B < w.heap.size) (hc : w.cell? ⟨B, 0, none⟩ = some Y) (hU : RowAt w U xs) (hY : RowAt w Y ys) (lx : xs.length ≤ 9223372036854775807) (ly : ys.length ≤ 9223372036854775807) :
    Calls Tryz.prog 23 #[U, .pointer (some ⟨B, 0, none⟩)] w fun e w' => e = .returned (.bool (rowS ys xs)) ∧ Below w.heap.size w w' := by
  have ct : Hid (Calls Tryz.prog 24 #[Y, U] w fun e w' => e = .returned (.bool (rowS ys xs)) ∧ Below w.heap.size w w') := samerow_any Y U ys xs w hY hU ly lx
  obtain ⟨p, c, rfl⟩ := hU.form
  obtain ⟨p', c', rfl⟩ := hY.form
  generalize xs.length = n at *
  generalize ys.length = m at *
  generalize rowS ys xs = E at *
  clear hU hY
  go_enter Tryz.func23, Tryz.ntmps23
  go_wp2_with fail
  refine ct.out.mono ?_
  rintro e w1 ⟨rfl, hb⟩
  clear ct hc
  go_wp2
  go_ret
  exact ⟨rfl, hb⟩

def anyS (ys : List Val) (rs : List (List Val)) : Bool := rs.any fun r => rowS ys r

set_option maxRecDepth 100000 in
set_option maxHeartbeats 2000000 in
theorem idxf_any (A Y : Value) (rs : List (List Val)) (ys : List Val) (B : Nat) (w : World) (hB : B < w.heap.size) (hc : w.cell? ⟨B, 0, none⟩ = some Y) (hA : TabRows w A rs) (hY : RowAt w Y ys) (lr : rs.length ≤ 9223372036854775807) (ls : ∀ r ∈ rs, r.length ≤ 9223372036854775807) (ly : ys.length ≤ 9223372036854775807) :
    Calls Tryz.prog 44 #[A, .func (.func 23) #[] #[.pointer (some ⟨B, 0, none⟩)]] w fun e w' => ∃ i : Int, e = .returned (.int .i64 i) ∧ decide (0 ≤ i) = anyS ys rs ∧ Below w.heap.size w w' := by
  have eg : ∀ args w, (callFunc 23 args).run Tryz.prog w = .ok (.enter 23 args) w := enters_of Tryz.func23 (by kernel_rfl) rfl
  obtain ⟨p, c, rfl, HX0⟩ := hA.form
  have HX : Hid (∀ k (hk : k < rs.length), ∃ b off u, p = some ⟨b, off, none⟩ ∧ b < w.heap.size ∧ w.cell? ⟨b, off + k, none⟩ = some u ∧ RowAt w u rs[k]) := HX0
  have HY : Hid (RowAt w Y ys) := hY
  have HC : Hid (w.cell? ⟨B, 0, none⟩ = some Y) := hc
  have SX : Hid (∀ r ∈ rs, r.length ≤ 9223372036854775807) := ls
  obtain ⟨n, en⟩ : ∃ n : Nat, Hid (rs.length = n) := ⟨_, rfl⟩
  rw [en.out] at lr ⊢
  clear hA hY HX0 hc ls
  go_enter Tryz.func44, Tryz.ntmps44
  go_wp2
  go_loopw [8] (fun i wr => ∃ k : Nat, k ≤ n ∧ i = .int .i64 k ∧ Hid (anyS ys rs = anyS ys (rs.drop k)) ∧ Below w.heap.size w wr) (fun i _ => n - (intOf i).toNat)
  case atStart => exact ⟨0, Nat.zero_le _, rfl, (show anyS ys rs = anyS ys (rs.drop 0) by simp), Below.refl _ _⟩
  case round =>
    obtain ⟨k, hk, rfl, hr, hBw⟩ := hrel
    by_cases hlt : k < n
    · have kx : k < rs.length := by have := en.out; omega
      obtain ⟨b, off, U, rfl, hb, r0, r1⟩ := HX.out k kx
      have a0 := (hBw.cell (p := ⟨b, off + k, none⟩) hb).trans r0
      have hr2 : Hid (anyS ys rs = (rowS ys rs[k] || anyS ys (rs.drop (k + 1)))) := by
        have h := hr.out
        rw [List.drop_eq_getElem_cons kx] at h
        exact h
      have ct : Hid (Calls Tryz.prog 23 #[U, .pointer (some ⟨B, 0, none⟩)] wr fun e w' => e = .returned (.bool (rowS ys rs[k])) ∧ Below wr.heap.size wr w') := hasf_any U Y _ ys B wr (Nat.lt_of_lt_of_le hB hBw.size) ((hBw.cell (p := ⟨B, 0, none⟩) hB).trans HC.out) (r1.below hBw) (HY.out.below hBw) (SX.out _ (List.getElem_mem kx)) ly
      obtain ⟨pu, cu, rfl⟩ := r1.form
      clear r0 hr r1
      generalize rs[k] = X at a0 hr2 ct
      generalize rowS ys X = C at hr2 ct
      generalize X.length = nx at a0 ct
      go_wp2_with fail
      refine ct.out.mono ?_
      rintro e w1 ⟨rfl, hw1⟩
      have hB2 : Below w.heap.size w w1 := hBw.trans (hw1.mono hBw.size)
      clear a0 ct hw1
      cases C with
      | true =>
        have hr3 : Hid (anyS ys rs = true) := by have := hr2.out; rwa [Bool.true_or] at this
        go_wp2
        go_ret
        exact ⟨k, rfl, by rw [hr3.out]; simp, hB2⟩
      | false =>
        have hr3 : Hid (anyS ys rs = anyS ys (rs.drop (k + 1))) := by have := hr2.out; rwa [Bool.false_or] at this
        go_wp2
        exact ⟨⟨k + 1, by omega, by go_num, hr3, hB2⟩, by simp [intOf]; omega⟩
    · have c2 : ¬ (k : Int) < n := by omega
      have hr3 : Hid (anyS ys rs = false) := by
        have h := hr.out
        rw [List.drop_eq_nil_of_le (by have := en.out; omega)] at h
        exact h
      go_wp2
      go_ret
      exact ⟨-1, rfl, by rw [hr3.out]; decide, hBw⟩

set_option maxRecDepth 100000 in
theorem contf_any (A Y : Value) (rs : List (List Val)) (ys : List Val) (B : Nat) (w : World) (hB : B < w.heap.size) (hc : w.cell? ⟨B, 0, none⟩ = some Y) (hA : TabRows w A rs) (hY : RowAt w Y ys) (lr : rs.length ≤ 9223372036854775807) (ls : ∀ r ∈ rs, r.length ≤ 9223372036854775807) (ly : ys.length ≤ 9223372036854775807) :
    Calls Tryz.prog 22 #[A, .func (.func 23) #[] #[.pointer (some ⟨B, 0, none⟩)]] w fun e w' => e = .returned (.bool (anyS ys rs)) ∧ Below w.heap.size w w' := by
  have ct : Hid (Calls Tryz.prog 44 #[A, .func (.func 23) #[] #[.pointer (some ⟨B, 0, none⟩)]] w fun e w' => ∃ i : Int, e = .returned (.int .i64 i) ∧ decide (0 ≤ i) = anyS ys rs ∧ Below w.heap.size w w') := idxf_any A Y rs ys B w hB hc hA hY lr ls ly
  obtain ⟨p, c, rfl, -⟩ := hA.form
  clear hA hY hc
  generalize rs.length = n at *
  go_enter Tryz.func22, Tryz.ntmps22
  go_wp2_with fail
  refine ct.out.mono ?_
  rintro e w1 ⟨i, rfl, hi, hb⟩
  have HI : Hid (decide (0 ≤ i) = anyS ys rs) := hi
  clear ct hi
  go_wp2
  go_ret
  exact ⟨ret_bool HI.out, hb⟩

set_option maxRecDepth 100000 in
set_option maxHeartbeats 1000000 in
theorem tabhas_any (V R Y : Value) (p : Option Addr) (n c : Nat) (hV : V = .slice p n c) (rs : List (List Val)) (ys : List Val) (w : World) (hA : TabRows w R rs) (hY : RowAt w Y ys) (lr : rs.length ≤ 9223372036854775807) (ls : ∀ r ∈ rs, r.length ≤ 9223372036854775807) (ly : ys.length ≤ 9223372036854775807) :
    Calls Tryz.prog 6 #[.agg #[V, R], Y] w fun e w' => e = .returned (.bool (anyS ys rs)) ∧ Below w.heap.size w w' := by
  subst hV
  have ct : Hid (∀ W B, Below w.heap.size w W → B < W.heap.size → W.cell? ⟨B, 0, none⟩ = some Y → Calls Tryz.prog 22 #[R, .func (.func 23) #[] #[.pointer (some ⟨B, 0, none⟩)]] W fun e w' => e = .returned (.bool (anyS ys rs)) ∧ Below W.heap.size W w') := fun W B hW h1 h2 => contf_any R Y rs ys B W h1 h2 (hA.below hW) (hY.below hW) lr ls ly
  obtain ⟨p1, c1, rfl, -⟩ := hA.form
  obtain ⟨p2, c2, rfl⟩ := hY.form
  clear hA hY ls
  generalize rs.length = n1 at *
  generalize ys.length = n2 at *
  generalize anyS ys rs = E at *
  go_enter Tryz.func6, Tryz.ntmps6
  go_wp2_with fail
  refine (ct.out _ _ (by go_grown) (by simp) (by simp (maxDischargeDepth := 12) [go_sem])).mono ?_
  rintro e w1 ⟨rfl, hb⟩
  obtain ⟨hw1, -⟩ := bg0 (n := w.heap.size) (W0 := w) (by go_grown) (by go_size) hb
  clear ct hb
  go_wp2
  go_ret
  exact ⟨rfl, hw1⟩

set_option maxRecDepth 100000 in
set_option maxHeartbeats 1000000 in
theorem true_any (w : World) : Calls Tryz.prog 20 #[] w fun e w' => ∃ t, e = .returned t ∧ OwnT w.heap.size t [] [[]] w' ∧ Below w.heap.size w w' := by
  go_enter Tryz.func20, Tryz.ntmps20
  go_wp2
  (try simp only [Exit.inBlock, Exit.then])
  refine bodyPost_ret (by simp (maxDischargeDepth := 12) [results, Tryz.results20, go_sem]; try rfl) rfl ?_
  refine ⟨_, rfl, ⟨_, _, [.slice (some ⟨w.heap.size + 1, 0, none⟩) 0 0], rfl, World.ownsRow_nil _ _ _ _, ?_, ⟨rfl, fun i h1 h2 => ?_⟩⟩, by go_grown⟩
  · have h := World.ownsRow_lit (base := w.heap.size) (e := 26) (size := 1) ((w.alloc (.cells #[.slice none 0 0, .slice (some ⟨w.heap.size + 1 + 1, 0, none⟩) 1 1] 25)).alloc (.cells #[] 45)) #[.slice (some ⟨w.heap.size + 1, 0, none⟩) 0 0] 1 (by simp; omega) (by unfold maxLen; omega) rfl
    simpa using h
  · obtain rfl : i = 0 := by simp at h1; omega
    have h := World.ownsRow_lit (base := w.heap.size) (e := 45) (size := 4) (w.alloc (.cells #[.slice none 0 0, .slice (some ⟨w.heap.size + 1 + 1, 0, none⟩) 1 1] 25)) #[] 0 (by simp) (by unfold maxLen; omega) rfl
    have h2 := World.ownsRow.alloc h (.cells #[.slice (some ⟨w.heap.size + 1, 0, none⟩) 0 0] 26)
    simpa [OwnV, flat] using h2

end Go.Proofs.YtiliaincniiijaaGreat

namespace Go.Proofs.YtiliaincniiijaaGreat
open Go.RowKit Go.Shelf Go.Sort
set_option linter.unusedVariables false

theorem rowS_comm (x y : List Val) : rowS x y = rowS y x := by
  rw [Bool.eq_iff_iff, rowS_iff, rowS_iff]
  exact eq_comm

end Go.Proofs.YtiliaincniiijaaGreat
