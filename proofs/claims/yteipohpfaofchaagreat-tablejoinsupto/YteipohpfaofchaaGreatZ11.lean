/- How much a table that came in may hold, by the bulk of what is read. -/
import Derived.Test.YteipohpfaofchaaGreatZ10
import Derived.Test.YteipohpfaofchaaGreatRows
import Derived.Test.YteipohpfaofchaaGreatZ08
import Derived.Test.YteipohpfaofchaaGreatZ07

namespace Go.Proofs.YteipohpfaofchaaGreat
open Go.RowKit Go.Shelf Go.Sort
set_option linter.unusedVariables false

set_option maxRecDepth 100000 in
set_option maxHeartbeats 16000000 in
theorem danti_any {Va Ra Vb Rb : Value} {vs vs' : List ByteArray} {rs qs : List (List Val)} {w : World} (ha : DTab w Va Ra vs rs) (hb : DTab w Vb Rb vs' qs) :
    Calls Tryz.prog 30 #[.agg #[Va, Ra], .agg #[Vb, Rb]] w (TellsT w.heap.size (bothE vs rs vs' qs) (vs) (antiL vs vs' rs qs) w) := by
  have HA : Hid (DTab w Va Ra vs rs) := ha
  have HB : Hid (DTab w Vb Rb vs' qs) := hb
  have cE : Hid (∀ W, Below w.heap.size w W → Calls Tryz.prog 57 #[.agg #[Va, Ra], .agg #[Vb, Rb]] W fun e w' => e = .returned (.int .i64 (bothE vs rs vs' qs)) ∧ Below W.heap.size W w') := fun W hW => dboth2_any (ha.below hW) (hb.below hW)
  obtain ⟨p1, k1, p2, k2, rfl, rfl⟩ := ha.forms
  obtain ⟨p3, k3, p4, k4, rfl, rfl⟩ := hb.forms
  obtain ⟨E, eE⟩ : ∃ E, Hid (bothE vs rs vs' qs = E) := ⟨_, rfl⟩
  obtain ⟨n1, en1⟩ : ∃ n, Hid (vs.length = n) := ⟨_, rfl⟩
  obtain ⟨n2, en2⟩ : ∃ n, Hid (rs.length = n) := ⟨_, rfl⟩
  obtain ⟨n3, en3⟩ : ∃ n, Hid (vs'.length = n) := ⟨_, rfl⟩
  obtain ⟨n4, en4⟩ : ∃ n, Hid (qs.length = n) := ⟨_, rfl⟩
  rw [eE.out] at cE
  have hAL : Hid (bothE vs rs vs' qs = E) := by show _ = _; rw [eE.out]
  obtain ⟨G, eG⟩ : ∃ G, Hid (bothE vs rs vs' qs = G) := ⟨_, rfl⟩
  rw [eG.out] at hAL ⊢
  rw [en1.out] at HA cE ⊢
  rw [en2.out] at HA cE ⊢
  rw [en3.out] at HB cE ⊢
  rw [en4.out] at HB cE ⊢
  clear ha hb
  go_enter Tryz.func30, Tryz.ntmps30
  go_upto_region 1 with fail
  refine wp_world ?_
  intro W0 hW0
  have bx0 : Hid (Box3 W0 w.heap.size (.slice p1 n1 k1) (.slice p2 n2 k2) (.slice p3 n3 k3) (.slice p4 n4 k4)) := by rw [hW0]; exact Box3.made _ _ _ _ _
  have K0 : Below w.heap.size w W0 := by rw [hW0]; go_grown
  have z0 : W0.heap.size = w.heap.size + 3 := by rw [hW0]; simp
  clear hW0
  have A0 := cell_of_heap bx0.out.a 0 rfl
  have A1 := cell_of_heap bx0.out.a 1 rfl
  have B0 := cell_of_heap bx0.out.b 0 rfl
  have B1 := cell_of_heap bx0.out.b 1 rfl
  go_wp2_with fail
  refine (cE.out W0 K0).mono ?_
  rintro e w1 ⟨rfl, hb1⟩
  have bx1 : Hid (Box3 w1 w.heap.size (.slice p1 n1 k1) (.slice p2 n2 k2) (.slice p3 n3 k3) (.slice p4 n4 k4)) := bx0.out.below hb1
  have K1 : Below w.heap.size w w1 := K0.trans (hb1.mono K0.size)
  have z1 : w.heap.size + 3 ≤ w1.heap.size := by have := hb1.size; omega
  clear A0 A1 B0 B1 bx0 K0 hb1 z0
  have HSET : Hid (∀ W, Below w.heap.size w W → ∀ x y, Below w.heap.size w ((W.setCell ⟨w.heap.size + 2, 0, none⟩ x).setCell ⟨w.heap.size + 2, 1, none⟩ y)) := fun W h x y => by
    have b2 := h.grown (grownBy_setCell W (w.heap.size + 2) 0 x) h.size (fun q hq => by injection hq with hq; omega)
    exact b2.grown (grownBy_setCell _ (w.heap.size + 2) 1 y) b2.size (fun q hq => by injection hq with hq; omega)
  by_cases hE : E = 0
  · have OKA : Hid (OkT vs rs) := tabChk_ok (bothE_ok (eE.out.trans hE)).1 HA.out.fits
    have OKB : Hid (OkT vs' qs) := tabChk_ok (bothE_ok (eE.out.trans hE)).2 HB.out.fits
    obtain ⟨i0, hi, hz0, hz1, hz2⟩ := info_parts inR
    have FITS : Hid (∀ W Y Z (r q : List Val), Below w.heap.size w W → RowAt W Y r → RowAt W Z q → r ∈ rs → q ∈ qs → Calls Tryz.prog 63 #[.slice p1 n1 k1, Y, .slice p3 n3 k3, Z] W fun e w' => e = .returned (.bool (fitB vs vs' r q 0)) ∧ Below W.heap.size W w') := fun W Y Z r q hW h1 h2 m1 m2 => dfits_any (HA.out.vars.below hW) h1 (HB.out.vars.below hW) h2 (OKA.out.rows r m1).1 (OKB.out.rows q m2).1 OKA.out.few OKB.out.few
    have lm : n2 ≤ 5864062014805 := by have := HA.out.many; rw [en2.out] at this; exact this
    have lm4 : n4 ≤ 5864062014805 := by have := HB.out.many; rw [en4.out] at this; exact this
    obtain ⟨q9, c9, e9, HX0⟩ := (HA.out.rows).form
    rw [en2.out] at e9
    injection e9 with e91 e92 e93
    subst e91 e93
    clear e92
    have HXA : Hid (∀ k (hk : k < rs.length), ∃ b off u, p2 = some ⟨b, off, none⟩ ∧ b < w.heap.size ∧ w.cell? ⟨b, off + k, none⟩ = some u ∧ RowAt w u rs[k]) := HX0
    clear HX0
    obtain ⟨q9, c9, e9, HX0⟩ := (HB.out.rows).form
    rw [en4.out] at e9
    injection e9 with e91 e92 e93
    subst e91 e93
    clear e92
    have HXB : Hid (∀ k (hk : k < qs.length), ∃ b off u, p4 = some ⟨b, off, none⟩ ∧ b < w.heap.size ∧ w.cell? ⟨b, off + k, none⟩ = some u ∧ RowAt w u qs[k]) := HX0
    clear HX0
    have hG : G = 0 := by rw [hAL.out]; exact hE
    have HG : Hid (G = 0) := hG
    subst hE
    have za : w.heap.size < w1.heap.size := by omega
    have zb : w.heap.size + 1 < w1.heap.size := by omega
    clear cE hG
    go_wp2
    go_loopw [7, 8] (fun v i wr => ∃ (k : Nat) (zs : List Value), k ≤ n2 ∧ i = .int .i64 k ∧ Hid (wr.ownsRow w1.heap.size 37 1 v zs.length zs) ∧ Hid (RowsOf w zs ((rs.take k).filter fun r => !(qs.any fun q => fitB vs vs' r q 0))) ∧ Hid (Below w1.heap.size w1 wr)) (fun _ i _ => n2 - (intOf i).toNat)
    case atStart => exact ⟨0, [], Nat.zero_le _, rfl, (show World.ownsRow _ _ _ _ _ _ _ from World.ownsRow_nil _ _ _ _), (show RowsOf _ _ _ from ⟨rfl, fun i h => absurd h (Nat.not_lt_zero _)⟩), Below.refl _ _⟩
    case round =>
      obtain ⟨k, zs, hk, rfl, hO, hR, hB⟩ := hrel
      have bx : Hid (Box3 wr w.heap.size (.slice p1 n1 k1) (.slice p2 n2 k2) (.slice p3 n3 k3) (.slice p4 n4 k4)) := bx1.out.below hB.out
      have KW : Below w.heap.size w wr := K1.trans (hB.out.mono K1.size)
      have A1 := cell_of_heap bx.out.a 1 rfl
      by_cases hlt : k < n2
      · have kx : k < rs.length := by have := en2.out; omega
        obtain ⟨ba, oa, Y, rfl, hba, q1, row⟩ := HXA.out k kx
        have mr : Hid (rs[k] ∈ rs) := List.getElem_mem kx
        have hst : Hid ((rs.take (k + 1)).filter (fun r => !(qs.any fun q => fitB vs vs' r q 0)) = (rs.take k).filter (fun r => !(qs.any fun q => fitB vs vs' r q 0)) ++ if qs.any (fun q => fitB vs vs' rs[k] q 0) then [] else [rs[k]]) := by
          show _ = _
          rw [List.take_succ_eq_append_getElem kx, List.filter_append]
          cases h : qs.any (fun q => fitB vs vs' rs[k] q 0) <;> simp [h]
        generalize rs[k] = r at row hst mr
        obtain ⟨pu, cu, rfl⟩ := row.form
        have ROW : Hid (RowAt w (.slice pu r.length cu) r) := row
        obtain ⟨nu, enu⟩ : ∃ nu : Nat, Hid (r.length = nu) := ⟨_, rfl⟩
        rw [enu.out] at q1 ROW
        have Q1 : Hid (w.cell? ⟨ba, oa + k, none⟩ = some (.slice pu nu cu)) := q1
        clear q1 row
        go_wp2
        go_loopw [9, 10] (fun s i wx => ∃ (j : Nat), j ≤ n4 ∧ i = .int .i64 j ∧ s = .bool ((qs.take j).any fun q => fitB vs vs' r q 0) ∧ Hid (Below wr.heap.size wr wx)) (fun _ i _ => n4 - (intOf i).toNat)
        case atStart => exact ⟨0, Nat.zero_le _, rfl, rfl, Below.refl _ _⟩
        case round =>
          obtain ⟨j, hj, rfl, rfl, hX⟩ := hrel
          clear A1
          rename World => wx
          have bxx : Hid (Box3 wx w.heap.size (.slice p1 n1 k1) (.slice (some ⟨ba, oa, none⟩) n2 k2) (.slice p3 n3 k3) (.slice p4 n4 k4)) := bx.out.below hX.out
          have KX : Below w.heap.size w wx := KW.trans (hX.out.mono KW.size)
          have B1 := cell_of_heap bxx.out.b 1 rfl
          obtain ⟨sm, esm⟩ : ∃ sm : Bool, Hid (((qs.take j).any fun q => fitB vs vs' r q 0) = sm) := ⟨_, rfl⟩
          rw [esm.out]
          by_cases hlj : j < n4
          · have jx : j < qs.length := by have := en4.out; omega
            obtain ⟨bb, ob, Z, rfl, hbb, q2, row2⟩ := HXB.out j jx
            have mq : Hid (qs[j] ∈ qs) := List.getElem_mem jx
            have hsj : Hid (((qs.take (j + 1)).any fun q => fitB vs vs' r q 0) = (sm || fitB vs vs' r qs[j] 0)) := by
              show _ = _
              rw [List.take_succ_eq_append_getElem jx, List.any_append, esm.out]
              simp
            generalize qs[j] = q at row2 mq hsj
            obtain ⟨py, cy, rfl⟩ := row2.form
            have ct : Hid (∀ W, Below wx.heap.size wx W → Calls Tryz.prog 63 #[.slice p1 n1 k1, .slice pu r.length cu, .slice p3 n3 k3, .slice py q.length cy] W fun e w' => e = .returned (.bool (fitB vs vs' r q 0)) ∧ Below W.heap.size W w') := fun W hW => by
              have hWW := KX.trans (hW.mono KX.size)
              have ROW2 := ROW.out
              rw [← enu.out] at ROW2
              exact FITS.out W _ _ r q hWW (ROW2.below hWW) (row2.below hWW) mr.out mq.out
            obtain ⟨ny, eny⟩ : ∃ ny : Nat, Hid (q.length = ny) := ⟨_, rfl⟩
            obtain ⟨F, eF⟩ : ∃ F : Bool, Hid (fitB vs vs' r q 0 = F) := ⟨_, rfl⟩
            rw [enu.out, eny.out, eF.out] at ct
            rw [eny.out] at q2
            rw [eF.out] at hsj
            have A0 := cell_of_heap bxx.out.a 0 rfl
            have A1 := cell_of_heap bxx.out.a 1 rfl
            have B0 := cell_of_heap bxx.out.b 0 rfl
            have a1 : wx.cell? ⟨ba, oa + k, none⟩ = some (.slice pu nu cu) := (KX.cell (p := ⟨ba, oa + k, none⟩) hba).trans Q1.out
            have b1 : wx.cell? ⟨bb, ob + j, none⟩ = some (.slice py ny cy) := (KX.cell (p := ⟨bb, ob + j, none⟩) hbb).trans q2
            have wza : w.heap.size < wx.heap.size := Nat.lt_of_lt_of_le za (Nat.le_trans hB.out.size hX.out.size)
            have wzb : w.heap.size + 1 < wx.heap.size := Nat.lt_of_lt_of_le zb (Nat.le_trans hB.out.size hX.out.size)
            have wba : ba < wx.heap.size := Nat.lt_of_lt_of_le hba KX.size
            have wbb : bb < wx.heap.size := Nat.lt_of_lt_of_le hbb KX.size
            have i1 : (0 : Int) ≤ (k : Int) := by omega
            have i2 : (k : Int) < (n2 : Int) := by omega
            have i3 : (0 : Int) ≤ (j : Int) := by omega
            have i4 : (j : Int) < (n4 : Int) := by omega
            clear q2 row2
            go_upto_region 12 with fail
            go_region_held3 (fun w' => w'.cell? ⟨w.heap.size, 0, none⟩ = some (.slice p1 n1 k1) ∧ w'.cell? ⟨w.heap.size, 1, none⟩ = some (.slice (some ⟨ba, oa, none⟩) n2 k2) ∧ w'.cell? ⟨w.heap.size + 1, 0, none⟩ = some (.slice p3 n3 k3) ∧ w'.cell? ⟨w.heap.size + 1, 1, none⟩ = some (.slice (some ⟨bb, ob, none⟩) n4 k4) ∧ w'.cell? ⟨ba, oa + k, none⟩ = some (.slice pu nu cu) ∧ w'.cell? ⟨bb, ob + j, none⟩ = some (.slice py ny cy))
              (exact ⟨bcl (n := wx.heap.size) (by go_grown) A0 wza, bcl (n := wx.heap.size) (by go_grown) A1 wza, bcl (n := wx.heap.size) (by go_grown) B0 wzb, bcl (n := wx.heap.size) (by go_grown) B1 wzb, bcl (n := wx.heap.size) (by go_grown) a1 wba, bcl (n := wx.heap.size) (by go_grown) b1 wbb⟩)
              (first
                | (go_at_call 63; refine (ct.out _ (by go_grown)).mono ?_; rintro e v1 ⟨rfl, hv1⟩; obtain ⟨hw1, hn1⟩ := bg0 (n := wx.heap.size) (W0 := wx) (by go_grown) (by go_size) hv1; clear hv1))
            have X3 : Hid (Below wr.heap.size wr v1) := hX.out.trans (hw1.mono hX.out.size)
            clear hw1 hn1 ct A0 A1 B0 B1 a1 b1 hX bxx KX
            cases sm <;> cases F <;> (
              go_wp2
              exact ⟨⟨j + 1, by omega, by go_num, by rw [hsj.out]; rfl, X3⟩, by simp [intOf]; omega⟩)
          · have c3 : ¬ (j : Int) < (n4 : Int) := by omega
            have hsm : Hid ((qs.any fun q => fitB vs vs' r q 0) = sm) := by
              have h := esm.out
              rwa [List.take_of_length_le (by have := en4.out; omega)] at h
            rw [hsm.out] at hst
            have B3 : Hid (Below w1.heap.size w1 wx) := hB.out.trans (hX.out.mono hB.out.size)
            have O3 : Hid (wx.ownsRow w1.heap.size 37 1 u7 zs.length zs) := own_below hO.out hX.out
            clear hO hB hX bx KW
            cases sm with
            | true =>
              have R3 : Hid (RowsOf w zs ((rs.take (k + 1)).filter fun r => !(qs.any fun q => fitB vs vs' r q 0))) := by
                show RowsOf _ _ _
                rw [hst.out]
                simpa using hR.out
              go_wp2
              exact ⟨⟨k + 1, zs, by omega, by go_num, O3, R3, B3⟩, by simp [intOf]; omega⟩
            | false =>
              have R3 : Hid (RowsOf w (zs ++ [Value.slice pu nu cu]) ((rs.take (k + 1)).filter fun r => !(qs.any fun q => fitB vs vs' r q 0))) := by
                show RowsOf _ _ _
                rw [hst.out]
                exact hR.out.app ⟨rfl, fun i h g => by
                  have e0 : i = 0 := by simp at h; omega
                  subst e0
                  exact ROW.out⟩
              have hzl : Hid (zs.length + 1 ≤ 5864062014805) := by
                have h1 := hR.out.1
                have h2 : ((rs.take k).filter fun r => !(qs.any fun q => fitB vs vs' r q 0)).length ≤ (rs.take k).length := List.length_filter_le _ _
                rw [List.length_take] at h2
                show _ ≤ _
                omega
              have A1 := cell_of_heap bxx.out.a 1 rfl
              have a1 : wx.cell? ⟨ba, oa + k, none⟩ = some (.slice pu nu cu) := (KX.cell (p := ⟨ba, oa + k, none⟩) hba).trans Q1.out
              have i1 : (0 : Int) ≤ (k : Int) := by omega
              have i2 : (k : Int) < (n2 : Int) := by omega
              obtain ⟨p5, n5, c5, rfl⟩ := slice_of O3.out
              have HSRC : Hid (Src (wx.alloc (.cells #[.slice pu nu cu] 37)) 1 (.slice (some ⟨wx.heap.size, 0, none⟩) 1 1) 1 [.slice pu nu cu]) := Or.inr ⟨_, 1, rfl, rfl, fun j x hj => by
                rw [Addr.add_lit, Nat.zero_add]
                exact cell_of_heap (heap_alloc wx _) j (by simpa using hj)⟩
              have HO4 : Hid ((wx.alloc (.cells #[.slice pu nu cu] 37)).ownsRow w1.heap.size 37 1 (.slice p5 n5 c5) zs.length zs) := World.ownsRow.alloc O3.out _
              have HK4 : Hid (∀ q, (Value.slice p5 n5 c5).ownBlock = some q → w1.heap.size ≤ q) := fun q hq => (World.ownsRow.lt O3.out q hq).1
              have s1 : zs.length + 1 ≤ maxLen := by unfold maxLen; have := hzl.out; omega
              have s2 : (zs.length + 1) * 24 ≤ 140737488355328 := by have := hzl.out; omega
              have s3 : w1.heap.size ≤ (wx.alloc (.cells #[.slice pu nu cu] 37)).heap.size := by simp; have := B3.out.size; omega
              clear O3 hR
              go_wp2_with (at_builtin; refine wpList_append_src rfl (.tmp 54) (.tmp 60) 23 rfl w1.heap.size 37 i0 _ 1 24 Tryz.underlying23 hi hz0 hz1 hz2 rfl (by decide) (.slice p5 n5 c5) zs.length zs rfl HO4.out (.slice (some ⟨wx.heap.size, 0, none⟩) 1 1) 1 [.slice pu nu cu] rfl HSRC.out ?one s1 s2 s3 ?grow)
              case one => first | rfl | (intro u hu; simp at hu; subst hu; rfl)
              case grow =>
                intro v' w3 h2 h3 _
                have O4 : Hid (w3.ownsRow w1.heap.size 37 1 v' (zs ++ [Value.slice pu nu cu]).length (zs ++ [Value.slice pu nu cu])) := by
                  show World.ownsRow _ _ _ _ _ _ _
                  rw [List.length_append]
                  exact h2
                have B4 : Hid (Below w1.heap.size w1 w3) := (B3.out.alloc B3.out.size _).grown h3 s3 HK4.out
                clear h2 h3 HSRC HO4 HK4 s1 s2 s3 A1 a1 B3 bxx B1
                go_wp2
                exact ⟨⟨k + 1, zs ++ [Value.slice pu nu cu], by omega, by go_num, O4, R3, B4⟩, by simp [intOf]; omega⟩
      · have c3 : ¬ (k : Int) < (n2 : Int) := by omega
        have hF : Hid (RowsOf wr zs (rs.filter fun r => !(qs.any fun q => fitB vs vs' r q 0))) := by
          have h := hR.out
          rw [List.take_of_length_le (by have := en2.out; omega)] at h
          exact h.below KW
        have eAL : Hid ((rs.filter fun r => !(qs.any fun q => fitB vs vs' r q 0)) = antiL vs vs' rs qs) := by
          show _ = _
          unfold antiL antiR
          refine List.filter_congr fun r hr => ?_
          exact congrArg not (congrArg (List.any qs) (funext fun q => fitB_zero vs vs' r q))
        obtain ⟨p6, n6, c6, rfl⟩ := slice_of hO.out
        have cM : Hid (Calls Tryz.prog 47 #[.slice p1 n1 k1, .slice p6 n6 c6] wr fun e w' => ∃ t, e = .returned t ∧ OwnT wr.heap.size t vs (antiL vs vs' rs qs) w' ∧ Below wr.heap.size wr w') := by
          have sub : ∀ r ∈ rs.filter (fun r => !(qs.any fun q => fitB vs vs' r q 0)), r ∈ rs := fun r hr => (List.mem_filter.1 hr).1
          have h := dmade_any (HA.out.vars.below KW) OKA.out.nodup OKA.out.few (tab_of_vals (vals_own hO.out) hF.out) (fun r hr => OKA.out.rows r (sub r hr)) (by
            have h2 : (rs.filter fun r => !(qs.any fun q => fitB vs vs' r q 0)).length ≤ rs.length := List.length_filter_le _ _
            have := HA.out.many
            omega)
          rw [madeS_self OKA.out.rise, ofRows_self OKA.out.rise (fun r hr => (OKA.out.rows r (sub r hr)).1), madeR_filter (fun r hr => (OKA.out.rows r hr).2) OKA.out.sorted, eAL.out] at h
          exact h
        have A0 := cell_of_heap bx.out.a 0 rfl
        have z4 : w.heap.size + 3 ≤ wr.heap.size := by have := hB.out.size; omega
        clear hF hR hO
        go_wp2_with fail
        refine cM.out.mono ?_
        rintro e w6 ⟨t, rfl, ht, hb6⟩
        have bx6 := bx.out.below hb6
        have K6 : Below w.heap.size w w6 := KW.trans (hb6.mono KW.size)
        obtain ⟨pta, nta, cta, ptb, ntb, ctb, rfl⟩ := own_forms2 ht
        have HT : Hid (OwnT wr.heap.size (.agg #[.slice pta nta cta, .slice ptb ntb ctb]) vs (antiL vs vs' rs qs) w6) := ht
        have r0 := cell_of_heap bx6.r 0 rfl
        have r1 := cell_of_heap bx6.r 1 rfl
        have f0 := frozen_of_heap bx6.r 0
        have f1 := frozen_of_heap bx6.r 1
        have x0 : (w6.setCell ⟨w.heap.size + 2, 0, none⟩ (.slice pta nta cta)).cell? ⟨w.heap.size + 2, 0, none⟩ = some (.slice pta nta cta) := set_same r0
        have x1 : ((w6.setCell ⟨w.heap.size + 2, 0, none⟩ (.slice pta nta cta)).setCell ⟨w.heap.size + 2, 1, none⟩ (.slice ptb ntb ctb)).cell? ⟨w.heap.size + 2, 1, none⟩ = some (.slice ptb ntb ctb) := set_same ((set_other (by simp)).trans r1)
        clear cM ht hb6 bx6
        go_wp2
        (try simp only [Exit.inBlock, Exit.then])
        refine bodyPost_ret (by simp [results, Tryz.results30, go_sem, x0, x1]; try rfl) rfl ?_
        rw [HG.out]
        exact TellsT.of (fun _ => ((HT.out.set (by omega)).set (by omega)).base (by omega)) (fun h => absurd rfl h) (HSET.out _ K6 _ _)
  · have hE2 : (E == 0) = false := by simpa using hE
    have hq : G = E := by rw [hAL.out]
    have r0 := cell_of_heap bx1.out.r 0 rfl
    have r1 := cell_of_heap bx1.out.r 1 rfl
    have f0 := frozen_of_heap bx1.out.r 0
    have f1 := frozen_of_heap bx1.out.r 1
    have x0 : (w1.setCell ⟨w.heap.size + 2, 0, none⟩ (.slice none 0 0)).cell? ⟨w.heap.size + 2, 0, none⟩ = some (.slice none 0 0) := set_same r0
    have x1 : ((w1.setCell ⟨w.heap.size + 2, 0, none⟩ (.slice none 0 0)).setCell ⟨w.heap.size + 2, 1, none⟩ (.slice none 0 0)).cell? ⟨w.heap.size + 2, 1, none⟩ = some (.slice none 0 0) := set_same ((set_other (by simp)).trans r1)
    go_wp2
    (try simp only [Exit.inBlock, Exit.then])
    refine bodyPost_ret (by simp [results, Tryz.results30, go_sem, x0, x1]; try rfl) rfl ?_
    rw [show E = G from hq.symm]
    exact TellsT.of (fun h => absurd (hq.symm.trans h) hE) (fun _ => rfl) (HSET.out _ K1 _ _)


end Go.Proofs.YteipohpfaofchaaGreat

namespace Go.Proofs.YteipohpfaofchaaGreat
open Go.RowKit Go.Shelf Go.Sort
set_option linter.unusedVariables false

/-- What a row gives with the rows of another table that fit it. -/
def joinG (vs vs' : List ByteArray) (qs : List (List Val)) (r : List Val) : List (List Val) := (qs.filter fun q => fitB vs vs' r q 0).map fun q => r ++ picks q (outs vs 0 vs')
theorem joinL_G (vs vs' : List ByteArray) (rs qs : List (List Val)) : joinL vs vs' rs qs = rs.flatMap (joinG vs vs' qs) := by
  unfold joinL joinR joinG
  simp only [fitB_zero]
theorem joinG_len (vs vs' : List ByteArray) (rs qs : List (List Val)) {k : Nat} (hk : k < rs.length) (j : Nat) : ((rs.take k).flatMap (joinG vs vs' qs)).length + (joinG vs vs' (qs.take j) rs[k]).length ≤ (joinL vs vs' rs qs).length := by
  have h1 : (joinG vs vs' (qs.take j) rs[k]).length ≤ (joinG vs vs' qs rs[k]).length := by
    unfold joinG
    rw [List.length_map, List.length_map]
    exact ((List.take_sublist j qs).filter _).length_le
  have h2 : rs.flatMap (joinG vs vs' qs) = (rs.take k).flatMap (joinG vs vs' qs) ++ (joinG vs vs' qs rs[k] ++ (rs.drop (k + 1)).flatMap (joinG vs vs' qs)) := by
    conv => lhs; rw [← List.take_append_drop k rs, List.drop_eq_getElem_cons hk]
    rw [List.flatMap_append, List.flatMap_cons]
  rw [joinL_G, h2, List.length_append, List.length_append]
  omega
theorem strs_tail {w : World} {g n m c c' : Nat} {M N : List ByteArray} (h : StrsAt w (.slice (some ⟨g, 0, none⟩) (M ++ N).length c') (M ++ N)) (hn : M.length = n) (hm : N.length = m) : StrsAt w (.slice (some ⟨g, n, none⟩) m c) N := by
  obtain ⟨p, c2, e, h⟩ := h
  injection e with e1 e2 e3
  subst e1
  rcases h with h | ⟨b, off, e, hb, hr⟩
  · exact ⟨_, c, by rw [hm], Or.inl (List.append_eq_nil_iff.1 h).2⟩
  · injection e with e
    injection e with e4 e5
    subst e4 e5
    refine ⟨_, c, by rw [hm], Or.inr ⟨g, n, rfl, hb, fun i hi => ?_⟩⟩
    have h5 := hr (n + i) (by rw [List.length_append]; omega)
    rw [Nat.zero_add] at h5
    rw [h5, List.getElem_append_right (by omega)]
    simp [hn]

set_option maxRecDepth 100000 in
set_option maxHeartbeats 16000000 in
theorem djoin_any {Va Ra Vb Rb : Value} {vs vs' : List ByteArray} {rs qs : List (List Val)} {w : World} (ha : DTab w Va Ra vs rs) (hb : DTab w Vb Rb vs' qs) (lp : (joinL vs vs' rs qs).length ≤ 5864062014805) :
    Calls Tryz.prog 28 #[.agg #[Va, Ra], .agg #[Vb, Rb]] w (TellsT w.heap.size (joinE vs rs vs' qs) (madeS (allV vs vs')) (ofRows (allV vs vs') (joinL vs vs' rs qs)) w) := by
  have HA : Hid (DTab w Va Ra vs rs) := ha
  have HB : Hid (DTab w Vb Rb vs' qs) := hb
  have cE : Hid (∀ W, Below w.heap.size w W → Calls Tryz.prog 57 #[.agg #[Va, Ra], .agg #[Vb, Rb]] W fun e w' => e = .returned (.int .i64 (bothE vs rs vs' qs)) ∧ Below W.heap.size W w') := fun W hW => dboth2_any (ha.below hW) (hb.below hW)
  obtain ⟨p1, k1, p2, k2, rfl, rfl⟩ := ha.forms
  obtain ⟨p3, k3, p4, k4, rfl, rfl⟩ := hb.forms
  have LP : Hid ((joinL vs vs' rs qs).length ≤ 5864062014805) := lp
  clear lp
  obtain ⟨E, eE⟩ : ∃ E, Hid (bothE vs rs vs' qs = E) := ⟨_, rfl⟩
  obtain ⟨n1, en1⟩ : ∃ n, Hid (vs.length = n) := ⟨_, rfl⟩
  obtain ⟨n2, en2⟩ : ∃ n, Hid (rs.length = n) := ⟨_, rfl⟩
  obtain ⟨n3, en3⟩ : ∃ n, Hid (vs'.length = n) := ⟨_, rfl⟩
  obtain ⟨n4, en4⟩ : ∃ n, Hid (qs.length = n) := ⟨_, rfl⟩
  rw [eE.out] at cE
  have hAL : Hid (joinE vs rs vs' qs = if E = 0 then (if (allV vs vs').length ≤ 8 then 0 else 30) else E) := by show _ = _; unfold joinE; rw [eE.out]
  obtain ⟨G, eG⟩ : ∃ G, Hid (joinE vs rs vs' qs = G) := ⟨_, rfl⟩
  rw [eG.out] at hAL ⊢
  rw [en1.out] at HA cE ⊢
  rw [en2.out] at HA cE ⊢
  rw [en3.out] at HB cE ⊢
  rw [en4.out] at HB cE ⊢
  clear ha hb
  go_enter Tryz.func28, Tryz.ntmps28
  go_upto_region 1 with fail
  refine wp_world ?_
  intro W0 hW0
  have bx0 : Hid (Box3 W0 w.heap.size (.slice p1 n1 k1) (.slice p2 n2 k2) (.slice p3 n3 k3) (.slice p4 n4 k4)) := by rw [hW0]; exact Box3.made _ _ _ _ _
  have K0 : Below w.heap.size w W0 := by rw [hW0]; go_grown
  have z0 : W0.heap.size = w.heap.size + 3 := by rw [hW0]; simp
  clear hW0
  have A0 := cell_of_heap bx0.out.a 0 rfl
  have A1 := cell_of_heap bx0.out.a 1 rfl
  have B0 := cell_of_heap bx0.out.b 0 rfl
  have B1 := cell_of_heap bx0.out.b 1 rfl
  go_wp2_with fail
  refine (cE.out W0 K0).mono ?_
  rintro e w1 ⟨rfl, hb1⟩
  have bx1 : Hid (Box3 w1 w.heap.size (.slice p1 n1 k1) (.slice p2 n2 k2) (.slice p3 n3 k3) (.slice p4 n4 k4)) := bx0.out.below hb1
  have K1 : Below w.heap.size w w1 := K0.trans (hb1.mono K0.size)
  have z1 : w.heap.size + 3 ≤ w1.heap.size := by have := hb1.size; omega
  clear A0 A1 B0 B1 bx0 K0 hb1 z0
  have HSET : Hid (∀ W, Below w.heap.size w W → ∀ x y, Below w.heap.size w ((W.setCell ⟨w.heap.size + 2, 0, none⟩ x).setCell ⟨w.heap.size + 2, 1, none⟩ y)) := fun W h x y => by
    have b2 := h.grown (grownBy_setCell W (w.heap.size + 2) 0 x) h.size (fun q hq => by injection hq with hq; omega)
    exact b2.grown (grownBy_setCell _ (w.heap.size + 2) 1 y) b2.size (fun q hq => by injection hq with hq; omega)
  by_cases hE : E = 0
  · have OKA : Hid (OkT vs rs) := tabChk_ok (bothE_ok (eE.out.trans hE)).1 HA.out.fits
    have OKB : Hid (OkT vs' qs) := tabChk_ok (bothE_ok (eE.out.trans hE)).2 HB.out.fits
    obtain ⟨i0, hi, hz0, hz1, hz2⟩ := info_parts inR
    have FITS : Hid (∀ W Y Z (r q : List Val), Below w.heap.size w W → RowAt W Y r → RowAt W Z q → r ∈ rs → q ∈ qs → Calls Tryz.prog 63 #[.slice p1 n1 k1, Y, .slice p3 n3 k3, Z] W fun e w' => e = .returned (.bool (fitB vs vs' r q 0)) ∧ Below W.heap.size W w') := fun W Y Z r q hW h1 h2 m1 m2 => dfits_any (HA.out.vars.below hW) h1 (HB.out.vars.below hW) h2 (OKA.out.rows r m1).1 (OKB.out.rows q m2).1 OKA.out.few OKB.out.few
    have lm : n2 ≤ 5864062014805 := by have := HA.out.many; rw [en2.out] at this; exact this
    have lm4 : n4 ≤ 5864062014805 := by have := HB.out.many; rw [en4.out] at this; exact this
    obtain ⟨q9, c9, e9, HX0⟩ := (HA.out.rows).form
    rw [en2.out] at e9
    injection e9 with e91 e92 e93
    subst e91 e93
    clear e92
    have HXA : Hid (∀ k (hk : k < rs.length), ∃ b off u, p2 = some ⟨b, off, none⟩ ∧ b < w.heap.size ∧ w.cell? ⟨b, off + k, none⟩ = some u ∧ RowAt w u rs[k]) := HX0
    clear HX0
    obtain ⟨q9, c9, e9, HX0⟩ := (HB.out.rows).form
    rw [en4.out] at e9
    injection e9 with e91 e92 e93
    subst e91 e93
    clear e92
    have HXB : Hid (∀ k (hk : k < qs.length), ∃ b off u, p4 = some ⟨b, off, none⟩ ∧ b < w.heap.size ∧ w.cell? ⟨b, off + k, none⟩ = some u ∧ RowAt w u qs[k]) := HX0
    clear HX0
    subst hE
    obtain ⟨j0, hj0, hjz0, hjz1, hjz2⟩ := info_parts inV
    have cA : Hid (Calls Tryz.prog 62 #[.slice p1 n1 k1, .slice p3 n3 k3] w1 fun e w' => ∃ v, e = .returned v ∧ OwnS w1.heap.size v (allV vs vs') w' ∧ Below w1.heap.size w1 w') := dall_any (HA.out.vars.below K1) (HB.out.vars.below K1) OKA.out.few OKB.out.few
    have A0 := cell_of_heap bx1.out.a 0 rfl
    have B0 := cell_of_heap bx1.out.b 0 rfl
    clear cE
    go_wp2_with fail
    refine cA.out.mono ?_
    rintro e w2 ⟨v7, rfl, oV, hb2⟩
    have HV : Hid (OwnS w1.heap.size v7 (allV vs vs') w2) := oV
    have HS : Hid (∀ W, Below w2.heap.size w2 W → StrsAt W v7 (allV vs vs')) := fun W hW => oV.strs.below hW
    have bx2 : Hid (Box3 w2 w.heap.size (.slice p1 n1 k1) (.slice p2 n2 k2) (.slice p3 n3 k3) (.slice p4 n4 k4)) := bx1.out.below hb2
    have K2 : Below w.heap.size w w2 := K1.trans (hb2.mono K1.size)
    have z2 : w.heap.size + 3 ≤ w2.heap.size := by have := hb2.size; omega
    have za : w.heap.size < w2.heap.size := by omega
    have zb : w.heap.size + 1 < w2.heap.size := by omega
    obtain ⟨n6, en6⟩ : ∃ n, Hid ((allV vs vs').length = n) := ⟨_, rfl⟩
    have n16 : n1 ≤ n6 := by have h := en6.out; unfold allV at h; rw [List.length_append, en1.out] at h; omega
    have e67 : Hid ((picks vs' (outs vs 0 vs')).length = n6 - n1) := by
      have h := en6.out
      unfold allV at h
      rw [List.length_append, en1.out] at h
      show _ = _
      omega
    have hGG : Hid (G = if n6 ≤ 8 then 0 else 30) := by
      have h := hAL.out
      rw [if_pos (by trivial), en6.out] at h
      exact h
    clear A0 B0 bx1 K1 hb2 oV cA hAL z1
    obtain ⟨-, ⟨rfl, hk0⟩ | ⟨g, cap, cur, rfl, hg1, hg2, hn, -, hn2, hn3⟩⟩ := (show World.ownsRow _ _ _ _ _ _ _ from HV.out)
    · rw [en6.out] at hk0
      clear HV
      subst hk0
      obtain rfl : n1 = 0 := by omega
      have HG : Hid (G = 0) := hGG.out
      have H8 : Hid ((allV vs vs').length ≤ 8) := by show _ ≤ _; rw [en6.out]; decide
      clear hGG n16
      have hUU : Hid (StrsAt w2 (.slice none 0 0) (picks vs' (outs vs 0 vs'))) := by
        have h0 : picks vs' (outs vs 0 vs') = [] := List.eq_nil_of_length_eq_zero (by have := e67.out; omega)
        show StrsAt _ _ _
        rw [h0]
        exact ⟨_, _, rfl, Or.inl rfl⟩
      have PIC : Hid (∀ W Y (q : List Val), Below w2.heap.size w2 W → RowAt W Y q → q ∈ qs → Calls Tryz.prog 64 #[.slice p3 n3 k3, Y, .slice none 0 0] W fun e w' => ∃ v, e = .returned v ∧ OwnV W.heap.size v (picks q (outs vs 0 vs')) w' ∧ Below W.heap.size W w') := fun W Y q hW hY mq => by
        have l1 := (OKB.out.rows q mq).1
        have l2 := OKB.out.few
        have l3 : (picks vs' (outs vs 0 vs')).length ≤ (outs vs 0 vs').length := List.length_filterMap_le _ _
        have l4 := outs_len (us := vs) vs' 0
        have h := dpicked_any (HB.out.vars.below (K2.trans (hW.mono K2.size))) hY (hUU.out.below hW) (by omega) (by omega) (by omega) (fun x hx => by
          obtain ⟨c, -, hc⟩ := List.mem_filterMap.1 hx
          have := (Lib.idxOfS_nonneg_iff vs' x).2 (List.mem_of_getElem? hc)
          omega) (by omega)
        rw [← cols_of_picks OKB.out.nodup (fun c hc => by have := outs_mem hc; omega)] at h
        exact h
      clear hUU
      go_wp2
      go_loopw [8, 9] (fun v i wr => ∃ (k : Nat) (zs : List Value), k ≤ n2 ∧ i = .int .i64 k ∧ Hid (wr.ownsRow w2.heap.size 37 1 v zs.length zs) ∧ Hid (OwnRs w2.heap.size zs ((rs.take k).flatMap (joinG vs vs' qs)) wr) ∧ Hid (Below w2.heap.size w2 wr)) (fun _ i _ => n2 - (intOf i).toNat)
      case atStart => exact ⟨0, [], Nat.zero_le _, rfl, (show World.ownsRow _ _ _ _ _ _ _ from World.ownsRow_nil _ _ _ _), (show OwnRs _ _ _ _ from OwnRs.nil _ _), Below.refl _ _⟩
      case round =>
        obtain ⟨k, zs, hk, rfl, hO, hR, hB⟩ := hrel
        have bx : Hid (Box3 wr w.heap.size (.slice p1 0 k1) (.slice p2 n2 k2) (.slice p3 n3 k3) (.slice p4 n4 k4)) := bx2.out.below hB.out
        have KW : Below w.heap.size w wr := K2.trans (hB.out.mono K2.size)
        have A1 := cell_of_heap bx.out.a 1 rfl
        by_cases hlt : k < n2
        · have kx : k < rs.length := by have := en2.out; omega
          obtain ⟨ba, oa, Y, rfl, hba, q1, row⟩ := HXA.out k kx
          have mr : Hid (rs[k] ∈ rs) := List.getElem_mem kx
          have hst : Hid ((rs.take (k + 1)).flatMap (joinG vs vs' qs) = (rs.take k).flatMap (joinG vs vs' qs) ++ joinG vs vs' qs rs[k]) := by
            show _ = _
            rw [List.take_succ_eq_append_getElem kx, List.flatMap_append]
            simp
          have hpl : Hid (∀ j, ((rs.take k).flatMap (joinG vs vs' qs)).length + (joinG vs vs' (qs.take j) rs[k]).length ≤ 5864062014805) := fun j => by
            have h1 := joinG_len vs vs' rs qs kx j
            have h2 := LP.out
            omega
          generalize rs[k] = r at row hst mr hpl
          obtain ⟨pu, cu, rfl⟩ := row.form
          have ROW : Hid (RowAt w (.slice pu r.length cu) r) := row
          obtain ⟨nu, enu⟩ : ∃ nu : Nat, Hid (r.length = nu) := ⟨_, rfl⟩
          have nu8 : nu ≤ 8 := by have h1 := (OKA.out.rows r mr.out).1; have := OKA.out.few; have := enu.out; omega
          rw [enu.out] at q1 ROW
          have Q1 : Hid (w.cell? ⟨ba, oa + k, none⟩ = some (.slice pu nu cu)) := q1
          clear q1 row
          go_wp2
          go_loopw [8, 10] (fun v i wx => ∃ (j : Nat) (ys : List Value), j ≤ n4 ∧ i = .int .i64 j ∧ Hid (wx.ownsRow w2.heap.size 37 1 v ys.length ys) ∧ Hid (OwnRs w2.heap.size ys ((rs.take k).flatMap (joinG vs vs' qs) ++ joinG vs vs' (qs.take j) r) wx) ∧ Hid (Below w2.heap.size w2 wx)) (fun _ i _ => n4 - (intOf i).toNat)
          case atStart => exact ⟨0, zs, Nat.zero_le _, rfl, hO, (show OwnRs _ _ _ _ by rw [List.take_zero]; simpa [joinG] using hR.out), hB⟩
          case round =>
            obtain ⟨j, ys, hj, rfl, hP, hY, hX⟩ := hrel
            clear A1 hO hR hB bx KW
            rename World => wx
            have bxx : Hid (Box3 wx w.heap.size (.slice p1 0 k1) (.slice (some ⟨ba, oa, none⟩) n2 k2) (.slice p3 n3 k3) (.slice p4 n4 k4)) := bx2.out.below hX.out
            have KX : Below w.heap.size w wx := K2.trans (hX.out.mono K2.size)
            have B1 := cell_of_heap bxx.out.b 1 rfl
            by_cases hlj : j < n4
            · have jx : j < qs.length := by have := en4.out; omega
              obtain ⟨bb, ob, Z, rfl, hbb, q2, row2⟩ := HXB.out j jx
              have mq : Hid (qs[j] ∈ qs) := List.getElem_mem jx
              have hsj : Hid (joinG vs vs' (qs.take (j + 1)) r = joinG vs vs' (qs.take j) r ++ if fitB vs vs' r qs[j] 0 then [r ++ picks qs[j] (outs vs 0 vs')] else []) := by
                show _ = _
                unfold joinG
                rw [List.take_succ_eq_append_getElem jx, List.filter_append, List.map_append]
                cases h : fitB vs vs' r qs[j] 0 <;> simp [h]
              generalize qs[j] = q at row2 mq hsj
              obtain ⟨py, cy, rfl⟩ := row2.form
              have ct : Hid (∀ W, Below wx.heap.size wx W → Calls Tryz.prog 63 #[.slice p1 0 k1, .slice pu r.length cu, .slice p3 n3 k3, .slice py q.length cy] W fun e w' => e = .returned (.bool (fitB vs vs' r q 0)) ∧ Below W.heap.size W w') := fun W hW => by
                have hWW := KX.trans (hW.mono KX.size)
                have ROW2 := ROW.out
                rw [← enu.out] at ROW2
                exact FITS.out W _ _ r q hWW (ROW2.below hWW) (row2.below hWW) mr.out mq.out
              have cp : Hid (∀ W, Below w2.heap.size w2 W → Calls Tryz.prog 64 #[.slice p3 n3 k3, .slice py q.length cy, .slice none 0 0] W fun e w' => ∃ v, e = .returned v ∧ OwnV W.heap.size v (picks q (outs vs 0 vs')) w' ∧ Below W.heap.size W w') := fun W hW => PIC.out W _ q hW (row2.below (K2.trans (hW.mono K2.size))) mq.out
              obtain ⟨ny, eny⟩ : ∃ ny : Nat, Hid (q.length = ny) := ⟨_, rfl⟩
              obtain ⟨F, eF⟩ : ∃ F : Bool, Hid (fitB vs vs' r q 0 = F) := ⟨_, rfl⟩
              rw [enu.out, eny.out, eF.out] at ct
              rw [eny.out] at q2 cp
              rw [eF.out] at hsj
              have Q2 : Hid (w.cell? ⟨bb, ob + j, none⟩ = some (.slice py ny cy)) := q2
              have A0 := cell_of_heap bxx.out.a 0 rfl
              have A1 := cell_of_heap bxx.out.a 1 rfl
              have B0 := cell_of_heap bxx.out.b 0 rfl
              have a1 : wx.cell? ⟨ba, oa + k, none⟩ = some (.slice pu nu cu) := (KX.cell (p := ⟨ba, oa + k, none⟩) hba).trans Q1.out
              have b1 : wx.cell? ⟨bb, ob + j, none⟩ = some (.slice py ny cy) := (KX.cell (p := ⟨bb, ob + j, none⟩) hbb).trans q2
              have wza : w.heap.size < wx.heap.size := Nat.lt_of_lt_of_le za hX.out.size
              have wzb : w.heap.size + 1 < wx.heap.size := Nat.lt_of_lt_of_le zb hX.out.size
              have wba : ba < wx.heap.size := Nat.lt_of_lt_of_le hba KX.size
              have wbb : bb < wx.heap.size := Nat.lt_of_lt_of_le hbb KX.size
              have i1 : (0 : Int) ≤ (k : Int) := by omega
              have i2 : (k : Int) < (n2 : Int) := by omega
              have i3 : (0 : Int) ≤ (j : Int) := by omega
              have i4 : (j : Int) < (n4 : Int) := by omega
              clear q2 row2
              go_upto_region 14 with fail
              go_region_held3 (fun w' => w'.cell? ⟨w.heap.size, 0, none⟩ = some (.slice p1 0 k1) ∧ w'.cell? ⟨w.heap.size, 1, none⟩ = some (.slice (some ⟨ba, oa, none⟩) n2 k2) ∧ w'.cell? ⟨w.heap.size + 1, 0, none⟩ = some (.slice p3 n3 k3) ∧ w'.cell? ⟨w.heap.size + 1, 1, none⟩ = some (.slice (some ⟨bb, ob, none⟩) n4 k4) ∧ w'.cell? ⟨ba, oa + k, none⟩ = some (.slice pu nu cu) ∧ w'.cell? ⟨bb, ob + j, none⟩ = some (.slice py ny cy))
                (exact ⟨bcl (n := wx.heap.size) (by go_grown) A0 wza, bcl (n := wx.heap.size) (by go_grown) A1 wza, bcl (n := wx.heap.size) (by go_grown) B0 wzb, bcl (n := wx.heap.size) (by go_grown) B1 wzb, bcl (n := wx.heap.size) (by go_grown) a1 wba, bcl (n := wx.heap.size) (by go_grown) b1 wbb⟩)
                (first
                  | (go_at_call 63; refine (ct.out _ (by go_grown)).mono ?_; rintro e v1 ⟨rfl, hv1⟩; obtain ⟨hw1, hn1⟩ := bg0 (n := wx.heap.size) (W0 := wx) (by go_grown) (by go_size) hv1; clear hv1))
              have X3 : Hid (Below w2.heap.size w2 v1) := hX.out.trans (hw1.mono hX.out.size)
              have P3 : Hid (v1.ownsRow w2.heap.size 37 1 u8 ys.length ys) := own_below hP.out hw1
              have Y3 : Hid (OwnRs w2.heap.size ys ((rs.take k).flatMap (joinG vs vs' qs) ++ joinG vs vs' (qs.take j) r) v1) := hY.out.below hw1
              clear hw1 hn1 ct A0 A1 B0 B1 a1 b1 hX bxx KX hP hY wza wzb wba wbb
              cases F with
              | false =>
                have Y4 : Hid (OwnRs w2.heap.size ys ((rs.take k).flatMap (joinG vs vs' qs) ++ joinG vs vs' (qs.take (j + 1)) r) v1) := by
                  show OwnRs _ _ _ _
                  rw [hsj.out]
                  simpa using Y3.out
                clear Y3 hsj cp
                go_wp2
                exact ⟨⟨j + 1, ys, by omega, by go_num, P3, Y4, X3⟩, by simp [intOf]; omega⟩
              | true =>
                have KX : Below w.heap.size w v1 := K2.trans (X3.out.mono K2.size)
                have bxx : Hid (Box3 v1 w.heap.size (.slice p1 0 k1) (.slice (some ⟨ba, oa, none⟩) n2 k2) (.slice p3 n3 k3) (.slice (some ⟨bb, ob, none⟩) n4 k4)) := bx2.out.below X3.out
                have A0 := cell_of_heap bxx.out.a 0 rfl
                have B0 := cell_of_heap bxx.out.b 0 rfl
                have B1 := cell_of_heap bxx.out.b 1 rfl
                have b1 : v1.cell? ⟨bb, ob + j, none⟩ = some (.slice py ny cy) := (KX.cell (p := ⟨bb, ob + j, none⟩) hbb).trans Q2.out
                have wza : w.heap.size < v1.heap.size := Nat.lt_of_lt_of_le za X3.out.size
                have wzb : w.heap.size + 1 < v1.heap.size := Nat.lt_of_lt_of_le zb X3.out.size
                have wbb : bb < v1.heap.size := Nat.lt_of_lt_of_le hbb KX.size
                have ct : Hid (∀ W, Below v1.heap.size v1 W → Calls Tryz.prog 64 #[.slice p3 n3 k3, .slice py ny cy, .slice none 0 0] W fun e w' => ∃ v, e = .returned v ∧ OwnV v1.heap.size v (picks q (outs vs 0 vs')) w' ∧ Below W.heap.size W w') := fun W hW => by
                  refine (cp.out W (X3.out.trans (hW.mono X3.out.size))).mono ?_
                  rintro e w' ⟨v, g1, g2, g3⟩
                  exact ⟨v, g1, own_base g2 hW.size, g3⟩
                clear cp
                go_upto_region 16 with fail
                go_region_held3 (fun w' => w'.cell? ⟨w.heap.size, 0, none⟩ = some (.slice p1 0 k1) ∧ w'.cell? ⟨w.heap.size + 1, 0, none⟩ = some (.slice p3 n3 k3) ∧ w'.cell? ⟨w.heap.size + 1, 1, none⟩ = some (.slice (some ⟨bb, ob, none⟩) n4 k4) ∧ w'.cell? ⟨bb, ob + j, none⟩ = some (.slice py ny cy))
                  (exact ⟨bcl (n := v1.heap.size) (by go_grown) A0 wza, bcl (n := v1.heap.size) (by go_grown) B0 wzb, bcl (n := v1.heap.size) (by go_grown) B1 wzb, bcl (n := v1.heap.size) (by go_grown) b1 wbb⟩)
                  (first
                    | (go_at_call 64; refine (ct.out _ (by go_grown)).mono ?_; rintro e v2 ⟨X, rfl, oX, hv2⟩; obtain ⟨hw2, hn2⟩ := bg0 (n := v1.heap.size) (W0 := v1) (by go_grown) (by go_size) hv2; clear hv2))
                obtain ⟨px, mx, cx, rfl⟩ := slice_of oX
                have X4 : Hid (Below w2.heap.size w2 v2) := X3.out.trans (hw2.mono X3.out.size)
                have P4 : Hid (v2.ownsRow w2.heap.size 37 1 u8 ys.length ys) := own_below P3.out hw2
                have Y4 : Hid (OwnRs w2.heap.size ys ((rs.take k).flatMap (joinG vs vs' qs) ++ joinG vs vs' (qs.take j) r) v2) := Y3.out.below hw2
                have M4 : Hid (OwnV w2.heap.size (.slice px mx cx) (picks q (outs vs 0 vs')) v2) := own_base oX X3.out.size
                have K4 : Below w.heap.size w v2 := K2.trans (X4.out.mono K2.size)
                have bx4 : Hid (Box3 v2 w.heap.size (.slice p1 0 k1) (.slice (some ⟨ba, oa, none⟩) n2 k2) (.slice p3 n3 k3) (.slice (some ⟨bb, ob, none⟩) n4 k4)) := bx2.out.below X4.out
                clear oX hw2 hn2 ct A0 B0 B1 b1 X3 P3 Y3 bxx KX wza wzb wbb
                have A1 := cell_of_heap bx4.out.a 1 rfl
                have a1 : v2.cell? ⟨ba, oa + k, none⟩ = some (.slice pu nu cu) := (K4.cell (p := ⟨ba, oa + k, none⟩) hba).trans Q1.out
                have HS1 : Hid (Src v2 4 (.slice pu nu cu) nu (flat r)) := by
                  have h1 := ROW.out
                  rw [← enu.out] at h1
                  have h := src_row (h1.below K4)
                  rw [enu.out] at h
                  exact h
                have l63 : 0 + nu ≤ maxLen := by unfold maxLen; omega
                have lby : (0 + nu) * 40 ≤ 140737488355328 := by omega
                have lsz : v2.heap.size ≤ v2.heap.size := Nat.le_refl _
                go_wp2_with (at_builtin; refine wpList_append_src rfl (.tmp 74) (.tmp 79) 37 rfl v2.heap.size 47 j0 _ 4 40 Tryz.underlying37 hj0 hjz0 hjz1 hjz2 rfl (by decide) (.slice none 0 0) 0 [] rfl (World.ownsRow_nil _ _ _ _) (.slice pu nu cu) nu (flat r) rfl HS1.out (flat_one r) l63 lby lsz ?growr)
                case growr =>
                  intro v13 w5 h2 h3 _
                  obtain ⟨pa, na, ca, rfl⟩ := slice_of h2
                  have hb5 : Below v2.heap.size v2 w5 := (Below.refl _ _).grown h3 (Nat.le_refl _) (fun q hq => by cases hq)
                  have O5 : Hid (w5.ownsRow v2.heap.size 47 4 (.slice pa na ca) nu (flat r)) := by
                    show World.ownsRow _ _ _ _ _ _ _
                    simpa using h2
                  have M5 : OwnV w2.heap.size (.slice px mx cx) (picks q (outs vs 0 vs')) w5 := own_below M4.out hb5
                  have lmx : Hid ((picks q (outs vs 0 vs')).length ≤ 8) := by
                    have g1 : (picks q (outs vs 0 vs')).length ≤ (outs vs 0 vs').length := List.length_filterMap_le _ _
                    have g2 := outs_len (us := vs) vs' 0
                    have g3 := OKB.out.few
                    show _ ≤ _
                    omega
                  have emx : Hid (mx = (picks q (outs vs 0 vs')).length) := by
                    show _ = _
                    obtain ⟨pz, cz, ez⟩ := M5.row.form
                    injection ez
                  have HS2 : Hid (Src w5 4 (.slice px mx cx) mx (flat (picks q (outs vs 0 vs')))) := by
                    have h := src_row M5.row
                    rw [← emx.out] at h
                    exact h
                  have lmx2 : mx ≤ 8 := by have := lmx.out; have := emx.out; omega
                  have sz5 : v2.heap.size ≤ w5.heap.size := hb5.size
                  have m63 : nu + mx ≤ maxLen := by unfold maxLen; omega
                  have mby : (nu + mx) * 40 ≤ 140737488355328 := by omega
                  have B5 : Hid (Below v2.heap.size v2 w5) := hb5
                  have HK5 : Hid (∀ q, (Value.slice pa na ca).ownBlock = some q → v2.heap.size ≤ q) := fun q hq => (World.ownsRow.lt O5.out q hq).1
                  clear h2 h3 hb5 A1 a1 HS1 l63 lby lsz M4 M5 bx4 K4
                  go_wp2_with (at_builtin; refine wpList_append_src rfl (.tmp 81) (.tmp 82) 37 rfl v2.heap.size 47 j0 _ 4 40 Tryz.underlying37 hj0 hjz0 hjz1 hjz2 rfl (by decide) (.slice pa na ca) nu (flat r) rfl O5.out (.slice px mx cx) mx (flat (picks q (outs vs 0 vs'))) rfl HS2.out (flat_one _) m63 mby sz5 ?grows)
                  case grows =>
                    intro v14 w6 h2 h3 _
                    obtain ⟨pd, nd, cd, rfl⟩ := slice_of h2
                    have hb6 : Below v2.heap.size v2 w6 := B5.out.grown h3 sz5 HK5.out
                    have OC : Hid (OwnV w2.heap.size (.slice pd nd cd) (r ++ picks q (outs vs 0 vs')) w6) := by
                      refine own_base (show OwnV v2.heap.size _ _ _ from ?_) X4.out.size
                      unfold OwnV
                      rw [List.length_append, flat, List.flatMap_append, enu.out, ← emx.out]
                      exact h2
                    have P6 : Hid (w6.ownsRow w2.heap.size 37 1 u8 ys.length ys) := own_below P4.out hb6
                    have Y6 : Hid (OwnRs w2.heap.size ys ((rs.take k).flatMap (joinG vs vs' qs) ++ joinG vs vs' (qs.take j) r) w6) := Y4.out.below hb6
                    have X6 : Hid (Below w2.heap.size w2 w6) := X4.out.trans (hb6.mono X4.out.size)
                    have hyl : Hid (ys.length + 1 ≤ 5864062014805) := by
                      have g1 := Y6.out.1
                      have g2 := hpl.out (j + 1)
                      rw [hsj.out, if_pos (by trivial)] at g2
                      simp only [List.length_append, List.length_singleton] at g1 g2
                      show _ ≤ _
                      omega
                    obtain ⟨p5, n5, c5, rfl⟩ := slice_of P6.out
                    have HSRC : Hid (Src (w6.alloc (.cells #[.slice pd nd cd] 37)) 1 (.slice (some ⟨w6.heap.size, 0, none⟩) 1 1) 1 [.slice pd nd cd]) := Or.inr ⟨_, 1, rfl, rfl, fun j x hj => by
                      rw [Addr.add_lit, Nat.zero_add]
                      exact cell_of_heap (heap_alloc w6 _) j (by simpa using hj)⟩
                    have HO7 : Hid ((w6.alloc (.cells #[.slice pd nd cd] 37)).ownsRow w2.heap.size 37 1 (.slice p5 n5 c5) ys.length ys) := World.ownsRow.alloc P6.out _
                    have HK7 : Hid (∀ q, (Value.slice p5 n5 c5).ownBlock = some q → w2.heap.size ≤ q) := fun q hq => (World.ownsRow.lt P6.out q hq).1
                    have s1 : ys.length + 1 ≤ maxLen := by unfold maxLen; have := hyl.out; omega
                    have s2 : (ys.length + 1) * 24 ≤ 140737488355328 := by have := hyl.out; omega
                    have s3 : w2.heap.size ≤ (w6.alloc (.cells #[.slice pd nd cd] 37)).heap.size := by simp; have := X6.out.size; omega
                    clear h2 h3 hb6 m63 mby sz5 P4 Y4 X4 B5 HK5 HS2 O5
                    go_wp2_with (at_builtin; refine wpList_append_src rfl (.tmp 84) (.tmp 86) 23 rfl w2.heap.size 37 i0 _ 1 24 Tryz.underlying23 hi hz0 hz1 hz2 rfl (by decide) (.slice p5 n5 c5) ys.length ys rfl HO7.out (.slice (some ⟨w6.heap.size, 0, none⟩) 1 1) 1 [.slice pd nd cd] rfl HSRC.out ?oney s1 s2 s3 ?growy)
                    case oney => first | rfl | (intro u hu; simp at hu; subst hu; rfl)
                    case growy =>
                      intro v' w7 h2 h3 _
                      have O8 : Hid (w7.ownsRow w2.heap.size 37 1 v' (ys ++ [Value.slice pd nd cd]).length (ys ++ [Value.slice pd nd cd])) := by
                        show World.ownsRow _ _ _ _ _ _ _
                        rw [List.length_append]
                        exact h2
                      have R8 : Hid (OwnRs w2.heap.size (ys ++ [Value.slice pd nd cd]) ((rs.take k).flatMap (joinG vs vs' qs) ++ joinG vs vs' (qs.take (j + 1)) r) w7) := by
                        have h := rs_more P6.out Y6.out OC.out h3
                        show OwnRs _ _ _ _
                        rw [hsj.out, if_pos (by trivial), ← List.append_assoc]
                        exact h
                      have B8 : Hid (Below w2.heap.size w2 w7) := (X6.out.alloc X6.out.size _).grown h3 s3 HK7.out
                      clear h2 h3 HSRC HO7 HK7 s1 s2 s3 P6 Y6 X6 OC
                      go_wp2
                      exact ⟨⟨j + 1, ys ++ [Value.slice pd nd cd], by omega, by go_num, O8, R8, B8⟩, by simp [intOf]; omega⟩
            · have c3 : ¬ (j : Int) < (n4 : Int) := by omega
              have Y4 : Hid (OwnRs w2.heap.size ys ((rs.take (k + 1)).flatMap (joinG vs vs' qs)) wx) := by
                have h := hY.out
                rw [show qs.take j = qs from List.take_of_length_le (by have := en4.out; omega)] at h
                show OwnRs _ _ _ _
                rw [hst.out]
                exact h
              clear hY hst
              go_wp2
              exact ⟨⟨k + 1, ys, by omega, by go_num, hP, Y4, hX⟩, by simp [intOf]; omega⟩
        · have c3 : ¬ (k : Int) < (n2 : Int) := by omega
          have eJ : Hid ((rs.take k).flatMap (joinG vs vs' qs) = joinL vs vs' rs qs) := by
            show _ = _
            rw [List.take_of_length_le (by have := en2.out; omega), joinL_G]
          obtain ⟨p6, m6, c6, rfl⟩ := slice_of hO.out
          have cM : Hid (Calls Tryz.prog 47 #[.slice none 0 0, .slice p6 m6 c6] wr fun e w' => ∃ t, e = .returned t ∧ OwnT wr.heap.size t (madeS (allV vs vs')) (ofRows (allV vs vs') (joinL vs vs' rs qs)) w' ∧ Below wr.heap.size wr w') := by
            have h := hR.out.rows
            rw [eJ.out] at h
            exact dmade_any (HS.out wr hB.out) (allV_nodup OKA.out.nodup OKB.out.nodup) H8.out (tab_of_vals (vals_own hO.out) h) (joinL_ok OKA.out OKB.out) LP.out
          have z4 : w.heap.size + 3 ≤ wr.heap.size := by have := hB.out.size; omega
          clear hR hO eJ
          go_wp2_with fail
          refine cM.out.mono ?_
          rintro e w6 ⟨t, rfl, ht, hb6⟩
          have bx6 := bx.out.below hb6
          have K6 : Below w.heap.size w w6 := KW.trans (hb6.mono KW.size)
          obtain ⟨pta, nta, cta, ptb, ntb, ctb, rfl⟩ := own_forms2 ht
          have HT : Hid (OwnT wr.heap.size (.agg #[.slice pta nta cta, .slice ptb ntb ctb]) (madeS (allV vs vs')) (ofRows (allV vs vs') (joinL vs vs' rs qs)) w6) := ht
          have r0 := cell_of_heap bx6.r 0 rfl
          have r1 := cell_of_heap bx6.r 1 rfl
          have f0 := frozen_of_heap bx6.r 0
          have f1 := frozen_of_heap bx6.r 1
          have x0 : (w6.setCell ⟨w.heap.size + 2, 0, none⟩ (.slice pta nta cta)).cell? ⟨w.heap.size + 2, 0, none⟩ = some (.slice pta nta cta) := set_same r0
          have x1 : ((w6.setCell ⟨w.heap.size + 2, 0, none⟩ (.slice pta nta cta)).setCell ⟨w.heap.size + 2, 1, none⟩ (.slice ptb ntb ctb)).cell? ⟨w.heap.size + 2, 1, none⟩ = some (.slice ptb ntb ctb) := set_same ((set_other (by simp)).trans r1)
          clear cM ht hb6 bx6
          go_wp2
          (try simp only [Exit.inBlock, Exit.then])
          refine bodyPost_ret (by simp [results, Tryz.results28, go_sem, x0, x1]; try rfl) rfl ?_
          rw [HG.out]
          exact TellsT.of (fun _ => ((HT.out.set (by omega)).set (by omega)).base (by omega)) (fun h => absurd rfl h) (HSET.out _ K6 _ _)
    · have n6c : n6 ≤ cap := by have := en6.out; omega
      rw [en6.out] at HS ⊢
      clear HV hn hn2 hn3 hg1 hg2
      by_cases h8 : n6 ≤ 8
      · have HG : Hid (G = 0) := hGG.out.trans (if_pos h8)
        have H8 : Hid ((allV vs vs').length ≤ 8) := by show _ ≤ _; rw [en6.out]; exact h8
        clear hGG
        have u0 : (0 : Int) ≤ (n1 : Int) := by omega
        have u1 : (n1 : Int) ≤ (n6 : Int) := by omega
        have u2 : ¬ (8 : Int) < (n6 : Int) := by omega
        by_cases hcj : cap = n1
        · subst hcj
          obtain rfl : n6 = cap := by omega
          clear n6c n16 h8
          have hUU : Hid (StrsAt w2 (.slice (some ⟨g, 0, none⟩) 0 0) (picks vs' (outs vs 0 vs'))) := by
            have h0 : picks vs' (outs vs 0 vs') = [] := List.eq_nil_of_length_eq_zero (by have := e67.out; omega)
            show StrsAt _ _ _
            rw [h0]
            exact ⟨_, _, rfl, Or.inl rfl⟩
          have PIC : Hid (∀ W Y (q : List Val), Below w2.heap.size w2 W → RowAt W Y q → q ∈ qs → Calls Tryz.prog 64 #[.slice p3 n3 k3, Y, .slice (some ⟨g, 0, none⟩) 0 0] W fun e w' => ∃ v, e = .returned v ∧ OwnV W.heap.size v (picks q (outs vs 0 vs')) w' ∧ Below W.heap.size W w') := fun W Y q hW hY mq => by
            have l1 := (OKB.out.rows q mq).1
            have l2 := OKB.out.few
            have l3 : (picks vs' (outs vs 0 vs')).length ≤ (outs vs 0 vs').length := List.length_filterMap_le _ _
            have l4 := outs_len (us := vs) vs' 0
            have h := dpicked_any (HB.out.vars.below (K2.trans (hW.mono K2.size))) hY (hUU.out.below hW) (by omega) (by omega) (by omega) (fun x hx => by
              obtain ⟨c, -, hc⟩ := List.mem_filterMap.1 hx
              have := (Lib.idxOfS_nonneg_iff vs' x).2 (List.mem_of_getElem? hc)
              omega) (by omega)
            rw [← cols_of_picks OKB.out.nodup (fun c hc => by have := outs_mem hc; omega)] at h
            exact h
          clear hUU
          go_wp2
          go_loopw [8, 9] (fun v i wr => ∃ (k : Nat) (zs : List Value), k ≤ n2 ∧ i = .int .i64 k ∧ Hid (wr.ownsRow w2.heap.size 37 1 v zs.length zs) ∧ Hid (OwnRs w2.heap.size zs ((rs.take k).flatMap (joinG vs vs' qs)) wr) ∧ Hid (Below w2.heap.size w2 wr)) (fun _ i _ => n2 - (intOf i).toNat)
          case atStart => exact ⟨0, [], Nat.zero_le _, rfl, (show World.ownsRow _ _ _ _ _ _ _ from World.ownsRow_nil _ _ _ _), (show OwnRs _ _ _ _ from OwnRs.nil _ _), Below.refl _ _⟩
          case round =>
            obtain ⟨k, zs, hk, rfl, hO, hR, hB⟩ := hrel
            have bx : Hid (Box3 wr w.heap.size (.slice p1 n6 k1) (.slice p2 n2 k2) (.slice p3 n3 k3) (.slice p4 n4 k4)) := bx2.out.below hB.out
            have KW : Below w.heap.size w wr := K2.trans (hB.out.mono K2.size)
            have A1 := cell_of_heap bx.out.a 1 rfl
            by_cases hlt : k < n2
            · have kx : k < rs.length := by have := en2.out; omega
              obtain ⟨ba, oa, Y, rfl, hba, q1, row⟩ := HXA.out k kx
              have mr : Hid (rs[k] ∈ rs) := List.getElem_mem kx
              have hst : Hid ((rs.take (k + 1)).flatMap (joinG vs vs' qs) = (rs.take k).flatMap (joinG vs vs' qs) ++ joinG vs vs' qs rs[k]) := by
                show _ = _
                rw [List.take_succ_eq_append_getElem kx, List.flatMap_append]
                simp
              have hpl : Hid (∀ j, ((rs.take k).flatMap (joinG vs vs' qs)).length + (joinG vs vs' (qs.take j) rs[k]).length ≤ 5864062014805) := fun j => by
                have h1 := joinG_len vs vs' rs qs kx j
                have h2 := LP.out
                omega
              generalize rs[k] = r at row hst mr hpl
              obtain ⟨pu, cu, rfl⟩ := row.form
              have ROW : Hid (RowAt w (.slice pu r.length cu) r) := row
              obtain ⟨nu, enu⟩ : ∃ nu : Nat, Hid (r.length = nu) := ⟨_, rfl⟩
              have nu8 : nu ≤ 8 := by have h1 := (OKA.out.rows r mr.out).1; have := OKA.out.few; have := enu.out; omega
              rw [enu.out] at q1 ROW
              have Q1 : Hid (w.cell? ⟨ba, oa + k, none⟩ = some (.slice pu nu cu)) := q1
              clear q1 row
              go_wp2
              go_loopw [8, 10] (fun v i wx => ∃ (j : Nat) (ys : List Value), j ≤ n4 ∧ i = .int .i64 j ∧ Hid (wx.ownsRow w2.heap.size 37 1 v ys.length ys) ∧ Hid (OwnRs w2.heap.size ys ((rs.take k).flatMap (joinG vs vs' qs) ++ joinG vs vs' (qs.take j) r) wx) ∧ Hid (Below w2.heap.size w2 wx)) (fun _ i _ => n4 - (intOf i).toNat)
              case atStart => exact ⟨0, zs, Nat.zero_le _, rfl, hO, (show OwnRs _ _ _ _ by rw [List.take_zero]; simpa [joinG] using hR.out), hB⟩
              case round =>
                obtain ⟨j, ys, hj, rfl, hP, hY, hX⟩ := hrel
                clear A1 hO hR hB bx KW
                rename World => wx
                have bxx : Hid (Box3 wx w.heap.size (.slice p1 n6 k1) (.slice (some ⟨ba, oa, none⟩) n2 k2) (.slice p3 n3 k3) (.slice p4 n4 k4)) := bx2.out.below hX.out
                have KX : Below w.heap.size w wx := K2.trans (hX.out.mono K2.size)
                have B1 := cell_of_heap bxx.out.b 1 rfl
                by_cases hlj : j < n4
                · have jx : j < qs.length := by have := en4.out; omega
                  obtain ⟨bb, ob, Z, rfl, hbb, q2, row2⟩ := HXB.out j jx
                  have mq : Hid (qs[j] ∈ qs) := List.getElem_mem jx
                  have hsj : Hid (joinG vs vs' (qs.take (j + 1)) r = joinG vs vs' (qs.take j) r ++ if fitB vs vs' r qs[j] 0 then [r ++ picks qs[j] (outs vs 0 vs')] else []) := by
                    show _ = _
                    unfold joinG
                    rw [List.take_succ_eq_append_getElem jx, List.filter_append, List.map_append]
                    cases h : fitB vs vs' r qs[j] 0 <;> simp [h]
                  generalize qs[j] = q at row2 mq hsj
                  obtain ⟨py, cy, rfl⟩ := row2.form
                  have ct : Hid (∀ W, Below wx.heap.size wx W → Calls Tryz.prog 63 #[.slice p1 n6 k1, .slice pu r.length cu, .slice p3 n3 k3, .slice py q.length cy] W fun e w' => e = .returned (.bool (fitB vs vs' r q 0)) ∧ Below W.heap.size W w') := fun W hW => by
                    have hWW := KX.trans (hW.mono KX.size)
                    have ROW2 := ROW.out
                    rw [← enu.out] at ROW2
                    exact FITS.out W _ _ r q hWW (ROW2.below hWW) (row2.below hWW) mr.out mq.out
                  have cp : Hid (∀ W, Below w2.heap.size w2 W → Calls Tryz.prog 64 #[.slice p3 n3 k3, .slice py q.length cy, .slice (some ⟨g, 0, none⟩) 0 0] W fun e w' => ∃ v, e = .returned v ∧ OwnV W.heap.size v (picks q (outs vs 0 vs')) w' ∧ Below W.heap.size W w') := fun W hW => PIC.out W _ q hW (row2.below (K2.trans (hW.mono K2.size))) mq.out
                  obtain ⟨ny, eny⟩ : ∃ ny : Nat, Hid (q.length = ny) := ⟨_, rfl⟩
                  obtain ⟨F, eF⟩ : ∃ F : Bool, Hid (fitB vs vs' r q 0 = F) := ⟨_, rfl⟩
                  rw [enu.out, eny.out, eF.out] at ct
                  rw [eny.out] at q2 cp
                  rw [eF.out] at hsj
                  have Q2 : Hid (w.cell? ⟨bb, ob + j, none⟩ = some (.slice py ny cy)) := q2
                  have A0 := cell_of_heap bxx.out.a 0 rfl
                  have A1 := cell_of_heap bxx.out.a 1 rfl
                  have B0 := cell_of_heap bxx.out.b 0 rfl
                  have a1 : wx.cell? ⟨ba, oa + k, none⟩ = some (.slice pu nu cu) := (KX.cell (p := ⟨ba, oa + k, none⟩) hba).trans Q1.out
                  have b1 : wx.cell? ⟨bb, ob + j, none⟩ = some (.slice py ny cy) := (KX.cell (p := ⟨bb, ob + j, none⟩) hbb).trans q2
                  have wza : w.heap.size < wx.heap.size := Nat.lt_of_lt_of_le za hX.out.size
                  have wzb : w.heap.size + 1 < wx.heap.size := Nat.lt_of_lt_of_le zb hX.out.size
                  have wba : ba < wx.heap.size := Nat.lt_of_lt_of_le hba KX.size
                  have wbb : bb < wx.heap.size := Nat.lt_of_lt_of_le hbb KX.size
                  have i1 : (0 : Int) ≤ (k : Int) := by omega
                  have i2 : (k : Int) < (n2 : Int) := by omega
                  have i3 : (0 : Int) ≤ (j : Int) := by omega
                  have i4 : (j : Int) < (n4 : Int) := by omega
                  clear q2 row2
                  go_upto_region 14 with fail
                  go_region_held3 (fun w' => w'.cell? ⟨w.heap.size, 0, none⟩ = some (.slice p1 n6 k1) ∧ w'.cell? ⟨w.heap.size, 1, none⟩ = some (.slice (some ⟨ba, oa, none⟩) n2 k2) ∧ w'.cell? ⟨w.heap.size + 1, 0, none⟩ = some (.slice p3 n3 k3) ∧ w'.cell? ⟨w.heap.size + 1, 1, none⟩ = some (.slice (some ⟨bb, ob, none⟩) n4 k4) ∧ w'.cell? ⟨ba, oa + k, none⟩ = some (.slice pu nu cu) ∧ w'.cell? ⟨bb, ob + j, none⟩ = some (.slice py ny cy))
                    (exact ⟨bcl (n := wx.heap.size) (by go_grown) A0 wza, bcl (n := wx.heap.size) (by go_grown) A1 wza, bcl (n := wx.heap.size) (by go_grown) B0 wzb, bcl (n := wx.heap.size) (by go_grown) B1 wzb, bcl (n := wx.heap.size) (by go_grown) a1 wba, bcl (n := wx.heap.size) (by go_grown) b1 wbb⟩)
                    (first
                      | (go_at_call 63; refine (ct.out _ (by go_grown)).mono ?_; rintro e v1 ⟨rfl, hv1⟩; obtain ⟨hw1, hn1⟩ := bg0 (n := wx.heap.size) (W0 := wx) (by go_grown) (by go_size) hv1; clear hv1))
                  have X3 : Hid (Below w2.heap.size w2 v1) := hX.out.trans (hw1.mono hX.out.size)
                  have P3 : Hid (v1.ownsRow w2.heap.size 37 1 u8 ys.length ys) := own_below hP.out hw1
                  have Y3 : Hid (OwnRs w2.heap.size ys ((rs.take k).flatMap (joinG vs vs' qs) ++ joinG vs vs' (qs.take j) r) v1) := hY.out.below hw1
                  clear hw1 hn1 ct A0 A1 B0 B1 a1 b1 hX bxx KX hP hY wza wzb wba wbb
                  cases F with
                  | false =>
                    have Y4 : Hid (OwnRs w2.heap.size ys ((rs.take k).flatMap (joinG vs vs' qs) ++ joinG vs vs' (qs.take (j + 1)) r) v1) := by
                      show OwnRs _ _ _ _
                      rw [hsj.out]
                      simpa using Y3.out
                    clear Y3 hsj cp
                    go_wp2
                    exact ⟨⟨j + 1, ys, by omega, by go_num, P3, Y4, X3⟩, by simp [intOf]; omega⟩
                  | true =>
                    have KX : Below w.heap.size w v1 := K2.trans (X3.out.mono K2.size)
                    have bxx : Hid (Box3 v1 w.heap.size (.slice p1 n6 k1) (.slice (some ⟨ba, oa, none⟩) n2 k2) (.slice p3 n3 k3) (.slice (some ⟨bb, ob, none⟩) n4 k4)) := bx2.out.below X3.out
                    have A0 := cell_of_heap bxx.out.a 0 rfl
                    have B0 := cell_of_heap bxx.out.b 0 rfl
                    have B1 := cell_of_heap bxx.out.b 1 rfl
                    have b1 : v1.cell? ⟨bb, ob + j, none⟩ = some (.slice py ny cy) := (KX.cell (p := ⟨bb, ob + j, none⟩) hbb).trans Q2.out
                    have wza : w.heap.size < v1.heap.size := Nat.lt_of_lt_of_le za X3.out.size
                    have wzb : w.heap.size + 1 < v1.heap.size := Nat.lt_of_lt_of_le zb X3.out.size
                    have wbb : bb < v1.heap.size := Nat.lt_of_lt_of_le hbb KX.size
                    have ct : Hid (∀ W, Below v1.heap.size v1 W → Calls Tryz.prog 64 #[.slice p3 n3 k3, .slice py ny cy, .slice (some ⟨g, 0, none⟩) 0 0] W fun e w' => ∃ v, e = .returned v ∧ OwnV v1.heap.size v (picks q (outs vs 0 vs')) w' ∧ Below W.heap.size W w') := fun W hW => by
                      refine (cp.out W (X3.out.trans (hW.mono X3.out.size))).mono ?_
                      rintro e w' ⟨v, g1, g2, g3⟩
                      exact ⟨v, g1, own_base g2 hW.size, g3⟩
                    clear cp
                    go_upto_region 16 with fail
                    go_region_held3 (fun w' => w'.cell? ⟨w.heap.size, 0, none⟩ = some (.slice p1 n6 k1) ∧ w'.cell? ⟨w.heap.size + 1, 0, none⟩ = some (.slice p3 n3 k3) ∧ w'.cell? ⟨w.heap.size + 1, 1, none⟩ = some (.slice (some ⟨bb, ob, none⟩) n4 k4) ∧ w'.cell? ⟨bb, ob + j, none⟩ = some (.slice py ny cy))
                      (exact ⟨bcl (n := v1.heap.size) (by go_grown) A0 wza, bcl (n := v1.heap.size) (by go_grown) B0 wzb, bcl (n := v1.heap.size) (by go_grown) B1 wzb, bcl (n := v1.heap.size) (by go_grown) b1 wbb⟩)
                      (first
                        | (go_at_call 64; refine (ct.out _ (by go_grown)).mono ?_; rintro e v2 ⟨X, rfl, oX, hv2⟩; obtain ⟨hw2, hn2⟩ := bg0 (n := v1.heap.size) (W0 := v1) (by go_grown) (by go_size) hv2; clear hv2))
                    obtain ⟨px, mx, cx, rfl⟩ := slice_of oX
                    have X4 : Hid (Below w2.heap.size w2 v2) := X3.out.trans (hw2.mono X3.out.size)
                    have P4 : Hid (v2.ownsRow w2.heap.size 37 1 u8 ys.length ys) := own_below P3.out hw2
                    have Y4 : Hid (OwnRs w2.heap.size ys ((rs.take k).flatMap (joinG vs vs' qs) ++ joinG vs vs' (qs.take j) r) v2) := Y3.out.below hw2
                    have M4 : Hid (OwnV w2.heap.size (.slice px mx cx) (picks q (outs vs 0 vs')) v2) := own_base oX X3.out.size
                    have K4 : Below w.heap.size w v2 := K2.trans (X4.out.mono K2.size)
                    have bx4 : Hid (Box3 v2 w.heap.size (.slice p1 n6 k1) (.slice (some ⟨ba, oa, none⟩) n2 k2) (.slice p3 n3 k3) (.slice (some ⟨bb, ob, none⟩) n4 k4)) := bx2.out.below X4.out
                    clear oX hw2 hn2 ct A0 B0 B1 b1 X3 P3 Y3 bxx KX wza wzb wbb
                    have A1 := cell_of_heap bx4.out.a 1 rfl
                    have a1 : v2.cell? ⟨ba, oa + k, none⟩ = some (.slice pu nu cu) := (K4.cell (p := ⟨ba, oa + k, none⟩) hba).trans Q1.out
                    have HS1 : Hid (Src v2 4 (.slice pu nu cu) nu (flat r)) := by
                      have h1 := ROW.out
                      rw [← enu.out] at h1
                      have h := src_row (h1.below K4)
                      rw [enu.out] at h
                      exact h
                    have l63 : 0 + nu ≤ maxLen := by unfold maxLen; omega
                    have lby : (0 + nu) * 40 ≤ 140737488355328 := by omega
                    have lsz : v2.heap.size ≤ v2.heap.size := Nat.le_refl _
                    go_wp2_with (at_builtin; refine wpList_append_src rfl (.tmp 74) (.tmp 79) 37 rfl v2.heap.size 47 j0 _ 4 40 Tryz.underlying37 hj0 hjz0 hjz1 hjz2 rfl (by decide) (.slice none 0 0) 0 [] rfl (World.ownsRow_nil _ _ _ _) (.slice pu nu cu) nu (flat r) rfl HS1.out (flat_one r) l63 lby lsz ?growr)
                    case growr =>
                      intro v13 w5 h2 h3 _
                      obtain ⟨pa, na, ca, rfl⟩ := slice_of h2
                      have hb5 : Below v2.heap.size v2 w5 := (Below.refl _ _).grown h3 (Nat.le_refl _) (fun q hq => by cases hq)
                      have O5 : Hid (w5.ownsRow v2.heap.size 47 4 (.slice pa na ca) nu (flat r)) := by
                        show World.ownsRow _ _ _ _ _ _ _
                        simpa using h2
                      have M5 : OwnV w2.heap.size (.slice px mx cx) (picks q (outs vs 0 vs')) w5 := own_below M4.out hb5
                      have lmx : Hid ((picks q (outs vs 0 vs')).length ≤ 8) := by
                        have g1 : (picks q (outs vs 0 vs')).length ≤ (outs vs 0 vs').length := List.length_filterMap_le _ _
                        have g2 := outs_len (us := vs) vs' 0
                        have g3 := OKB.out.few
                        show _ ≤ _
                        omega
                      have emx : Hid (mx = (picks q (outs vs 0 vs')).length) := by
                        show _ = _
                        obtain ⟨pz, cz, ez⟩ := M5.row.form
                        injection ez
                      have HS2 : Hid (Src w5 4 (.slice px mx cx) mx (flat (picks q (outs vs 0 vs')))) := by
                        have h := src_row M5.row
                        rw [← emx.out] at h
                        exact h
                      have lmx2 : mx ≤ 8 := by have := lmx.out; have := emx.out; omega
                      have sz5 : v2.heap.size ≤ w5.heap.size := hb5.size
                      have m63 : nu + mx ≤ maxLen := by unfold maxLen; omega
                      have mby : (nu + mx) * 40 ≤ 140737488355328 := by omega
                      have B5 : Hid (Below v2.heap.size v2 w5) := hb5
                      have HK5 : Hid (∀ q, (Value.slice pa na ca).ownBlock = some q → v2.heap.size ≤ q) := fun q hq => (World.ownsRow.lt O5.out q hq).1
                      clear h2 h3 hb5 A1 a1 HS1 l63 lby lsz M4 M5 bx4 K4
                      go_wp2_with (at_builtin; refine wpList_append_src rfl (.tmp 81) (.tmp 82) 37 rfl v2.heap.size 47 j0 _ 4 40 Tryz.underlying37 hj0 hjz0 hjz1 hjz2 rfl (by decide) (.slice pa na ca) nu (flat r) rfl O5.out (.slice px mx cx) mx (flat (picks q (outs vs 0 vs'))) rfl HS2.out (flat_one _) m63 mby sz5 ?grows)
                      case grows =>
                        intro v14 w6 h2 h3 _
                        obtain ⟨pd, nd, cd, rfl⟩ := slice_of h2
                        have hb6 : Below v2.heap.size v2 w6 := B5.out.grown h3 sz5 HK5.out
                        have OC : Hid (OwnV w2.heap.size (.slice pd nd cd) (r ++ picks q (outs vs 0 vs')) w6) := by
                          refine own_base (show OwnV v2.heap.size _ _ _ from ?_) X4.out.size
                          unfold OwnV
                          rw [List.length_append, flat, List.flatMap_append, enu.out, ← emx.out]
                          exact h2
                        have P6 : Hid (w6.ownsRow w2.heap.size 37 1 u8 ys.length ys) := own_below P4.out hb6
                        have Y6 : Hid (OwnRs w2.heap.size ys ((rs.take k).flatMap (joinG vs vs' qs) ++ joinG vs vs' (qs.take j) r) w6) := Y4.out.below hb6
                        have X6 : Hid (Below w2.heap.size w2 w6) := X4.out.trans (hb6.mono X4.out.size)
                        have hyl : Hid (ys.length + 1 ≤ 5864062014805) := by
                          have g1 := Y6.out.1
                          have g2 := hpl.out (j + 1)
                          rw [hsj.out, if_pos (by trivial)] at g2
                          simp only [List.length_append, List.length_singleton] at g1 g2
                          show _ ≤ _
                          omega
                        obtain ⟨p5, n5, c5, rfl⟩ := slice_of P6.out
                        have HSRC : Hid (Src (w6.alloc (.cells #[.slice pd nd cd] 37)) 1 (.slice (some ⟨w6.heap.size, 0, none⟩) 1 1) 1 [.slice pd nd cd]) := Or.inr ⟨_, 1, rfl, rfl, fun j x hj => by
                          rw [Addr.add_lit, Nat.zero_add]
                          exact cell_of_heap (heap_alloc w6 _) j (by simpa using hj)⟩
                        have HO7 : Hid ((w6.alloc (.cells #[.slice pd nd cd] 37)).ownsRow w2.heap.size 37 1 (.slice p5 n5 c5) ys.length ys) := World.ownsRow.alloc P6.out _
                        have HK7 : Hid (∀ q, (Value.slice p5 n5 c5).ownBlock = some q → w2.heap.size ≤ q) := fun q hq => (World.ownsRow.lt P6.out q hq).1
                        have s1 : ys.length + 1 ≤ maxLen := by unfold maxLen; have := hyl.out; omega
                        have s2 : (ys.length + 1) * 24 ≤ 140737488355328 := by have := hyl.out; omega
                        have s3 : w2.heap.size ≤ (w6.alloc (.cells #[.slice pd nd cd] 37)).heap.size := by simp; have := X6.out.size; omega
                        clear h2 h3 hb6 m63 mby sz5 P4 Y4 X4 B5 HK5 HS2 O5
                        go_wp2_with (at_builtin; refine wpList_append_src rfl (.tmp 84) (.tmp 86) 23 rfl w2.heap.size 37 i0 _ 1 24 Tryz.underlying23 hi hz0 hz1 hz2 rfl (by decide) (.slice p5 n5 c5) ys.length ys rfl HO7.out (.slice (some ⟨w6.heap.size, 0, none⟩) 1 1) 1 [.slice pd nd cd] rfl HSRC.out ?oney s1 s2 s3 ?growy)
                        case oney => first | rfl | (intro u hu; simp at hu; subst hu; rfl)
                        case growy =>
                          intro v' w7 h2 h3 _
                          have O8 : Hid (w7.ownsRow w2.heap.size 37 1 v' (ys ++ [Value.slice pd nd cd]).length (ys ++ [Value.slice pd nd cd])) := by
                            show World.ownsRow _ _ _ _ _ _ _
                            rw [List.length_append]
                            exact h2
                          have R8 : Hid (OwnRs w2.heap.size (ys ++ [Value.slice pd nd cd]) ((rs.take k).flatMap (joinG vs vs' qs) ++ joinG vs vs' (qs.take (j + 1)) r) w7) := by
                            have h := rs_more P6.out Y6.out OC.out h3
                            show OwnRs _ _ _ _
                            rw [hsj.out, if_pos (by trivial), ← List.append_assoc]
                            exact h
                          have B8 : Hid (Below w2.heap.size w2 w7) := (X6.out.alloc X6.out.size _).grown h3 s3 HK7.out
                          clear h2 h3 HSRC HO7 HK7 s1 s2 s3 P6 Y6 X6 OC
                          go_wp2
                          exact ⟨⟨j + 1, ys ++ [Value.slice pd nd cd], by omega, by go_num, O8, R8, B8⟩, by simp [intOf]; omega⟩
                · have c3 : ¬ (j : Int) < (n4 : Int) := by omega
                  have Y4 : Hid (OwnRs w2.heap.size ys ((rs.take (k + 1)).flatMap (joinG vs vs' qs)) wx) := by
                    have h := hY.out
                    rw [show qs.take j = qs from List.take_of_length_le (by have := en4.out; omega)] at h
                    show OwnRs _ _ _ _
                    rw [hst.out]
                    exact h
                  clear hY hst
                  go_wp2
                  exact ⟨⟨k + 1, ys, by omega, by go_num, hP, Y4, hX⟩, by simp [intOf]; omega⟩
            · have c3 : ¬ (k : Int) < (n2 : Int) := by omega
              have eJ : Hid ((rs.take k).flatMap (joinG vs vs' qs) = joinL vs vs' rs qs) := by
                show _ = _
                rw [List.take_of_length_le (by have := en2.out; omega), joinL_G]
              obtain ⟨p6, m6, c6, rfl⟩ := slice_of hO.out
              have cM : Hid (Calls Tryz.prog 47 #[.slice (some ⟨g, 0, none⟩) n6 n6, .slice p6 m6 c6] wr fun e w' => ∃ t, e = .returned t ∧ OwnT wr.heap.size t (madeS (allV vs vs')) (ofRows (allV vs vs') (joinL vs vs' rs qs)) w' ∧ Below wr.heap.size wr w') := by
                have h := hR.out.rows
                rw [eJ.out] at h
                exact dmade_any (HS.out wr hB.out) (allV_nodup OKA.out.nodup OKB.out.nodup) H8.out (tab_of_vals (vals_own hO.out) h) (joinL_ok OKA.out OKB.out) LP.out
              have z4 : w.heap.size + 3 ≤ wr.heap.size := by have := hB.out.size; omega
              clear hR hO eJ
              go_wp2_with fail
              refine cM.out.mono ?_
              rintro e w6 ⟨t, rfl, ht, hb6⟩
              have bx6 := bx.out.below hb6
              have K6 : Below w.heap.size w w6 := KW.trans (hb6.mono KW.size)
              obtain ⟨pta, nta, cta, ptb, ntb, ctb, rfl⟩ := own_forms2 ht
              have HT : Hid (OwnT wr.heap.size (.agg #[.slice pta nta cta, .slice ptb ntb ctb]) (madeS (allV vs vs')) (ofRows (allV vs vs') (joinL vs vs' rs qs)) w6) := ht
              have r0 := cell_of_heap bx6.r 0 rfl
              have r1 := cell_of_heap bx6.r 1 rfl
              have f0 := frozen_of_heap bx6.r 0
              have f1 := frozen_of_heap bx6.r 1
              have x0 : (w6.setCell ⟨w.heap.size + 2, 0, none⟩ (.slice pta nta cta)).cell? ⟨w.heap.size + 2, 0, none⟩ = some (.slice pta nta cta) := set_same r0
              have x1 : ((w6.setCell ⟨w.heap.size + 2, 0, none⟩ (.slice pta nta cta)).setCell ⟨w.heap.size + 2, 1, none⟩ (.slice ptb ntb ctb)).cell? ⟨w.heap.size + 2, 1, none⟩ = some (.slice ptb ntb ctb) := set_same ((set_other (by simp)).trans r1)
              clear cM ht hb6 bx6
              go_wp2
              (try simp only [Exit.inBlock, Exit.then])
              refine bodyPost_ret (by simp [results, Tryz.results28, go_sem, x0, x1]; try rfl) rfl ?_
              rw [HG.out]
              exact TellsT.of (fun _ => ((HT.out.set (by omega)).set (by omega)).base (by omega)) (fun h => absurd rfl h) (HSET.out _ K6 _ _)
        · have u3 : (n1 : Int) ≤ (cap : Int) := by omega
          have u4 : (n6 : Int) ≤ (cap : Int) := by omega
          clear n16 h8 n6c
          have hUU : Hid (StrsAt w2 (.slice (some ⟨g, n1, none⟩) (n6 - n1) (cap - n1)) (picks vs' (outs vs 0 vs'))) := by
            have h := HS.out w2 (Below.refl _ _)
            rw [← en6.out] at h
            exact strs_tail h en1.out e67.out
          have PIC : Hid (∀ W Y (q : List Val), Below w2.heap.size w2 W → RowAt W Y q → q ∈ qs → Calls Tryz.prog 64 #[.slice p3 n3 k3, Y, .slice (some ⟨g, n1, none⟩) (n6 - n1) (cap - n1)] W fun e w' => ∃ v, e = .returned v ∧ OwnV W.heap.size v (picks q (outs vs 0 vs')) w' ∧ Below W.heap.size W w') := fun W Y q hW hY mq => by
            have l1 := (OKB.out.rows q mq).1
            have l2 := OKB.out.few
            have l3 : (picks vs' (outs vs 0 vs')).length ≤ (outs vs 0 vs').length := List.length_filterMap_le _ _
            have l4 := outs_len (us := vs) vs' 0
            have h := dpicked_any (HB.out.vars.below (K2.trans (hW.mono K2.size))) hY (hUU.out.below hW) (by omega) (by omega) (by omega) (fun x hx => by
              obtain ⟨c, -, hc⟩ := List.mem_filterMap.1 hx
              have := (Lib.idxOfS_nonneg_iff vs' x).2 (List.mem_of_getElem? hc)
              omega) (by omega)
            rw [← cols_of_picks OKB.out.nodup (fun c hc => by have := outs_mem hc; omega)] at h
            exact h
          clear hUU
          go_wp2
          go_loopw [8, 9] (fun v i wr => ∃ (k : Nat) (zs : List Value), k ≤ n2 ∧ i = .int .i64 k ∧ Hid (wr.ownsRow w2.heap.size 37 1 v zs.length zs) ∧ Hid (OwnRs w2.heap.size zs ((rs.take k).flatMap (joinG vs vs' qs)) wr) ∧ Hid (Below w2.heap.size w2 wr)) (fun _ i _ => n2 - (intOf i).toNat)
          case atStart => exact ⟨0, [], Nat.zero_le _, rfl, (show World.ownsRow _ _ _ _ _ _ _ from World.ownsRow_nil _ _ _ _), (show OwnRs _ _ _ _ from OwnRs.nil _ _), Below.refl _ _⟩
          case round =>
            obtain ⟨k, zs, hk, rfl, hO, hR, hB⟩ := hrel
            have bx : Hid (Box3 wr w.heap.size (.slice p1 n1 k1) (.slice p2 n2 k2) (.slice p3 n3 k3) (.slice p4 n4 k4)) := bx2.out.below hB.out
            have KW : Below w.heap.size w wr := K2.trans (hB.out.mono K2.size)
            have A1 := cell_of_heap bx.out.a 1 rfl
            by_cases hlt : k < n2
            · have kx : k < rs.length := by have := en2.out; omega
              obtain ⟨ba, oa, Y, rfl, hba, q1, row⟩ := HXA.out k kx
              have mr : Hid (rs[k] ∈ rs) := List.getElem_mem kx
              have hst : Hid ((rs.take (k + 1)).flatMap (joinG vs vs' qs) = (rs.take k).flatMap (joinG vs vs' qs) ++ joinG vs vs' qs rs[k]) := by
                show _ = _
                rw [List.take_succ_eq_append_getElem kx, List.flatMap_append]
                simp
              have hpl : Hid (∀ j, ((rs.take k).flatMap (joinG vs vs' qs)).length + (joinG vs vs' (qs.take j) rs[k]).length ≤ 5864062014805) := fun j => by
                have h1 := joinG_len vs vs' rs qs kx j
                have h2 := LP.out
                omega
              generalize rs[k] = r at row hst mr hpl
              obtain ⟨pu, cu, rfl⟩ := row.form
              have ROW : Hid (RowAt w (.slice pu r.length cu) r) := row
              obtain ⟨nu, enu⟩ : ∃ nu : Nat, Hid (r.length = nu) := ⟨_, rfl⟩
              have nu8 : nu ≤ 8 := by have h1 := (OKA.out.rows r mr.out).1; have := OKA.out.few; have := enu.out; omega
              rw [enu.out] at q1 ROW
              have Q1 : Hid (w.cell? ⟨ba, oa + k, none⟩ = some (.slice pu nu cu)) := q1
              clear q1 row
              go_wp2
              go_loopw [8, 10] (fun v i wx => ∃ (j : Nat) (ys : List Value), j ≤ n4 ∧ i = .int .i64 j ∧ Hid (wx.ownsRow w2.heap.size 37 1 v ys.length ys) ∧ Hid (OwnRs w2.heap.size ys ((rs.take k).flatMap (joinG vs vs' qs) ++ joinG vs vs' (qs.take j) r) wx) ∧ Hid (Below w2.heap.size w2 wx)) (fun _ i _ => n4 - (intOf i).toNat)
              case atStart => exact ⟨0, zs, Nat.zero_le _, rfl, hO, (show OwnRs _ _ _ _ by rw [List.take_zero]; simpa [joinG] using hR.out), hB⟩
              case round =>
                obtain ⟨j, ys, hj, rfl, hP, hY, hX⟩ := hrel
                clear A1 hO hR hB bx KW
                rename World => wx
                have bxx : Hid (Box3 wx w.heap.size (.slice p1 n1 k1) (.slice (some ⟨ba, oa, none⟩) n2 k2) (.slice p3 n3 k3) (.slice p4 n4 k4)) := bx2.out.below hX.out
                have KX : Below w.heap.size w wx := K2.trans (hX.out.mono K2.size)
                have B1 := cell_of_heap bxx.out.b 1 rfl
                by_cases hlj : j < n4
                · have jx : j < qs.length := by have := en4.out; omega
                  obtain ⟨bb, ob, Z, rfl, hbb, q2, row2⟩ := HXB.out j jx
                  have mq : Hid (qs[j] ∈ qs) := List.getElem_mem jx
                  have hsj : Hid (joinG vs vs' (qs.take (j + 1)) r = joinG vs vs' (qs.take j) r ++ if fitB vs vs' r qs[j] 0 then [r ++ picks qs[j] (outs vs 0 vs')] else []) := by
                    show _ = _
                    unfold joinG
                    rw [List.take_succ_eq_append_getElem jx, List.filter_append, List.map_append]
                    cases h : fitB vs vs' r qs[j] 0 <;> simp [h]
                  generalize qs[j] = q at row2 mq hsj
                  obtain ⟨py, cy, rfl⟩ := row2.form
                  have ct : Hid (∀ W, Below wx.heap.size wx W → Calls Tryz.prog 63 #[.slice p1 n1 k1, .slice pu r.length cu, .slice p3 n3 k3, .slice py q.length cy] W fun e w' => e = .returned (.bool (fitB vs vs' r q 0)) ∧ Below W.heap.size W w') := fun W hW => by
                    have hWW := KX.trans (hW.mono KX.size)
                    have ROW2 := ROW.out
                    rw [← enu.out] at ROW2
                    exact FITS.out W _ _ r q hWW (ROW2.below hWW) (row2.below hWW) mr.out mq.out
                  have cp : Hid (∀ W, Below w2.heap.size w2 W → Calls Tryz.prog 64 #[.slice p3 n3 k3, .slice py q.length cy, .slice (some ⟨g, n1, none⟩) (n6 - n1) (cap - n1)] W fun e w' => ∃ v, e = .returned v ∧ OwnV W.heap.size v (picks q (outs vs 0 vs')) w' ∧ Below W.heap.size W w') := fun W hW => PIC.out W _ q hW (row2.below (K2.trans (hW.mono K2.size))) mq.out
                  obtain ⟨ny, eny⟩ : ∃ ny : Nat, Hid (q.length = ny) := ⟨_, rfl⟩
                  obtain ⟨F, eF⟩ : ∃ F : Bool, Hid (fitB vs vs' r q 0 = F) := ⟨_, rfl⟩
                  rw [enu.out, eny.out, eF.out] at ct
                  rw [eny.out] at q2 cp
                  rw [eF.out] at hsj
                  have Q2 : Hid (w.cell? ⟨bb, ob + j, none⟩ = some (.slice py ny cy)) := q2
                  have A0 := cell_of_heap bxx.out.a 0 rfl
                  have A1 := cell_of_heap bxx.out.a 1 rfl
                  have B0 := cell_of_heap bxx.out.b 0 rfl
                  have a1 : wx.cell? ⟨ba, oa + k, none⟩ = some (.slice pu nu cu) := (KX.cell (p := ⟨ba, oa + k, none⟩) hba).trans Q1.out
                  have b1 : wx.cell? ⟨bb, ob + j, none⟩ = some (.slice py ny cy) := (KX.cell (p := ⟨bb, ob + j, none⟩) hbb).trans q2
                  have wza : w.heap.size < wx.heap.size := Nat.lt_of_lt_of_le za hX.out.size
                  have wzb : w.heap.size + 1 < wx.heap.size := Nat.lt_of_lt_of_le zb hX.out.size
                  have wba : ba < wx.heap.size := Nat.lt_of_lt_of_le hba KX.size
                  have wbb : bb < wx.heap.size := Nat.lt_of_lt_of_le hbb KX.size
                  have i1 : (0 : Int) ≤ (k : Int) := by omega
                  have i2 : (k : Int) < (n2 : Int) := by omega
                  have i3 : (0 : Int) ≤ (j : Int) := by omega
                  have i4 : (j : Int) < (n4 : Int) := by omega
                  clear q2 row2
                  go_upto_region 14 with fail
                  go_region_held3 (fun w' => w'.cell? ⟨w.heap.size, 0, none⟩ = some (.slice p1 n1 k1) ∧ w'.cell? ⟨w.heap.size, 1, none⟩ = some (.slice (some ⟨ba, oa, none⟩) n2 k2) ∧ w'.cell? ⟨w.heap.size + 1, 0, none⟩ = some (.slice p3 n3 k3) ∧ w'.cell? ⟨w.heap.size + 1, 1, none⟩ = some (.slice (some ⟨bb, ob, none⟩) n4 k4) ∧ w'.cell? ⟨ba, oa + k, none⟩ = some (.slice pu nu cu) ∧ w'.cell? ⟨bb, ob + j, none⟩ = some (.slice py ny cy))
                    (exact ⟨bcl (n := wx.heap.size) (by go_grown) A0 wza, bcl (n := wx.heap.size) (by go_grown) A1 wza, bcl (n := wx.heap.size) (by go_grown) B0 wzb, bcl (n := wx.heap.size) (by go_grown) B1 wzb, bcl (n := wx.heap.size) (by go_grown) a1 wba, bcl (n := wx.heap.size) (by go_grown) b1 wbb⟩)
                    (first
                      | (go_at_call 63; refine (ct.out _ (by go_grown)).mono ?_; rintro e v1 ⟨rfl, hv1⟩; obtain ⟨hw1, hn1⟩ := bg0 (n := wx.heap.size) (W0 := wx) (by go_grown) (by go_size) hv1; clear hv1))
                  have X3 : Hid (Below w2.heap.size w2 v1) := hX.out.trans (hw1.mono hX.out.size)
                  have P3 : Hid (v1.ownsRow w2.heap.size 37 1 u8 ys.length ys) := own_below hP.out hw1
                  have Y3 : Hid (OwnRs w2.heap.size ys ((rs.take k).flatMap (joinG vs vs' qs) ++ joinG vs vs' (qs.take j) r) v1) := hY.out.below hw1
                  clear hw1 hn1 ct A0 A1 B0 B1 a1 b1 hX bxx KX hP hY wza wzb wba wbb
                  cases F with
                  | false =>
                    have Y4 : Hid (OwnRs w2.heap.size ys ((rs.take k).flatMap (joinG vs vs' qs) ++ joinG vs vs' (qs.take (j + 1)) r) v1) := by
                      show OwnRs _ _ _ _
                      rw [hsj.out]
                      simpa using Y3.out
                    clear Y3 hsj cp
                    go_wp2
                    exact ⟨⟨j + 1, ys, by omega, by go_num, P3, Y4, X3⟩, by simp [intOf]; omega⟩
                  | true =>
                    have KX : Below w.heap.size w v1 := K2.trans (X3.out.mono K2.size)
                    have bxx : Hid (Box3 v1 w.heap.size (.slice p1 n1 k1) (.slice (some ⟨ba, oa, none⟩) n2 k2) (.slice p3 n3 k3) (.slice (some ⟨bb, ob, none⟩) n4 k4)) := bx2.out.below X3.out
                    have A0 := cell_of_heap bxx.out.a 0 rfl
                    have B0 := cell_of_heap bxx.out.b 0 rfl
                    have B1 := cell_of_heap bxx.out.b 1 rfl
                    have b1 : v1.cell? ⟨bb, ob + j, none⟩ = some (.slice py ny cy) := (KX.cell (p := ⟨bb, ob + j, none⟩) hbb).trans Q2.out
                    have wza : w.heap.size < v1.heap.size := Nat.lt_of_lt_of_le za X3.out.size
                    have wzb : w.heap.size + 1 < v1.heap.size := Nat.lt_of_lt_of_le zb X3.out.size
                    have wbb : bb < v1.heap.size := Nat.lt_of_lt_of_le hbb KX.size
                    have ct : Hid (∀ W, Below v1.heap.size v1 W → Calls Tryz.prog 64 #[.slice p3 n3 k3, .slice py ny cy, .slice (some ⟨g, n1, none⟩) (n6 - n1) (cap - n1)] W fun e w' => ∃ v, e = .returned v ∧ OwnV v1.heap.size v (picks q (outs vs 0 vs')) w' ∧ Below W.heap.size W w') := fun W hW => by
                      refine (cp.out W (X3.out.trans (hW.mono X3.out.size))).mono ?_
                      rintro e w' ⟨v, g1, g2, g3⟩
                      exact ⟨v, g1, own_base g2 hW.size, g3⟩
                    clear cp
                    go_upto_region 16 with fail
                    go_region_held3 (fun w' => w'.cell? ⟨w.heap.size, 0, none⟩ = some (.slice p1 n1 k1) ∧ w'.cell? ⟨w.heap.size + 1, 0, none⟩ = some (.slice p3 n3 k3) ∧ w'.cell? ⟨w.heap.size + 1, 1, none⟩ = some (.slice (some ⟨bb, ob, none⟩) n4 k4) ∧ w'.cell? ⟨bb, ob + j, none⟩ = some (.slice py ny cy))
                      (exact ⟨bcl (n := v1.heap.size) (by go_grown) A0 wza, bcl (n := v1.heap.size) (by go_grown) B0 wzb, bcl (n := v1.heap.size) (by go_grown) B1 wzb, bcl (n := v1.heap.size) (by go_grown) b1 wbb⟩)
                      (first
                        | (go_at_call 64; refine (ct.out _ (by go_grown)).mono ?_; rintro e v2 ⟨X, rfl, oX, hv2⟩; obtain ⟨hw2, hn2⟩ := bg0 (n := v1.heap.size) (W0 := v1) (by go_grown) (by go_size) hv2; clear hv2))
                    obtain ⟨px, mx, cx, rfl⟩ := slice_of oX
                    have X4 : Hid (Below w2.heap.size w2 v2) := X3.out.trans (hw2.mono X3.out.size)
                    have P4 : Hid (v2.ownsRow w2.heap.size 37 1 u8 ys.length ys) := own_below P3.out hw2
                    have Y4 : Hid (OwnRs w2.heap.size ys ((rs.take k).flatMap (joinG vs vs' qs) ++ joinG vs vs' (qs.take j) r) v2) := Y3.out.below hw2
                    have M4 : Hid (OwnV w2.heap.size (.slice px mx cx) (picks q (outs vs 0 vs')) v2) := own_base oX X3.out.size
                    have K4 : Below w.heap.size w v2 := K2.trans (X4.out.mono K2.size)
                    have bx4 : Hid (Box3 v2 w.heap.size (.slice p1 n1 k1) (.slice (some ⟨ba, oa, none⟩) n2 k2) (.slice p3 n3 k3) (.slice (some ⟨bb, ob, none⟩) n4 k4)) := bx2.out.below X4.out
                    clear oX hw2 hn2 ct A0 B0 B1 b1 X3 P3 Y3 bxx KX wza wzb wbb
                    have A1 := cell_of_heap bx4.out.a 1 rfl
                    have a1 : v2.cell? ⟨ba, oa + k, none⟩ = some (.slice pu nu cu) := (K4.cell (p := ⟨ba, oa + k, none⟩) hba).trans Q1.out
                    have HS1 : Hid (Src v2 4 (.slice pu nu cu) nu (flat r)) := by
                      have h1 := ROW.out
                      rw [← enu.out] at h1
                      have h := src_row (h1.below K4)
                      rw [enu.out] at h
                      exact h
                    have l63 : 0 + nu ≤ maxLen := by unfold maxLen; omega
                    have lby : (0 + nu) * 40 ≤ 140737488355328 := by omega
                    have lsz : v2.heap.size ≤ v2.heap.size := Nat.le_refl _
                    go_wp2_with (at_builtin; refine wpList_append_src rfl (.tmp 74) (.tmp 79) 37 rfl v2.heap.size 47 j0 _ 4 40 Tryz.underlying37 hj0 hjz0 hjz1 hjz2 rfl (by decide) (.slice none 0 0) 0 [] rfl (World.ownsRow_nil _ _ _ _) (.slice pu nu cu) nu (flat r) rfl HS1.out (flat_one r) l63 lby lsz ?growr)
                    case growr =>
                      intro v13 w5 h2 h3 _
                      obtain ⟨pa, na, ca, rfl⟩ := slice_of h2
                      have hb5 : Below v2.heap.size v2 w5 := (Below.refl _ _).grown h3 (Nat.le_refl _) (fun q hq => by cases hq)
                      have O5 : Hid (w5.ownsRow v2.heap.size 47 4 (.slice pa na ca) nu (flat r)) := by
                        show World.ownsRow _ _ _ _ _ _ _
                        simpa using h2
                      have M5 : OwnV w2.heap.size (.slice px mx cx) (picks q (outs vs 0 vs')) w5 := own_below M4.out hb5
                      have lmx : Hid ((picks q (outs vs 0 vs')).length ≤ 8) := by
                        have g1 : (picks q (outs vs 0 vs')).length ≤ (outs vs 0 vs').length := List.length_filterMap_le _ _
                        have g2 := outs_len (us := vs) vs' 0
                        have g3 := OKB.out.few
                        show _ ≤ _
                        omega
                      have emx : Hid (mx = (picks q (outs vs 0 vs')).length) := by
                        show _ = _
                        obtain ⟨pz, cz, ez⟩ := M5.row.form
                        injection ez
                      have HS2 : Hid (Src w5 4 (.slice px mx cx) mx (flat (picks q (outs vs 0 vs')))) := by
                        have h := src_row M5.row
                        rw [← emx.out] at h
                        exact h
                      have lmx2 : mx ≤ 8 := by have := lmx.out; have := emx.out; omega
                      have sz5 : v2.heap.size ≤ w5.heap.size := hb5.size
                      have m63 : nu + mx ≤ maxLen := by unfold maxLen; omega
                      have mby : (nu + mx) * 40 ≤ 140737488355328 := by omega
                      have B5 : Hid (Below v2.heap.size v2 w5) := hb5
                      have HK5 : Hid (∀ q, (Value.slice pa na ca).ownBlock = some q → v2.heap.size ≤ q) := fun q hq => (World.ownsRow.lt O5.out q hq).1
                      clear h2 h3 hb5 A1 a1 HS1 l63 lby lsz M4 M5 bx4 K4
                      go_wp2_with (at_builtin; refine wpList_append_src rfl (.tmp 81) (.tmp 82) 37 rfl v2.heap.size 47 j0 _ 4 40 Tryz.underlying37 hj0 hjz0 hjz1 hjz2 rfl (by decide) (.slice pa na ca) nu (flat r) rfl O5.out (.slice px mx cx) mx (flat (picks q (outs vs 0 vs'))) rfl HS2.out (flat_one _) m63 mby sz5 ?grows)
                      case grows =>
                        intro v14 w6 h2 h3 _
                        obtain ⟨pd, nd, cd, rfl⟩ := slice_of h2
                        have hb6 : Below v2.heap.size v2 w6 := B5.out.grown h3 sz5 HK5.out
                        have OC : Hid (OwnV w2.heap.size (.slice pd nd cd) (r ++ picks q (outs vs 0 vs')) w6) := by
                          refine own_base (show OwnV v2.heap.size _ _ _ from ?_) X4.out.size
                          unfold OwnV
                          rw [List.length_append, flat, List.flatMap_append, enu.out, ← emx.out]
                          exact h2
                        have P6 : Hid (w6.ownsRow w2.heap.size 37 1 u8 ys.length ys) := own_below P4.out hb6
                        have Y6 : Hid (OwnRs w2.heap.size ys ((rs.take k).flatMap (joinG vs vs' qs) ++ joinG vs vs' (qs.take j) r) w6) := Y4.out.below hb6
                        have X6 : Hid (Below w2.heap.size w2 w6) := X4.out.trans (hb6.mono X4.out.size)
                        have hyl : Hid (ys.length + 1 ≤ 5864062014805) := by
                          have g1 := Y6.out.1
                          have g2 := hpl.out (j + 1)
                          rw [hsj.out, if_pos (by trivial)] at g2
                          simp only [List.length_append, List.length_singleton] at g1 g2
                          show _ ≤ _
                          omega
                        obtain ⟨p5, n5, c5, rfl⟩ := slice_of P6.out
                        have HSRC : Hid (Src (w6.alloc (.cells #[.slice pd nd cd] 37)) 1 (.slice (some ⟨w6.heap.size, 0, none⟩) 1 1) 1 [.slice pd nd cd]) := Or.inr ⟨_, 1, rfl, rfl, fun j x hj => by
                          rw [Addr.add_lit, Nat.zero_add]
                          exact cell_of_heap (heap_alloc w6 _) j (by simpa using hj)⟩
                        have HO7 : Hid ((w6.alloc (.cells #[.slice pd nd cd] 37)).ownsRow w2.heap.size 37 1 (.slice p5 n5 c5) ys.length ys) := World.ownsRow.alloc P6.out _
                        have HK7 : Hid (∀ q, (Value.slice p5 n5 c5).ownBlock = some q → w2.heap.size ≤ q) := fun q hq => (World.ownsRow.lt P6.out q hq).1
                        have s1 : ys.length + 1 ≤ maxLen := by unfold maxLen; have := hyl.out; omega
                        have s2 : (ys.length + 1) * 24 ≤ 140737488355328 := by have := hyl.out; omega
                        have s3 : w2.heap.size ≤ (w6.alloc (.cells #[.slice pd nd cd] 37)).heap.size := by simp; have := X6.out.size; omega
                        clear h2 h3 hb6 m63 mby sz5 P4 Y4 X4 B5 HK5 HS2 O5
                        go_wp2_with (at_builtin; refine wpList_append_src rfl (.tmp 84) (.tmp 86) 23 rfl w2.heap.size 37 i0 _ 1 24 Tryz.underlying23 hi hz0 hz1 hz2 rfl (by decide) (.slice p5 n5 c5) ys.length ys rfl HO7.out (.slice (some ⟨w6.heap.size, 0, none⟩) 1 1) 1 [.slice pd nd cd] rfl HSRC.out ?oney s1 s2 s3 ?growy)
                        case oney => first | rfl | (intro u hu; simp at hu; subst hu; rfl)
                        case growy =>
                          intro v' w7 h2 h3 _
                          have O8 : Hid (w7.ownsRow w2.heap.size 37 1 v' (ys ++ [Value.slice pd nd cd]).length (ys ++ [Value.slice pd nd cd])) := by
                            show World.ownsRow _ _ _ _ _ _ _
                            rw [List.length_append]
                            exact h2
                          have R8 : Hid (OwnRs w2.heap.size (ys ++ [Value.slice pd nd cd]) ((rs.take k).flatMap (joinG vs vs' qs) ++ joinG vs vs' (qs.take (j + 1)) r) w7) := by
                            have h := rs_more P6.out Y6.out OC.out h3
                            show OwnRs _ _ _ _
                            rw [hsj.out, if_pos (by trivial), ← List.append_assoc]
                            exact h
                          have B8 : Hid (Below w2.heap.size w2 w7) := (X6.out.alloc X6.out.size _).grown h3 s3 HK7.out
                          clear h2 h3 HSRC HO7 HK7 s1 s2 s3 P6 Y6 X6 OC
                          go_wp2
                          exact ⟨⟨j + 1, ys ++ [Value.slice pd nd cd], by omega, by go_num, O8, R8, B8⟩, by simp [intOf]; omega⟩
                · have c3 : ¬ (j : Int) < (n4 : Int) := by omega
                  have Y4 : Hid (OwnRs w2.heap.size ys ((rs.take (k + 1)).flatMap (joinG vs vs' qs)) wx) := by
                    have h := hY.out
                    rw [show qs.take j = qs from List.take_of_length_le (by have := en4.out; omega)] at h
                    show OwnRs _ _ _ _
                    rw [hst.out]
                    exact h
                  clear hY hst
                  go_wp2
                  exact ⟨⟨k + 1, ys, by omega, by go_num, hP, Y4, hX⟩, by simp [intOf]; omega⟩
            · have c3 : ¬ (k : Int) < (n2 : Int) := by omega
              have eJ : Hid ((rs.take k).flatMap (joinG vs vs' qs) = joinL vs vs' rs qs) := by
                show _ = _
                rw [List.take_of_length_le (by have := en2.out; omega), joinL_G]
              obtain ⟨p6, m6, c6, rfl⟩ := slice_of hO.out
              have cM : Hid (Calls Tryz.prog 47 #[.slice (some ⟨g, 0, none⟩) n6 cap, .slice p6 m6 c6] wr fun e w' => ∃ t, e = .returned t ∧ OwnT wr.heap.size t (madeS (allV vs vs')) (ofRows (allV vs vs') (joinL vs vs' rs qs)) w' ∧ Below wr.heap.size wr w') := by
                have h := hR.out.rows
                rw [eJ.out] at h
                exact dmade_any (HS.out wr hB.out) (allV_nodup OKA.out.nodup OKB.out.nodup) H8.out (tab_of_vals (vals_own hO.out) h) (joinL_ok OKA.out OKB.out) LP.out
              have z4 : w.heap.size + 3 ≤ wr.heap.size := by have := hB.out.size; omega
              clear hR hO eJ
              go_wp2_with fail
              refine cM.out.mono ?_
              rintro e w6 ⟨t, rfl, ht, hb6⟩
              have bx6 := bx.out.below hb6
              have K6 : Below w.heap.size w w6 := KW.trans (hb6.mono KW.size)
              obtain ⟨pta, nta, cta, ptb, ntb, ctb, rfl⟩ := own_forms2 ht
              have HT : Hid (OwnT wr.heap.size (.agg #[.slice pta nta cta, .slice ptb ntb ctb]) (madeS (allV vs vs')) (ofRows (allV vs vs') (joinL vs vs' rs qs)) w6) := ht
              have r0 := cell_of_heap bx6.r 0 rfl
              have r1 := cell_of_heap bx6.r 1 rfl
              have f0 := frozen_of_heap bx6.r 0
              have f1 := frozen_of_heap bx6.r 1
              have x0 : (w6.setCell ⟨w.heap.size + 2, 0, none⟩ (.slice pta nta cta)).cell? ⟨w.heap.size + 2, 0, none⟩ = some (.slice pta nta cta) := set_same r0
              have x1 : ((w6.setCell ⟨w.heap.size + 2, 0, none⟩ (.slice pta nta cta)).setCell ⟨w.heap.size + 2, 1, none⟩ (.slice ptb ntb ctb)).cell? ⟨w.heap.size + 2, 1, none⟩ = some (.slice ptb ntb ctb) := set_same ((set_other (by simp)).trans r1)
              clear cM ht hb6 bx6
              go_wp2
              (try simp only [Exit.inBlock, Exit.then])
              refine bodyPost_ret (by simp [results, Tryz.results28, go_sem, x0, x1]; try rfl) rfl ?_
              rw [HG.out]
              exact TellsT.of (fun _ => ((HT.out.set (by omega)).set (by omega)).base (by omega)) (fun h => absurd rfl h) (HSET.out _ K6 _ _)
      · have HG : Hid (G = 30) := hGG.out.trans (if_neg h8)
        clear hGG
        have u2 : (8 : Int) < (n6 : Int) := by omega
        have r0 := cell_of_heap bx2.out.r 0 rfl
        have r1 := cell_of_heap bx2.out.r 1 rfl
        have f0 := frozen_of_heap bx2.out.r 0
        have f1 := frozen_of_heap bx2.out.r 1
        have x0 : (w2.setCell ⟨w.heap.size + 2, 0, none⟩ (.slice none 0 0)).cell? ⟨w.heap.size + 2, 0, none⟩ = some (.slice none 0 0) := set_same r0
        have x1 : ((w2.setCell ⟨w.heap.size + 2, 0, none⟩ (.slice none 0 0)).setCell ⟨w.heap.size + 2, 1, none⟩ (.slice none 0 0)).cell? ⟨w.heap.size + 2, 1, none⟩ = some (.slice none 0 0) := set_same ((set_other (by simp)).trans r1)
        go_wp2
        (try simp only [Exit.inBlock, Exit.then])
        refine bodyPost_ret (by simp [results, Tryz.results28, go_sem, x0, x1]; try rfl) rfl ?_
        rw [HG.out]
        exact TellsT.of (fun h => absurd h (by decide)) (fun _ => rfl) (HSET.out _ K2 _ _)
  · have hE2 : (E == 0) = false := by simpa using hE
    have hq : G = E := by rw [hAL.out, if_neg hE]
    have r0 := cell_of_heap bx1.out.r 0 rfl
    have r1 := cell_of_heap bx1.out.r 1 rfl
    have f0 := frozen_of_heap bx1.out.r 0
    have f1 := frozen_of_heap bx1.out.r 1
    have x0 : (w1.setCell ⟨w.heap.size + 2, 0, none⟩ (.slice none 0 0)).cell? ⟨w.heap.size + 2, 0, none⟩ = some (.slice none 0 0) := set_same r0
    have x1 : ((w1.setCell ⟨w.heap.size + 2, 0, none⟩ (.slice none 0 0)).setCell ⟨w.heap.size + 2, 1, none⟩ (.slice none 0 0)).cell? ⟨w.heap.size + 2, 1, none⟩ = some (.slice none 0 0) := set_same ((set_other (by simp)).trans r1)
    go_wp2
    (try simp only [Exit.inBlock, Exit.then])
    refine bodyPost_ret (by simp [results, Tryz.results28, go_sem, x0, x1]; try rfl) rfl ?_
    rw [show E = G from hq.symm]
    exact TellsT.of (fun h => absurd (hq.symm.trans h) hE) (fun _ => rfl) (HSET.out _ K1 _ _)


end Go.Proofs.YteipohpfaofchaaGreat

namespace Go.Proofs.YteipohpfaofchaaGreat
open Go.RowKit Go.Shelf Go.Sort
set_option linter.unusedVariables false

theorem TabAt.dtab {w : World} {V R : Value} {vs : List ByteArray} {us : List Value} {rs : List (List Val)} (h : TabAt w V R vs us rs) : DTab w V R vs rs := ⟨h.vars, tab_of_vals h.vals h.rows, h.fits, h.long, h.names, by have := h.many; have := h.rows.1; omega⟩
theorem OwnT.dtab {B : Nat} {w : World} {V R V' R' : Value} {vs : List ByteArray} {rs : List (List Val)} (h : OwnT B (.agg #[V, R]) vs rs w) {w' : World} (g : DTab w' V' R' vs rs) : DTab w V R vs rs := ⟨(own_two h).1, (own_two h).2, g.fits, g.long, g.names, g.many⟩
theorem okT_bounds {vs : List ByteArray} {rs L : List (List Val)} {E : Int} (h : E = 0 → vs.length ≤ 8 ∧ (∀ r ∈ L, okR r ∧ r.length ≤ 8) ∧ L.length ≤ 9223372036854775807) :
    (∀ r ∈ (if E = 0 then L else []), ∀ v ∈ r, v.Fits) ∧ (if E = 0 then vs else []).length ≤ 9223372036854775807 ∧ (if E = 0 then L else []).length ≤ 9223372036854775807 ∧ ∀ r ∈ (if E = 0 then L else []), r.length ≤ 9223372036854775807 := by
  by_cases hE : E = 0
  · obtain ⟨h1, h2, h3⟩ := h hE
    rw [if_pos hE, if_pos hE]
    exact ⟨fun r hr v hv => ((h2 r hr).1 v hv).2, by omega, h3, fun r hr => by have := (h2 r hr).2; omega⟩
  · rw [if_neg hE, if_neg hE]
    simp

end Go.Proofs.YteipohpfaofchaaGreat

namespace Go.Proofs.YteipohpfaofchaaGreat
open Go.RowKit Go.Shelf Go.Sort
set_option linter.unusedVariables false

theorem cols_ltJ {vs us : List ByteArray} (hf : ∀ x ∈ us, ¬ Lib.idxOfS vs x < 0) : ∀ c ∈ colsAt vs us, c < vs.length := fun c hc => by
  obtain ⟨x, hx, rfl⟩ := List.mem_map.1 hc
  exact (idx_lt (hf x hx)).1
theorem cols_lenJ (vs us : List ByteArray) : (colsAt vs us).length = us.length := by unfold colsAt; rw [List.length_map]
theorem found_selfJ (us : List ByteArray) : ∀ x ∈ us, ¬ Lib.idxOfS us x < 0 := fun x hx => by
  have := (Lib.idxOfS_nonneg_iff us x).2 hx
  omega
theorem pw_riseJ : ∀ {l : List ByteArray}, l.Pairwise (fun a b => bcmp a b < 0) → riseB l = true
  | [], _ => rfl
  | [x], _ => rfl
  | x :: y :: l, h => by
    obtain ⟨h1, h2⟩ := List.pairwise_cons.1 h
    show (Op.bytesLess x.toList y.toList && riseB (y :: l)) = true
    rw [Bool.and_eq_true, less_bcmp]
    exact ⟨decide_eq_true (h1 y (List.mem_cons_self ..)), pw_riseJ h2⟩
theorem okT_made {vs : List ByteArray} {rs : List (List Val)} (hn : vs.Nodup) (h8 : vs.length ≤ 8) (h : ∀ r ∈ rs, r.length = vs.length ∧ okR r) : OkT (madeS vs) (ofRows vs rs) := by
  have okm : ∀ r ∈ rs.map (fun r => picks r (colsAt vs (madeS vs))), okR r := fun r hr => by
    obtain ⟨x, hx, rfl⟩ := List.mem_map.1 hr
    exact (h x hx).2.picks _
  have hm : ∀ x ∈ madeS vs, ¬ Lib.idxOfS vs x < 0 := fun x hx => found_selfJ vs x ((mem_madeS hn x).1 hx)
  refine ⟨by rw [madeS_len]; exact h8, pw_riseJ (madeS_rises hn), fun r hr => ?_, madeR_rises okm⟩
  obtain ⟨x, hx, rfl⟩ := List.mem_map.1 ((mem_madeR okm r).1 hr)
  refine ⟨?_, (h x hx).2.picks _⟩
  rw [picks_len (fun c hc => by rw [(h x hx).1]; exact cols_ltJ hm c hc), cols_lenJ]
theorem joinL_few (vs vs' : List ByteArray) : ∀ (rs qs : List (List Val)), (joinL vs vs' rs qs).length ≤ rs.length * qs.length := by
  intro rs qs
  unfold joinL joinR
  induction rs with
  | nil => simp
  | cons r rs ih =>
    rw [List.flatMap_cons, List.length_append, List.length_map, List.length_cons, Nat.succ_mul]
    have h := List.length_filter_le (fun q => rowS (picks r ((bothL vs' 0 vs).map (·.1))) (picks q ((bothL vs' 0 vs).map (·.2)))) qs
    omega

set_option maxRecDepth 100000 in
set_option maxHeartbeats 4000000 in
theorem tjoins_any {Va Ra Vb Rb : Value} {vs vs' : List ByteArray} {us us' : List Value} {rs qs : List (List Val)} (w : World) (ha : TabAt w Va Ra vs us rs) (hb : TabAt w Vb Rb vs' us' qs) (capA : ∀ p n c, Ra = .slice p n c → n ≤ c) (capB : ∀ p n c, Rb = .slice p n c → n ≤ c)
    (bv : vs.length ≤ 1048576) (br : rs.length ≤ 1048576) (bs : ∀ r ∈ rs, r.length ≤ 1048576) (bv' : vs'.length ≤ 1048576) (br' : qs.length ≤ 1048576) (bs' : ∀ r ∈ qs, r.length ≤ 1048576) :
    Calls Tryz.prog 8 #[.agg #[Va, Ra], .agg #[Vb, Rb]] w fun e w' => e = .returned (.bool true) ∧ Below w.heap.size w w' := by
  have ok : bothE vs rs vs' qs = 0 → OkT vs rs ∧ OkT vs' qs := fun h => ⟨tabChk_ok (bothE_ok h).1 ha.fits, tabChk_ok (bothE_ok h).2 hb.fits⟩
  have lp : (joinL vs vs' rs qs).length ≤ 5864062014805 := by
    have h1 := joinL_few vs vs' rs qs
    have h2 := Nat.mul_le_mul br br'
    omega
  have c1 : Hid (∀ W : World, Below w.heap.size w W → Calls Tryz.prog 22 #[.agg #[Va, Ra], .agg #[Vb, Rb], .func (.func 27) #[] #[], .func (.func 28) #[] #[]] W fun e w' => e = .returned (.bool true) ∧ Below W.heap.size W w') := fun W hW => by
    refine twoJoin_any (E := joinE vs rs vs' qs) (us := madeS (allV vs vs')) (L := ofRows (allV vs vs') (joinL vs vs' rs qs)) W (ha.below hW).dtab (hb.below hW).dtab (by omega) (fun r hr => by have := bs r hr; omega) (by omega) (fun r hr => by have := bs' r hr; omega) (fun W1 h1 => ?_) (fun W1 Xa Ya Xb Yb h1 h2 => ?_) (okT_bounds (rs := rs) fun h => ?_)
    · refine (join_any ((ha.below hW).below h1) ((hb.below hW).below h1) lp).mono ?_
      rintro e w' ⟨t, rfl, g1, g2, g3⟩
      exact TellsT.of g1 g2 g3
    · exact djoin_any (h1.dtab ha.dtab) (h2.dtab hb.dtab) lp
    · unfold joinE at h
      by_cases hE : bothE vs rs vs' qs = 0
      · rw [if_pos hE] at h
        obtain ⟨o1, o2⟩ := ok hE
        by_cases h8 : (allV vs vs').length ≤ 8
        · have o3 := okT_made (allV_nodup o1.nodup o2.nodup) h8 (joinL_ok o1 o2)
          have h5 := madeR_len ((joinL vs vs' rs qs).map fun r => picks r (colsAt (allV vs vs') (madeS (allV vs vs'))))
          rw [List.length_map] at h5
          refine ⟨o3.few, fun r hr => ⟨(o3.rows r hr).2, by rw [(o3.rows r hr).1]; exact o3.few⟩, ?_⟩
          show (madeR _).length ≤ _
          omega
        · rw [if_neg h8] at h
          exact absurd h (by decide)
      · rw [if_neg hE] at h
        exact absurd h hE
  have c2 : Hid (∀ W : World, Below w.heap.size w W → Calls Tryz.prog 22 #[.agg #[Va, Ra], .agg #[Vb, Rb], .func (.func 29) #[] #[], .func (.func 30) #[] #[]] W fun e w' => e = .returned (.bool true) ∧ Below W.heap.size W w') := fun W hW => by
    refine twoAnti_any (E := bothE vs rs vs' qs) (us := vs) (L := antiL vs vs' rs qs) W (ha.below hW).dtab (hb.below hW).dtab (by omega) (fun r hr => by have := bs r hr; omega) (by omega) (fun r hr => by have := bs' r hr; omega) (fun W1 h1 => ?_) (fun W1 Xa Ya Xb Yb h1 h2 => ?_) (okT_bounds (rs := rs) fun h => ?_)
    · refine (anti_any ((ha.below hW).below h1) ((hb.below hW).below h1)).mono ?_
      rintro e w' ⟨t, rfl, g1, g2, g3⟩
      exact TellsT.of g1 g2 g3
    · exact danti_any (h1.dtab ha.dtab) (h2.dtab hb.dtab)
    · obtain ⟨o1, o2⟩ := ok h
      refine ⟨o1.few, fun r hr => ?_, ?_⟩
      · have hr := (List.mem_filter.1 hr).1
        exact ⟨(o1.rows r hr).2, by rw [(o1.rows r hr).1]; exact o1.few⟩
      · have h5 : (antiL vs vs' rs qs).length ≤ rs.length := List.length_filter_le _ _
        omega
  obtain ⟨p1, k1, p2, k2, eV, eR⟩ := ha.forms
  obtain ⟨p3, k3, p4, k4, eV', eR'⟩ := hb.forms
  subst eV eR eV' eR'
  generalize vs.length = n1 at *
  generalize us.length = n2 at *
  generalize vs'.length = n3 at *
  generalize us'.length = n4 at *
  clear ha hb capA capB bv br bs bv' br' bs' ok lp
  go_enter Tryz.func8, Tryz.ntmps8
  go_upto_region 1 with fail
  refine wp_world ?_
  intro W0 hW0
  have K0 : Below w.heap.size w W0 := by rw [hW0]; go_grown
  have VA0 : Hid (Var W0 w.heap.size (.slice p1 n1 k1) (.slice p2 n2 k2)) := by
    rw [hW0]
    exact (Var.made w _ _).below ((Below.refl _ _).alloc (Nat.le_refl _) _)
  have VB0 : Hid (Var W0 (w.heap.size + 1) (.slice p3 n3 k3) (.slice p4 n4 k4)) := by
    rw [hW0]
    have h := Var.made (w.alloc (.cells #[.slice p1 n1 k1, .slice p2 n2 k2] 25)) (.slice p3 n3 k3) (.slice p4 n4 k4)
    exact at_size (P := fun g => Var _ g _ _) h (by simp)
  clear hW0
  have a0 := VA0.out.c0
  have a1 := VA0.out.c1
  have b0 := VB0.out.c0
  have b1 := VB0.out.c1
  go_wp2_with fail
  refine (c1.out _ K0).mono ?_
  rintro e w1 ⟨rfl, hb1⟩
  have K1 : Below w.heap.size w w1 := K0.trans (hb1.mono K0.size)
  have VA1 : Hid (Var w1 w.heap.size (.slice p1 n1 k1) (.slice p2 n2 k2)) := VA0.out.below hb1
  have VB1 : Hid (Var w1 (w.heap.size + 1) (.slice p3 n3 k3) (.slice p4 n4 k4)) := VB0.out.below hb1
  clear a0 a1 b0 b1 VA0 VB0 hb1 K0 c1
  have a0 := VA1.out.c0
  have a1 := VA1.out.c1
  have b0 := VB1.out.c0
  have b1 := VB1.out.c1
  go_wp2_with fail
  refine (c2.out _ K1).mono ?_
  rintro e w2 ⟨rfl, hb2⟩
  have K2 : Below w.heap.size w w2 := K1.trans (hb2.mono K1.size)
  clear a0 a1 b0 b1 VA1 VB1 hb2 K1 c2
  go_wp2_with fail
  refine (tlive_any _).mono ?_
  rintro e w3 ⟨rfl, hb3⟩
  have K3 : Below w.heap.size w w3 := K2.trans (hb3.mono K2.size)
  clear hb3 K2
  go_wp2
  go_ret
  exact ⟨rfl, K3⟩

end Go.Proofs.YteipohpfaofchaaGreat

namespace Go.Proofs.YteipohpfaofchaaGreat
open Go.Joins Go.ChangeShapes Go.WideShapes Go.ChangeAt Go.RowKit Go.Deep
set_option linter.unusedVariables false
set_option maxRecDepth 100000

theorem bulk_one {H : Type} (d : DataW H) : 1 ≤ Rows.uptoBulk d := by
  cases d with
  | lit l => cases l <;> simp [Rows.uptoBulk]
  | _ => simp [Rows.uptoBulk]
theorem bulk_part {H : Type} {d : DataW H} : ∀ {l : List (DataW H)}, d ∈ l → Rows.uptoBulk d ≤ Rows.uptoBulkAll l
  | [], h => by cases h
  | x :: l, h => by
    rw [Rows.uptoBulkAll]
    rcases List.mem_cons.1 h with rfl | h
    · omega
    · have := bulk_part h
      omega
theorem bulk_len {H : Type} : ∀ l : List (DataW H), l.length ≤ Rows.uptoBulkAll l
  | [] => by simp
  | x :: l => by
    rw [Rows.uptoBulkAll, List.length_cons]
    have := bulk_len l
    have := bulk_one x
    omega
theorem bulk_elems {H : Type} (elems spare : List (DataW H)) : Rows.uptoBulkAll elems + 1 ≤ Rows.uptoBulk (.slice elems spare) := by
  rw [Rows.uptoBulk]
  omega
/-- A slice that came in is no longer than the bulk. -/
theorem bulk_slice {H : Type} {enc : TypeId × Value → H} {w : World} {sp : Nat → Bool} {held : Bool} {n : Nat} {t e : TypeId} (ht : Tryz.prog.underlying t = some (.slice e)) {v : Value} {x : DataW H × List MemPlace} (h : DataW.trod enc Tryz.prog w 0 sp held n t [v] = some x) : ∀ p m c, v = .slice p m c → m ≤ Rows.uptoBulk x.1 := by
  rcases open_slice ht h with ⟨hcs, hx⟩ | ⟨a, len, cap, m, n', D, Pl, hcs, hb, hl, hm, em, hx, he⟩
  · injection hcs with hcs
    subst hcs
    intro p m c e
    injection e with _ e _
    omega
  · injection hcs with hcs
    subst hcs hx
    intro p k c e
    injection e with _ e _
    have h1 := bulk_elems ((List.range len).map D) ((List.range (m - len)).map fun j => D (len + j))
    have h2 := bulk_len ((List.range len).map D)
    rw [List.length_map, List.length_range] at h2
    show k ≤ Rows.uptoBulk (.slice _ _)
    omega
theorem bulk_rows {H : Type} {enc : TypeId × Value → H} {w : World} {sp : Nat → Bool} {held : Bool} {n : Nat} {v : Value} {x : DataW H × List MemPlace} (h : DataW.trod enc Tryz.prog w 0 sp held n 23 [v] = some x) {rs : List (List Val)} (hT : TabRows w v rs) : rs.length ≤ Rows.uptoBulk x.1 ∧ ∀ r ∈ rs, r.length ≤ Rows.uptoBulk x.1 := by
  obtain ⟨p, c, ev, hr⟩ := hT
  refine ⟨bulk_slice Tryz.underlying23 h _ _ _ ev, fun r hm => ?_⟩
  rcases hr with hr | ⟨b, off, rfl, hb, hr⟩
  · subst hr; cases hm
  obtain ⟨i, hi, rfl⟩ := List.getElem_of_mem hm
  rcases open_slice1 Tryz.underlying23 (by kernel_rfl) h with ⟨hcs, hx⟩ | ⟨a, len, cap, m, n', V, D, Pl, hcs, hb2, hl, hm2, em, hx, he⟩
  · injection hcs with hcs
    rw [hcs] at ev
    injection ev with _ e _
    omega
  · injection hcs with hcs
    rw [hcs] at ev
    injection ev with e1 e2 e3
    injection e1 with e1
    subst hx e1 e2
    have hlm : rs.length ≤ m := by rw [em]; split <;> omega
    obtain ⟨u, g1, g2⟩ := hr i hi
    obtain ⟨h1, h2⟩ := he i (by omega)
    rw [add_plain, g1] at h1
    injection h1 with h1
    subst h1
    obtain ⟨pu, cu, eu⟩ := g2.form
    have h3 := bulk_slice Tryz.underlying37 h2 _ _ _ eu
    have h4 := bulk_part (l := (List.range rs.length).map D) (d := D i) (List.mem_map.2 ⟨i, by simpa using hi, rfl⟩)
    have h5 := bulk_elems ((List.range rs.length).map D) ((List.range (m - rs.length)).map fun j => D (rs.length + j))
    show _ ≤ Rows.uptoBulk (.slice _ _)
    dsimp only at h3
    omega
theorem bulk_tab {H : Type} {enc : TypeId × Value → H} {W : World} {r : Reach} {b0 : Nat} {V R : Value} {d : DataW H} {p : List MemPlace} (hv : Value.okWide Tryz.prog W r b0 25 (.agg #[V, R])) (h : DataW.Trod enc Tryz.prog W 0 (fun _ => true) true 25 (.agg #[V, R]) d p) {vs : List ByteArray} {rs : List (List Val)} (h1 : StrsAt W V vs) (h2 : TabRows W R rs) : vs.length ≤ Rows.uptoBulk d ∧ rs.length ≤ Rows.uptoBulk d ∧ ∀ r ∈ rs, r.length ≤ Rows.uptoBulk d := by
  obtain ⟨V', R', y0, y1, n, e, ed, rfl, g0, g1⟩ := open_agg2 Tryz.underlying25 (by kernel_rfl) (by kernel_rfl) hv h
  injection e with e
  injection e with e
  simp only [List.cons.injEq, and_true] at e
  obtain ⟨rfl, rfl⟩ := e
  obtain ⟨pv, cv, ev⟩ := h1.form
  have k1 := bulk_slice Tryz.underlying22 g0 _ _ _ ev
  obtain ⟨k2, k3⟩ := bulk_rows g1 h2
  have e : Rows.uptoBulk d = Rows.uptoBulk y0.1 + (Rows.uptoBulk y1.1 + 0) + 1 := by rw [ed, Rows.uptoBulk, Rows.uptoBulkAll, Rows.uptoBulkAll, Rows.uptoBulkAll]
  refine ⟨by omega, by omega, fun r hr => ?_⟩
  have := k3 r hr
  omega
/-- Rows that came in, by the values that the cells hold. -/
theorem vals_in {W : World} {r : Reach} {base : Nat} {v : Value} {rs : List (List Val)} (ok : Cell.okWide Tryz.prog W r base 23 v) (h : TabRows W v rs) : ∃ us, ValsAt W v us ∧ RowsOf W us rs := by
  obtain ⟨p, c, rfl, h | ⟨b, off, rfl, hb, hr⟩⟩ := h
  · subst h
    cases p with
    | none => exact ⟨[], Or.inl ⟨c, rfl, rfl⟩, rfl, fun i h => absurd h (Nat.not_lt_zero _)⟩
    | some a =>
      obtain ⟨b, off, spot⟩ := a
      have hs : spot = none := by
        simp only [Cell.okWide, Cell.ok, Tryz.underlying23, World.has] at ok
        exact ok.2.2.2.1
      subst hs
      exact ⟨[], Or.inr ⟨b, off, c, rfl, Or.inl rfl, fun i h => absurd h (Nat.not_lt_zero _)⟩, rfl, fun i h => absurd h (Nat.not_lt_zero _)⟩
  · obtain ⟨f, hf⟩ := choose_lt (n := rs.length) (p := fun i v => W.cell? ⟨b, off + i, none⟩ = some v ∧ ∀ h : i < rs.length, RowAt W v rs[i]) (fun i hi => by
      obtain ⟨v, h1, h2⟩ := hr i hi
      exact ⟨v, h1, fun _ => h2⟩)
    refine ⟨(List.range rs.length).map f, Or.inr ⟨b, off, c, by simp, Or.inr hb, fun i h => ?_⟩, by simp, fun i h g => ?_⟩
    · rw [List.getElem_map, List.getElem_range]
      exact (hf i (by simpa using h)).1
    · rw [List.getElem_map, List.getElem_range]
      exact (hf i g).2 g
theorem cellT : Tryz.prog.cellTypes Tryz.prog.depth 25 = some [22, 23] := by kernel_rfl
theorem tab_cell {W : World} {r : Reach} {base : Nat} {V R : Value} (hv : Value.okWide Tryz.prog W r base 25 (.agg #[V, R])) : Cell.okWide Tryz.prog W r base 23 R := by
  simp only [Value.okWide, Tryz.underlying25] at hv
  obtain ⟨cs, e, -, ts, e1, -, h⟩ := hv
  rw [cellT] at e1
  injection e1 with e1
  injection e with e
  subst e e1
  obtain ⟨u, h1, h2⟩ := h 1 R rfl
  injection h1 with h1
  subst h1
  exact h2
/-- A table that came in, as the walks ask for it. -/
theorem openu_tab {H : Type} {enc : TypeId × Value → H} {W : World} {r : Reach} {b0 : Nat} {v : Value} {d : DataW H} {p : List MemPlace} (hv : Value.okWide Tryz.prog W r b0 25 v) (h : DataW.Trod enc Tryz.prog W 0 (fun _ => true) true 25 v d p) (hlt : ∀ y ∈ p, y.block < W.heap.size) (hk : Rows.uptoBulk d ≤ 1048576) :
    ∃ V R vs us rs, v = .agg #[V, R] ∧ TabAt W V R vs us rs ∧ (∀ p n c, V = .slice p n c → n ≤ c) ∧ (∀ p n c, R = .slice p n c → n ≤ c) ∧ vs.length ≤ 1048576 ∧ rs.length ≤ 1048576 ∧ ∀ r ∈ rs, r.length ≤ 1048576 := by
  obtain ⟨V, R, vs, rs, rfl, a1, a2, a3, a4, a5, a6, a7, a8⟩ := open_tab hv h hlt
  obtain ⟨k1, k2, k3⟩ := bulk_tab hv h a1 a4
  obtain ⟨us, u1, u2⟩ := vals_in (tab_cell hv) a4
  exact ⟨V, R, vs, us, rs, rfl, ⟨a1, u1, u2, a5, a6, a2, by have := u2.1; omega, fun u hu => u2.slices u hu⟩, a3, a8, by omega, by omega, fun r hr => by have := k3 r hr; omega⟩

end Go.Proofs.YteipohpfaofchaaGreat
