/- How much a table that came in may hold, by the bulk of what is read. -/
import Derived.Test.YteipohpfaofchabGreatZ10
import Derived.Test.YteipohpfaofchabGreatZ08
import Derived.Test.YteipohpfaofchabGreatZ09
import Derived.SizedLaws
import Derived.Test.YteipohpfaofchabGreatRows
import Derived.Test.YteipohpfaofchabGreatZ07

namespace Go.Proofs.YteipohpfaofchabGreat
open Go.RowKit Go.Shelf Go.Sort
set_option linter.unusedVariables false

/-- The names that are not let go. -/
def leftV (vs fr : List ByteArray) : List ByteArray := vs.filter fun x => decide (Lib.idxOfS fr x < 0)
theorem left_rises {vs fr : List ByteArray} (h : riseB vs = true) : (leftV vs fr).Pairwise (fun a b => bcmp a b < 0) := (rise_pw h).sublist List.filter_sublist
theorem left_made {vs fr : List ByteArray} (h : riseB vs = true) : madeS (leftV vs fr) = leftV vs fr := (madeS_eq (rises_nodup (left_rises h)) (left_rises h) fun _ => Iff.rfl).symm

set_option maxRecDepth 100000 in
set_option maxHeartbeats 16000000 in
theorem dproject_any {V R A : Value} {vs fr : List ByteArray} {rs : List (List Val)} {w : World} (hV : StrsAt w V vs) (hRR : TabRows w R rs) (fits : ∀ r ∈ rs, ∀ v ∈ r, v.Fits) (long : ∀ r ∈ rs, r.length ≤ 9223372036854775807) (names : vs.length ≤ 9223372036854775807) (many : rs.length ≤ 5864062014805) (hA : StrsAt w A fr) (capA : ∀ p n c, A = .slice p n c → n ≤ c) (lf : fr.length ≤ 9223372036854775807) :
    Calls Tryz.prog 10 #[.agg #[V, R], A] w (TellsT w.heap.size (projE vs rs fr) (madeS fr) (projR vs fr rs) w) := by
  have HV : Hid (StrsAt w V vs) := hV
  have HR : Hid (TabRows w R rs) := hRR
  have HA : Hid (StrsAt w A fr) := hA
  have HFI : Hid (∀ r ∈ rs, ∀ v ∈ r, v.Fits) := fits
  have MANY : Hid (rs.length ≤ 5864062014805) := many
  have cK : Hid (∀ W, Below w.heap.size w W → Calls Tryz.prog 31 #[.agg #[V, R]] W fun e w' => e = .returned (.int .i64 (tabChk vs rs)) ∧ Below W.heap.size W w') := fun W hW => dcheck_any (hV.below hW) (hRR.below hW) names fits (by omega) long
  have cU : Hid (∀ W, Below w.heap.size w W → Calls Tryz.prog 32 #[A] W fun e w' => e = .returned (.bool (!repB [] fr)) ∧ Below W.heap.size W w') := fun W hW => dunlike_any (hA.below hW) capA lf
  have cF : Hid (∀ W X, Below w.heap.size w W → Calls Tryz.prog 33 #[V, .string X] W fun e w' => e = .returned (.int .i64 (Lib.idxOfS vs X)) ∧ Below W.heap.size W w') := fun W X hW => dfind_any (hV.below hW) names
  obtain ⟨p1, k1, rfl⟩ := hV.form
  obtain ⟨p2, k2, rfl, -⟩ := hRR.form
  obtain ⟨p3, k3, rfl, HA0⟩ := hA.all
  have GA : Hid (∀ k (hk : k < fr.length), ∃ b off, p3 = some ⟨b, off, none⟩ ∧ b < w.heap.size ∧ w.cell? ⟨b, off + k, none⟩ = some (.string fr[k])) := HA0
  obtain ⟨n1, en1⟩ : ∃ n, Hid (vs.length = n) := ⟨_, rfl⟩
  obtain ⟨n2, en2⟩ : ∃ n, Hid (rs.length = n) := ⟨_, rfl⟩
  obtain ⟨n3, en3⟩ : ∃ n, Hid (fr.length = n) := ⟨_, rfl⟩
  obtain ⟨E, eE⟩ : ∃ E, Hid (tabChk vs rs = E) := ⟨_, rfl⟩
  obtain ⟨Q, eQ⟩ : ∃ Q, Hid (projE vs rs fr = Q) := ⟨_, rfl⟩
  have hQ : Hid (Q = if E = 0 then (if (colsO vs [] fr).isSome then 0 else 30) else E) := by
    show Q = _
    rw [← eQ.out, ← eE.out]
    rfl
  rw [eQ.out]
  rw [eE.out] at cK
  rw [en1.out] at HV cK cF names ⊢
  rw [en2.out] at HR cK ⊢
  rw [en3.out] at HA cU lf ⊢
  clear hV hRR hA HA0 capA eQ fits long many
  go_enter Tryz.func10, Tryz.ntmps10
  go_upto_region 1 with fail
  refine wp_world ?_
  intro W0 hW0
  have bx0 : Hid (Box2 W0 w.heap.size (.slice p1 n1 k1) (.slice p2 n2 k2)) := by rw [hW0]; exact Box2.made _ _ _
  have K0 : Below w.heap.size w W0 := by rw [hW0]; go_grown
  have z0 : W0.heap.size = w.heap.size + 2 := by rw [hW0]; simp
  clear hW0
  have A0 := cell_of_heap bx0.out.a 0 rfl
  have A1 := cell_of_heap bx0.out.a 1 rfl
  go_wp2_with fail
  refine (cK.out W0 K0).mono ?_
  rintro e w1 ⟨rfl, hb1⟩
  have bx1 : Hid (Box2 w1 w.heap.size (.slice p1 n1 k1) (.slice p2 n2 k2)) := bx0.out.below hb1
  have K1 : Below w.heap.size w w1 := K0.trans (hb1.mono K0.size)
  have z1 : w.heap.size + 2 ≤ w1.heap.size := by have := hb1.size; omega
  clear A0 A1 bx0 K0 hb1 z0 cK
  have HSET : Hid (∀ W, Below w.heap.size w W → ∀ x y, Below w.heap.size w ((W.setCell ⟨w.heap.size + 1, 0, none⟩ x).setCell ⟨w.heap.size + 1, 1, none⟩ y)) := fun W h x y => by
    have b2 := h.grown (grownBy_setCell W (w.heap.size + 1) 0 x) h.size (fun q hq => by injection hq with hq; omega)
    exact b2.grown (grownBy_setCell _ (w.heap.size + 1) 1 y) b2.size (fun q hq => by injection hq with hq; omega)
  have X0 : Hid (∀ (W : World) (u x : Value), W.cell? ⟨w.heap.size + 1, 0, none⟩ = some u → (W.setCell ⟨w.heap.size + 1, 0, none⟩ x).cell? ⟨w.heap.size + 1, 0, none⟩ = some x) := fun W u x h => set_same h
  have X1 : Hid (∀ (W : World) (u x y : Value), W.cell? ⟨w.heap.size + 1, 1, none⟩ = some u → ((W.setCell ⟨w.heap.size + 1, 0, none⟩ x).setCell ⟨w.heap.size + 1, 1, none⟩ y).cell? ⟨w.heap.size + 1, 1, none⟩ = some y) := fun W u x y h => set_same ((set_other (by simp)).trans h)
  by_cases hE : E = 0
  · subst hE
    have hQ2 : Hid (Q = if (colsO vs [] fr).isSome then 0 else 30) := by
      have h := hQ.out
      rw [if_pos rfl] at h
      exact h
    have OK : Hid (OkT vs rs) := tabChk_ok eE.out HFI.out
    clear hQ
    go_wp2_with fail
    refine (cU.out _ (by exact K1)).mono ?_
    rintro e w2 ⟨rfl, hb2⟩
    have bx2 : Hid (Box2 w2 w.heap.size (.slice p1 n1 k1) (.slice p2 n2 k2)) := bx1.out.below hb2
    have K2 : Below w.heap.size w w2 := K1.trans (hb2.mono K1.size)
    have z2 : w.heap.size + 2 ≤ w2.heap.size := Nat.le_trans z1 hb2.size
    clear bx1 K1 z1 hb2 cU
    cases hrep : repB [] fr with
    | true =>
      have hQ3 : Q = 30 := by have h := hQ2.out; rw [colsO_twice hrep] at h; exact h
      clear hQ2
      have r0 := cell_of_heap bx2.out.r 0 rfl
      have r1 := cell_of_heap bx2.out.r 1 rfl
      have f0 := frozen_of_heap bx2.out.r 0
      have f1 := frozen_of_heap bx2.out.r 1
      have x0 := X0.out w2 _ (.slice none 0 0) r0
      have x1 := X1.out w2 _ (.slice none 0 0) (.slice none 0 0) r1
      go_wp2
      (try simp only [Exit.inBlock, Exit.then])
      refine bodyPost_ret (by simp [results, Tryz.results10, go_sem, x0, x1]; try rfl) rfl ?_
      rw [hQ3]
      exact TellsT.of (fun h => absurd h (by decide)) (fun _ => rfl) (HSET.out _ K2 _ _)
    | false =>
      have HREP : Hid (repB [] fr = false) := hrep
      clear hrep
      go_wp2
      go_loopw [8] (fun i wr => ∃ (k : Nat), k ≤ n3 ∧ i = .int .i64 k ∧ Hid (∀ x ∈ fr.take k, 0 ≤ Lib.idxOfS vs x) ∧ Below w2.heap.size w2 wr) (fun i _ => n3 - (intOf i).toNat)
      case atStart => exact ⟨0, Nat.zero_le _, rfl, (show ∀ x ∈ fr.take 0, _ by simp), Below.refl _ _⟩
      case round =>
        obtain ⟨k, hk, rfl, hfd, hB⟩ := hrel
        have KW : Below w.heap.size w wr := K2.trans (hB.mono K2.size)
        have bx : Hid (Box2 wr w.heap.size (.slice p1 n1 k1) (.slice p2 n2 k2)) := bx2.out.below hB
        have zr : w.heap.size + 2 ≤ wr.heap.size := Nat.le_trans z2 hB.size
        by_cases hlt : k < n3
        · have kx : k < fr.length := by have := en3.out; omega
          obtain ⟨b, off, rfl, hb, q0⟩ := GA.out k kx
          have q1 := (KW.cell (p := ⟨b, off + k, none⟩) hb).trans q0
          have mem : Hid (fr[k] ∈ fr) := List.getElem_mem kx
          have ct : Hid (∀ W, Below wr.heap.size wr W → Calls Tryz.prog 33 #[.slice p1 n1 k1, .string fr[k]] W fun e w' => e = .returned (.int .i64 (Lib.idxOfS vs fr[k])) ∧ Below W.heap.size W w') := fun W hW => cF.out W _ (KW.trans (hW.mono KW.size))
          have hst : Hid (fr.take (k + 1) = fr.take k ++ [fr[k]]) := List.take_succ_eq_append_getElem kx
          generalize fr[k] = X at q1 ct hst mem
          obtain ⟨D, eD⟩ : ∃ D : Int, Hid (Lib.idxOfS vs X = D) := ⟨_, rfl⟩
          rw [eD.out] at ct
          have A0 := cell_of_heap bx.out.a 0 rfl
          have i1 : (0 : Int) ≤ (k : Int) := by omega
          have i2 : (k : Int) < (n3 : Int) := by omega
          have za : w.heap.size < wr.heap.size := by omega
          have zb : b < wr.heap.size := Nat.lt_of_lt_of_le hb KW.size
          clear q0
          go_upto_region 10 with fail
          go_region_held3 (fun w' => w'.cell? ⟨w.heap.size, 0, none⟩ = some (.slice p1 n1 k1) ∧ w'.cell? ⟨b, off + k, none⟩ = some (.string X))
            (exact ⟨bcl (n := wr.heap.size) (by go_grown) A0 za, bcl (n := wr.heap.size) (by go_grown) q1 zb⟩)
            (first
              | (go_at_call 33; refine (ct.out _ (by go_grown)).mono ?_; rintro e v1 ⟨rfl, hv1⟩; obtain ⟨hw1, hn1⟩ := bg0 (n := wr.heap.size) (W0 := wr) (by go_grown) (by go_size) hv1; clear hv1))
          have B4 : Below w2.heap.size w2 v1 := hB.trans (hw1.mono hB.size)
          have K4 : Below w.heap.size w v1 := K2.trans (B4.mono K2.size)
          have bx4 : Hid (Box2 v1 w.heap.size (.slice p1 n1 k1) (.slice p2 n2 k2)) := bx2.out.below B4
          clear hw1 hn1 ct A0 q1 bx hB KW
          by_cases hD : D < 0
          · have hQ3 : Q = 30 := by have h := hQ2.out; rw [colsO_lost mem.out (by rw [eD.out]; exact hD)] at h; exact h
            clear hQ2 hst mem
            have r0 := cell_of_heap bx4.out.r 0 rfl
            have r1 := cell_of_heap bx4.out.r 1 rfl
            have f0 := frozen_of_heap bx4.out.r 0
            have f1 := frozen_of_heap bx4.out.r 1
            have x0 := X0.out v1 _ (.slice none 0 0) r0
            have x1 := X1.out v1 _ (.slice none 0 0) (.slice none 0 0) r1
            go_wp2
            (try simp only [Exit.inBlock, Exit.then])
            refine bodyPost_ret (by simp [results, Tryz.results10, go_sem, x0, x1]; try rfl) rfl ?_
            rw [hQ3]
            exact TellsT.of (fun h => absurd h (by decide)) (fun _ => rfl) (HSET.out _ K4 _ _)
          · have hfd2 : Hid (∀ x ∈ fr.take (k + 1), 0 ≤ Lib.idxOfS vs x) := fun x hx => by
              rw [hst.out] at hx
              rcases List.mem_append.1 hx with hx | hx
              · exact hfd.out x hx
              · simp at hx
                subst hx
                rw [eD.out]
                omega
            clear hst mem
            go_wp2
            exact ⟨⟨k + 1, by omega, by go_num, hfd2, B4⟩, by simp [intOf]; omega⟩
        · have c2 : ¬ (k : Int) < (n3 : Int) := by omega
          have hall : ∀ x ∈ fr, ¬ Lib.idxOfS vs x < 0 := fun x hx => by
            have h := hfd.out x (by rw [List.take_of_length_le (by have := en3.out; omega)]; exact hx)
            omega
          have hQ3 : Hid (Q = 0) := by have h := hQ2.out; rw [colsO_all HREP.out hall] at h; exact h
          have hnF : fr.Nodup := by have := repB_nodup fr [] List.nodup_nil HREP.out; simpa using this
          have l8 : fr.length ≤ 8 := by
            have h1 := nodup_len vs.length (colsAt vs fr) (colsO_nodup fr [] _ List.nodup_nil (colsO_all HREP.out hall)) (cols_lt hall)
            rw [cols_len] at h1
            have := OK.out.few
            omega
          have cM : Hid (Calls Tryz.prog 34 #[.agg #[.slice p1 n1 k1, .slice p2 n2 k2], .slice p3 n3 k3] wr fun e w' => ∃ t, e = .returned t ∧ OwnT wr.heap.size t (madeS fr) (projR vs fr rs) w' ∧ Below wr.heap.size wr w') := dcolumns_any (HV.out.below KW) (HR.out.below KW) (HA.out.below KW) OK.out.rows OK.out.few l8 hnF hall MANY.out
          clear hQ2 hfd hall cF hnF l8
          have a0 := cell_of_heap bx.out.a 0 rfl
          have a1 := cell_of_heap bx.out.a 1 rfl
          go_wp2_with fail
          refine cM.out.mono ?_
          rintro e w6 ⟨t, rfl, ht, hb6⟩
          have bx6 := bx.out.below hb6
          have K6 : Below w.heap.size w w6 := KW.trans (hb6.mono KW.size)
          obtain ⟨pta, nta, cta, ptb, ntb, ctb, rfl⟩ := own_forms2 ht
          have HT : Hid (OwnT wr.heap.size (.agg #[.slice pta nta cta, .slice ptb ntb ctb]) (madeS fr) (projR vs fr rs) w6) := ht
          have r0 := cell_of_heap bx6.r 0 rfl
          have r1 := cell_of_heap bx6.r 1 rfl
          have f0 := frozen_of_heap bx6.r 0
          have f1 := frozen_of_heap bx6.r 1
          have x0 := X0.out w6 _ (.slice pta nta cta) r0
          have x1 := X1.out w6 _ (.slice pta nta cta) (.slice ptb ntb ctb) r1
          clear a0 a1 cM ht hb6 bx6
          go_wp2
          (try simp only [Exit.inBlock, Exit.then])
          refine bodyPost_ret (by simp [results, Tryz.results10, go_sem, x0, x1]; try rfl) rfl ?_
          rw [hQ3.out]
          exact TellsT.of (fun _ => ((HT.out.set (by omega)).set (by omega)).base (by omega)) (fun h => absurd rfl h) (HSET.out _ K6 _ _)
  · have hE2 : (E == 0) = false := by simpa using hE
    have hQ3 : Q = E := by have h := hQ.out; rw [if_neg hE] at h; exact h
    have r0 := cell_of_heap bx1.out.r 0 rfl
    have r1 := cell_of_heap bx1.out.r 1 rfl
    have f0 := frozen_of_heap bx1.out.r 0
    have f1 := frozen_of_heap bx1.out.r 1
    have x0 := X0.out w1 _ (.slice none 0 0) r0
    have x1 := X1.out w1 _ (.slice none 0 0) (.slice none 0 0) r1
    clear hQ
    go_wp2
    (try simp only [Exit.inBlock, Exit.then])
    refine bodyPost_ret (by simp [results, Tryz.results10, go_sem, x0, x1]; try rfl) rfl ?_
    rw [hQ3]
    exact TellsT.of (fun h => absurd h hE) (fun _ => rfl) (HSET.out _ K1 _ _)

set_option maxRecDepth 100000 in
set_option maxHeartbeats 16000000 in
theorem ddrop_any {V R A : Value} {vs fr : List ByteArray} {rs : List (List Val)} {w : World} (hV : StrsAt w V vs) (hRR : TabRows w R rs) (fits : ∀ r ∈ rs, ∀ v ∈ r, v.Fits) (long : ∀ r ∈ rs, r.length ≤ 9223372036854775807) (names : vs.length ≤ 9223372036854775807) (many : rs.length ≤ 5864062014805) (hA : StrsAt w A fr) (capA : ∀ p n c, A = .slice p n c → n ≤ c) (lf : fr.length ≤ 9223372036854775807) :
    Calls Tryz.prog 12 #[.agg #[V, R], A] w (TellsT w.heap.size (tabChk vs rs) (leftV vs fr) (projR vs (leftV vs fr) rs) w) := by
  have HV : Hid (StrsAt w V vs) := hV
  have HR : Hid (TabRows w R rs) := hRR
  have HA : Hid (StrsAt w A fr) := hA
  have HFI : Hid (∀ r ∈ rs, ∀ v ∈ r, v.Fits) := fits
  have MANY : Hid (rs.length ≤ 5864062014805) := many
  have cK : Hid (∀ W, Below w.heap.size w W → Calls Tryz.prog 31 #[.agg #[V, R]] W fun e w' => e = .returned (.int .i64 (tabChk vs rs)) ∧ Below W.heap.size W w') := fun W hW => dcheck_any (hV.below hW) (hRR.below hW) names fits (by omega) long
  have cU0 : True := trivial
  have cU : Hid (∀ W, Below w.heap.size w W → Calls Tryz.prog 32 #[A] W fun e w' => e = .returned (.bool (!repB [] fr)) ∧ Below W.heap.size W w') := fun W hW => dunlike_any (hA.below hW) capA lf
  have cF : Hid (∀ W X, Below w.heap.size w W → Calls Tryz.prog 33 #[A, .string X] W fun e w' => e = .returned (.int .i64 (Lib.idxOfS fr X)) ∧ Below W.heap.size W w') := fun W X hW => dfind_any (hA.below hW) lf
  obtain ⟨p1, k1, rfl, HV0⟩ := hV.all
  have GV : Hid (∀ k (hk : k < vs.length), ∃ b off, p1 = some ⟨b, off, none⟩ ∧ b < w.heap.size ∧ w.cell? ⟨b, off + k, none⟩ = some (.string vs[k])) := HV0
  obtain ⟨p2, k2, rfl, -⟩ := hRR.form
  obtain ⟨p3, k3, rfl, HA0⟩ := hA.all
  have GA : Hid (∀ k (hk : k < fr.length), ∃ b off, p3 = some ⟨b, off, none⟩ ∧ b < w.heap.size ∧ w.cell? ⟨b, off + k, none⟩ = some (.string fr[k])) := HA0
  obtain ⟨n1, en1⟩ : ∃ n, Hid (vs.length = n) := ⟨_, rfl⟩
  obtain ⟨n2, en2⟩ : ∃ n, Hid (rs.length = n) := ⟨_, rfl⟩
  obtain ⟨n3, en3⟩ : ∃ n, Hid (fr.length = n) := ⟨_, rfl⟩
  obtain ⟨E, eE⟩ : ∃ E, Hid (tabChk vs rs = E) := ⟨_, rfl⟩
  obtain ⟨Q, eQ⟩ : ∃ Q, Hid (tabChk vs rs = Q) := ⟨_, rfl⟩
  have hQ : Hid (Q = E) := by
    show Q = _
    rw [← eQ.out, ← eE.out]
  rw [eQ.out]
  rw [eE.out] at cK
  rw [en1.out] at HV cK names ⊢
  rw [en2.out] at HR cK ⊢
  rw [en3.out] at HA cU cF lf ⊢
  clear cU0 HV0 hV hRR hA HA0 capA eQ fits long many
  go_enter Tryz.func12, Tryz.ntmps12
  go_upto_region 1 with fail
  refine wp_world ?_
  intro W0 hW0
  have bx0 : Hid (Box2 W0 w.heap.size (.slice p1 n1 k1) (.slice p2 n2 k2)) := by rw [hW0]; exact Box2.made _ _ _
  have K0 : Below w.heap.size w W0 := by rw [hW0]; go_grown
  have z0 : W0.heap.size = w.heap.size + 2 := by rw [hW0]; simp
  clear hW0
  have A0 := cell_of_heap bx0.out.a 0 rfl
  have A1 := cell_of_heap bx0.out.a 1 rfl
  go_wp2_with fail
  refine (cK.out W0 K0).mono ?_
  rintro e w1 ⟨rfl, hb1⟩
  have bx1 : Hid (Box2 w1 w.heap.size (.slice p1 n1 k1) (.slice p2 n2 k2)) := bx0.out.below hb1
  have K1 : Below w.heap.size w w1 := K0.trans (hb1.mono K0.size)
  have z1 : w.heap.size + 2 ≤ w1.heap.size := by have := hb1.size; omega
  clear A0 A1 bx0 K0 hb1 z0 cK
  have HSET : Hid (∀ W, Below w.heap.size w W → ∀ x y, Below w.heap.size w ((W.setCell ⟨w.heap.size + 1, 0, none⟩ x).setCell ⟨w.heap.size + 1, 1, none⟩ y)) := fun W h x y => by
    have b2 := h.grown (grownBy_setCell W (w.heap.size + 1) 0 x) h.size (fun q hq => by injection hq with hq; omega)
    exact b2.grown (grownBy_setCell _ (w.heap.size + 1) 1 y) b2.size (fun q hq => by injection hq with hq; omega)
  have X0 : Hid (∀ (W : World) (u x : Value), W.cell? ⟨w.heap.size + 1, 0, none⟩ = some u → (W.setCell ⟨w.heap.size + 1, 0, none⟩ x).cell? ⟨w.heap.size + 1, 0, none⟩ = some x) := fun W u x h => set_same h
  have X1 : Hid (∀ (W : World) (u x y : Value), W.cell? ⟨w.heap.size + 1, 1, none⟩ = some u → ((W.setCell ⟨w.heap.size + 1, 0, none⟩ x).setCell ⟨w.heap.size + 1, 1, none⟩ y).cell? ⟨w.heap.size + 1, 1, none⟩ = some y) := fun W u x y h => set_same ((set_other (by simp)).trans h)
  by_cases hE : E = 0
  · subst hE
    have hQ3 : Hid (Q = 0) := hQ
    have OK : Hid (OkT vs rs) := tabChk_ok eE.out HFI.out
    obtain ⟨i0, hi, hz0, hz1, hz2⟩ := info_parts inS
    have few : n1 ≤ 8 := by have := OK.out.few; have := en1.out; omega
    clear hQ cU
    go_wp2
    go_loopw [7, 8] (fun v i wr => ∃ (k : Nat), k ≤ n1 ∧ i = .int .i64 k ∧ Hid (OwnS w1.heap.size v (leftV (vs.take k) fr) wr) ∧ Hid (Below w1.heap.size w1 wr)) (fun _ i _ => n1 - (intOf i).toNat)
    case atStart => exact ⟨0, Nat.zero_le _, rfl, (show OwnS _ _ _ _ from World.ownsRow_nil _ _ _ _), Below.refl _ _⟩
    case round =>
      obtain ⟨k, hk, rfl, hO, hB⟩ := hrel
      have KW : Below w.heap.size w wr := K1.trans (hB.out.mono K1.size)
      have bx : Hid (Box2 wr w.heap.size (.slice p1 n1 k1) (.slice p2 n2 k2)) := bx1.out.below hB.out
      have zr : w.heap.size + 2 ≤ wr.heap.size := Nat.le_trans z1 hB.out.size
      have A0 := cell_of_heap bx.out.a 0 rfl
      by_cases hlt : k < n1
      · have kx : k < vs.length := by have := en1.out; omega
        obtain ⟨b, off, rfl, hb, q0⟩ := GV.out k kx
        have hst : Hid (leftV (vs.take (k + 1)) fr = leftV (vs.take k) fr ++ if Lib.idxOfS fr vs[k] < 0 then [vs[k]] else []) := by
          show _ = _
          unfold leftV
          rw [List.take_succ_eq_append_getElem kx, List.filter_append]
          by_cases h : Lib.idxOfS fr vs[k] < 0 <;> simp [h]
        have hLL : Hid ((leftV (vs.take k) fr).length ≤ k) := by
          have h1 : (leftV (vs.take k) fr).length ≤ (vs.take k).length := List.length_filter_le _ _
          rw [List.length_take] at h1
          show _ ≤ _
          omega
        have Q0 : Hid (w.cell? ⟨b, off + k, none⟩ = some (.string vs[k])) := q0
        have ct : Hid (∀ W, Below w.heap.size w W → Calls Tryz.prog 33 #[.slice p3 n3 k3, .string vs[k]] W fun e w' => e = .returned (.int .i64 (Lib.idxOfS fr vs[k])) ∧ Below W.heap.size W w') := fun W hW => cF.out W _ hW
        have q1 := (KW.cell (p := ⟨b, off + k, none⟩) hb).trans q0
        generalize vs[k] = X at q1 ct hst Q0
        obtain ⟨M, eM⟩ : ∃ M, Hid (leftV (vs.take k) fr = M) := ⟨_, rfl⟩
        rw [eM.out] at hO hst hLL
        obtain ⟨D, eD⟩ : ∃ D : Int, Hid (Lib.idxOfS fr X = D) := ⟨_, rfl⟩
        rw [eD.out] at ct hst
        have i1 : (0 : Int) ≤ (k : Int) := by omega
        have i2 : (k : Int) < (n1 : Int) := by omega
        clear q0
        go_wp2_with fail
        refine (ct.out _ (by exact KW)).mono ?_
        rintro e v1 ⟨rfl, hb2⟩
        have B4 : Hid (Below w1.heap.size w1 v1) := hB.out.trans (hb2.mono hB.out.size)
        have K4 : Below w.heap.size w v1 := K1.trans (B4.out.mono K1.size)
        have bx4 : Hid (Box2 v1 w.heap.size (.slice (some ⟨b, off, none⟩) n1 k1) (.slice p2 n2 k2)) := bx1.out.below B4.out
        have O4 : Hid (OwnS w1.heap.size u7 M v1) := own_below hO.out hb2
        clear hb2 ct A0 q1 bx hB KW hO
        by_cases hD : D < 0
        · have A0 := cell_of_heap bx4.out.a 0 rfl
          have q1 : v1.cell? ⟨b, off + k, none⟩ = some (.string X) := (K4.cell (p := ⟨b, off + k, none⟩) hb).trans Q0.out
          obtain ⟨p5, n5, c5, rfl⟩ := slice_of O4.out
          have HSRC : Hid (Src (v1.alloc (.cells #[.string X] 9)) 1 (.slice (some ⟨v1.heap.size, 0, none⟩) 1 1) 1 [.string X]) := Or.inr ⟨_, 1, rfl, rfl, fun j x hj => by
            rw [Addr.add_lit, Nat.zero_add]
            exact cell_of_heap (heap_alloc v1 _) j (by simpa using hj)⟩
          have HO4 : Hid ((v1.alloc (.cells #[.string X] 9)).ownsRow w1.heap.size 9 1 (.slice p5 n5 c5) M.length (M.map Value.string)) := World.ownsRow.alloc O4.out _
          have HK4 : Hid (∀ q, (Value.slice p5 n5 c5).ownBlock = some q → w1.heap.size ≤ q) := fun q hq => (World.ownsRow.lt O4.out q hq).1
          have s1 : M.length + 1 ≤ maxLen := by unfold maxLen; have := hLL.out; omega
          have s2 : (M.length + 1) * 16 ≤ 140737488355328 := by have := hLL.out; omega
          have s3 : w1.heap.size ≤ (v1.alloc (.cells #[.string X] 9)).heap.size := by simp; have := B4.out.size; omega
          clear O4
          go_wp2_with (at_builtin; refine wpList_append_src rfl (.tmp 32) (.tmp 38) 22 rfl w1.heap.size 9 i0 _ 1 16 Tryz.underlying22 hi hz0 hz1 hz2 rfl (by decide) (.slice p5 n5 c5) M.length (M.map Value.string) rfl HO4.out (.slice (some ⟨v1.heap.size, 0, none⟩) 1 1) 1 [.string X] rfl HSRC.out ?one s1 s2 s3 ?grow)
          case one => (intro u hu; simp at hu; subst hu; rfl)
          case grow =>
            intro v' w3 h2 h3 _
            have O5 : Hid (OwnS w1.heap.size v' (leftV (vs.take (k + 1)) fr) w3) := by
              show OwnS _ _ _ _
              rw [hst.out, if_pos hD]
              unfold OwnS
              rw [List.length_append, List.map_append]
              exact h2
            have B5 : Hid (Below w1.heap.size w1 w3) := (B4.out.alloc B4.out.size _).grown h3 s3 HK4.out
            clear h2 h3 HSRC HO4 HK4 s1 s2 s3 B4 A0 q1
            go_wp2
            exact ⟨⟨k + 1, by omega, by go_num, O5, B5⟩, by simp [intOf]; omega⟩
        · have O5 : Hid (OwnS w1.heap.size u7 (leftV (vs.take (k + 1)) fr) v1) := by
            show OwnS _ _ _ _
            rw [hst.out, if_neg hD, List.append_nil]
            exact O4.out
          clear hst O4
          go_wp2
          exact ⟨⟨k + 1, by omega, by go_num, O5, B4⟩, by simp [intOf]; omega⟩
      · have c2 : ¬ (k : Int) < (n1 : Int) := by omega
        have OF : OwnS w1.heap.size u7 (leftV vs fr) wr := by
          have h := hO.out
          rwa [List.take_of_length_le (by have := en1.out; omega)] at h
        have hris := left_rises (fr := fr) OK.out.rise
        have hall : ∀ x ∈ leftV vs fr, ¬ Lib.idxOfS vs x < 0 := fun x hx => found_self vs x (List.mem_filter.1 hx).1
        have l8 : (leftV vs fr).length ≤ 8 := by
          have h1 : (leftV vs fr).length ≤ vs.length := List.length_filter_le _ _
          have := OK.out.few
          omega
        have hst := OwnS.strs OF
        obtain ⟨p5, n5, c5, rfl⟩ := slice_of OF
        have cM : Hid (Calls Tryz.prog 34 #[.agg #[.slice p1 n1 k1, .slice p2 n2 k2], .slice p5 n5 c5] wr fun e w' => ∃ t, e = .returned t ∧ OwnT wr.heap.size t (leftV vs fr) (projR vs (leftV vs fr) rs) w' ∧ Below wr.heap.size wr w') := by
          have h := dcolumns_any (HV.out.below KW) (HR.out.below KW) hst OK.out.rows OK.out.few l8 (rises_nodup hris) hall MANY.out
          rw [left_made OK.out.rise] at h
          exact h
        clear hO OF hris hall l8 hst A0
        have a0 := cell_of_heap bx.out.a 0 rfl
        have a1 := cell_of_heap bx.out.a 1 rfl
        go_wp2_with fail
        refine cM.out.mono ?_
        rintro e w6 ⟨t, rfl, ht, hb6⟩
        have bx6 := bx.out.below hb6
        have K6 : Below w.heap.size w w6 := KW.trans (hb6.mono KW.size)
        obtain ⟨pta, nta, cta, ptb, ntb, ctb, rfl⟩ := own_forms2 ht
        have HT : Hid (OwnT wr.heap.size (.agg #[.slice pta nta cta, .slice ptb ntb ctb]) (leftV vs fr) (projR vs (leftV vs fr) rs) w6) := ht
        have r0 := cell_of_heap bx6.r 0 rfl
        have r1 := cell_of_heap bx6.r 1 rfl
        have f0 := frozen_of_heap bx6.r 0
        have f1 := frozen_of_heap bx6.r 1
        have x0 := X0.out w6 _ (.slice pta nta cta) r0
        have x1 := X1.out w6 _ (.slice pta nta cta) (.slice ptb ntb ctb) r1
        clear a0 a1 cM ht hb6 bx6
        go_wp2
        (try simp only [Exit.inBlock, Exit.then])
        refine bodyPost_ret (by simp [results, Tryz.results12, go_sem, x0, x1]; try rfl) rfl ?_
        rw [hQ3.out]
        exact TellsT.of (fun _ => ((HT.out.set (by omega)).set (by omega)).base (by omega)) (fun h => absurd rfl h) (HSET.out _ K6 _ _)
  · have hE2 : (E == 0) = false := by simpa using hE
    have hQ3 : Q = E := hQ.out
    have r0 := cell_of_heap bx1.out.r 0 rfl
    have r1 := cell_of_heap bx1.out.r 1 rfl
    have f0 := frozen_of_heap bx1.out.r 0
    have f1 := frozen_of_heap bx1.out.r 1
    have x0 := X0.out w1 _ (.slice none 0 0) r0
    have x1 := X1.out w1 _ (.slice none 0 0) (.slice none 0 0) r1
    clear hQ
    go_wp2
    (try simp only [Exit.inBlock, Exit.then])
    refine bodyPost_ret (by simp [results, Tryz.results12, go_sem, x0, x1]; try rfl) rfl ?_
    rw [hQ3]
    exact TellsT.of (fun h => absurd h hE) (fun _ => rfl) (HSET.out _ K1 _ _)


end Go.Proofs.YteipohpfaofchabGreat

namespace Go.Proofs.YteipohpfaofchabGreat
open Go.RowKit Go.Shelf Go.Sort
set_option linter.unusedVariables false

theorem contains_idx (fr : List ByteArray) (x : ByteArray) : decide (Lib.idxOfS fr x < 0) = !Lib.containsS fr x := by
  cases h : Lib.containsS fr x with
  | true =>
    have := (Lib.idxOfS_nonneg_iff fr x).2 ((Lib.containsS_iff fr x).1 h)
    simp; omega
  | false =>
    have hn : ¬ 0 ≤ Lib.idxOfS fr x := fun g => by
      have := (Lib.containsS_iff fr x).2 ((Lib.idxOfS_nonneg_iff fr x).1 g)
      rw [h] at this
      cases this
    simp; omega
theorem picks_left {fr : List ByteArray} (vs : List ByteArray) : ∀ (k : Nat) (l : List ByteArray), vs.drop k = l → picks vs (outs fr k l) = leftV l fr
  | k, [], _ => rfl
  | k, x :: l, h => by
    have hk : k < vs.length := by
      by_cases hk : k < vs.length
      · exact hk
      · rw [List.drop_eq_nil_of_le (by omega)] at h; cases h
    rw [List.drop_eq_getElem_cons hk] at h
    injection h with h1 h2
    have ih := picks_left (fr := fr) vs (k + 1) l h2
    unfold outs leftV
    rw [List.filter_cons, contains_idx]
    cases hc : Lib.containsS fr x with
    | true => simpa [leftV] using ih
    | false =>
      simp only [Bool.false_eq_true, if_false, Bool.not_false, if_true]
      rw [picks_cons hk, ih, h1]
      rfl

set_option maxRecDepth 100000 in
set_option maxHeartbeats 8000000 in
theorem tabdrop_any {V R A : Value} {vs ns : List ByteArray} {us : List Value} {rs : List (List Val)} {w : World} (hT : TabAt w V R vs us rs) (hA : StrsAt w A ns) (lf : ns.length ≤ 9223372036854775807) :
    Calls Tryz.prog 11 #[.agg #[V, R], A] w (TellsT w.heap.size (tabChk vs rs) (leftV vs ns) (projR vs (leftV vs ns) rs) w) := by
  have HT : Hid (TabAt w V R vs us rs) := hT
  have HA : Hid (StrsAt w A ns) := hA
  have cK : Hid (∀ W, Below w.heap.size w W → Calls Tryz.prog 18 #[.agg #[V, R]] W fun e w' => e = .returned (.int .i64 (tabChk vs rs)) ∧ Below W.heap.size W w') := fun W hW => (hT.below hW).check
  obtain ⟨p1, k1, p2, k2, rfl, rfl⟩ := hT.forms
  obtain ⟨p3, k3, rfl⟩ := hA.form
  obtain ⟨E, eE⟩ : ∃ E, Hid (tabChk vs rs = E) := ⟨_, rfl⟩
  obtain ⟨n1, en1⟩ : ∃ n, Hid (vs.length = n) := ⟨_, rfl⟩
  obtain ⟨n2, en2⟩ : ∃ n, Hid (us.length = n) := ⟨_, rfl⟩
  obtain ⟨n3, en3⟩ : ∃ n, Hid (ns.length = n) := ⟨_, rfl⟩
  obtain ⟨Q, eQ⟩ : ∃ Q, Hid (tabChk vs rs = Q) := ⟨_, rfl⟩
  have hQ : Hid (Q = E) := by
    show Q = _
    rw [← eQ.out, ← eE.out]
  rw [eQ.out]
  rw [eE.out] at cK
  rw [en1.out] at HT cK ⊢
  rw [en2.out] at HT cK ⊢
  rw [en3.out] at HA lf ⊢
  clear hT hA
  go_enter Tryz.func11, Tryz.ntmps11
  go_upto_region 1 with fail
  refine wp_world ?_
  intro W0 hW0
  have bx0 : Hid (Box2 W0 w.heap.size (.slice p1 n1 k1) (.slice p2 n2 k2)) := by rw [hW0]; exact Box2.made _ _ _
  have K0 : Below w.heap.size w W0 := by rw [hW0]; go_grown
  have z0 : W0.heap.size = w.heap.size + 2 := by rw [hW0]; simp
  clear hW0
  have A0 := cell_of_heap bx0.out.a 0 rfl
  have A1 := cell_of_heap bx0.out.a 1 rfl
  go_wp2_with fail
  refine (cK.out W0 K0).mono ?_
  rintro e w1 ⟨rfl, hb1⟩
  have bx1 : Hid (Box2 w1 w.heap.size (.slice p1 n1 k1) (.slice p2 n2 k2)) := bx0.out.below hb1
  have K1 : Below w.heap.size w w1 := K0.trans (hb1.mono K0.size)
  have z1 : w.heap.size + 2 ≤ w1.heap.size := by have := hb1.size; omega
  clear A0 A1 bx0 K0 hb1 z0 cK
  have HSET : Hid (∀ W, Below w.heap.size w W → ∀ x y, Below w.heap.size w ((W.setCell ⟨w.heap.size + 1, 0, none⟩ x).setCell ⟨w.heap.size + 1, 1, none⟩ y)) := fun W h x y => by
    have b2 := h.grown (grownBy_setCell W (w.heap.size + 1) 0 x) h.size (fun q hq => by injection hq with hq; omega)
    exact b2.grown (grownBy_setCell _ (w.heap.size + 1) 1 y) b2.size (fun q hq => by injection hq with hq; omega)
  have X0 : Hid (∀ (W : World) (u x : Value), W.cell? ⟨w.heap.size + 1, 0, none⟩ = some u → (W.setCell ⟨w.heap.size + 1, 0, none⟩ x).cell? ⟨w.heap.size + 1, 0, none⟩ = some x) := fun W u x h => set_same h
  have X1 : Hid (∀ (W : World) (u x y : Value), W.cell? ⟨w.heap.size + 1, 1, none⟩ = some u → ((W.setCell ⟨w.heap.size + 1, 0, none⟩ x).setCell ⟨w.heap.size + 1, 1, none⟩ y).cell? ⟨w.heap.size + 1, 1, none⟩ = some y) := fun W u x y h => set_same ((set_other (by simp)).trans h)
  have r0 := cell_of_heap bx1.out.r 0 rfl
  have r1 := cell_of_heap bx1.out.r 1 rfl
  have f0 := frozen_of_heap bx1.out.r 0
  have f1 := frozen_of_heap bx1.out.r 1
  have x0 := X0.out w1 _ (.slice none 0 0) r0
  have x1 := X1.out w1 _ (.slice none 0 0) (.slice none 0 0) r1
  by_cases hE : E = 0
  · subst hE
    have hQ3 : Hid (Q = 0) := hQ
    have OK : Hid (OkT vs rs) := tabChk_ok eE.out HT.out.fits
    have few := OK.out.few
    have cC : Hid (∀ W, Below w.heap.size w W → Calls Tryz.prog 35 #[.slice p1 n1 k1, .slice p3 n3 k3] W fun e w' => ∃ v, e = .returned v ∧ OwnI W.heap.size v (outs ns 0 vs) w' ∧ Below W.heap.size W w') := fun W hW => cout_any _ _ vs ns W (HT.out.vars.below hW) (HA.out.below hW) (by omega) (by have := en3.out; omega)
    have cA : Hid (∀ W C, Below w.heap.size w W → IntsAt W C (outs ns 0 vs) → Calls Tryz.prog 30 #[.slice p1 n1 k1, .slice p2 n2 k2, C] W fun e w' => ∃ t, e = .returned t ∧ OwnT W.heap.size t (leftV vs ns) (projR vs (leftV vs ns) rs) w' ∧ Below W.heap.size W w') := fun W C hW hC => by
      have hTw := HT.out.below hW
      have hd1 : ∀ c ∈ outs ns 0 vs, c < vs.length := fun c hc => by have := outs_mem hc; omega
      have hd2 : picks vs (outs ns 0 vs) = leftV vs ns := picks_left vs 0 vs (by simp)
      have hd3 : outs ns 0 vs = colsAt vs (madeS (leftV vs ns)) := by
        rw [left_made OK.out.rise, ← hd2]
        exact cols_of_picks OK.out.nodup hd1
      have hrow : ∀ u ∈ us, ∃ x ∈ rs, RowAt W u x := fun u h => by
        obtain ⟨i, hi, e⟩ := List.getElem_of_mem h
        have g : i < rs.length := by have := hTw.rows.1; omega
        exact ⟨rs[i], List.getElem_mem g, e ▸ hTw.rows.2 i hi g⟩
      refine (arrange_any _ _ _ vs us (outs ns 0 vs) W hTw.vars hTw.vals hC hd1 (fun u h => ?_) (by omega) (by have := outs_len (us := ns) vs 0; omega) hTw.many).mono ?_
      · obtain ⟨x, hx, hr⟩ := hrow u h
        obtain ⟨e, ok⟩ := OK.out.rows x hx
        exact ⟨x, hr, ok, fun c hc => by rw [e]; exact hd1 c hc, by omega⟩
      · rintro e w' ⟨t, L, rfl, h1, h2, h3, h4⟩
        have eL : L = projR vs (leftV vs ns) rs := by
          refine madeR_eq (fun r hr => ?_) h2 fun z => ?_
          · obtain ⟨x, hx, rfl⟩ := List.mem_map.1 hr
            exact (OK.out.rows x hx).2.picks _
          · rw [h3 z, List.mem_map, ← hd3]
            constructor
            · rintro ⟨u, hu, rfl⟩
              obtain ⟨x, hx, hr⟩ := hrow u hu
              exact ⟨x, hx, by rw [rwOf_eq hr]⟩
            · rintro ⟨x, hx, rfl⟩
              obtain ⟨i, hi, e⟩ := List.getElem_of_mem hx
              have g : i < us.length := by have := hTw.rows.1; omega
              exact ⟨us[i], List.getElem_mem g, by rw [rwOf_eq (hTw.rows.2 i g hi), e]⟩
        rw [hd2, eL] at h1
        exact ⟨t, rfl, h1, h4⟩
    have A0 := cell_of_heap bx1.out.a 0 rfl
    have A1 := cell_of_heap bx1.out.a 1 rfl
    have z2 : w.heap.size < w.heap.size + 1 := by omega
    have z4 : w.heap.size + 1 ≤ w1.heap.size := by omega
    have zr : w.heap.size + 1 < w1.heap.size := by omega
    clear hQ r0 r1 f0 f1 x0 x1 few
    go_upto_region 4 with fail
    go_region_held3 (fun w' => w'.cell? ⟨w.heap.size, 0, none⟩ = some (.slice p1 n1 k1) ∧ w'.cell? ⟨w.heap.size, 1, none⟩ = some (.slice p2 n2 k2))
      (exact ⟨bcl (n := w.heap.size + 1) (by go_grown) A0 z2, bcl (n := w.heap.size + 1) (by go_grown) A1 z2⟩)
      (first
        | (go_at_call 35; refine (cC.out _ (by go_grown)).mono ?_; rintro e v2 ⟨vc, rfl, oc, hv2⟩; have hw9 : Below w1.heap.size w1 v2 := (bg0 (n := w1.heap.size) (W0 := w1) (by go_grown) (by go_size) hv2).1; have hw2 : Below (w.heap.size + 1) w1 v2 := hw9.mono z4; have hn2 : w1.heap.size ≤ v2.heap.size := hw9.size; have hk2 : Below w.heap.size w v2 := K1.trans (hw9.mono K1.size); clear hv2; have hci := oc.ints; obtain ⟨pc, nc, kc, rfl⟩ := slice_of oc)
        | (go_at_call 30; refine (cA.out _ _ (by go_grown) hci).mono ?_; rintro e v1 ⟨t, rfl, ht, hv1⟩; have hw0 : Below w1.heap.size w1 v1 := (bg0 (n := w1.heap.size) (W0 := w1) (by go_grown) (by go_size) hv1).1; have hw1 : Below (w.heap.size + 1) w1 v1 := hw0.mono z4; have hn1 : w1.heap.size ≤ v1.heap.size := hw0.size; have hk1 : Below w.heap.size w v1 := K1.trans (hw0.mono K1.size); clear hv1; obtain ⟨pta, nta, cta, ptb, ntb, ctb, rfl⟩ := own_forms2 ht; have rr1 : Hid (_) := (hw0.block _ zr).trans bx1.out.r; have r0 := cell_of_heap rr1.out 0 rfl; have r1 := cell_of_heap rr1.out 1 rfl; have f0 := frozen_of_heap rr1.out 0; have f1 := frozen_of_heap rr1.out 1))
    have HTO : Hid (OwnT w1.heap.size (.agg #[.slice pta nta cta, .slice ptb ntb ctb]) (leftV vs ns) (projR vs (leftV vs ns) rs) v1) := ht.base hn2
    have x0 := X0.out v1 _ (.slice pta nta cta) r0
    have x1 := X1.out v1 _ (.slice pta nta cta) (.slice ptb ntb ctb) r1
    clear A0 A1 ht hw0 hw1 hw2 hw9 oc hci
    go_wp2
    (try simp only [Exit.inBlock, Exit.then])
    refine bodyPost_ret (by simp [results, Tryz.results11, go_sem, x0, x1]; try rfl) rfl ?_
    rw [hQ3.out]
    exact TellsT.of (fun _ => ((HTO.out.set (by omega)).set (by omega)).base (by omega)) (fun h => absurd rfl h) (HSET.out _ hk1 _ _)
  · have hE2 : (E == 0) = false := by simpa using hE
    have hQ3 : Q = E := hQ.out
    clear hQ
    go_wp2
    (try simp only [Exit.inBlock, Exit.then])
    refine bodyPost_ret (by simp [results, Tryz.results11, go_sem, x0, x1]; try rfl) rfl ?_
    rw [hQ3]
    exact TellsT.of (fun h => absurd h hE) (fun _ => rfl) (HSET.out _ K1 _ _)

end Go.Proofs.YteipohpfaofchabGreat

namespace Go.Proofs.YteipohpfaofchabGreat
open Go.RowKit Go.Shelf Go.Sort
set_option linter.unusedVariables false

theorem weak1 {w : World} {B e size n : Nat} {v : Value} {xs : List Value} (h : w.ownsRow B e size v n xs) (g o : Nat) (u : Value) : ∃ ys, (w.setCell ⟨g, o, none⟩ u).ownsRow B e size v n ys := by
  rcases h with ⟨h0, ⟨rfl, rfl⟩ | ⟨g', cap, cur, rfl, h1⟩⟩
  · exact ⟨[], by simp, Or.inl ⟨rfl, rfl⟩⟩
  · have h' : w.ownsRow B e size (.slice (some ⟨g', 0, none⟩) n cap) n xs := ⟨h0, Or.inr ⟨g', cap, cur, rfl, h1⟩⟩
    by_cases hg : g' = g
    · subst hg
      exact ⟨_, (h'.stored o u).1⟩
    · exact ⟨xs, World.ownsRow.kept h' (grownBy_setCell w g o u) (Or.inr (fun e => hg (by injection e)))⟩
/-- A table that may be written over, in a variable. -/
def Sp (B T : Nat) (A b : Value) (us : List Value) (ls : List Nat) (nv : Nat) (w : World) : Prop :=
  w.heap[T]? = some (.cells #[A, b] 25 (0, 0)) ∧ w.ownsRow B 40 1 b us.length us ∧ us.length = ls.length ∧ (∀ i (h : i < us.length) (g : i < ls.length), ∃ ys, w.ownsRow B 57 4 us[i] ls[i] ys) ∧ ∃ zs, w.ownsRow B 9 1 A nv zs
theorem Sp.set {B T : Nat} {A b : Value} {us : List Value} {ls : List Nat} {nv : Nat} {w : World} (h : Sp B T A b us ls nv w) {g : Nat} {cur : Array Value} {e' : Nat} (hg : w.heap[g]? = some (.cells cur e' (0, 0))) (n1 : 25 ≠ e') (n2 : 40 ≠ e') (o : Nat) (u : Value) : Sp B T A b us ls nv (w.setCell ⟨g, o, none⟩ u) ∧ ∃ cur', (w.setCell ⟨g, o, none⟩ u).heap[g]? = some (.cells cur' e' (0, 0)) := by
  obtain ⟨h1, h2, h3, h4, zs, h5⟩ := h
  have hgb := grownBy_setCell w g o u
  refine ⟨⟨?_, World.ownsRow.kept h2 hgb (Or.inr (own_ne h2 hg n2)), h3, fun i a c => ?_, weak1 h5 g o u⟩, ?_⟩
  · have hne : T ≠ g := by
      intro e
      subst e
      rw [h1] at hg
      injection hg with hg
      injection hg with _ hg _
      exact n1 hg
    exact (hgb.block T (Array.getElem?_eq_some_iff.1 h1).1 (fun e => hne (by injection e with e; first | done | exact e | exact e.symm))).trans h1
  · obtain ⟨ys, hy⟩ := h4 i a c
    exact weak1 hy g o u
  · rw [setCell_eq]
    show ∃ cur', (w.heap.modify _ _)[_]? = _
    rw [Array.getElem?_modify, if_pos rfl, hg]
    exact ⟨_, rfl⟩
theorem Sp.below {B T : Nat} {A b : Value} {us : List Value} {ls : List Nat} {nv : Nat} {w w' : World} (h : Sp B T A b us ls nv w) (hb : Below w.heap.size w w') : Sp B T A b us ls nv w' := by
  obtain ⟨h1, h2, h3, h4, zs, h5⟩ := h
  exact ⟨(hb.block T (Array.getElem?_eq_some_iff.1 h1).1).trans h1, own_below h2 hb, h3, fun i a c => (h4 i a c).imp fun _ h => own_below h hb, zs, own_below h5 hb⟩

theorem Sp.set4 {B T : Nat} {A b : Value} {us : List Value} {ls : List Nat} {nv : Nat} {w : World} (h : Sp B T A b us ls nv w) {g : Nat} {cur : Array Value} {e' : Nat} (hg : w.heap[g]? = some (.cells cur e' (0, 0))) (n1 : 25 ≠ e') (n2 : 40 ≠ e') (o1 o2 o3 o4 : Nat) (u1 u2 u3 u4 : Value) : Sp B T A b us ls nv ((((w.setCell ⟨g, o1, none⟩ u1).setCell ⟨g, o2, none⟩ u2).setCell ⟨g, o3, none⟩ u3).setCell ⟨g, o4, none⟩ u4) := by
  obtain ⟨h1, c1, e1⟩ := h.set hg n1 n2 o1 u1
  obtain ⟨h2, c2, e2⟩ := h1.set e1 n1 n2 o2 u2
  obtain ⟨h3, c3, e3⟩ := h2.set e2 n1 n2 o3 u3
  exact (h3.set e3 n1 n2 o4 u4).1
theorem below_set1 {B : Nat} {w w' : World} (h : Below B w w') (hB : B ≤ w.heap.size) {g : Nat} (hg : B ≤ g) (o : Nat) (u : Value) : Below B w (w'.setCell ⟨g, o, none⟩ u) :=
  h.grown (grownBy_setCell w' g o u) (Nat.le_trans hB h.size) (fun q hq => by injection hq with hq; omega)

set_option maxRecDepth 100000 in
set_option maxHeartbeats 8000000 in
theorem spoil_any {B : Nat} {t : Value} {vs : List ByteArray} {L : List (List Val)} {w : World} (hT : OwnT B t vs L w) (hB0 : B ≤ w.heap.size) (lv : vs.length ≤ 9223372036854775807) (ll : L.length ≤ 9223372036854775807) (lr : ∀ r ∈ L, r.length ≤ 9223372036854775807) :
    Calls Tryz.prog 36 #[t] w fun e w' => (∃ v, e = .returned v) ∧ Below B w w' := by
  obtain ⟨A, b, us, rfl, hA, hb, hr⟩ := hT
  have S0 : Hid (Sp B w.heap.size A b us (L.map (·.length)) vs.length (w.alloc (.cells #[A, b] 25))) := by
    refine ⟨heap_alloc _ _, World.ownsRow.alloc hb _, by simpa using hr.1, fun i h g => ?_, ⟨_, World.ownsRow.alloc hA _⟩⟩
    rw [List.getElem_map]
    exact ⟨_, World.ownsRow.alloc (hr.2 i h (by simpa using g)) _⟩
  have hul := hr.1
  obtain ⟨pA, nA, cA, rfl⟩ := slice_of hA
  obtain ⟨pb, nb, cb, rfl⟩ := slice_of hb
  have LN : Hid (∀ i (g : i < (L.map (·.length)).length), (L.map (·.length))[i] ≤ 9223372036854775807) := fun i g => by
    rw [List.getElem_map]
    exact lr _ (List.getElem_mem _)
  generalize L.map (·.length) = ls at S0 LN
  obtain ⟨n, en⟩ : ∃ n : Nat, Hid (us.length = n) := ⟨_, rfl⟩
  have en1 : nb = n := by
    have h := own_form hb
    obtain ⟨p, c, e, -⟩ := h
    injection e with _ e _
    rw [e, en.out]
  have em : nA = vs.length := by
    obtain ⟨p, c, e⟩ := (OwnS.strs hA).form
    injection e
  subst en1 em
  rw [← hul, en.out] at ll
  obtain ⟨m, em⟩ : ∃ m : Nat, Hid (vs.length = m) := ⟨_, rfl⟩
  rw [em.out] at S0 lv ⊢
  have B0 : Below B w (w.alloc (.cells #[.slice pA m cA, .slice pb nb cb] 25)) := (Below.refl _ _).alloc hB0 _
  clear hA hb hr hul lr
  go_enter Tryz.func36, Tryz.ntmps36
  go_wp2
  generalize w.alloc (.cells #[.slice pA m cA, .slice pb nb cb] 25) = W0 at S0 B0 ⊢
  go_loopw [2] (fun v wr => ∃ i : Nat, i ≤ nb ∧ v = .int .i64 i ∧ Hid (Sp B w.heap.size (.slice pA m cA) (.slice pb nb cb) us ls m wr) ∧ Below B w wr) (fun v _ => nb - (intOf v).toNat)
  case atStart => exact ⟨0, Nat.zero_le _, rfl, S0, B0⟩
  case round =>
    obtain ⟨i, hi, rfl, hS, hB⟩ := hrel
    have t1 := cell_of_heap hS.out.1 1 rfl
    by_cases hlt : i < nb
    · have kx : i < us.length := by have := en.out; omega
      have ky : i < ls.length := by have := hS.out.2.2.1; omega
      obtain ⟨ro, hro⟩ : ∃ ro : Nat, Hid (ls[i] = ro) := ⟨ls[i], (rfl : ls[i] = ls[i])⟩
      have lro : ro ≤ 9223372036854775807 := by have := LN.out i ky; rw [hro.out] at this; exact this
      clear t1
      obtain ⟨U, eU⟩ : ∃ U, Hid (us[i] = U) := ⟨us[i], (rfl : us[i] = us[i])⟩
      obtain ⟨ys0, hy0⟩ := hS.out.2.2.2.1 i kx ky
      obtain ⟨pu, nu, cu, hf⟩ := slice_of hy0
      rw [eU.out] at hf
      subst hf
      have enu : nu = ro := by
        rw [eU.out, hro.out] at hy0
        rcases hy0 with ⟨-, ⟨e, h⟩ | ⟨_, _, _, e, -⟩⟩
        · injection e with _ e _; omega
        · injection e
      subst enu
      have j0 : (0 : Int) ≤ (i : Int) := by omega
      have j1 : (i : Int) < (nb : Int) := by omega
      have OUT : Hid (∀ W, Sp B w.heap.size (.slice pA m cA) (.slice pb nb cb) us ls m W → ∃ gb, pb = some ⟨gb, 0, none⟩ ∧ gb < W.heap.size ∧ W.cell? ⟨gb, i, none⟩ = some (.slice pu nu cu)) := fun W h => by
        obtain ⟨p, c, e, h5⟩ := own_form h.2.1
        obtain ⟨g, h6, -, h7, h8⟩ := h5 i kx
        injection e with e1 e2 e3
        subst e1
        rw [eU.out] at h8
        exact ⟨g, h6, h7, h8⟩
      have ROW : Hid (∀ W, Sp B w.heap.size (.slice pA m cA) (.slice pb nb cb) us ls m W → ∃ ys, W.ownsRow B 57 4 (.slice pu nu cu) nu ys) := fun W h => by
        obtain ⟨ys, hy⟩ := h.2.2.2.1 i kx ky
        rw [eU.out, hro.out] at hy
        exact ⟨ys, hy⟩
      clear hy0
      obtain ⟨gb, rfl, -, -⟩ := OUT.out _ hS.out
      have t1 := cell_of_heap hS.out.1 1 rfl
      go_upto_region 4 with fail
      go_wp2
      go_loopw [3] (fun v wr => ∃ k : Nat, k ≤ nu ∧ v = .int .i64 k ∧ Hid (Sp B w.heap.size (.slice pA m cA) (.slice (some ⟨gb, 0, none⟩) nb cb) us ls m wr) ∧ Below B w wr) (fun v _ => nu - (intOf v).toNat)
      case atStart => exact ⟨0, Nat.zero_le _, rfl, hS, hB⟩
      case round =>
        clear t1 hS hB
        obtain ⟨k, hk, rfl, hS, hB⟩ := hrel
        have t1 := cell_of_heap hS.out.1 1 rfl
        obtain ⟨gb', e1, lgb, q1⟩ := OUT.out _ hS.out
        injection e1 with e1
        injection e1 with e1
        subst e1
        have hsB : B ≤ wr.heap.size := Nat.le_trans hB0 hB.size
        by_cases hlk : k < nu
        · obtain ⟨ys, hy⟩ := ROW.out _ hS.out
          rcases hy with ⟨-, ⟨-, h⟩ | ⟨gr, cap, cur, e, hBg, hcur, hnc, -, hsz, -⟩⟩
          · omega
          injection e with e1 _ e3
          subst e1 e3
          have HC : Hid (wr.heap[gr]? = some (.cells cur 57 (0, 0))) := hcur
          have z0 : k * 4 < cur.size := by rw [hsz]; omega
          have z1 : k * 4 + 1 < cur.size := by rw [hsz]; omega
          have z2 : k * 4 + 2 < cur.size := by rw [hsz]; omega
          have z3 : k * 4 + 3 < cur.size := by rw [hsz]; omega
          have grl : gr < wr.heap.size := (Array.getElem?_eq_some_iff.1 hcur).1
          have tl : w.heap.size < wr.heap.size := (Array.getElem?_eq_some_iff.1 hS.out.1).1
          have T1 : Hid (wr.heap[w.heap.size]? = some (.cells #[.slice pA m cA, .slice (some ⟨gb, 0, none⟩) nb cb] 25 (0, 0))) := hS.out.1
          have Q1 : Hid (wr.cell? ⟨gb, i, none⟩ = some (.slice (some ⟨gr, 0, none⟩) nu cu)) := q1
          have FACT : Hid (∀ W, Below wr.heap.size wr W → W.cell? ⟨w.heap.size, 1, none⟩ = some (.slice (some ⟨gb, 0, none⟩) nb cb) ∧ W.cell? ⟨gb, i, none⟩ = some (.slice (some ⟨gr, 0, none⟩) nu cu) ∧ W.cell? ⟨gr, k * 4, none⟩ = some cur[k * 4] ∧ W.cell? ⟨gr, k * 4 + 1, none⟩ = some cur[k * 4 + 1] ∧ W.cell? ⟨gr, k * 4 + 2, none⟩ = some cur[k * 4 + 2] ∧ W.cell? ⟨gr, k * 4 + 3, none⟩ = some cur[k * 4 + 3] ∧ W.frozen? ⟨gr, k * 4, none⟩ = false ∧ W.frozen? ⟨gr, k * 4 + 1, none⟩ = false ∧ W.frozen? ⟨gr, k * 4 + 2, none⟩ = false ∧ W.frozen? ⟨gr, k * 4 + 3, none⟩ = false) := fun W hW => by
            have h1 := (hW.block _ grl).trans HC.out
            have h2 := (hW.block _ tl).trans T1.out
            exact ⟨cell_of_heap h2 1 rfl, (hW.cell (p := ⟨gb, i, none⟩) lgb).trans Q1.out, cell_of_heap h1 _ (Array.getElem?_eq_getElem z0), cell_of_heap h1 _ (Array.getElem?_eq_getElem z1), cell_of_heap h1 _ (Array.getElem?_eq_getElem z2), cell_of_heap h1 _ (Array.getElem?_eq_getElem z3), frozen_of_heap h1 _, frozen_of_heap h1 _, frozen_of_heap h1 _, frozen_of_heap h1 _⟩
          generalize cur[k * 4] = o0 at FACT
          generalize cur[k * 4 + 1] = o1 at FACT
          generalize cur[k * 4 + 2] = o2 at FACT
          generalize cur[k * 4 + 3] = o3 at FACT
          have ONE : Hid (∀ W : World, Calls Tryz.prog 39 #[.int .i64 (-77)] W fun e w' => e = .returned (.agg #[.int .i64 1, .int .i64 (-77), .int .i64 0, .string ⟨#[]⟩]) ∧ Below W.heap.size W w') := fun W => one_any (-77) W
          have i1 : (0 : Int) ≤ (k : Int) := by omega
          have i2 : (k : Int) < (nu : Int) := by omega
          clear hcur
          go_upto_region 7 with fail
          go_region_with (go_at_call 39; refine (ONE.out _).mono ?_; rintro e v1 ⟨rfl, hv1⟩; obtain ⟨hw1, hn1⟩ := bg0 (n := wr.heap.size) (W0 := wr) (by go_grown) (by go_size) hv1; clear hv1; obtain ⟨x1, x2, x3, x4, x5, x6, x7, x8, x9, x10⟩ := FACT.out _ hw1)
          all_goals (
            have HS4 : Hid (Sp B w.heap.size (.slice pA m cA) (.slice (some ⟨gb, 0, none⟩) nb cb) us ls m ((((v1.setCell ⟨gr, k * 4, none⟩ (.int .i64 1)).setCell ⟨gr, k * 4 + 1, none⟩ (.int .i64 (-77))).setCell ⟨gr, k * 4 + 2, none⟩ (.int .i64 0)).setCell ⟨gr, k * 4 + 3, none⟩ (.string ⟨#[]⟩))) := Sp.set4 (hS.out.below hw1) ((hw1.block _ grl).trans HC.out) (by decide) (by decide) _ _ _ _ _ _ _ _
            have BB : Below B w v1 := hB.trans (hw1.mono hsB)
            have HB4 : Below B w ((((v1.setCell ⟨gr, k * 4, none⟩ (.int .i64 1)).setCell ⟨gr, k * 4 + 1, none⟩ (.int .i64 (-77))).setCell ⟨gr, k * 4 + 2, none⟩ (.int .i64 0)).setCell ⟨gr, k * 4 + 3, none⟩ (.string ⟨#[]⟩)) := below_set1 (below_set1 (below_set1 (below_set1 BB hB0 hBg _ _) hB0 hBg _ _) hB0 hBg _ _) hB0 hBg _ _
            clear x1 x2 x3 x4 x5 x6 x7 x8 x9 x10 hw1 hn1 FACT HC T1 Q1 hS BB
            go_wp2
            exact ⟨⟨k + 1, by omega, by go_num, HS4, HB4⟩, by simp [intOf]; omega⟩)
        · have c2 : ¬ (k : Int) < nu := by omega
          go_wp2
          exact ⟨⟨i + 1, by omega, by go_num, hS, hB⟩, by simp [intOf]; omega⟩
    · have c2 : ¬ (i : Int) < nb := by omega
      go_wp2
      clear t1
      go_loopw [4] (fun v wr => ∃ i : Nat, i ≤ m ∧ v = .int .i64 i ∧ Hid (Sp B w.heap.size (.slice pA m cA) (.slice pb nb cb) us ls m wr) ∧ Below B w wr) (fun v _ => m - (intOf v).toNat)
      case atStart => exact ⟨0, Nat.zero_le _, rfl, hS, hB⟩
      case round =>
        clear hS hB
        obtain ⟨k, hk, rfl, hS, hB⟩ := hrel
        have t0 := cell_of_heap hS.out.1 0 rfl
        by_cases hlk : k < m
        · obtain ⟨zs, hy⟩ := hS.out.2.2.2.2
          rcases hy with ⟨-, ⟨-, h⟩ | ⟨gr, cap, cur, e, hBg, hcur, hnc, -, hsz, -⟩⟩
          · omega
          injection e with e1 _ e3
          subst e1 e3
          have z0 : k < cur.size := by rw [hsz]; omega
          have x0 := cell_of_heap hcur k (Array.getElem?_eq_getElem z0)
          have f0 := frozen_of_heap hcur k
          have HS4 : Hid (Sp B w.heap.size (.slice (some ⟨gr, 0, none⟩) m cA) (.slice pb nb cb) us ls m (wr.setCell ⟨gr, k, none⟩ (.string ⟨#[64]⟩))) := (hS.out.set hcur (by decide) (by decide) k (.string ⟨#[64]⟩)).1
          have HB4 : Below B w (wr.setCell ⟨gr, k, none⟩ (.string ⟨#[64]⟩)) := below_set1 hB hB0 hBg _ _
          generalize cur[k] = o0 at x0
          have i1 : (0 : Int) ≤ (k : Int) := by omega
          have i2 : (k : Int) < (m : Int) := by omega
          clear hS hcur hsz
          go_wp2
          exact ⟨⟨k + 1, by omega, by go_num, HS4, HB4⟩, by simp [intOf]; omega⟩
        · have c3 : ¬ (k : Int) < m := by omega
          go_wp2
          go_end0
          exact ⟨⟨_, rfl⟩, hB⟩

end Go.Proofs.YteipohpfaofchabGreat

namespace Go.Proofs.YteipohpfaofchabGreat
open Go.RowKit Go.Shelf Go.Sort
set_option linter.unusedVariables false

theorem rowsS_comm : ∀ xs ys : List (List Val), rowsS xs ys = rowsS ys xs
  | [], [] => rfl
  | [], _ :: _ => rfl
  | _ :: _, [] => rfl
  | x :: xs, y :: ys => by simp only [rowsS]; rw [rowS_comm x y, rowsS_comm xs ys]
theorem rowsS_refl : ∀ xs : List (List Val), rowsS xs xs = true
  | [] => rfl
  | x :: xs => by simp only [rowsS]; rw [(rowS_iff).2 rfl, rowsS_refl xs]; rfl

end Go.Proofs.YteipohpfaofchabGreat

namespace Go.Proofs.YteipohpfaofchabGreat
open Go.RowKit Go.Shelf Go.Sort
set_option linter.unusedVariables false

set_option maxRecDepth 100000 in
set_option maxHeartbeats 4000000 in
theorem is_any {B B' : Nat} {t u : Value} {vs : List ByteArray} {L : List (List Val)} {E : Int} {w : World} (hT : OwnT B t vs L w) (hU : OwnT B' u vs L w) (hB : B ≤ w.heap.size) (f : ∀ r ∈ L, ∀ v ∈ r, v.Fits) (lv : vs.length ≤ 9223372036854775807) (ll : L.length ≤ 9223372036854775807) (lr : ∀ r ∈ L, r.length ≤ 9223372036854775807) :
    Calls Tryz.prog 13 #[t, .int .i64 E, u, .int .i64 E] w fun e w' => e = .returned (.bool true) ∧ Below B w w' := by
  obtain ⟨pa, na, ca, pb, nb, cb, rfl⟩ := own_forms2 hT
  obtain ⟨qa, ma, da, qb, mb, db, rfl⟩ := own_forms2 hU
  have SAM : Hid (∀ W, Below w.heap.size w W → Calls Tryz.prog 15 #[.agg #[.slice pa na ca, .slice pb nb cb], .agg #[.slice qa ma da, .slice qb mb db]] W fun e w' => e = .returned (.bool true) ∧ Below W.heap.size W w') := fun W hW => by
    have h1 := own_two (hT.grown hW)
    have h2 := own_two (hU.grown hW)
    have h := dsame_any h1.1 h2.1 h1.2 h2.2 lv lv f f lr ll ll
    rw [rowsS_refl, show decide (vs = vs) = true by simp] at h
    exact h
  have SPO : Hid (∀ W, Below w.heap.size w W → Calls Tryz.prog 36 #[.agg #[.slice pa na ca, .slice pb nb cb]] W fun e w' => (∃ v, e = .returned v) ∧ Below B W w') := fun W hW => spoil_any (hT.grown hW) (Nat.le_trans hB hW.size) lv ll lr
  clear hT hU f lv ll lr
  go_enter Tryz.func13, Tryz.ntmps13
  go_wp2_with fail
  refine (SAM.out _ (by go_grown)).mono ?_
  rintro e w1 ⟨rfl, hb1⟩
  have K1 : Below w.heap.size w w1 := by
    obtain ⟨hw1, -⟩ := bg0 (n := w.heap.size) (W0 := w) (by go_grown) (by go_size) hb1
    exact hw1
  have a0 : w1.cell? ⟨w.heap.size, 0, none⟩ = some (.slice pa na ca) := (hb1.cell (p := ⟨w.heap.size, 0, none⟩) (by simp; omega)).trans (by simp (maxDischargeDepth := 8) [go_sem])
  have a1 : w1.cell? ⟨w.heap.size, 1, none⟩ = some (.slice pb nb cb) := (hb1.cell (p := ⟨w.heap.size, 1, none⟩) (by simp; omega)).trans (by simp (maxDischargeDepth := 8) [go_sem])
  clear hb1 SAM
  go_wp2_with fail
  refine (SPO.out _ K1).mono ?_
  rintro e w2 ⟨⟨v, rfl⟩, hb2⟩
  have K2 : Below B w w2 := (K1.mono hB).trans hb2
  clear a0 a1 hb2 SPO K1
  go_wp2
  go_ret
  exact ⟨rfl, K2⟩

end Go.Proofs.YteipohpfaofchabGreat

namespace Go.Proofs.YteipohpfaofchabGreat
open Go.RowKit Go.Shelf Go.Sort
set_option linter.unusedVariables false

/-- From a block on all that was there is as it was. -/
def Fr (T0 : Nat) (w w' : World) : Prop := w.heap.size ≤ w'.heap.size ∧ ∀ q, T0 ≤ q → q < w.heap.size → w'.heap[q]? = w.heap[q]?
theorem Fr.alloc (T0 : Nat) (w : World) (o : Obj) : Fr T0 w (w.alloc o) := ⟨by simp, fun q _ h => by
  have hb : Below w.heap.size w (w.alloc o) := (Below.refl _ _).alloc (Nat.le_refl _) _
  exact hb.block q h⟩
theorem Fr.below {T0 : Nat} {w w1 w2 : World} (h : Fr T0 w w1) (hb : Below w1.heap.size w1 w2) : Fr T0 w w2 := ⟨Nat.le_trans h.1 hb.size, fun q h1 h2 => (hb.block q (Nat.lt_of_lt_of_le h2 h.1)).trans (h.2 q h1 h2)⟩
theorem Fr.set {T0 : Nat} {w w1 : World} (h : Fr T0 w w1) {g : Nat} (hg : g < T0) (o : Nat) (u : Value) : Fr T0 w (w1.setCell ⟨g, o, none⟩ u) := by
  have hgb := grownBy_setCell w1 g o u
  refine ⟨Nat.le_trans h.1 hgb.size, fun q h1 h2 => ?_⟩
  exact (hgb.block q (Nat.lt_of_lt_of_le h2 h.1) (fun e => by injection e with e; omega)).trans (h.2 q h1 h2)
theorem Fr.own {T0 B e size n : Nat} {v : Value} {xs : List Value} {w w' : World} (h : Fr T0 w w') (ho : w.ownsRow B e size v n xs) (hB : T0 ≤ B) : w'.ownsRow B e size v n xs := by
  obtain ⟨h0, h1⟩ := ho
  refine ⟨h0, ?_⟩
  rcases h1 with h1 | ⟨g, cap, cur, rfl, a, b, c⟩
  · exact Or.inl h1
  · exact Or.inr ⟨g, cap, cur, rfl, a, (h.2 g (Nat.le_trans hB a) (Array.getElem?_eq_some_iff.1 b).1).trans b, c⟩
theorem Fr.tab {T0 B : Nat} {t : Value} {vs : List ByteArray} {L : List (List Val)} {w w' : World} (h : Fr T0 w w') (ht : OwnT B t vs L w) (hB : T0 ≤ B) : OwnT B t vs L w' := by
  obtain ⟨a, b, us, rfl, h1, h2, h3⟩ := ht
  exact ⟨a, b, us, rfl, h.own h1 hB, h.own h2 hB, h3.1, fun i p q => h.own (h3.2 i p q) hB⟩
theorem Fr.var {T0 g : Nat} {V R : Value} {w w' : World} (h : Fr T0 w w') (hv : Var w g V R) (hg : T0 ≤ g) : Var w' g V R := (h.2 g hg (Array.getElem?_eq_some_iff.1 hv).1).trans hv
/-- A table of one's own whose blocks lie ahead of a place. -/
def OwnU (B T0 : Nat) (t : Value) (vs : List ByteArray) (L : List (List Val)) (w : World) : Prop := ∃ a b us, t = .agg #[a, b] ∧ OwnS B a vs w ∧ w.ownsRow B 40 1 b us.length us ∧ OwnRs B us L w ∧ (∀ q, a.ownBlock = some q → q < T0) ∧ ∀ u ∈ us, ∀ q, u.ownBlock = some q → q < T0
theorem OwnT.upto {B : Nat} {t : Value} {vs : List ByteArray} {L : List (List Val)} {w : World} (h : OwnT B t vs L w) : OwnU B w.heap.size t vs L w := by
  obtain ⟨a, b, us, rfl, h1, h2, h3⟩ := h
  refine ⟨a, b, us, rfl, h1, h2, h3, fun q hq => (World.ownsRow.lt h1 q hq).2, fun u hu q hq => ?_⟩
  obtain ⟨i, hi, rfl⟩ := List.getElem_of_mem hu
  exact (World.ownsRow.lt (h3.2 i hi (by have := h3.1; omega)) q hq).2
theorem OwnU.grown {B T0 : Nat} {t : Value} {vs : List ByteArray} {L : List (List Val)} {w w' : World} (h : OwnU B T0 t vs L w) (hb : Below w.heap.size w w') : OwnU B T0 t vs L w' := by
  obtain ⟨a, b, us, rfl, h1, h2, h3, h4, h5⟩ := h
  exact ⟨a, b, us, rfl, own_below h1 hb, own_below h2 hb, h3.below hb, h4, h5⟩
theorem OwnU.own {B T0 : Nat} {t : Value} {vs : List ByteArray} {L : List (List Val)} {w : World} (h : OwnU B T0 t vs L w) : OwnT B t vs L w := by
  obtain ⟨a, b, us, rfl, h1, h2, h3, -, -⟩ := h
  exact ⟨a, b, us, rfl, h1, h2, h3⟩

set_option maxRecDepth 100000 in
set_option maxHeartbeats 8000000 in
theorem spoil_fr {B T0 : Nat} {t : Value} {vs : List ByteArray} {L : List (List Val)} {w : World} (hT : OwnU B T0 t vs L w) (hB0 : B ≤ w.heap.size) (lv : vs.length ≤ 9223372036854775807) (ll : L.length ≤ 9223372036854775807) (lr : ∀ r ∈ L, r.length ≤ 9223372036854775807) :
    Calls Tryz.prog 36 #[t] w fun e w' => (∃ v, e = .returned v) ∧ Below B w w' ∧ Fr T0 w w' := by
  obtain ⟨A, b, us, rfl, hA, hb, hr, hup1, hup2⟩ := hT
  have UP1 : Hid (∀ q, A.ownBlock = some q → q < T0) := hup1
  have UP2 : Hid (∀ u ∈ us, ∀ q, u.ownBlock = some q → q < T0) := hup2
  clear hup1 hup2
  have S0 : Hid (Sp B w.heap.size A b us (L.map (·.length)) vs.length (w.alloc (.cells #[A, b] 25))) := by
    refine ⟨heap_alloc _ _, World.ownsRow.alloc hb _, by simpa using hr.1, fun i h g => ?_, ⟨_, World.ownsRow.alloc hA _⟩⟩
    rw [List.getElem_map]
    exact ⟨_, World.ownsRow.alloc (hr.2 i h (by simpa using g)) _⟩
  have hul := hr.1
  obtain ⟨pA, nA, cA, rfl⟩ := slice_of hA
  obtain ⟨pb, nb, cb, rfl⟩ := slice_of hb
  have LN : Hid (∀ i (g : i < (L.map (·.length)).length), (L.map (·.length))[i] ≤ 9223372036854775807) := fun i g => by
    rw [List.getElem_map]
    exact lr _ (List.getElem_mem _)
  generalize L.map (·.length) = ls at S0 LN
  obtain ⟨n, en⟩ : ∃ n : Nat, Hid (us.length = n) := ⟨_, rfl⟩
  have en1 : nb = n := by
    have h := own_form hb
    obtain ⟨p, c, e, -⟩ := h
    injection e with _ e _
    rw [e, en.out]
  have em : nA = vs.length := by
    obtain ⟨p, c, e⟩ := (OwnS.strs hA).form
    injection e
  subst en1 em
  rw [← hul, en.out] at ll
  obtain ⟨m, em⟩ : ∃ m : Nat, Hid (vs.length = m) := ⟨_, rfl⟩
  rw [em.out] at S0 lv ⊢
  have B0 : Below B w (w.alloc (.cells #[.slice pA m cA, .slice pb nb cb] 25)) := (Below.refl _ _).alloc hB0 _
  have F0 : Hid (Fr T0 w (w.alloc (.cells #[.slice pA m cA, .slice pb nb cb] 25))) := Fr.alloc _ _ _
  rw [em.out] at UP1
  clear hA hb hr hul lr
  go_enter Tryz.func36, Tryz.ntmps36
  go_wp2
  generalize w.alloc (.cells #[.slice pA m cA, .slice pb nb cb] 25) = W0 at S0 B0 F0 ⊢
  go_loopw [2] (fun v wr => ∃ i : Nat, i ≤ nb ∧ v = .int .i64 i ∧ Hid (Sp B w.heap.size (.slice pA m cA) (.slice pb nb cb) us ls m wr) ∧ Hid (Fr T0 w wr) ∧ Below B w wr) (fun v _ => nb - (intOf v).toNat)
  case atStart => exact ⟨0, Nat.zero_le _, rfl, S0, F0, B0⟩
  case round =>
    obtain ⟨i, hi, rfl, hS, hF, hB⟩ := hrel
    have t1 := cell_of_heap hS.out.1 1 rfl
    by_cases hlt : i < nb
    · have kx : i < us.length := by have := en.out; omega
      have ky : i < ls.length := by have := hS.out.2.2.1; omega
      obtain ⟨ro, hro⟩ : ∃ ro : Nat, Hid (ls[i] = ro) := ⟨ls[i], (rfl : ls[i] = ls[i])⟩
      have lro : ro ≤ 9223372036854775807 := by have := LN.out i ky; rw [hro.out] at this; exact this
      clear t1
      obtain ⟨U, eU⟩ : ∃ U, Hid (us[i] = U) := ⟨us[i], (rfl : us[i] = us[i])⟩
      obtain ⟨ys0, hy0⟩ := hS.out.2.2.2.1 i kx ky
      obtain ⟨pu, nu, cu, hf⟩ := slice_of hy0
      rw [eU.out] at hf
      subst hf
      have enu : nu = ro := by
        rw [eU.out, hro.out] at hy0
        rcases hy0 with ⟨-, ⟨e, h⟩ | ⟨_, _, _, e, -⟩⟩
        · injection e with _ e _; omega
        · injection e
      subst enu
      have j0 : (0 : Int) ≤ (i : Int) := by omega
      have j1 : (i : Int) < (nb : Int) := by omega
      have OUT : Hid (∀ W, Sp B w.heap.size (.slice pA m cA) (.slice pb nb cb) us ls m W → ∃ gb, pb = some ⟨gb, 0, none⟩ ∧ gb < W.heap.size ∧ W.cell? ⟨gb, i, none⟩ = some (.slice pu nu cu)) := fun W h => by
        obtain ⟨p, c, e, h5⟩ := own_form h.2.1
        obtain ⟨g, h6, -, h7, h8⟩ := h5 i kx
        injection e with e1 e2 e3
        subst e1
        rw [eU.out] at h8
        exact ⟨g, h6, h7, h8⟩
      have ROW : Hid (∀ W, Sp B w.heap.size (.slice pA m cA) (.slice pb nb cb) us ls m W → ∃ ys, W.ownsRow B 57 4 (.slice pu nu cu) nu ys) := fun W h => by
        obtain ⟨ys, hy⟩ := h.2.2.2.1 i kx ky
        rw [eU.out, hro.out] at hy
        exact ⟨ys, hy⟩
      clear hy0
      obtain ⟨gb, rfl, -, -⟩ := OUT.out _ hS.out
      have t1 := cell_of_heap hS.out.1 1 rfl
      go_upto_region 4 with fail
      go_wp2
      go_loopw [3] (fun v wr => ∃ k : Nat, k ≤ nu ∧ v = .int .i64 k ∧ Hid (Sp B w.heap.size (.slice pA m cA) (.slice (some ⟨gb, 0, none⟩) nb cb) us ls m wr) ∧ Hid (Fr T0 w wr) ∧ Below B w wr) (fun v _ => nu - (intOf v).toNat)
      case atStart => exact ⟨0, Nat.zero_le _, rfl, hS, hF, hB⟩
      case round =>
        clear t1 hS hF hB
        obtain ⟨k, hk, rfl, hS, hF, hB⟩ := hrel
        have t1 := cell_of_heap hS.out.1 1 rfl
        obtain ⟨gb', e1, lgb, q1⟩ := OUT.out _ hS.out
        injection e1 with e1
        injection e1 with e1
        subst e1
        have hsB : B ≤ wr.heap.size := Nat.le_trans hB0 hB.size
        by_cases hlk : k < nu
        · obtain ⟨ys, hy⟩ := ROW.out _ hS.out
          rcases hy with ⟨-, ⟨-, h⟩ | ⟨gr, cap, cur, e, hBg, hcur, hnc, -, hsz, -⟩⟩
          · omega
          injection e with e1 _ e3
          subst e1 e3
          have HC : Hid (wr.heap[gr]? = some (.cells cur 57 (0, 0))) := hcur
          have z0 : k * 4 < cur.size := by rw [hsz]; omega
          have z1 : k * 4 + 1 < cur.size := by rw [hsz]; omega
          have z2 : k * 4 + 2 < cur.size := by rw [hsz]; omega
          have z3 : k * 4 + 3 < cur.size := by rw [hsz]; omega
          have grl : gr < wr.heap.size := (Array.getElem?_eq_some_iff.1 hcur).1
          have tl : w.heap.size < wr.heap.size := (Array.getElem?_eq_some_iff.1 hS.out.1).1
          have T1 : Hid (wr.heap[w.heap.size]? = some (.cells #[.slice pA m cA, .slice (some ⟨gb, 0, none⟩) nb cb] 25 (0, 0))) := hS.out.1
          have Q1 : Hid (wr.cell? ⟨gb, i, none⟩ = some (.slice (some ⟨gr, 0, none⟩) nu cu)) := q1
          have FACT : Hid (∀ W, Below wr.heap.size wr W → W.cell? ⟨w.heap.size, 1, none⟩ = some (.slice (some ⟨gb, 0, none⟩) nb cb) ∧ W.cell? ⟨gb, i, none⟩ = some (.slice (some ⟨gr, 0, none⟩) nu cu) ∧ W.cell? ⟨gr, k * 4, none⟩ = some cur[k * 4] ∧ W.cell? ⟨gr, k * 4 + 1, none⟩ = some cur[k * 4 + 1] ∧ W.cell? ⟨gr, k * 4 + 2, none⟩ = some cur[k * 4 + 2] ∧ W.cell? ⟨gr, k * 4 + 3, none⟩ = some cur[k * 4 + 3] ∧ W.frozen? ⟨gr, k * 4, none⟩ = false ∧ W.frozen? ⟨gr, k * 4 + 1, none⟩ = false ∧ W.frozen? ⟨gr, k * 4 + 2, none⟩ = false ∧ W.frozen? ⟨gr, k * 4 + 3, none⟩ = false) := fun W hW => by
            have h1 := (hW.block _ grl).trans HC.out
            have h2 := (hW.block _ tl).trans T1.out
            exact ⟨cell_of_heap h2 1 rfl, (hW.cell (p := ⟨gb, i, none⟩) lgb).trans Q1.out, cell_of_heap h1 _ (Array.getElem?_eq_getElem z0), cell_of_heap h1 _ (Array.getElem?_eq_getElem z1), cell_of_heap h1 _ (Array.getElem?_eq_getElem z2), cell_of_heap h1 _ (Array.getElem?_eq_getElem z3), frozen_of_heap h1 _, frozen_of_heap h1 _, frozen_of_heap h1 _, frozen_of_heap h1 _⟩
          generalize cur[k * 4] = o0 at FACT
          generalize cur[k * 4 + 1] = o1 at FACT
          generalize cur[k * 4 + 2] = o2 at FACT
          generalize cur[k * 4 + 3] = o3 at FACT
          have ONE : Hid (∀ W : World, Calls Tryz.prog 39 #[.int .i64 (-77)] W fun e w' => e = .returned (.agg #[.int .i64 1, .int .i64 (-77), .int .i64 0, .string ⟨#[]⟩]) ∧ Below W.heap.size W w') := fun W => one_any (-77) W
          have i1 : (0 : Int) ≤ (k : Int) := by omega
          have i2 : (k : Int) < (nu : Int) := by omega
          clear hcur
          go_upto_region 7 with fail
          go_region_with (go_at_call 39; refine (ONE.out _).mono ?_; rintro e v1 ⟨rfl, hv1⟩; obtain ⟨hw1, hn1⟩ := bg0 (n := wr.heap.size) (W0 := wr) (by go_grown) (by go_size) hv1; clear hv1; obtain ⟨x1, x2, x3, x4, x5, x6, x7, x8, x9, x10⟩ := FACT.out _ hw1)
          all_goals (
            have HS4 : Hid (Sp B w.heap.size (.slice pA m cA) (.slice (some ⟨gb, 0, none⟩) nb cb) us ls m ((((v1.setCell ⟨gr, k * 4, none⟩ (.int .i64 1)).setCell ⟨gr, k * 4 + 1, none⟩ (.int .i64 (-77))).setCell ⟨gr, k * 4 + 2, none⟩ (.int .i64 0)).setCell ⟨gr, k * 4 + 3, none⟩ (.string ⟨#[]⟩))) := Sp.set4 (hS.out.below hw1) ((hw1.block _ grl).trans HC.out) (by decide) (by decide) _ _ _ _ _ _ _ _
            have gT : gr < T0 := UP2.out (.slice (some ⟨gr, 0, none⟩) nu cu) (by rw [← eU.out]; exact List.getElem_mem kx) gr rfl
            have HF4 : Hid (Fr T0 w ((((v1.setCell ⟨gr, k * 4, none⟩ (.int .i64 1)).setCell ⟨gr, k * 4 + 1, none⟩ (.int .i64 (-77))).setCell ⟨gr, k * 4 + 2, none⟩ (.int .i64 0)).setCell ⟨gr, k * 4 + 3, none⟩ (.string ⟨#[]⟩))) := ((((hF.out.below hw1).set gT _ _).set gT _ _).set gT _ _).set gT _ _
            have BB : Below B w v1 := hB.trans (hw1.mono hsB)
            have HB4 : Below B w ((((v1.setCell ⟨gr, k * 4, none⟩ (.int .i64 1)).setCell ⟨gr, k * 4 + 1, none⟩ (.int .i64 (-77))).setCell ⟨gr, k * 4 + 2, none⟩ (.int .i64 0)).setCell ⟨gr, k * 4 + 3, none⟩ (.string ⟨#[]⟩)) := below_set1 (below_set1 (below_set1 (below_set1 BB hB0 hBg _ _) hB0 hBg _ _) hB0 hBg _ _) hB0 hBg _ _
            clear x1 x2 x3 x4 x5 x6 x7 x8 x9 x10 hw1 hn1 FACT HC T1 Q1 hS BB hF
            go_wp2
            exact ⟨⟨k + 1, by omega, by go_num, HS4, HF4, HB4⟩, by simp [intOf]; omega⟩)
        · have c2 : ¬ (k : Int) < nu := by omega
          go_wp2
          exact ⟨⟨i + 1, by omega, by go_num, hS, hF, hB⟩, by simp [intOf]; omega⟩
    · have c2 : ¬ (i : Int) < nb := by omega
      go_wp2
      clear t1
      go_loopw [4] (fun v wr => ∃ i : Nat, i ≤ m ∧ v = .int .i64 i ∧ Hid (Sp B w.heap.size (.slice pA m cA) (.slice pb nb cb) us ls m wr) ∧ Hid (Fr T0 w wr) ∧ Below B w wr) (fun v _ => m - (intOf v).toNat)
      case atStart => exact ⟨0, Nat.zero_le _, rfl, hS, hF, hB⟩
      case round =>
        clear hS hF hB
        obtain ⟨k, hk, rfl, hS, hF, hB⟩ := hrel
        have t0 := cell_of_heap hS.out.1 0 rfl
        by_cases hlk : k < m
        · obtain ⟨zs, hy⟩ := hS.out.2.2.2.2
          rcases hy with ⟨-, ⟨-, h⟩ | ⟨gr, cap, cur, e, hBg, hcur, hnc, -, hsz, -⟩⟩
          · omega
          injection e with e1 _ e3
          subst e1 e3
          have z0 : k < cur.size := by rw [hsz]; omega
          have x0 := cell_of_heap hcur k (Array.getElem?_eq_getElem z0)
          have f0 := frozen_of_heap hcur k
          have HS4 : Hid (Sp B w.heap.size (.slice (some ⟨gr, 0, none⟩) m cA) (.slice pb nb cb) us ls m (wr.setCell ⟨gr, k, none⟩ (.string ⟨#[64]⟩))) := (hS.out.set hcur (by decide) (by decide) k (.string ⟨#[64]⟩)).1
          have gT : gr < T0 := UP1.out gr rfl
          have HF4 : Hid (Fr T0 w (wr.setCell ⟨gr, k, none⟩ (.string ⟨#[64]⟩))) := hF.out.set gT _ _
          have HB4 : Below B w (wr.setCell ⟨gr, k, none⟩ (.string ⟨#[64]⟩)) := below_set1 hB hB0 hBg _ _
          generalize cur[k] = o0 at x0
          have i1 : (0 : Int) ≤ (k : Int) := by omega
          have i2 : (k : Int) < (m : Int) := by omega
          clear hS hcur hsz
          go_wp2
          exact ⟨⟨k + 1, by omega, by go_num, HS4, HF4, HB4⟩, by simp [intOf]; omega⟩
        · have c3 : ¬ (k : Int) < m := by omega
          go_wp2
          go_end0
          exact ⟨⟨_, rfl⟩, hB, hF.out⟩

set_option maxRecDepth 100000 in
set_option maxHeartbeats 4000000 in
theorem is_fr {B B' T0 : Nat} {t u : Value} {vs : List ByteArray} {L : List (List Val)} {E : Int} {w : World} (hT0 : OwnU B T0 t vs L w) (hU : OwnT B' u vs L w) (hB : B ≤ w.heap.size) (f : ∀ r ∈ L, ∀ v ∈ r, v.Fits) (lv : vs.length ≤ 9223372036854775807) (ll : L.length ≤ 9223372036854775807) (lr : ∀ r ∈ L, r.length ≤ 9223372036854775807) :
    Calls Tryz.prog 13 #[t, .int .i64 E, u, .int .i64 E] w fun e w' => e = .returned (.bool true) ∧ Below B w w' ∧ Fr T0 w w' := by
  have hT := hT0.own
  obtain ⟨pa, na, ca, pb, nb, cb, rfl⟩ := own_forms2 hT
  obtain ⟨qa, ma, da, qb, mb, db, rfl⟩ := own_forms2 hU
  have SAM : Hid (∀ W, Below w.heap.size w W → Calls Tryz.prog 15 #[.agg #[.slice pa na ca, .slice pb nb cb], .agg #[.slice qa ma da, .slice qb mb db]] W fun e w' => e = .returned (.bool true) ∧ Below W.heap.size W w') := fun W hW => by
    have h1 := own_two (hT.grown hW)
    have h2 := own_two (hU.grown hW)
    have h := dsame_any h1.1 h2.1 h1.2 h2.2 lv lv f f lr ll ll
    rw [rowsS_refl, show decide (vs = vs) = true by simp] at h
    exact h
  have SPO : Hid (∀ W, Below w.heap.size w W → Calls Tryz.prog 36 #[.agg #[.slice pa na ca, .slice pb nb cb]] W fun e w' => (∃ v, e = .returned v) ∧ Below B W w' ∧ Fr T0 W w') := fun W hW => spoil_fr (hT0.grown hW) (Nat.le_trans hB hW.size) lv ll lr
  clear hT hT0 hU f lv ll lr
  go_enter Tryz.func13, Tryz.ntmps13
  go_wp2_with fail
  refine (SAM.out _ (by go_grown)).mono ?_
  rintro e w1 ⟨rfl, hb1⟩
  have K1 : Below w.heap.size w w1 := by
    obtain ⟨hw1, -⟩ := bg0 (n := w.heap.size) (W0 := w) (by go_grown) (by go_size) hb1
    exact hw1
  have a0 : w1.cell? ⟨w.heap.size, 0, none⟩ = some (.slice pa na ca) := (hb1.cell (p := ⟨w.heap.size, 0, none⟩) (by simp; omega)).trans (by simp (maxDischargeDepth := 8) [go_sem])
  have a1 : w1.cell? ⟨w.heap.size, 1, none⟩ = some (.slice pb nb cb) := (hb1.cell (p := ⟨w.heap.size, 1, none⟩) (by simp; omega)).trans (by simp (maxDischargeDepth := 8) [go_sem])
  clear hb1 SAM
  go_wp2_with fail
  refine (SPO.out _ K1).mono ?_
  rintro e w2 ⟨⟨v, rfl⟩, hb2, hf2⟩
  have K2 : Below B w w2 := (K1.mono hB).trans hb2
  have F2 : Hid (Fr T0 w w2) := ⟨Nat.le_trans K1.size hf2.1, fun q h1 h2 => (hf2.2 q h1 (Nat.lt_of_lt_of_le h2 K1.size)).trans (K1.block q h2)⟩
  clear a0 a1 hb2 hf2 SPO K1
  go_wp2
  go_ret
  exact ⟨rfl, K2, F2.out⟩

end Go.Proofs.YteipohpfaofchabGreat

namespace Go.Proofs.YteipohpfaofchabGreat
open Go.RowKit Go.Shelf Go.Sort
set_option linter.unusedVariables false

/-- copied, in the form of the walks. -/
theorem copied_two {V R : Value} {vs : List ByteArray} {rs : List (List Val)} {w : World} (hV : StrsAt w V vs) (hA : TabRows w R rs) (bv : vs.length * 16 ≤ 140737488355328) (br : rs.length * 24 ≤ 140737488355328) (bs : ∀ r ∈ rs, r.length * 40 ≤ 140737488355328) :
    Calls Tryz.prog 8 #[.agg #[V, R]] w fun e w' => ∃ pa na ca pb nb cb, e = .returned (.agg #[.slice pa na ca, .slice pb nb cb]) ∧ OwnT w.heap.size (.agg #[.slice pa na ca, .slice pb nb cb]) vs rs w' ∧ Below w.heap.size w w' := by
  refine (copied_any hV hA bv br bs).mono ?_
  rintro e w' ⟨t, rfl, ht, hb⟩
  obtain ⟨p, c, p', c', rfl⟩ := own_forms ht
  exact ⟨_, _, _, _, _, _, rfl, ht, hb⟩

end Go.Proofs.YteipohpfaofchabGreat

namespace Go.Proofs.YteipohpfaofchabGreat
open Go.RowKit Go.Shelf Go.Sort
set_option linter.unusedVariables false

theorem strs_litN (W : World) (l : List ByteArray) : StrsAt (W.alloc (.cells (l.map Value.string).toArray 9)) (.slice (some ⟨W.heap.size, 0, none⟩) l.length l.length) l := by
  refine ⟨_, l.length, rfl, Or.inr ⟨W.heap.size, 0, rfl, by simp, fun i hi => ?_⟩⟩
  rw [Nat.zero_add]
  exact cell_of_heap (heap_alloc W _) i (by simp [hi])

def n9 : List ByteArray := [⟨#[97]⟩, ⟨#[98]⟩, ⟨#[99]⟩, ⟨#[100]⟩, ⟨#[101]⟩, ⟨#[102]⟩, ⟨#[103]⟩, ⟨#[104]⟩, ⟨#[105]⟩]
def n8 : List ByteArray := [⟨#[104]⟩, ⟨#[103]⟩, ⟨#[102]⟩, ⟨#[101]⟩, ⟨#[100]⟩, ⟨#[99]⟩, ⟨#[98]⟩, ⟨#[97]⟩]
theorem k_n9 : ofChk n9 [] = 30 := by kernel_rfl
theorem k_n8 : ofChk n8 [] = 0 ∧ madeS n8 = [⟨#[97]⟩, ⟨#[98]⟩, ⟨#[99]⟩, ⟨#[100]⟩, ⟨#[101]⟩, ⟨#[102]⟩, ⟨#[103]⟩, ⟨#[104]⟩] := ⟨by kernel_rfl, by kernel_rfl⟩
theorem cap_lit {g k : Nat} : ∀ p n c, Value.slice (some ⟨g, 0, none⟩) k k = .slice p n c → n ≤ c := by
  intro p n c e
  injection e with _ e1 e2
  omega

end Go.Proofs.YteipohpfaofchabGreat

namespace Go.Proofs.YteipohpfaofchabGreat
open Go.RowKit Go.Shelf Go.Sort
set_option linter.unusedVariables false

theorem own_cap {w : World} {B e size m : Nat} {v : Value} {xs : List Value} (h : w.ownsRow B e size v m xs) : ∀ p n c, v = .slice p n c → n ≤ c := by
  rcases h with ⟨-, ⟨rfl, -⟩ | ⟨g, cap, cur, rfl, -, -, hn, -⟩⟩
  · intro p n c e; injection e with _ e1 e2; omega
  · intro p n c e; injection e with _ e1 e2; omega
theorem tof_told {V R : Value} {vs : List ByteArray} {us : List Value} {rs : List (List Val)} {w : World} (hV : StrsAt w V vs) (hc : ∀ p n c, V = .slice p n c → n ≤ c) (hR : ValsAt w R us) (hrs : RowsOf w us rs) (fx : ∀ r ∈ rs, ∀ v ∈ r, v.Fits) (lr : ∀ r ∈ rs, r.length ≤ 9223372036854775807) (lv : vs.length ≤ 9223372036854775807) (lu : us.length ≤ 5864062014805) :
    Calls Tryz.prog 38 #[V, R] w (TellsT w.heap.size (ofChk vs rs) (madeS vs) (ofRows vs rs) w) := by
  refine (tof_any V R vs us rs w hV hc hR hrs fx lr lv lu).mono ?_
  rintro e w' ⟨t, rfl, h1, h2, hb⟩
  refine TellsT.of (fun h => (h1 h).spec (ofChk_nodup h) fun r hr => ?_) h2 hb
  unfold ofChk at h
  by_cases hc : vs.length ≤ 8 ∧ repB [] vs = false
  · rw [if_pos hc] at h
    obtain ⟨g1, g2⟩ := rowChk_ok (rowsE_ok h r hr)
    exact fun v hv => ⟨rowE_may g2 v hv, fx r hr v hv⟩
  · rw [if_neg hc] at h; cases h
/-- What a table and an error are that were told, in plain words. -/
theorem told_bounds {vs : List ByteArray} {rs : List (List Val)} {E : Int} (he : E = ofChk vs rs) (fx : ∀ r ∈ rs, ∀ v ∈ r, v.Fits) (lu : rs.length ≤ 5864062014805) :
    (∀ r ∈ (if E = 0 then ofRows vs rs else []), ∀ v ∈ r, v.Fits) ∧ (if E = 0 then madeS vs else []).length ≤ 9223372036854775807 ∧ (if E = 0 then ofRows vs rs else []).length ≤ 9223372036854775807 ∧ ∀ r ∈ (if E = 0 then ofRows vs rs else []), r.length ≤ 9223372036854775807 := by
  by_cases h : E = 0
  · rw [if_pos h, if_pos h]
    have h8 : vs.length ≤ 8 ∧ ∀ r ∈ rs, okR r := by
      rw [he] at h
      unfold ofChk at h
      by_cases hc : vs.length ≤ 8 ∧ repB [] vs = false
      · rw [if_pos hc] at h
        exact ⟨hc.1, fun r hr => by
          obtain ⟨g1, g2⟩ := rowChk_ok (rowsE_ok h r hr)
          exact fun v hv => ⟨rowE_may g2 v hv, fx r hr v hv⟩⟩
      · rw [if_neg hc] at h; cases h
    have hm : ∀ r ∈ ofRows vs rs, ∃ x ∈ rs, r = picks x (colsAt vs (madeS vs)) := fun r hr => by
      have := (mem_madeR (fun y hy => by
        obtain ⟨z, hz, rfl⟩ := List.mem_map.1 hy
        exact (h8.2 z hz).picks _) r).1 hr
      obtain ⟨x, hx, e⟩ := List.mem_map.1 this
      exact ⟨x, hx, e.symm⟩
    refine ⟨fun r hr v hv => ?_, by rw [madeS_len]; omega, ?_, fun r hr => ?_⟩
    · obtain ⟨x, hx, rfl⟩ := hm r hr
      exact (((h8.2 x hx).picks _) v hv).2
    · have h1 := madeR_len (rs.map fun r => picks r (colsAt vs (madeS vs)))
      rw [List.length_map] at h1
      show (madeR _).length ≤ _
      omega
    · obtain ⟨x, hx, rfl⟩ := hm r hr
      have h3 : (picks x (colsAt vs (madeS vs))).length ≤ (colsAt vs (madeS vs)).length := List.length_filterMap_le _ _
      have h4 : (colsAt vs (madeS vs)).length = vs.length := by unfold colsAt; rw [List.length_map, madeS_len]
      omega
  · rw [if_neg h, if_neg h]
    simp

end Go.Proofs.YteipohpfaofchabGreat

namespace Go.Proofs.YteipohpfaofchabGreat
open Go.RowKit Go.Shelf Go.Sort
set_option linter.unusedVariables false

theorem project_told {V R A : Value} {vs ns : List ByteArray} {us : List Value} {rs : List (List Val)} {w : World} (hT : TabAt w V R vs us rs) (hA : StrsAt w A ns) (lf : ns.length ≤ 9223372036854775807) :
    Calls Tryz.prog 9 #[.agg #[V, R], A] w (TellsT w.heap.size (projE vs rs ns) (madeS ns) (projR vs ns rs) w) := by
  refine (project_any hT hA lf).mono ?_
  rintro e w' ⟨t, rfl, h1, h2, hb⟩
  exact TellsT.of h1 h2 hb
theorem proj_bounds {vs ns vv : List ByteArray} {rs : List (List Val)} {E : Int} (h : E = 0 → OkT vs rs ∧ vv.length ≤ 8 ∧ ns.length ≤ 8) :
    (∀ r ∈ (if E = 0 then projR vs ns rs else []), ∀ v ∈ r, v.Fits) ∧ (if E = 0 then vv else []).length ≤ 9223372036854775807 ∧ ((if E = 0 then projR vs ns rs else []).length ≤ 9223372036854775807 ∨ ¬ rs.length ≤ 5864062014805) ∧ ∀ r ∈ (if E = 0 then projR vs ns rs else []), r.length ≤ 9223372036854775807 := by
  by_cases hE : E = 0
  · obtain ⟨ok, h8, h9⟩ := h hE
    rw [if_pos hE, if_pos hE]
    have okm : ∀ r ∈ rs.map (fun r => picks r (colsAt vs (madeS ns))), okR r := fun r hr => by
      obtain ⟨x, hx, rfl⟩ := List.mem_map.1 hr
      exact (ok.rows x hx).2.picks _
    have hm : ∀ r ∈ projR vs ns rs, ∃ x ∈ rs, r = picks x (colsAt vs (madeS ns)) := fun r hr => by
      obtain ⟨x, hx, e⟩ := List.mem_map.1 ((mem_madeR okm r).1 hr)
      exact ⟨x, hx, e.symm⟩
    refine ⟨fun r hr v hv => ?_, by omega, ?_, fun r hr => ?_⟩
    · obtain ⟨x, hx, rfl⟩ := hm r hr
      exact (((ok.rows x hx).2.picks _) v hv).2
    · by_cases hl : rs.length ≤ 5864062014805
      · left
        have h1 := madeR_len (rs.map fun r => picks r (colsAt vs (madeS ns)))
        rw [List.length_map] at h1
        show (madeR _).length ≤ _
        omega
      · exact Or.inr hl
    · obtain ⟨x, hx, rfl⟩ := hm r hr
      have h3 : (picks x (colsAt vs (madeS ns))).length ≤ (colsAt vs (madeS ns)).length := List.length_filterMap_le _ _
      rw [cols_len, madeS_len] at h3
      omega
  · rw [if_neg hE, if_neg hE]
    simp
theorem projE_zero {vs ns : List ByteArray} {rs : List (List Val)} (h : projE vs rs ns = 0) (f : ∀ r ∈ rs, ∀ v ∈ r, v.Fits) : OkT vs rs ∧ (madeS ns).length ≤ 8 ∧ ns.length ≤ 8 := by
  unfold projE at h
  by_cases h1 : tabChk vs rs = 0
  · have ok := tabChk_ok h1 f
    rw [if_pos h1] at h
    cases hc : colsO vs [] ns with
    | none => rw [hc] at h; cases h
    | some cs =>
      obtain ⟨e1, e2⟩ := colsO_at hc
      rw [List.nil_append] at e1
      subst e1
      have h3 := nodup_len vs.length (colsAt vs ns) (colsO_nodup ns [] _ List.nodup_nil hc) (cols_lt e2)
      rw [cols_len] at h3
      have := ok.few
      exact ⟨ok, by rw [madeS_len]; omega, by omega⟩
  · rw [if_neg h1] at h; exact absurd h h1
theorem left_len (vs fr : List ByteArray) : (leftV vs fr).length ≤ vs.length := List.length_filter_le _ _
/-- What is told, and lies ahead of a place. -/
def TabU (B T0 : Nat) (E : Int) (vs : List ByteArray) (L : List (List Val)) (t : Value) (w : World) : Prop := OwnU B T0 t (if E = 0 then vs else []) (if E = 0 then L else []) w
theorem TabO.upto {B : Nat} {E : Int} {vs : List ByteArray} {L : List (List Val)} {t : Value} {w : World} (h : TabO B E vs L t w) : TabU B w.heap.size E vs L t w := OwnT.upto h
theorem TabU.grown {B T0 : Nat} {E : Int} {vs : List ByteArray} {L : List (List Val)} {t : Value} {w w' : World} (h : TabU B T0 E vs L t w) (hb : Below w.heap.size w w') : TabU B T0 E vs L t w' := OwnU.grown h hb

set_option maxRecDepth 100000 in
set_option maxHeartbeats 8000000 in
theorem tcuts_any {V R A : Value} {vs fr : List ByteArray} {us : List Value} {rs : List (List Val)} (w : World) (hT : TabAt w V R vs us rs) (hA : StrsAt w A fr) (capA : ∀ p n c, A = .slice p n c → n ≤ c) (lf : fr.length ≤ 9223372036854775807)
    (bv : vs.length * 16 ≤ 140737488355328) (bs : ∀ r ∈ rs, r.length * 40 ≤ 140737488355328) :
    Calls Tryz.prog 3 #[.agg #[V, R], A] w fun e w' => e = .returned (.bool true) ∧ Below w.heap.size w w' := by
  have hTR : TabRows w R rs := tab_of_vals hT.vals hT.rows
  have many : rs.length ≤ 5864062014805 := by have := hT.many; have := hT.rows.1; omega
  obtain ⟨E, eE⟩ : ∃ E : Int, Hid (projE vs rs fr = E) := ⟨_, rfl⟩
  obtain ⟨D, eD⟩ : ∃ D : Int, Hid (tabChk vs rs = D) := ⟨_, rfl⟩
  obtain ⟨vp, evp⟩ : ∃ vp, Hid (madeS fr = vp) := ⟨_, rfl⟩
  obtain ⟨Lp, eLp⟩ : ∃ Lp, Hid (projR vs fr rs = Lp) := ⟨_, rfl⟩
  obtain ⟨vd, evd⟩ : ∃ vd, Hid (leftV vs fr = vd) := ⟨_, rfl⟩
  obtain ⟨Ld, eLd⟩ : ∃ Ld, Hid (projR vs (leftV vs fr) rs = Ld) := ⟨_, rfl⟩
  have c1 : Hid (∀ W : World, Below w.heap.size w W → Calls Tryz.prog 8 #[.agg #[V, R]] W fun e w' => ∃ pa na ca pb nb cb, e = .returned (.agg #[.slice pa na ca, .slice pb nb cb]) ∧ OwnT W.heap.size (.agg #[.slice pa na ca, .slice pb nb cb]) vs rs w' ∧ Below W.heap.size W w') := fun W hW => copied_two (hT.vars.below hW) (hTR.below hW) bv (by omega) bs
  have c2 : Hid (∀ W : World, Below w.heap.size w W → Calls Tryz.prog 9 #[.agg #[V, R], A] W (TellsT W.heap.size E vp Lp W)) := fun W hW => by
    have h := project_told (hT.below hW) (hA.below hW) lf
    rwa [eE.out, evp.out, eLp.out] at h
  have c3 : Hid (∀ (W : World) (U Q : Value), Below w.heap.size w W → OwnT w.heap.size (.agg #[U, Q]) vs rs W → Calls Tryz.prog 10 #[.agg #[U, Q], A] W (TellsT W.heap.size E vp Lp W)) := fun W U Q hW h1 => by
    have h := dproject_any (own_two h1).1 (own_two h1).2 hT.fits hT.long hT.names many (hA.below hW) capA lf
    rwa [eE.out, evp.out, eLp.out] at h
  have d2 : Hid (∀ W : World, Below w.heap.size w W → Calls Tryz.prog 11 #[.agg #[V, R], A] W (TellsT W.heap.size D vd Ld W)) := fun W hW => by
    have h := tabdrop_any (hT.below hW) (hA.below hW) lf
    rwa [eD.out, eLd.out, evd.out] at h
  have d3 : Hid (∀ (W : World) (U Q : Value), Below w.heap.size w W → OwnT w.heap.size (.agg #[U, Q]) vs rs W → Calls Tryz.prog 12 #[.agg #[U, Q], A] W (TellsT W.heap.size D vd Ld W)) := fun W U Q hW h1 => by
    have h := ddrop_any (own_two h1).1 (own_two h1).2 hT.fits hT.long hT.names many (hA.below hW) capA lf
    rwa [eD.out, eLd.out, evd.out] at h
  have c4 : Hid (∀ (W : World) (B B' T0 : Nat) (t u : Value), TabU B T0 E vp Lp t W → TabO B' E vp Lp u W → B ≤ W.heap.size → Calls Tryz.prog 13 #[t, .int .i64 E, u, .int .i64 E] W fun e w' => e = .returned (.bool true) ∧ Below B W w' ∧ Fr T0 W w') := fun W B B' T0 t u h1 h2 hB => by
    obtain ⟨g1, g2, g3, g4⟩ := proj_bounds (vs := vs) (ns := fr) (vv := madeS fr) (rs := rs) (E := E) (fun h => projE_zero (eE.out.trans h) hT.fits)
    have g3 := g3.resolve_right (fun h => h many)
    rw [evp.out] at g2
    rw [eLp.out] at g1 g3 g4
    exact is_fr h1 h2 hB g1 g2 g3 g4
  have d4 : Hid (∀ (W : World) (B B' : Nat) (t u : Value), TabO B D vd Ld t W → TabO B' D vd Ld u W → B ≤ W.heap.size → Calls Tryz.prog 13 #[t, .int .i64 D, u, .int .i64 D] W fun e w' => e = .returned (.bool true) ∧ Below B W w') := fun W B B' t u h1 h2 hB => by
    obtain ⟨g1, g2, g3, g4⟩ := proj_bounds (vs := vs) (ns := leftV vs fr) (vv := leftV vs fr) (rs := rs) (E := D) (fun h => by
      have ok := tabChk_ok (eD.out.trans h) hT.fits
      have h1 := left_len vs fr
      have h2 := ok.few
      exact ⟨ok, by omega, by omega⟩)
    have g3 := g3.resolve_right (fun h => h many)
    rw [eLd.out] at g1 g3 g4
    rw [evd.out] at g2
    exact is_any h1 h2 hB g1 g2 g3 g4
  have c5 : Hid (∀ (W : World) (U Q : Value), Below w.heap.size w W → OwnT w.heap.size (.agg #[U, Q]) vs rs W → Calls Tryz.prog 15 #[.agg #[V, R], .agg #[U, Q]] W fun e w' => e = .returned (.bool true) ∧ Below W.heap.size W w') := fun W U Q hW h1 => by
    have h := dsame_any (hT.vars.below hW) (own_two h1).1 (hTR.below hW) (own_two h1).2 hT.names hT.names hT.fits hT.fits hT.long (by omega) (by omega)
    rw [rowsS_refl, show decide (vs = vs) = true by simp] at h
    exact h
  obtain ⟨p1, k1, p2, k2, eV, eR⟩ := hT.forms
  obtain ⟨p3, k3, eA⟩ := hA.form
  subst eV eR eA
  generalize vs.length = n1 at *
  generalize us.length = n2 at *
  generalize fr.length = n3 at *
  clear hT hTR hA capA bv bs eE eD evp eLp evd eLd many lf
  go_enter Tryz.func3, Tryz.ntmps3
  go_wp2_with fail
  refine (c1.out _ (by go_grown)).mono ?_
  rintro e w1 ⟨xa, ja, da, xb, jb, db, rfl, ht, hb1⟩
  have VA : Hid (Var w1 w.heap.size (.slice p1 n1 k1) (.slice p2 n2 k2)) := (Var.made w _ _).below hb1
  have K1 : Below w.heap.size w w1 := by
    obtain ⟨hw1, -⟩ := bg0 (n := w.heap.size) (W0 := w) (by go_grown) (by go_size) hb1
    exact hw1
  have HX : Hid (OwnT w.heap.size (.agg #[.slice xa ja da, .slice xb jb db]) vs rs w1) := ht.base (by simp)
  clear ht c1 hb1
  go_upto_region 2 with fail
  refine wp_world ?_
  intro W1 hW1
  have H1 : Below w1.heap.size w1 W1 := by rw [hW1]; go_grown
  have VX1 : Hid (Var W1 w1.heap.size (.slice xa ja da) (.slice xb jb db)) := by rw [hW1]; exact Var.made _ _ _
  clear hW1
  have KK1 : Below w.heap.size w W1 := K1.trans (H1.mono K1.size)
  have VA1 : Hid (Var W1 w.heap.size (.slice p1 n1 k1) (.slice p2 n2 k2)) := VA.out.below H1
  have HX1 : Hid (OwnT w.heap.size (.agg #[.slice xa ja da, .slice xb jb db]) vs rs W1) := HX.out.grown H1
  obtain ⟨gx, egx⟩ : ∃ gx, Hid (w1.heap.size = gx) := ⟨_, rfl⟩
  rw [egx.out] at VX1 ⊢
  clear HX H1 K1 VA
  have a0 := VA1.out.c0
  have a1 := VA1.out.c1
  go_wp2_with fail
  refine (c2.out _ (by exact KK1)).mono ?_
  rintro e w2 ⟨ta, ra, la, tb, rb, lb, rfl, ht, hb2⟩
  have HT : Hid (TabU W1.heap.size w2.heap.size E vp Lp (.agg #[.slice ta ra la, .slice tb rb lb]) w2) := TabO.upto ht
  clear ht c2 a0 a1
  go_upto_region 3 with fail
  refine wp_world ?_
  intro W2 hW2
  have H2 : Below w2.heap.size w2 W2 := by rw [hW2]; go_grown
  have VT2 : Hid (Var W2 w2.heap.size (.slice ta ra la) (.slice tb rb lb)) := by rw [hW2]; exact Var.made _ _ _
  clear hW2
  have L2 : Below W1.heap.size W1 W2 := hb2.trans (H2.mono hb2.size)
  have HT2 : Hid (TabU W1.heap.size w2.heap.size E vp Lp (.agg #[.slice ta ra la, .slice tb rb lb]) W2) := HT.out.grown H2
  obtain ⟨gt, egt⟩ : ∃ gt, Hid (w2.heap.size = gt) := ⟨_, rfl⟩
  have gtl : gt ≤ W2.heap.size := by rw [← egt.out]; exact H2.size
  rw [egt.out] at VT2 HT2 ⊢
  have VX2 : Hid (Var W2 gx (.slice xa ja da) (.slice xb jb db)) := VX1.out.below L2
  have VA2 : Hid (Var W2 w.heap.size (.slice p1 n1 k1) (.slice p2 n2 k2)) := VA1.out.below L2
  have HX2 : Hid (OwnT w.heap.size (.agg #[.slice xa ja da, .slice xb jb db]) vs rs W2) := HX1.out.grown L2
  have KK2 : Below w.heap.size w W2 := KK1.trans (L2.mono KK1.size)
  clear HT H2 hb2
  have a0 := VX2.out.c0
  have a1 := VX2.out.c1
  go_wp2_with fail
  refine (c3.out _ _ _ (by exact KK2) HX2.out).mono ?_
  rintro e w3 ⟨oa, sa, qa, ob, sb, qb, rfl, ht, hb3⟩
  have HU : Hid (TabO W2.heap.size E vp Lp (.agg #[.slice oa sa qa, .slice ob sb qb]) w3) := ht
  clear ht c3 a0 a1
  go_upto_region 4 with fail
  refine wp_world ?_
  intro W3 hW3
  have H3 : Below w3.heap.size w3 W3 := by rw [hW3]; go_grown
  have VU3 : Hid (Var W3 w3.heap.size (.slice oa sa qa) (.slice ob sb qb)) := by rw [hW3]; exact Var.made _ _ _
  clear hW3
  have L3 : Below W2.heap.size W2 W3 := hb3.trans (H3.mono hb3.size)
  have HU3 : Hid (TabO W2.heap.size E vp Lp (.agg #[.slice oa sa qa, .slice ob sb qb]) W3) := HU.out.grown H3
  have VT3 : Hid (Var W3 gt (.slice ta ra la) (.slice tb rb lb)) := VT2.out.below L3
  have HT3 : Hid (TabU W1.heap.size gt E vp Lp (.agg #[.slice ta ra la, .slice tb rb lb]) W3) := HT2.out.grown L3
  have VX3 : Hid (Var W3 gx (.slice xa ja da) (.slice xb jb db)) := VX2.out.below L3
  have VA3 : Hid (Var W3 w.heap.size (.slice p1 n1 k1) (.slice p2 n2 k2)) := VA2.out.below L3
  have HX3 : Hid (OwnT w.heap.size (.agg #[.slice xa ja da, .slice xb jb db]) vs rs W3) := HX2.out.grown L3
  have M3 : Below W1.heap.size W1 W3 := L2.trans (L3.mono L2.size)
  have KK3 : Below w.heap.size w W3 := KK1.trans (M3.mono KK1.size)
  have s13 : W1.heap.size ≤ W3.heap.size := M3.size
  have gt3 : gt ≤ W3.heap.size := Nat.le_trans gtl L3.size
  obtain ⟨gu, egu⟩ : ∃ gu, Hid (w3.heap.size = gu) := ⟨_, rfl⟩
  rw [egu.out] at VU3 ⊢
  clear HU H3 hb3 L3 L2 HT2 VT2 VX2 HX2 KK2 VA2 gtl
  have a0 := VA3.out.c0
  have a1 := VA3.out.c1
  go_wp2_with fail
  refine (d2.out _ (by exact KK3)).mono ?_
  rintro e w4 ⟨ea, ga, ha, eb, gb, hb, rfl, ht, hb4⟩
  have HC : Hid (TabO W3.heap.size D vd Ld (.agg #[.slice ea ga ha, .slice eb gb hb]) w4) := ht
  clear ht d2 a0 a1
  go_upto_region 5 with fail
  refine wp_world ?_
  intro W4 hW4
  have H4 : Below w4.heap.size w4 W4 := by rw [hW4]; go_grown
  have VC4 : Hid (Var W4 w4.heap.size (.slice ea ga ha) (.slice eb gb hb)) := by rw [hW4]; exact Var.made _ _ _
  clear hW4
  have L4 : Below W3.heap.size W3 W4 := hb4.trans (H4.mono hb4.size)
  have HC4 : Hid (TabO W3.heap.size D vd Ld (.agg #[.slice ea ga ha, .slice eb gb hb]) W4) := HC.out.grown H4
  have gcw : W3.heap.size ≤ w4.heap.size := hb4.size
  obtain ⟨gc, egc⟩ : ∃ gc, Hid (w4.heap.size = gc) := ⟨_, rfl⟩
  rw [egc.out] at VC4 gcw ⊢
  have VU4 : Hid (Var W4 gu (.slice oa sa qa) (.slice ob sb qb)) := VU3.out.below L4
  have HU4 : Hid (TabO W2.heap.size E vp Lp (.agg #[.slice oa sa qa, .slice ob sb qb]) W4) := HU3.out.grown L4
  have VT4 : Hid (Var W4 gt (.slice ta ra la) (.slice tb rb lb)) := VT3.out.below L4
  have HT4 : Hid (TabU W1.heap.size gt E vp Lp (.agg #[.slice ta ra la, .slice tb rb lb]) W4) := HT3.out.grown L4
  have VX4 : Hid (Var W4 gx (.slice xa ja da) (.slice xb jb db)) := VX3.out.below L4
  have VA4 : Hid (Var W4 w.heap.size (.slice p1 n1 k1) (.slice p2 n2 k2)) := VA3.out.below L4
  have HX4 : Hid (OwnT w.heap.size (.agg #[.slice xa ja da, .slice xb jb db]) vs rs W4) := HX3.out.grown L4
  have M4 : Below W1.heap.size W1 W4 := M3.trans (L4.mono M3.size)
  have KK4 : Below w.heap.size w W4 := KK1.trans (M4.mono KK1.size)
  clear HC H4 hb4 VU3 HU3 VT3 HT3 VX3 VA3 HX3 M3 KK3
  have a0 := VX4.out.c0
  have a1 := VX4.out.c1
  go_wp2_with fail
  refine (d3.out _ _ _ (by exact KK4) HX4.out).mono ?_
  rintro e w5 ⟨ia, ma, za, ib, mb, zb, rfl, ht, hb5⟩
  have HD : Hid (TabO W4.heap.size D vd Ld (.agg #[.slice ia ma za, .slice ib mb zb]) w5) := ht
  clear ht d3 a0 a1
  go_upto_region 6 with fail
  refine wp_world ?_
  intro W5 hW5
  have H5 : Below w5.heap.size w5 W5 := by rw [hW5]; go_grown
  have VD5 : Hid (Var W5 w5.heap.size (.slice ia ma za) (.slice ib mb zb)) := by rw [hW5]; exact Var.made _ _ _
  clear hW5
  have L5 : Below W4.heap.size W4 W5 := hb5.trans (H5.mono hb5.size)
  have HD5 : Hid (TabO W4.heap.size D vd Ld (.agg #[.slice ia ma za, .slice ib mb zb]) W5) := HD.out.grown H5
  have gdw : W4.heap.size ≤ w5.heap.size := hb5.size
  obtain ⟨gd, egd⟩ : ∃ gd, Hid (w5.heap.size = gd) := ⟨_, rfl⟩
  rw [egd.out] at VD5 gdw ⊢
  have VC5 : Hid (Var W5 gc (.slice ea ga ha) (.slice eb gb hb)) := VC4.out.below L5
  have HC5 : Hid (TabO W3.heap.size D vd Ld (.agg #[.slice ea ga ha, .slice eb gb hb]) W5) := HC4.out.grown L5
  have VU5 : Hid (Var W5 gu (.slice oa sa qa) (.slice ob sb qb)) := VU4.out.below L5
  have HU5 : Hid (TabO W2.heap.size E vp Lp (.agg #[.slice oa sa qa, .slice ob sb qb]) W5) := HU4.out.grown L5
  have VT5 : Hid (Var W5 gt (.slice ta ra la) (.slice tb rb lb)) := VT4.out.below L5
  have HT5 : Hid (TabU W1.heap.size gt E vp Lp (.agg #[.slice ta ra la, .slice tb rb lb]) W5) := HT4.out.grown L5
  have M5 : Below W1.heap.size W1 W5 := M4.trans (L5.mono M4.size)
  have s34 : W3.heap.size ≤ W4.heap.size := L4.size
  have s45 : W4.heap.size ≤ W5.heap.size := L5.size
  clear HD H5 hb5 VC4 HC4 VU4 HU4 VT4 HT4 VX4 VA4 HX4 M4 KK4 L4 L5
  have a0 := VT5.out.c0
  have a1 := VT5.out.c1
  have b0 := VU5.out.c0
  have b1 := VU5.out.c1
  go_wp2_with fail
  refine (c4.out _ _ _ _ _ _ HT5.out HU5.out M5.size).mono ?_
  rintro e w6 ⟨rfl, hb6, hf6⟩
  have M6 : Below W1.heap.size W1 w6 := M5.trans hb6
  have VC6 : Hid (Var w6 gc (.slice ea ga ha) (.slice eb gb hb)) := hf6.var VC5.out (by omega)
  have VD6 : Hid (Var w6 gd (.slice ia ma za) (.slice ib mb zb)) := hf6.var VD5.out (by omega)
  have HC6 : Hid (TabO W3.heap.size D vd Ld (.agg #[.slice ea ga ha, .slice eb gb hb]) w6) := hf6.tab HC5.out gt3
  have HD6 : Hid (TabO W4.heap.size D vd Ld (.agg #[.slice ia ma za, .slice ib mb zb]) w6) := hf6.tab HD5.out (by omega)
  have s6 : W3.heap.size ≤ w6.heap.size := by have := hf6.1; omega
  clear a0 a1 b0 b1 hb6 hf6 M5 HT5 HU5 VT5 VU5 VC5 VD5 HC5 HD5 c4
  have a0 := VC6.out.c0
  have a1 := VC6.out.c1
  have b0 := VD6.out.c0
  have b1 := VD6.out.c1
  go_wp2_with fail
  refine (d4.out _ _ _ _ _ HC6.out HD6.out s6).mono ?_
  rintro e w7 ⟨rfl, hb7⟩
  have M7 : Below W1.heap.size W1 w7 := M6.trans (hb7.mono s13)
  have K7 : Below w.heap.size w w7 := KK1.trans (M7.mono KK1.size)
  have VA7 : Hid (Var w7 w.heap.size (.slice p1 n1 k1) (.slice p2 n2 k2)) := VA1.out.below M7
  have VX7 : Hid (Var w7 gx (.slice xa ja da) (.slice xb jb db)) := VX1.out.below M7
  have HX7 : Hid (OwnT w.heap.size (.agg #[.slice xa ja da, .slice xb jb db]) vs rs w7) := HX1.out.grown M7
  clear a0 a1 b0 b1 hb7 M6 M7 VC6 VD6 HC6 HD6 d4 VA1 VX1 HX1 KK1 s6 s13 s34 s45 gt3 gcw gdw
  go_wp2_with fail
  refine (tlive_any _).mono ?_
  rintro e w8 ⟨rfl, hb8⟩
  have K8 : Below w.heap.size w w8 := K7.trans (hb8.mono K7.size)
  have VA8 : Hid (Var w8 w.heap.size (.slice p1 n1 k1) (.slice p2 n2 k2)) := VA7.out.below hb8
  have VX8 : Hid (Var w8 gx (.slice xa ja da) (.slice xb jb db)) := VX7.out.below hb8
  have HX8 : Hid (OwnT w.heap.size (.agg #[.slice xa ja da, .slice xb jb db]) vs rs w8) := HX7.out.grown hb8
  clear hb8 K7 VA7 VX7 HX7
  have a0 := VA8.out.c0
  have a1 := VA8.out.c1
  have b0 := VX8.out.c0
  have b1 := VX8.out.c1
  go_wp2_with fail
  refine (c5.out _ _ _ (by exact K8) HX8.out).mono ?_
  rintro e w9 ⟨rfl, hb9⟩
  have K9 : Below w.heap.size w w9 := K8.trans (hb9.mono K8.size)
  clear hb9 K8 VA8 VX8 HX8 a0 a1 b0 b1 c5
  go_wp2
  go_ret
  exact ⟨rfl, K9⟩

end Go.Proofs.YteipohpfaofchabGreat

namespace Go.Proofs.YteipohpfaofchabGreat
open Go.Joins Go.ChangeShapes Go.WideShapes Go.ChangeAt Go.RowKit Go.Deep
set_option linter.unusedVariables false
set_option maxRecDepth 100000

theorem wAll_mem {H : Type} {P : Program} {e : TypeId} : ∀ {l : List (DataW H)} {d : DataW H} {k : Nat}, d ∈ l → k ∈ d.weights P e → k ∈ DataW.weightsAll P e l
  | [], _, _, h, _ => by cases h
  | x :: l, d, k, h, hk => by
    rw [DataW.weightsAll]
    rcases List.mem_cons.1 h with rfl | h
    · exact List.mem_append_left _ hk
    · exact List.mem_append_right _ (wAll_mem h hk)
theorem bytesStr : Tryz.prog.bytesOf 9 = 16 := by kernel_rfl
theorem bytesRow : Tryz.prog.bytesOf 40 = 24 := by kernel_rfl
theorem bytesVal2 : Tryz.prog.bytesOf 57 = 40 := by kernel_rfl
/-- No part of it weighs more than a call may hold. -/
def Light {H : Type} (t : TypeId) (d : DataW H) : Prop := ∀ k ∈ d.weights Tryz.prog t, k ≤ 140737488355328

theorem opens_strs {H : Type} {enc : TypeId × Value → H} {w : World} {sp : Nat → Bool} {held : Bool} {n : Nat} {v : Value} {x : DataW H × List MemPlace} (h : DataW.trod enc Tryz.prog w 0 sp held n 22 [v] = some x) (hlt : ∀ y ∈ x.2, y.block < w.heap.size) :
    ∃ vs : List ByteArray, StrsAt w v vs ∧ vs.length ≤ 9223372036854775807 ∧ (∀ p n c, v = .slice p n c → n ≤ c) ∧ (Light 22 x.1 → vs.length * 16 ≤ 140737488355328) := by
  rcases open_slice1 Tryz.underlying22 (by kernel_rfl) h with ⟨hcs, hx⟩ | ⟨a, len, cap, m, n', V, D, Pl, hcs, hb, hl, hm, em, hx, he⟩
  · injection hcs with hcs
    subst hcs
    exact ⟨[], ⟨none, 0, rfl, Or.inl rfl⟩, by simp, (fun p n c e => by injection e with _ e1 e2; omega), fun _ => by simp⟩
  · injection hcs with hcs
    subst hcs hx
    have hlm : len ≤ m := by rw [em]; split <;> omega
    have each : ∀ i, i < len → ∃ s : ByteArray, w.cell? (a.add i) = some (.string s) := fun i hi => by
      obtain ⟨h1, h2⟩ := he i (by omega)
      obtain ⟨s, e3, _, _⟩ := DataW.trod_string Tryz.underlying9 h2
      injection e3 with e3
      exact ⟨s, e3 ▸ h1⟩
    obtain ⟨f, hf⟩ := choose_lt each
    refine ⟨(List.range len).map f, ⟨some a, cap, by simp, ?_⟩, by simp; unfold maxLen at hm; omega, (fun p n c e => by injection e with _ e1 e2; omega), (fun hL => by
      have h := hL ((((List.range len).map D).length + ((List.range (m - len)).map fun j => D (len + j)).length) * Tryz.prog.bytesOf 9) (by simp only [DataW.weights, Tryz.underlying22]; exact List.mem_cons_self)
      rw [bytesStr] at h
      simp only [List.length_map, List.length_range] at h ⊢
      omega)⟩
    by_cases h0 : len = 0
    · exact Or.inl (by simp [h0])
    · right
      obtain ⟨b, off, spot⟩ := a
      have hspot : spot = none := by simpa [Addr.add] using World.cell?_spot (hf 0 (by omega))
      subst hspot
      refine ⟨b, off, rfl, hlt (.cell b off) (List.mem_append_left _ (row_mem (s := none) (by omega))), ?_⟩
      intro i hi
      have hi' : i < len := by simpa using hi
      have c0 := hf i hi'
      simp only [add_plain] at c0
      simpa using c0

theorem opens_vrow {H : Type} {enc : TypeId × Value → H} {w : World} {sp : Nat → Bool} {held : Bool} {n : Nat} {v : Value} {x : DataW H × List MemPlace} (h : DataW.trod enc Tryz.prog w 0 sp held n 40 [v] = some x) (hlt : ∀ y ∈ x.2, y.block < w.heap.size) :
    ∃ xs : List Val, RowAt w v xs ∧ (∀ y ∈ xs, y.Fits) ∧ xs.length ≤ 9223372036854775807 ∧ (∀ p n c, v = .slice p n c → n ≤ c) ∧ (Light 40 x.1 → xs.length * 40 ≤ 140737488355328) := by
  rcases open_slice Tryz.underlying40 h with ⟨hcs, hx⟩ | ⟨a, len, cap, m, n', D, Pl, hcs, hb, hl, hm, em, hx, he⟩
  · injection hcs with hcs
    subst hcs
    exact ⟨[], ⟨none, 0, rfl, Or.inl rfl⟩, by simp, by simp, (fun p n c e => by injection e with _ e1 e2; omega), fun _ => by simp⟩
  · injection hcs with hcs
    subst hcs hx
    have hlm : len ≤ m := by rw [em]; split <;> omega
    have each : ∀ i, i < len → ∃ X : Val, X.Fits ∧ w.cell? ((a.add (i * 4)).add 0) = some (.int .i64 X.k) ∧ w.cell? ((a.add (i * 4)).add 1) = some (.int .i64 X.n) ∧ w.cell? ((a.add (i * 4)).add 2) = some (.int .i64 X.d) ∧ w.cell? ((a.add (i * 4)).add 3) = some (.string X.s) := fun i hi => by
      obtain ⟨cs, h1, h2⟩ := he i (by omega)
      rw [cellsVal] at h1
      exact open_val h1 h2
    obtain ⟨f, hf⟩ := choose_lt each
    refine ⟨(List.range len).map f, ⟨some a, cap, by simp, ?_⟩, ?_, by simp; unfold maxLen at hm; omega, (fun p n c e => by injection e with _ e1 e2; omega), (fun hL => by
      have h := hL ((((List.range len).map D).length + ((List.range (m - len)).map fun j => D (len + j)).length) * Tryz.prog.bytesOf 57) (by simp only [DataW.weights, Tryz.underlying40]; exact List.mem_cons_self)
      rw [bytesVal2] at h
      simp only [List.length_map, List.length_range] at h ⊢
      omega)⟩
    · by_cases h0 : len = 0
      · exact Or.inl (by simp [h0])
      · right
        obtain ⟨b, off, spot⟩ := a
        have hspot : spot = none := by simpa [Addr.add] using World.cell?_spot (hf 0 (by omega)).2.1
        subst hspot
        refine ⟨b, off, rfl, hlt (.cell b off) (List.mem_append_left _ (row_mem (s := none) (by rw [cellsVal]; omega))), ?_⟩
        intro i hi
        have hi' : i < len := by simpa using hi
        obtain ⟨_, c0, c1, c2, c3⟩ := hf i hi'
        simp only [add_plain, Nat.add_zero] at c0 c1 c2 c3
        simp only [List.getElem_map, List.getElem_range]
        exact ⟨c0, c1, c2, c3⟩
    · intro y hy
      simp at hy
      obtain ⟨i, hi, rfl⟩ := hy
      exact (hf i hi).1

theorem opens_rows {H : Type} {enc : TypeId × Value → H} {w : World} {sp : Nat → Bool} {held : Bool} {n : Nat} {v : Value} {x : DataW H × List MemPlace} (h : DataW.trod enc Tryz.prog w 0 sp held n 23 [v] = some x) (hlt : ∀ y ∈ x.2, y.block < w.heap.size) :
    ∃ rs : List (List Val), TabRows w v rs ∧ (∀ r ∈ rs, ∀ y ∈ r, y.Fits) ∧ (∀ r ∈ rs, r.length ≤ 9223372036854775807) ∧ rs.length ≤ 9223372036854775807 ∧ (∀ p n c, v = .slice p n c → n ≤ c) ∧ (Light 23 x.1 → rs.length * 24 ≤ 140737488355328 ∧ ∀ r ∈ rs, r.length * 40 ≤ 140737488355328) := by
  rcases open_slice1 Tryz.underlying23 (by kernel_rfl) h with ⟨hcs, hx⟩ | ⟨a, len, cap, m, n', V, D, Pl, hcs, hb, hl, hm, em, hx, he⟩
  · injection hcs with hcs
    subst hcs
    exact ⟨[], ⟨none, 0, rfl, Or.inl rfl⟩, by simp, by simp, by simp, (fun p n c e => by injection e with _ e1 e2; omega), fun _ => ⟨by simp, by simp⟩⟩
  · injection hcs with hcs
    subst hcs hx
    have hlm : len ≤ m := by rw [em]; split <;> omega
    have each : ∀ i, i < len → ∃ xs : List Val, w.cell? (a.add i) = some (V i) ∧ RowAt w (V i) xs ∧ (∀ y ∈ xs, y.Fits) ∧ xs.length ≤ 9223372036854775807 ∧ (Light 40 (D i) → xs.length * 40 ≤ 140737488355328) := fun i hi => by
      obtain ⟨h1, h2⟩ := he i (by omega)
      obtain ⟨xs, r1, r2, r3, _, r5⟩ := opens_vrow h2 (fun y hy => hlt y (List.mem_append_right _ (List.mem_flatMap.2 ⟨i, by simp; omega, hy⟩)))
      exact ⟨xs, h1, r1, r2, r3, r5⟩
    obtain ⟨f, hf⟩ := choose_lt each
    refine ⟨(List.range len).map f, ⟨some a, cap, by simp, ?_⟩, ?_, ?_, by simp; unfold maxLen at hm; omega, (fun p n c e => by injection e with _ e1 e2; omega), (fun hL => ⟨by
      have h := hL ((((List.range len).map D).length + ((List.range (m - len)).map fun j => D (len + j)).length) * Tryz.prog.bytesOf 40) (by simp only [DataW.weights, Tryz.underlying23]; exact List.mem_cons_self)
      rw [bytesRow] at h
      simp only [List.length_map, List.length_range] at h ⊢
      omega, fun r hr => by
      simp at hr
      obtain ⟨i, hi, rfl⟩ := hr
      refine (hf i hi).2.2.2.2 (fun k hk => hL k ?_)
      simp only [DataW.weights, Tryz.underlying23]
      exact List.mem_cons_of_mem _ (List.mem_append_left _ (wAll_mem (List.mem_map.2 ⟨i, by simpa using hi, rfl⟩) hk))⟩)⟩
    · by_cases h0 : len = 0
      · exact Or.inl (by simp [h0])
      · right
        obtain ⟨b, off, spot⟩ := a
        have hspot : spot = none := by simpa [Addr.add] using World.cell?_spot (hf 0 (by omega)).1
        subst hspot
        refine ⟨b, off, rfl, hlt (.cell b off) (List.mem_append_left _ (row_mem (s := none) (by omega))), ?_⟩
        intro i hi
        have hi' : i < len := by simpa using hi
        obtain ⟨c0, c1, _⟩ := hf i hi'
        simp only [add_plain] at c0
        refine ⟨_, c0, ?_⟩
        simpa using c1
    · intro r hr
      simp at hr
      obtain ⟨i, hi, rfl⟩ := hr
      exact (hf i hi).2.2.1
    · intro r hr
      simp at hr
      obtain ⟨i, hi, rfl⟩ := hr
      exact (hf i hi).2.2.2.1

theorem opens_tab {H : Type} {enc : TypeId × Value → H} {W : World} {r : Reach} {b0 : Nat} {v : Value} {d : DataW H} {p : List MemPlace} (hv : Value.okWide Tryz.prog W r b0 25 v) (h : DataW.Trod enc Tryz.prog W 0 (fun _ => true) true 25 v d p) (hlt : ∀ y ∈ p, y.block < W.heap.size) :
    ∃ V R vs rs, v = .agg #[V, R] ∧ StrsAt W V vs ∧ vs.length ≤ 9223372036854775807 ∧ (∀ p n c, V = .slice p n c → n ≤ c) ∧ TabRows W R rs ∧ (∀ r ∈ rs, ∀ y ∈ r, y.Fits) ∧ (∀ r ∈ rs, r.length ≤ 9223372036854775807) ∧ rs.length ≤ 9223372036854775807 ∧ (∀ p n c, R = .slice p n c → n ≤ c) ∧ (Light 25 d → vs.length * 16 ≤ 140737488355328 ∧ rs.length * 24 ≤ 140737488355328 ∧ ∀ r ∈ rs, r.length * 40 ≤ 140737488355328) := by
  obtain ⟨V, R, y0, y1, n, rfl, ed, rfl, h0, h1⟩ := open_agg2 Tryz.underlying25 (by kernel_rfl) (by kernel_rfl) hv h
  obtain ⟨vs, a1, a2, a3, a4⟩ := opens_strs h0 (fun y hy => hlt y (List.mem_append_left _ hy))
  obtain ⟨rs, c1, c2, c3, c4, c5, c6⟩ := opens_rows h1 (fun y hy => hlt y (List.mem_append_right _ hy))
  refine ⟨V, R, vs, rs, rfl, a1, a2, a3, c1, c2, c3, c4, c5, fun hL => ?_⟩
  rw [ed] at hL
  have e : DataW.weights Tryz.prog 25 (.agg [y0.1, y1.1]) = y0.1.weights Tryz.prog 22 ++ (y1.1.weights Tryz.prog 23 ++ []) := by
    simp only [DataW.weights, Tryz.underlying25]
    rfl
  have h1' := c6 (fun k hk => hL k (by rw [e]; exact List.mem_append_right _ (List.mem_append_left _ hk)))
  exact ⟨a4 (fun k hk => hL k (by rw [e]; exact List.mem_append_left _ hk)), h1'⟩

end Go.Proofs.YteipohpfaofchabGreat

namespace Go.Proofs.YteipohpfaofchabGreat
open Go.Joins Go.ChangeShapes Go.WideShapes Go.ChangeAt Go.RowKit Go.Deep
set_option linter.unusedVariables false
set_option maxRecDepth 100000

theorem bulk_one {H : Type} (d : DataW H) : 1 ≤ Rows.uptoBulk d := by
  cases d with
  | lit l => cases l <;> simp [Rows.uptoBulk]
  | _ => simp [Rows.uptoBulk]
theorem bulk_part {H : Type} {d : DataW H} : ∀ {l : List (DataW H)}, d ∈ l → Rows.uptoBulk d ≤ Rows.uptoBulkAll l
  | [], h => by cases h
  | x :: l, h => by
    rw [Rows.uptoBulkAll]
    rcases List.mem_cons.1 h with rfl | h
    · omega
    · have := bulk_part h
      omega
theorem bulk_len {H : Type} : ∀ l : List (DataW H), l.length ≤ Rows.uptoBulkAll l
  | [] => by simp
  | x :: l => by
    rw [Rows.uptoBulkAll, List.length_cons]
    have := bulk_len l
    have := bulk_one x
    omega
theorem bulk_elems {H : Type} (elems spare : List (DataW H)) : Rows.uptoBulkAll elems + 1 ≤ Rows.uptoBulk (.slice elems spare) := by
  rw [Rows.uptoBulk]
  omega
/-- A slice that came in is no longer than the bulk. -/
theorem bulk_slice {H : Type} {enc : TypeId × Value → H} {w : World} {sp : Nat → Bool} {held : Bool} {n : Nat} {t e : TypeId} (ht : Tryz.prog.underlying t = some (.slice e)) {v : Value} {x : DataW H × List MemPlace} (h : DataW.trod enc Tryz.prog w 0 sp held n t [v] = some x) : ∀ p m c, v = .slice p m c → m ≤ Rows.uptoBulk x.1 := by
  rcases open_slice ht h with ⟨hcs, hx⟩ | ⟨a, len, cap, m, n', D, Pl, hcs, hb, hl, hm, em, hx, he⟩
  · injection hcs with hcs
    subst hcs
    intro p m c e
    injection e with _ e _
    omega
  · injection hcs with hcs
    subst hcs hx
    intro p k c e
    injection e with _ e _
    have h1 := bulk_elems ((List.range len).map D) ((List.range (m - len)).map fun j => D (len + j))
    have h2 := bulk_len ((List.range len).map D)
    rw [List.length_map, List.length_range] at h2
    show k ≤ Rows.uptoBulk (.slice _ _)
    omega
theorem bulk_rows {H : Type} {enc : TypeId × Value → H} {w : World} {sp : Nat → Bool} {held : Bool} {n : Nat} {v : Value} {x : DataW H × List MemPlace} (h : DataW.trod enc Tryz.prog w 0 sp held n 23 [v] = some x) {rs : List (List Val)} (hT : TabRows w v rs) : rs.length ≤ Rows.uptoBulk x.1 ∧ ∀ r ∈ rs, r.length ≤ Rows.uptoBulk x.1 := by
  obtain ⟨p, c, ev, hr⟩ := hT
  refine ⟨bulk_slice Tryz.underlying23 h _ _ _ ev, fun r hm => ?_⟩
  rcases hr with hr | ⟨b, off, rfl, hb, hr⟩
  · subst hr; cases hm
  obtain ⟨i, hi, rfl⟩ := List.getElem_of_mem hm
  rcases open_slice1 Tryz.underlying23 (by kernel_rfl) h with ⟨hcs, hx⟩ | ⟨a, len, cap, m, n', V, D, Pl, hcs, hb2, hl, hm2, em, hx, he⟩
  · injection hcs with hcs
    rw [hcs] at ev
    injection ev with _ e _
    omega
  · injection hcs with hcs
    rw [hcs] at ev
    injection ev with e1 e2 e3
    injection e1 with e1
    subst hx e1 e2
    have hlm : rs.length ≤ m := by rw [em]; split <;> omega
    obtain ⟨u, g1, g2⟩ := hr i hi
    obtain ⟨h1, h2⟩ := he i (by omega)
    rw [add_plain, g1] at h1
    injection h1 with h1
    subst h1
    obtain ⟨pu, cu, eu⟩ := g2.form
    have h3 := bulk_slice Tryz.underlying40 h2 _ _ _ eu
    have h4 := bulk_part (l := (List.range rs.length).map D) (d := D i) (List.mem_map.2 ⟨i, by simpa using hi, rfl⟩)
    have h5 := bulk_elems ((List.range rs.length).map D) ((List.range (m - rs.length)).map fun j => D (rs.length + j))
    show _ ≤ Rows.uptoBulk (.slice _ _)
    dsimp only at h3
    omega
theorem bulk_tab {H : Type} {enc : TypeId × Value → H} {W : World} {r : Reach} {b0 : Nat} {V R : Value} {d : DataW H} {p : List MemPlace} (hv : Value.okWide Tryz.prog W r b0 25 (.agg #[V, R])) (h : DataW.Trod enc Tryz.prog W 0 (fun _ => true) true 25 (.agg #[V, R]) d p) {vs : List ByteArray} {rs : List (List Val)} (h1 : StrsAt W V vs) (h2 : TabRows W R rs) : vs.length ≤ Rows.uptoBulk d ∧ rs.length ≤ Rows.uptoBulk d ∧ ∀ r ∈ rs, r.length ≤ Rows.uptoBulk d := by
  obtain ⟨V', R', y0, y1, n, e, ed, rfl, g0, g1⟩ := open_agg2 Tryz.underlying25 (by kernel_rfl) (by kernel_rfl) hv h
  injection e with e
  injection e with e
  simp only [List.cons.injEq, and_true] at e
  obtain ⟨rfl, rfl⟩ := e
  obtain ⟨pv, cv, ev⟩ := h1.form
  have k1 := bulk_slice Tryz.underlying22 g0 _ _ _ ev
  obtain ⟨k2, k3⟩ := bulk_rows g1 h2
  have e : Rows.uptoBulk d = Rows.uptoBulk y0.1 + (Rows.uptoBulk y1.1 + 0) + 1 := by rw [ed, Rows.uptoBulk, Rows.uptoBulkAll, Rows.uptoBulkAll, Rows.uptoBulkAll]
  refine ⟨by omega, by omega, fun r hr => ?_⟩
  have := k3 r hr
  omega
/-- Rows that came in, by the values that the cells hold. -/
theorem vals_in {W : World} {r : Reach} {base : Nat} {v : Value} {rs : List (List Val)} (ok : Cell.okWide Tryz.prog W r base 23 v) (h : TabRows W v rs) : ∃ us, ValsAt W v us ∧ RowsOf W us rs := by
  obtain ⟨p, c, rfl, h | ⟨b, off, rfl, hb, hr⟩⟩ := h
  · subst h
    cases p with
    | none => exact ⟨[], Or.inl ⟨c, rfl, rfl⟩, rfl, fun i h => absurd h (Nat.not_lt_zero _)⟩
    | some a =>
      obtain ⟨b, off, spot⟩ := a
      have hs : spot = none := by
        simp only [Cell.okWide, Cell.ok, Tryz.underlying23, World.has] at ok
        exact ok.2.2.2.1
      subst hs
      exact ⟨[], Or.inr ⟨b, off, c, rfl, Or.inl rfl, fun i h => absurd h (Nat.not_lt_zero _)⟩, rfl, fun i h => absurd h (Nat.not_lt_zero _)⟩
  · obtain ⟨f, hf⟩ := choose_lt (n := rs.length) (p := fun i v => W.cell? ⟨b, off + i, none⟩ = some v ∧ ∀ h : i < rs.length, RowAt W v rs[i]) (fun i hi => by
      obtain ⟨v, h1, h2⟩ := hr i hi
      exact ⟨v, h1, fun _ => h2⟩)
    refine ⟨(List.range rs.length).map f, Or.inr ⟨b, off, c, by simp, Or.inr hb, fun i h => ?_⟩, by simp, fun i h g => ?_⟩
    · rw [List.getElem_map, List.getElem_range]
      exact (hf i (by simpa using h)).1
    · rw [List.getElem_map, List.getElem_range]
      exact (hf i g).2 g
theorem cellT : Tryz.prog.cellTypes Tryz.prog.depth 25 = some [22, 23] := by kernel_rfl
theorem tab_cell {W : World} {r : Reach} {base : Nat} {V R : Value} (hv : Value.okWide Tryz.prog W r base 25 (.agg #[V, R])) : Cell.okWide Tryz.prog W r base 23 R := by
  simp only [Value.okWide, Tryz.underlying25] at hv
  obtain ⟨cs, e, -, ts, e1, -, h⟩ := hv
  rw [cellT] at e1
  injection e1 with e1
  injection e with e
  subst e e1
  obtain ⟨u, h1, h2⟩ := h 1 R rfl
  injection h1 with h1
  subst h1
  exact h2
/-- A table that came in, as the walks ask for it. -/
theorem openu_tab {H : Type} {enc : TypeId × Value → H} {W : World} {r : Reach} {b0 : Nat} {v : Value} {d : DataW H} {p : List MemPlace} (hv : Value.okWide Tryz.prog W r b0 25 v) (h : DataW.Trod enc Tryz.prog W 0 (fun _ => true) true 25 v d p) (hlt : ∀ y ∈ p, y.block < W.heap.size) (hk : Rows.uptoBulk d ≤ 1048576) :
    ∃ V R vs us rs, v = .agg #[V, R] ∧ TabAt W V R vs us rs ∧ (∀ p n c, V = .slice p n c → n ≤ c) ∧ (∀ p n c, R = .slice p n c → n ≤ c) ∧ vs.length ≤ 1048576 ∧ rs.length ≤ 1048576 ∧ ∀ r ∈ rs, r.length ≤ 1048576 := by
  obtain ⟨V, R, vs, rs, rfl, a1, a2, a3, a4, a5, a6, a7, a8⟩ := open_tab hv h hlt
  obtain ⟨k1, k2, k3⟩ := bulk_tab hv h a1 a4
  obtain ⟨us, u1, u2⟩ := vals_in (tab_cell hv) a4
  exact ⟨V, R, vs, us, rs, rfl, ⟨a1, u1, u2, a5, a6, a2, by have := u2.1; omega, fun u hu => u2.slices u hu⟩, a3, a8, by omega, by omega, fun r hr => by have := k3 r hr; omega⟩

end Go.Proofs.YteipohpfaofchabGreat
