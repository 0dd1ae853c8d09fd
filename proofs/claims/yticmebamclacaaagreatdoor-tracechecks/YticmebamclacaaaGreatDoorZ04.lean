/- The plain mathematics of texts of values: ParseInt of a number's digits, the cut at a slash; the walk of strings.Cut at a slash. -/
import Derived.Test.YticmebamclacaaaGreatDoorZ03
import Derived.Test.YticmebamclacaaaGreatDoorZ01
import Derived.Test.YticmebamclacaaaGreatDoorZ02

namespace Go.Proofs.YticmebamclacaaaGreatDoor
open Go.RowKit LX Go.Shelf
set_option linter.unusedVariables false

theorem kindsAt_nat (L : List Dec) (i : Nat) (h : i < L.length) : kindsAt L (i : Int) = L[i].kinds := by
  unfold kindsAt
  rw [Int.toNat_natCast, List.getD_eq_getElem?_getD, List.getElem?_eq_getElem h]
  rfl
theorem bdrewX {B : Nat} {a w : World} (n : Nat) (h : Below B a w) : Below B a (w.drewN n) := ⟨h.os, h.tape, h.output, h.size, h.block⟩
set_option maxRecDepth 100000 in
set_option maxHeartbeats 4000000 in
theorem cevt_any (A V : Value) (L : List Dec) (e : Evt) (w : World) (hA : SigAt w A L) (hV : RowAt w V e.args) (fx : ∀ v ∈ e.args, v.Fits) (lL : L.length ≤ 9223372036854775807) (lk : ∀ d ∈ L, d.kinds.length ≤ 9223372036854775807) (lv : e.args.length ≤ 9223372036854775807) :
    Calls Tryz.prog 49 #[A, .agg #[.string e.name, V]] w fun r w' => r = .returned (errV (evtE L e)) ∧ Below w.heap.size w w' := by
  have HA : Hid (SigAt w A L) := hA
  have HV : Hid (RowAt w V e.args) := hV
  have LK : Hid (∀ d ∈ L, d.kinds.length ≤ 9223372036854775807) := lk
  obtain ⟨pA, cA, rfl, -, HX0⟩ := hA.form
  obtain ⟨pv, cv, rfl, HY0⟩ := hV.formX
  have HX : Hid (∀ i (hi : i < L.length), ∃ b off u, pA = some ⟨b, off, none⟩ ∧ b < w.heap.size ∧ w.cell? ⟨b, off + i * 2, none⟩ = some (.string L[i].name) ∧ w.cell? ⟨b, off + i * 2 + 1, none⟩ = some u ∧ KAt w u L[i].kinds) := HX0
  have HY : Hid (∀ i (hi : i < e.args.length), ∃ b off, pv = some ⟨b, off, none⟩ ∧ b < w.heap.size ∧ w.cell? ⟨b, off + i * 4, none⟩ = some (.int .i64 e.args[i].k) ∧ w.cell? ⟨b, off + i * 4 + 1, none⟩ = some (.int .i64 e.args[i].n) ∧ w.cell? ⟨b, off + i * 4 + 2, none⟩ = some (.int .i64 e.args[i].d) ∧ w.cell? ⟨b, off + i * 4 + 3, none⟩ = some (.string e.args[i].s)) := HY0
  have cF : Hid (∀ W : World, Below w.heap.size w W → Calls Tryz.prog 70 #[.slice pA L.length cA, .string e.name] W fun e' w' => e' = .returned (.int .i64 (findI e.name L 0)) ∧ Below W.heap.size W w') := fun W hW => find_any _ L e.name W (HA.out.below hW) lL
  have hbd : Hid (0 ≤ findI e.name L 0 → (findI e.name L 0).toNat < L.length) := fun h => by have := findI_bound e.name L 0 h; omega
  have hev : Hid (evtE L e = if valsE e.args = 0 then (if 0 ≤ findI e.name L 0 ∧ kfit (kindsAt L (findI e.name L 0)) e.args = true then 0 else 90) else valsE e.args) := rfl
  clear hA hV HX0 HY0 lk
  obtain ⟨n, en⟩ : ∃ n : Nat, Hid (L.length = n) := ⟨_, rfl⟩
  obtain ⟨m, em⟩ : ∃ m : Nat, Hid (e.args.length = m) := ⟨_, rfl⟩
  obtain ⟨X, eX⟩ : ∃ X : ByteArray, Hid (e.name = X) := ⟨_, rfl⟩
  obtain ⟨I, eI⟩ : ∃ I : Int, Hid (findI X L 0 = I) := ⟨_, rfl⟩
  obtain ⟨E, eE⟩ : ∃ E : Int, Hid (evtE L e = E) := ⟨_, rfl⟩
  rw [eX.out, eI.out] at cF hbd
  rw [eE.out, eX.out, eI.out] at hev
  rw [en.out] at cF lL HA
  rw [em.out] at lv HV
  rw [eE.out, eX.out, en.out, em.out]
  go_enter Tryz.func49, Tryz.ntmps49
  go_wp2
  refine wpX_world ?_
  intro w0 hw0
  have z0 : w0.cell? ⟨w.heap.size, 0, none⟩ = some (.string X) := by rw [hw0]; simp [go_sem]
  have z1 : w0.cell? ⟨w.heap.size, 1, none⟩ = some (.slice pv m cv) := by rw [hw0]; simp [go_sem]
  have zB : Below w.heap.size w w0 := by rw [hw0]; go_grown
  have zs : w.heap.size < w0.heap.size := by rw [hw0]; simp
  clear hw0
  go_loopw [12] (fun i wr => ∃ k : Nat, k ≤ m ∧ i = .int .i64 k ∧ Hid (valsE e.args = valsE (e.args.drop k)) ∧ Below w0.heap.size w0 wr) (fun i _ => m - (intOf i).toNat)
  case atStart => exact ⟨0, Nat.zero_le _, rfl, by rw [List.drop_zero]; exact (show valsE e.args = valsE e.args from rfl), Below.refl _ _⟩
  case round =>
    obtain ⟨k, hk, rfl, hr, hB0⟩ := hrel
    have hB : Below w.heap.size w wr := zB.trans (hB0.mono zB.size)
    have y0 : wr.cell? ⟨w.heap.size, 0, none⟩ = some (.string X) := (hB0.cell (p := ⟨w.heap.size, 0, none⟩) zs).trans z0
    have y1 : wr.cell? ⟨w.heap.size, 1, none⟩ = some (.slice pv m cv) := (hB0.cell (p := ⟨w.heap.size, 1, none⟩) zs).trans z1
    have ys : w.heap.size < wr.heap.size := Nat.lt_of_lt_of_le zs hB0.size
    by_cases hlt : k < m
    · have kx : k < e.args.length := by have := em.out; omega
      obtain ⟨b, off, rfl, hb, r0, r1, r2, r3⟩ := HY.out k kx
      have a0 := (hB.cell (p := ⟨b, off + k * 4, none⟩) hb).trans r0
      have a1 := (hB.cell (p := ⟨b, off + k * 4 + 1, none⟩) hb).trans r1
      have a2 := (hB.cell (p := ⟨b, off + k * 4 + 2, none⟩) hb).trans r2
      have a3 := (hB.cell (p := ⟨b, off + k * 4 + 3, none⟩) hb).trans r3
      have hbr : b < wr.heap.size := Nat.lt_of_lt_of_le hb hB.size
      have f1 := fx e.args[k] (List.getElem_mem kx)
      have hr2 : Hid (valsE e.args = if e.args[k].may = 0 then valsE (e.args.drop (k + 1)) else e.args[k].may) := by
        have h := hr.out
        rw [List.drop_eq_getElem_cons kx] at h
        exact h
      clear r0 r1 r2 r3 hr
      generalize e.args[k] = Y at a0 a1 a2 a3 hr2 f1
      obtain ⟨C, eC⟩ : ∃ C : Int, Hid (Y.may = C) := ⟨_, rfl⟩
      rw [eC.out] at hr2
      have ct : Hid (∀ W : World, Calls Tryz.prog 69 #[.agg #[.int .i64 Y.k, .int .i64 Y.n, .int .i64 Y.d, .string Y.s]] W fun e w' => e = .returned (.int .i64 C) ∧ Below W.heap.size W w') := fun W => by
        have h := check_any Y.k Y.n Y.d Y.s W f1.n1 f1.n2 f1.d1 f1.d2
        rw [show chk Y.k Y.n Y.d Y.s = C from eC.out] at h
        exact h
      have cf : Hid (∀ W : World, Calls Tryz.prog 68 #[.int .i64 C] W fun r w' => r = .returned (errV C) ∧ w' = W) := fun W => failed_any C W
      clear eC
      by_cases hC : C = 0
      · have hr3 : Hid (valsE e.args = valsE (e.args.drop (k + 1))) := by have h := hr2.out; rwa [if_pos hC] at h
        subst hC
        rw [errV_0] at cf
        clear hr2
        go_wp2_with fail
        refine (ct.out _).mono ?_
        rintro e' w1 ⟨rfl, hw1⟩
        obtain ⟨hw2, hn2⟩ := bgX (n := wr.heap.size) (W0 := wr) (by go_grown) (by go_size) hw1
        have hB2 : Below w0.heap.size w0 w1 := hB0.trans (hw2.mono hB0.size)
        clear a0 a1 a2 a3 ct hw1 hw2 hn2
        go_wp2_with fail
        refine (cf.out _).mono ?_
        rintro e' w2 ⟨rfl, rfl⟩
        clear cf y0 y1
        go_wp2
        exact ⟨⟨k + 1, by omega, by go_num, hr3, hB2⟩, by simp [intOf]; omega⟩
      · have hr3 : Hid (E = C) := by
          have h := hev.out
          have h' := hr2.out
          rw [if_neg hC] at h'
          rw [h', if_neg hC] at h
          exact h
        have hd : Hid (errV C = .iface 92 (.agg #[.int .i64 C])) := errV_ne hC
        rw [hd.out] at cf
        clear hr2 hC
        go_wp2_with fail
        refine (ct.out _).mono ?_
        rintro e' w1 ⟨rfl, hw1⟩
        obtain ⟨hw2, hn2⟩ := bgX (n := wr.heap.size) (W0 := wr) (by go_grown) (by go_size) hw1
        have hB2 : Below w.heap.size w w1 := hB.trans (hw2.mono hB.size)
        clear a0 a1 a2 a3 ct hw1 hw2 hn2
        go_wp2_with fail
        refine (cf.out _).mono ?_
        rintro e' w2 ⟨rfl, rfl⟩
        clear cf y0 y1
        go_wp2
        go_ret
        exact ⟨retE hr3.out hd.out.symm, hB2⟩
    · have c2 : ¬ (k : Int) < m := by omega
      have hr3 : Hid (E = if 0 ≤ I ∧ kfit (kindsAt L I) e.args = true then 0 else 90) := by
        have h := hev.out
        have h' := hr.out
        rw [List.drop_eq_nil_of_le (by have := em.out; omega)] at h'
        rw [h'] at h
        exact h
      go_wp2_with fail
      refine (cF.out _ hB).mono ?_
      rintro e' w1 ⟨rfl, hw1⟩
      have hB1 : Below w.heap.size w w1 := hB.trans (hw1.mono hB.size)
      have x1 : w1.cell? ⟨w.heap.size, 1, none⟩ = some (.slice pv m cv) := (hw1.cell (p := ⟨w.heap.size, 1, none⟩) ys).trans y1
      have xs : w.heap.size < w1.heap.size := Nat.lt_of_lt_of_le ys hw1.size
      clear cF y0 y1 z0 z1 hw1
      by_cases hI : I < 0
      · have hr4 : Hid (E = 90) := by have h := hr3.out; rwa [if_neg (by omega)] at h
        clear hr3
        go_upto_region 9 with fail
        go_quiet (fail)
        have K9 : Below w.heap.size w (w1.drewN nq) := bdrewX _ hB1
        go_wp2
        go_ret
        exact ⟨retE hr4.out rfl, K9⟩
      · obtain ⟨i, rfl⟩ : ∃ i : Nat, I = i := ⟨I.toNat, by omega⟩
        have hin : i < L.length := by have h := hbd.out (by omega); simpa using h
        have hi : i < n := by have := en.out; omega
        obtain ⟨b, off, u, rfl, hb, r0, r1, r2⟩ := HX.out i hin
        have a1 := (hB1.cell (p := ⟨b, off + i * 2 + 1, none⟩) hb).trans r1
        have hk2 : Hid (kindsAt L (i : Int) = L[i].kinds) := kindsAt_nat L i hin
        have lki := LK.out _ (List.getElem_mem hin)
        have hK1 : KAt w1 u L[i].kinds := r2.below hB1
        obtain ⟨F, eF⟩ : ∃ F : Bool, Hid (kfit L[i].kinds e.args = F) := ⟨kfit L[i].kinds e.args, (show _ = _ from rfl)⟩
        have hr4 : Hid (E = if F = true then 0 else 90) := by
          have h := hr3.out
          rw [hk2.out, eF.out] at h
          unfold Hid
          rw [h]
          simp
        obtain ⟨pk, ck, rfl, -⟩ := hK1.form
        have ct : Hid (∀ W : World, Below w1.heap.size w1 W → Calls Tryz.prog 71 #[.slice pk L[i].kinds.length ck, .slice pv m cv, .func (.func 72) #[] #[]] W fun e w' => e = .returned (.bool F) ∧ Below W.heap.size W w') := fun W hW => by
          have h := eqk_any _ (.slice pv m cv) L[i].kinds e.args W (hK1.below hW) (HV.out.below (hB1.trans (hW.mono hB1.size))) lki (by have := em.out; omega)
          rw [eF.out] at h
          exact h
        have hbl : b < w1.heap.size := Nat.lt_of_lt_of_le hb hB1.size
        have hnI : ¬ (i : Int) < 0 := by omega
        clear r0 r1 r2 hr3 hK1 eF hk2 hI
        generalize L[i].kinds.length = nk at a1 ct lki
        cases F with
        | true =>
          have hr5 : Hid (E = 0) := hr4.out
          clear hr4
          go_upto_region 9 with fail
          go_region_held3 (fun w' => w'.cell? ⟨b, off + i * 2 + 1, none⟩ = some (.slice pk nk ck) ∧ w'.cell? ⟨w.heap.size, 1, none⟩ = some (.slice pv m cv)) (exact ⟨bclX (n := w1.heap.size) (by go_grown) a1 hbl, bclX (n := w1.heap.size) (by go_grown) x1 xs⟩)
            (first
              | (go_at_call 71; refine (ct.out _ (by go_grown)).mono ?_; rintro e' w2 ⟨rfl, hb2⟩; obtain ⟨hB2, hn2⟩ := bgX (n := w1.heap.size) (W0 := w1) (by go_grown) (by go_size) hb2))
          all_goals
            have K9 : Below w.heap.size w w2 := hB1.trans (hB2.mono hB1.size)
            clear ct a1 x1 hB2 hn2 hb2
            go_wp2
            go_ret
            exact ⟨retE hr5.out rfl, K9⟩
        | false =>
          have hr5 : Hid (E = 90) := hr4.out
          clear hr4
          go_upto_region 9 with fail
          go_region_held3 (fun w' => w'.cell? ⟨b, off + i * 2 + 1, none⟩ = some (.slice pk nk ck) ∧ w'.cell? ⟨w.heap.size, 1, none⟩ = some (.slice pv m cv)) (exact ⟨bclX (n := w1.heap.size) (by go_grown) a1 hbl, bclX (n := w1.heap.size) (by go_grown) x1 xs⟩)
            (first
              | (go_at_call 71; refine (ct.out _ (by go_grown)).mono ?_; rintro e' w2 ⟨rfl, hb2⟩; obtain ⟨hB2, hn2⟩ := bgX (n := w1.heap.size) (W0 := w1) (by go_grown) (by go_size) hb2))
          all_goals
            have K9 : Below w.heap.size w w2 := hB1.trans (hB2.mono hB1.size)
            clear ct a1 x1 hB2 hn2 hb2
            go_wp2
            go_ret
            exact ⟨retE hr5.out rfl, K9⟩

set_option maxRecDepth 100000 in
set_option maxHeartbeats 4000000 in
theorem cpoint_any (A V : Value) (L : List Dec) (t : Int) (es : List Evt) (w : World) (hA : SigAt w A L) (hV : EvsAt w V es) (fx : ∀ e ∈ es, ∀ v ∈ e.args, v.Fits) (lL : L.length ≤ 9223372036854775807) (lk : ∀ d ∈ L, d.kinds.length ≤ 9223372036854775807) (lv : ∀ e ∈ es, e.args.length ≤ 9223372036854775807) (le : es.length ≤ 9223372036854775807) :
    Calls Tryz.prog 25 #[A, .agg #[.int .i64 t, V]] w fun r w' => r = .returned (errV (pointE L t es)) ∧ Below w.heap.size w w' := by
  have HA : Hid (SigAt w A L) := hA
  have cS : Hid (∀ W : World, Below w.heap.size w W → Calls Tryz.prog 26 #[A] W fun e w' => e = .returned (errV (sigE L)) ∧ Below W.heap.size W w') := fun W hW => csig_any A L W (hA.below hW) lL lk
  have cE : Hid (∀ (W : World) (U : Value) (e : Evt), Below w.heap.size w W → e ∈ es → RowAt W U e.args → Calls Tryz.prog 49 #[A, .agg #[.string e.name, U]] W fun r w' => r = .returned (errV (evtE L e)) ∧ Below W.heap.size W w') := fun W U e hW he hU => cevt_any A U L e W (hA.below hW) hU (fx e he) lL lk (lv e he)
  obtain ⟨pA, cA, rfl, -⟩ := hA.form
  obtain ⟨pv, cv, rfl, HY0⟩ := hV.form
  have HY : Hid (∀ i (hi : i < es.length), ∃ b off u, pv = some ⟨b, off, none⟩ ∧ b < w.heap.size ∧ w.cell? ⟨b, off + i * 2, none⟩ = some (.string es[i].name) ∧ w.cell? ⟨b, off + i * 2 + 1, none⟩ = some u ∧ RowAt w u es[i].args) := HY0
  have hp : Hid (pointE L t es = if sigE L = 0 then (if sizeE t es.length = 0 then evtsE L es else sizeE t es.length) else sigE L) := rfl
  clear hA hV HY0 HA fx lk lv
  obtain ⟨n, en⟩ : ∃ n : Nat, Hid (L.length = n) := ⟨_, rfl⟩
  obtain ⟨m, em⟩ : ∃ m : Nat, Hid (es.length = m) := ⟨_, rfl⟩
  obtain ⟨E, eE⟩ : ∃ E : Int, Hid (pointE L t es = E) := ⟨_, rfl⟩
  obtain ⟨C, eC⟩ : ∃ C : Int, Hid (sigE L = C) := ⟨_, rfl⟩
  obtain ⟨Z, eZ⟩ : ∃ Z : Int, Hid (sizeE t m = Z) := ⟨_, rfl⟩
  rw [en.out, eC.out] at cS
  rw [en.out] at cE lL
  rw [eE.out, em.out, eC.out, eZ.out] at hp
  rw [em.out] at le
  rw [eE.out, en.out, em.out]
  have cZ : Hid (∀ W : World, Calls Tryz.prog 48 #[.agg #[.int .i64 t, .slice pv m cv]] W fun e w' => e = .returned (errV Z) ∧ Below W.heap.size W w') := fun W => by
    have h := csize_any t pv m cv W
    rw [eZ.out] at h
    exact h
  go_enter Tryz.func25, Tryz.ntmps25
  by_cases hC : C = 0
  · have hp1 : Hid (E = if Z = 0 then evtsE L es else Z) := by have h := hp.out; rwa [if_pos hC] at h
    subst hC
    rw [errV_0] at cS
    go_wp2_with fail
    refine (cS.out _ (by go_grown)).mono ?_
    rintro e w1 ⟨rfl, hb1⟩
    have b0 : w1.cell? ⟨w.heap.size, 0, none⟩ = some (.int .i64 t) := (hb1.cell (p := ⟨w.heap.size, 0, none⟩) (by simp)).trans (by simp [go_sem])
    have b1 : w1.cell? ⟨w.heap.size, 1, none⟩ = some (.slice pv m cv) := (hb1.cell (p := ⟨w.heap.size, 1, none⟩) (by simp)).trans (by simp [go_sem])
    have hs1 : w.heap.size < w1.heap.size := by have := hb1.size; simp at this; omega
    obtain ⟨hB1, -⟩ := bgX (n := w.heap.size) (W0 := w) (by go_grown) (by go_size) hb1
    clear hb1 cS
    by_cases hZ : Z = 0
    · have hE : Hid (E = evtsE L es) := by have h := hp1.out; rwa [if_pos hZ] at h
      subst hZ
      rw [errV_0] at cZ
      go_wp2_with fail
      refine (cZ.out _).mono ?_
      rintro e w2 ⟨rfl, hb2⟩
      have c1 : w2.cell? ⟨w.heap.size, 1, none⟩ = some (.slice pv m cv) := (hb2.cell (p := ⟨w.heap.size, 1, none⟩) hs1).trans b1
      have hB2 : Below w.heap.size w w2 := hB1.trans (hb2.mono hB1.size)
      clear b0 b1 cZ hb2 hB1
      go_wp2
      go_loopw [23] (fun i wr => ∃ k : Nat, k ≤ m ∧ i = .int .i64 k ∧ Hid (E = evtsE L (es.drop k)) ∧ Below w.heap.size w wr) (fun i _ => m - (intOf i).toNat)
      case atStart => exact ⟨0, Nat.zero_le _, rfl, by rw [List.drop_zero]; exact hE, hB2⟩
      case round =>
        obtain ⟨k, hk, rfl, hr, hBw⟩ := hrel
        by_cases hlt : k < m
        · have kx : k < es.length := by have := em.out; omega
          obtain ⟨b, off, u, rfl, hb, r0, r1, r2⟩ := HY.out k kx
          have a0 := (hBw.cell (p := ⟨b, off + k * 2, none⟩) hb).trans r0
          have a1 := (hBw.cell (p := ⟨b, off + k * 2 + 1, none⟩) hb).trans r1
          have hr2 : Hid (E = if evtE L es[k] = 0 then evtsE L (es.drop (k + 1)) else evtE L es[k]) := by
            have h := hr.out
            rw [List.drop_eq_getElem_cons kx] at h
            exact h
          obtain ⟨D, eD⟩ : ∃ D : Int, Hid (evtE L es[k] = D) := ⟨evtE L es[k], (show _ = _ from rfl)⟩
          have ct : Hid (∀ W : World, Below wr.heap.size wr W → Calls Tryz.prog 49 #[.slice pA n cA, .agg #[.string es[k].name, u]] W fun r w' => r = .returned (errV D) ∧ Below W.heap.size W w') := fun W hW => by
            have hWw := hBw.trans (hW.mono hBw.size)
            have h := cE.out W u es[k] hWw (List.getElem_mem kx) (r2.below hWw)
            rw [eD.out] at h
            exact h
          rw [eD.out] at hr2
          obtain ⟨pu, cu, rfl, -⟩ := r2.formX
          have hbr : b < wr.heap.size := Nat.lt_of_lt_of_le hb hBw.size
          clear r0 r1 r2 hr eD
          generalize es[k].args.length = nk at a1 ct
          generalize es[k].name = X at a0 ct
          by_cases hD : D = 0
          · have hr3 : Hid (E = evtsE L (es.drop (k + 1))) := by have h := hr2.out; rwa [if_pos hD] at h
            subst hD
            rw [errV_0] at ct
            clear hr2
            go_wp2_with fail
            refine (ct.out _ (by go_grown)).mono ?_
            rintro e w3 ⟨rfl, hb3⟩
            obtain ⟨hB3, -⟩ := bgX (n := wr.heap.size) (W0 := wr) (by go_grown) (by go_size) hb3
            have K9 : Below w.heap.size w w3 := hBw.trans (hB3.mono hBw.size)
            clear ct a0 a1 hB3 hb3
            go_wp2
            exact ⟨⟨k + 1, by omega, by go_num, hr3, K9⟩, by simp [intOf]; omega⟩
          · have hr3 : Hid (E = D) := by have h := hr2.out; rwa [if_neg hD] at h
            have hd : Hid (errV D = .iface 92 (.agg #[.int .i64 D])) := errV_ne hD
            rw [hd.out] at ct
            clear hr2 hD
            go_wp2_with fail
            refine (ct.out _ (by go_grown)).mono ?_
            rintro e w3 ⟨rfl, hb3⟩
            obtain ⟨hB3, -⟩ := bgX (n := wr.heap.size) (W0 := wr) (by go_grown) (by go_size) hb3
            have K9 : Below w.heap.size w w3 := hBw.trans (hB3.mono hBw.size)
            clear ct a0 a1 hB3 hb3
            go_wp2
            go_ret
            exact ⟨retE hr3.out hd.out.symm, K9⟩
        · have c2 : ¬ (k : Int) < m := by omega
          have hr3 : Hid (E = 0) := by
            have h := hr.out
            rw [List.drop_eq_nil_of_le (by have := em.out; omega)] at h
            exact h
          go_wp2
          go_ret
          exact ⟨retE hr3.out rfl, hBw⟩
    · have hE : Hid (E = Z) := by have h := hp1.out; rwa [if_neg hZ] at h
      have hd : Hid (errV Z = .iface 92 (.agg #[.int .i64 Z])) := errV_ne hZ
      rw [hd.out] at cZ
      clear hZ
      go_wp2_with fail
      refine (cZ.out _).mono ?_
      rintro e w2 ⟨rfl, hb2⟩
      have hB2 : Below w.heap.size w w2 := hB1.trans (hb2.mono hB1.size)
      clear b0 b1 cZ hb2 hB1
      go_wp2
      go_ret
      exact ⟨retE hE.out hd.out.symm, hB2⟩
  · have hE : Hid (E = C) := by have h := hp.out; rwa [if_neg hC] at h
    have hd : Hid (errV C = .iface 92 (.agg #[.int .i64 C])) := errV_ne hC
    rw [hd.out] at cS
    clear hC
    go_wp2_with fail
    refine (cS.out _ (by go_grown)).mono ?_
    rintro e w1 ⟨rfl, hb1⟩
    obtain ⟨hB1, -⟩ := bgX (n := w.heap.size) (W0 := w) (by go_grown) (by go_size) hb1
    clear hb1 cS
    go_wp2
    go_ret
    exact ⟨retE hE.out hd.out.symm, hB1⟩

set_option maxRecDepth 100000 in
theorem checkpoint_any (A V : Value) (L : List Dec) (t : Int) (es : List Evt) (w : World) (hg : ErrT w) (hA : SigAt w A L) (hV : EvsAt w V es) (fx : ∀ e ∈ es, ∀ v ∈ e.args, v.Fits) (lL : L.length ≤ 9223372036854775807) (lk : ∀ d ∈ L, d.kinds.length ≤ 9223372036854775807) (lv : ∀ e ∈ es, e.args.length ≤ 9223372036854775807) (le : es.length ≤ 9223372036854775807) :
    Calls Tryz.prog 9 #[A, .agg #[.int .i64 t, V]] w fun r w' => r = .returned (.int .i64 (pointE L t es)) ∧ Below w.heap.size w w' := by
  have ct : Hid (∀ W : World, Below w.heap.size w W → Calls Tryz.prog 25 #[A, .agg #[.int .i64 t, V]] W fun e w' => e = .returned (errV (pointE L t es)) ∧ Below W.heap.size W w') := fun W hW => cpoint_any A V L t es W (hA.below hW) (hV.below hW) fx lL lk lv le
  obtain ⟨p, c, rfl, -⟩ := hA.form
  obtain ⟨pv, cv, rfl, -⟩ := hV.form
  generalize pointE L t es = E at *
  clear hA hV lk fx lv
  generalize L.length = n at *
  generalize es.length = m at *
  have cn : Hid (∀ W : World, ErrT W → Calls Tryz.prog 24 #[errV E] W fun r w' => r = .returned (.int .i64 E) ∧ Below W.heap.size W w') := fun W hW => tnumber_any E W hW
  generalize errV E = EV at *
  go_enter Tryz.func9, Tryz.ntmps9
  go_wp2_with fail
  refine (ct.out _ (by go_grown)).mono ?_
  rintro e w1 ⟨rfl, hw1⟩
  obtain ⟨hB1, -⟩ := bgX (n := w.heap.size) (W0 := w) (by go_grown) (by go_size) hw1
  clear ct hw1
  go_wp2_with fail
  refine (cn.out _ (hg.below hB1)).mono ?_
  rintro e w2 ⟨rfl, hw2⟩
  have K : Below w.heap.size w w2 := hB1.trans (hw2.mono hB1.size)
  clear cn hB1 hw2
  go_wp2
  go_ret
  exact ⟨rfl, K⟩

end Go.Proofs.YticmebamclacaaaGreatDoor

namespace Go.Proofs.YticmebamclacaaaGreatDoor
open Go.RowKit LX Go.Shelf
set_option linter.unusedVariables false

/-- Texts where they lie. -/
def StrAt (w : World) (v : Value) (vs : List (List UInt8)) : Prop := ∃ b c, v = .slice (some ⟨b, 0, none⟩) vs.length c ∧ b < w.heap.size ∧ ∀ i (h : i < vs.length), w.cell? ⟨b, i, none⟩ = some (.string ⟨vs[i].toArray⟩)
set_option maxRecDepth 100000 in
theorem words_any (w : World) :
    Calls Tryz.prog 51 #[] w fun e w' => e = .returned (.slice (some ⟨w.heap.size, 0, none⟩) 23 23) ∧ Below w.heap.size w w' ∧ StrAt w' (.slice (some ⟨w.heap.size, 0, none⟩) 23 23) resv := by
  go_enter Tryz.func51, Tryz.ntmps51
  go_wp2
  go_ret
  refine ⟨rfl, by go_grown, w.heap.size, 23, rfl, by simp, fun i hi => ?_⟩
  rw [World.cell?_alloc_at _ _ _ _ rfl]
  have hall : ∀ i : Fin 23, (#[.string ⟨#[116, 114, 117, 101]⟩, .string ⟨#[102, 97, 108, 115, 101]⟩, .string ⟨#[110, 111, 116]⟩, .string ⟨#[97, 110, 100]⟩, .string ⟨#[111, 114]⟩, .string ⟨#[101, 120, 105, 115, 116, 115]⟩, .string ⟨#[112, 114, 101, 118]⟩, .string ⟨#[110, 101, 120, 116]⟩, .string ⟨#[111, 110, 99, 101]⟩, .string ⟨#[115, 111, 111, 110]⟩, .string ⟨#[115, 105, 110, 99, 101]⟩, .string ⟨#[117, 110, 116, 105, 108]⟩, .string ⟨#[98, 101, 102, 111, 114, 101]⟩, .string ⟨#[97, 102, 116, 101, 114]⟩, .string ⟨#[97, 103, 103]⟩, .string ⟨#[108, 101, 116]⟩, .string ⟨#[108, 101, 116, 112, 97, 115, 116]⟩, .string ⟨#[106, 111, 105, 110]⟩, .string ⟨#[97, 110, 121]⟩, .string ⟨#[116, 101, 115, 116]⟩, .string ⟨#[97, 108, 116]⟩, .string ⟨#[115, 101, 113]⟩, .string ⟨#[115, 116, 97, 114]⟩] : Array Value)[i.1]? = some (.string ⟨(resv[i.1]'i.2).toArray⟩) := by
    intro i
    match i with
    | ⟨0, _⟩ => rfl
    | ⟨1, _⟩ => rfl
    | ⟨2, _⟩ => rfl
    | ⟨3, _⟩ => rfl
    | ⟨4, _⟩ => rfl
    | ⟨5, _⟩ => rfl
    | ⟨6, _⟩ => rfl
    | ⟨7, _⟩ => rfl
    | ⟨8, _⟩ => rfl
    | ⟨9, _⟩ => rfl
    | ⟨10, _⟩ => rfl
    | ⟨11, _⟩ => rfl
    | ⟨12, _⟩ => rfl
    | ⟨13, _⟩ => rfl
    | ⟨14, _⟩ => rfl
    | ⟨15, _⟩ => rfl
    | ⟨16, _⟩ => rfl
    | ⟨17, _⟩ => rfl
    | ⟨18, _⟩ => rfl
    | ⟨19, _⟩ => rfl
    | ⟨20, _⟩ => rfl
    | ⟨21, _⟩ => rfl
    | ⟨22, _⟩ => rfl
    | ⟨n + 23, h⟩ => exact absurd h (by omega)
  exact hall ⟨i, hi⟩

theorem contains_drop (x : List UInt8) (L : List (List UInt8)) (k : Nat) (h : k < L.length) : (L.drop k).contains x = (L[k] == x || (L.drop (k + 1)).contains x) := by
  rw [List.drop_eq_getElem_cons h, List.contains_cons]
  congr 1
  exact BEq.comm

set_option maxRecDepth 100000 in
set_option maxHeartbeats 1000000 in
theorem rhas_any (V : Value) (L : List (List UInt8)) (x : ByteArray) (w : World) (hV : StrAt w V L) (lL : L.length ≤ 1000000) :
    Calls Tryz.prog 52 #[V, .string x] w fun e w' => e = .returned (.bool (L.contains x.data.toList)) ∧ w' = w := by
  obtain ⟨b, c, rfl, hb, hc⟩ := hV
  have HC : Hid (∀ i (h : i < L.length), w.cell? ⟨b, i, none⟩ = some (.string ⟨L[i].toArray⟩)) := hc
  clear hc
  obtain ⟨n, en⟩ : ∃ n : Nat, Hid (L.length = n) := ⟨_, rfl⟩
  rw [en.out] at lL ⊢
  obtain ⟨R, eR⟩ : ∃ R : Bool, Hid (L.contains x.data.toList = R) := ⟨_, rfl⟩
  rw [eR.out]
  go_enter Tryz.func52, Tryz.ntmps52
  go_wp2
  go_loop [5] (fun i => ∃ k : Nat, k ≤ n ∧ i = .int .i64 k ∧ Hid (R = (L.drop k).contains x.data.toList)) (fun i => n - (intOf i).toNat)
  case atStart => exact ⟨0, Nat.zero_le _, rfl, by rw [List.drop_zero]; exact eR.out.symm⟩
  case round =>
    obtain ⟨k, hk, rfl, hr⟩ := hrel
    by_cases hlt : k < n
    · have kx : k < L.length := by have := en.out; omega
      have a0 := HC.out k kx
      have hr2 : Hid (R = (L[k] == x.data.toList || (L.drop (k + 1)).contains x.data.toList)) := by
        have h := hr.out
        rw [contains_drop _ _ _ kx] at h
        exact h
      have hlt' : (k : Int) < n := by omega
      clear hr
      generalize L[k] = y at a0 hr2
      by_cases hy : y = x.data.toList
      · have hr3 : Hid (R = true) := by unfold Hid; have h := hr2.out; rw [hy] at h; simpa using h
        have hq : ((⟨y.toArray⟩ : ByteArray).toList == x.toList) = true := by rw [ByteArray.toList_eq, ByteArray.toList_eq]; simpa using hy
        generalize (⟨y.toArray⟩ : ByteArray) = Y at a0 hq
        clear hr2 hy
        go_wp2
        go_ret
        exact ⟨retb hr3.out.symm, rfl⟩
      · have hr3 : Hid (R = (L.drop (k + 1)).contains x.data.toList) := by
          have h := hr2.out
          rw [beq_eq_false_iff_ne.mpr hy, Bool.false_or] at h
          exact h
        have hq : ((⟨y.toArray⟩ : ByteArray).toList == x.toList) = false := by rw [ByteArray.toList_eq, ByteArray.toList_eq]; simpa using hy
        generalize (⟨y.toArray⟩ : ByteArray) = Y at a0 hq
        clear hr2 hy
        go_wp2
        exact ⟨⟨k + 1, by omega, by go_num, hr3⟩, by simp [intOf]; omega⟩
    · have c2 : ¬ (k : Int) < n := by omega
      have hr3 : Hid (R = false) := by
        have h := hr.out
        rw [List.drop_eq_nil_of_le (by have := en.out; omega)] at h
        exact h
      go_wp2
      go_ret
      exact ⟨retb hr3.out.symm, rfl⟩

theorem nameL_no (l : List UInt8) (h : inAll l = false) : nameL l = false := by unfold nameL; rw [h, Bool.and_false]
theorem nameL_yes {l : List UInt8} (h1 : 1 ≤ l.length) (h2 : l.length ≤ 16) (h3 : lowN (hd l) = true) (h4 : inAll l = true) : nameL l = !resv.contains l := by
  unfold nameL
  rw [h3, h4, decide_eq_true h1, decide_eq_true h2]
  simp

set_option maxHeartbeats 4000000 in
set_option maxRecDepth 100000 in
theorem rname_any (s : ByteArray) (w : World) :
    Calls Tryz.prog 27 #[.string s] w fun e w' => e = .returned (.bool (nameB s)) ∧ Below w.heap.size w w' := by
  have hl : s.data.toList.length = s.size := by simp
  obtain ⟨R, eR⟩ : ∃ R : Bool, Hid (nameB s = R) := ⟨_, rfl⟩
  rw [eR.out]
  by_cases h0 : s.size = 0
  · have hn : Hid (R = false) := by
      rw [← eR.out]
      have hs : s = ⟨#[]⟩ := of_list (l := []) (List.eq_nil_of_length_eq_zero (by omega))
      rw [hs]
      rfl
    have h0' : (s.size : Int) < 1 := by omega
    go_enter Tryz.func27, Tryz.ntmps27
    go_wp2
    go_ret
    exact ⟨retb hn.out.symm, Below.refl _ _⟩
  have h0' : ¬ (s.size : Int) < 1 := by omega
  by_cases h1 : 16 < s.size
  · have hn : Hid (R = false) := by
      rw [← eR.out]
      unfold Hid nameB
      cases h : nameL s.data.toList with
      | false => rfl
      | true => exact absurd (nameL_len h) (by omega)
    have h1' : (16 : Int) < s.size := by omega
    go_enter Tryz.func27, Tryz.ntmps27
    go_wp2
    go_ret
    exact ⟨retb hn.out.symm, Below.refl _ _⟩
  have h1' : ¬ (16 : Int) < s.size := by omega
  have hp : 0 < s.size := by omega
  have hp' : (0 : Int) < s.size := by omega
  have hh : hd s.data.toList = s[0].toNat := by simpa using hd_drop s 0 hp
  by_cases hb : lowN (hd s.data.toList) = true
  · have hb1 : 97 ≤ s[0].toNat ∧ s[0].toNat ≤ 122 := by rw [hh] at hb; unfold lowN at hb; simpa using hb
    have b1 : ¬ ((s[0].toNat : Nat) : Int) < 97 := by omega
    have b2 : ¬ (122 : Int) < ((s[0].toNat : Nat) : Int) := by omega
    have HY : Hid (inAll s.data.toList = true → R = !resv.contains s.data.toList) := fun h => by rw [← eR.out]; exact nameL_yes (by omega) (by omega) hb h
    have HN : Hid (inAll s.data.toList = false → R = false) := fun h => by rw [← eR.out]; exact nameL_no _ h
    have cW : Hid (∀ W : World, Calls Tryz.prog 51 #[] W fun e w' => e = .returned (.slice (some ⟨W.heap.size, 0, none⟩) 23 23) ∧ Below W.heap.size W w' ∧ StrAt w' (.slice (some ⟨W.heap.size, 0, none⟩) 23 23) resv) := fun W => words_any W
    clear hb hb1 hh eR hl
    go_enter Tryz.func27, Tryz.ntmps27
    go_wp2
    go_loop [3] (fun i => ∃ k : Nat, k ≤ s.size ∧ i = .int .i64 k ∧ Hid (inAll s.data.toList = inAll (s.data.toList.drop k))) (fun i => s.size - (intOf i).toNat)
    case atStart => exact ⟨0, Nat.zero_le _, rfl, by rw [List.drop_zero]; exact (show inAll s.data.toList = inAll s.data.toList from rfl)⟩
    case round =>
      obtain ⟨k, hk, rfl, hrr⟩ := hrel
      by_cases hlt : k < s.size
      · have hd1 : s.data.toList.drop k = s[k] :: s.data.toList.drop (k + 1) := by
          rw [List.drop_eq_getElem_cons (by simpa using hlt)]
          rfl
        have hr2 : Hid (inAll s.data.toList = (inwN s[k].toNat && inAll (s.data.toList.drop (k + 1)))) := by
          have h := hrr.out
          rw [hd1] at h
          exact h
        have hlt' : (k : Int) < s.size := by omega
        have hC := s[k].toNat_lt
        clear hrr hd1
        obtain ⟨c, ec⟩ : ∃ c : Nat, Hid (s[k].toNat = c) := ⟨s[k].toNat, (show _ = _ from rfl)⟩
        rw [ec.out] at hr2 hC
        have ec2 := ec.out
        by_cases hI : inwN c = true
        · have hr3 : Hid (inAll s.data.toList = inAll (s.data.toList.drop (k + 1))) := by
            have h := hr2.out
            rw [hI, Bool.true_and] at h
            exact h
          have hx : (97 ≤ c ∧ c ≤ 122) ∨ ((48 ≤ c ∧ c ≤ 57) ∨ c = 95) := by
            unfold inwN lowN digN at hI
            simp at hI
            omega
          clear hI hr2
          rcases hx with ⟨x1, x2⟩ | ⟨x1, x2⟩ | x3
          · have y1 : ¬ (c : Int) < 97 := by omega
            have y2 : ¬ (122 : Int) < c := by omega
            go_wp2
            exact ⟨⟨k + 1, by omega, by go_num, hr3⟩, by simp [intOf]; omega⟩
          · have y1 : (c : Int) < 97 := by omega
            have y2 : ¬ (c : Int) < 48 := by omega
            have y3 : ¬ (57 : Int) < c := by omega
            go_wp2
            exact ⟨⟨k + 1, by omega, by go_num, hr3⟩, by simp [intOf]; omega⟩
          · subst x3
            go_wp2
            exact ⟨⟨k + 1, by omega, by go_num, hr3⟩, by simp [intOf]; omega⟩
        · have hI' : inwN c = false := by simpa using hI
          have hr3 : Hid (R = false) := HN.out (by have h := hr2.out; rw [hI', Bool.false_and] at h; exact h)
          have hx : (c < 97 ∨ 122 < c) ∧ (c < 48 ∨ 57 < c) ∧ c ≠ 95 := by
            unfold inwN lowN digN at hI'
            simp at hI'
            omega
          have y3 : ((c : Int) == 95) = false := by simp; omega
          clear hI hI' hr2
          obtain ⟨hx1, hx2, -⟩ := hx
          rcases hx1 with x1 | x1
          · have z1 : (c : Int) < 97 := by omega
            rcases hx2 with x2 | x2
            · have z2 : (c : Int) < 48 := by omega
              go_wp2
              go_ret
              exact ⟨retb hr3.out.symm, Below.refl _ _⟩
            · have z2 : ¬ (c : Int) < 48 := by omega
              have z3 : (57 : Int) < c := by omega
              go_wp2
              go_ret
              exact ⟨retb hr3.out.symm, Below.refl _ _⟩
          · have z1 : ¬ (c : Int) < 97 := by omega
            have z1' : (122 : Int) < c := by omega
            have z2 : ¬ (c : Int) < 48 := by omega
            have z3 : (57 : Int) < c := by omega
            go_wp2
            go_ret
            exact ⟨retb hr3.out.symm, Below.refl _ _⟩
      · have hlt' : ¬ (k : Int) < s.size := by omega
        have hr3 : Hid (R = !resv.contains s.data.toList) := HY.out (by
          have h := hrr.out
          rw [List.drop_eq_nil_of_le (by simpa using hlt)] at h
          exact h)
        obtain ⟨Q, eQ⟩ : ∃ Q : Bool, Hid (resv.contains s.data.toList = Q) := ⟨_, rfl⟩
        rw [eQ.out] at hr3
        go_wp2_with fail
        refine (cW.out _).mono ?_
        rintro e w1 ⟨rfl, hB1, hS1⟩
        have cH : Hid (Calls Tryz.prog 52 #[.slice (some ⟨w.heap.size, 0, none⟩) 23 23, .string s] w1 fun e w' => e = .returned (.bool Q) ∧ w' = w1) := by
          have h := rhas_any _ resv s w1 hS1 (by decide)
          rw [eQ.out] at h
          exact h
        clear hS1 cW
        go_wp2_with fail
        refine cH.out.mono ?_
        rintro e w2 ⟨rfl, rfl⟩
        clear cH
        go_wp2
        go_ret
        exact ⟨retb hr3.out.symm, hB1⟩
  · have hb' : lowN (hd s.data.toList) = false := by simpa using hb
    have hn : Hid (R = false) := by rw [← eR.out]; unfold Hid nameB nameL; rw [hb']; simp
    have hb1 : s[0].toNat < 97 ∨ 122 < s[0].toNat := by
      rw [hh] at hb'
      unfold lowN at hb'
      simp at hb'
      omega
    clear hb hb' hh eR hl
    rcases hb1 with x1 | x1
    · have b1 : ((s[0].toNat : Nat) : Int) < 97 := by omega
      go_enter Tryz.func27, Tryz.ntmps27
      go_wp2
      go_ret
      exact ⟨retb hn.out.symm, Below.refl _ _⟩
    · have b1 : ¬ ((s[0].toNat : Nat) : Int) < 97 := by omega
      have b2 : (122 : Int) < ((s[0].toNat : Nat) : Int) := by omega
      go_enter Tryz.func27, Tryz.ntmps27
      go_wp2
      go_ret
      exact ⟨retb hn.out.symm, Below.refl _ _⟩

end Go.Proofs.YticmebamclacaaaGreatDoor

namespace Go.Proofs.YticmebamclacaaaGreatDoor
open Go.RowKit LX Go.Shelf
set_option linter.unusedVariables false

set_option maxRecDepth 100000 in
set_option maxHeartbeats 1000000 in
theorem rfind_any (A : Value) (L : List Dec) (x : ByteArray) (w : World) (hA : SigAt w A L) (lr : L.length ≤ 9223372036854775807) :
    Calls Tryz.prog 28 #[A, .string x] w fun e w' => e = .returned (.int .i64 (findI x L 0)) ∧ w' = w := by
  obtain ⟨p, c, rfl, -, HX0⟩ := hA.form
  have HX : Hid (∀ i (hi : i < L.length), ∃ b off u, p = some ⟨b, off, none⟩ ∧ b < w.heap.size ∧ w.cell? ⟨b, off + i * 2, none⟩ = some (.string L[i].name) ∧ w.cell? ⟨b, off + i * 2 + 1, none⟩ = some u ∧ KAt w u L[i].kinds) := HX0
  obtain ⟨n, en⟩ : ∃ n : Nat, Hid (L.length = n) := ⟨_, rfl⟩
  obtain ⟨I, eI⟩ : ∃ I : Int, Hid (findI x L 0 = I) := ⟨_, rfl⟩
  rw [en.out] at lr ⊢
  rw [eI.out]
  clear hA HX0
  go_enter Tryz.func28, Tryz.ntmps28
  go_wp2
  go_loop [5] (fun i => ∃ k : Nat, k ≤ n ∧ i = .int .i64 k ∧ Hid (I = findI x (L.drop k) k)) (fun i => n - (intOf i).toNat)
  case atStart => exact ⟨0, Nat.zero_le _, rfl, by rw [List.drop_zero]; exact eI.out.symm⟩
  case round =>
    obtain ⟨k, hk, rfl, hr⟩ := hrel
    by_cases hlt : k < n
    · have kx : k < L.length := by have := en.out; omega
      obtain ⟨b, off, u, rfl, hb, r0, r1, r2⟩ := HX.out k kx
      have hr2 : Hid (I = if L[k].name = x then (k : Int) else findI x (L.drop (k + 1)) (k + 1)) := by
        have h := hr.out
        rw [List.drop_eq_getElem_cons kx, findI_cons] at h
        exact h
      have hlt' : (k : Int) < n := by omega
      clear hr r1 r2
      generalize L[k].name = X at r0 hr2
      by_cases hX : X = x
      · have hr3 : Hid (I = k) := by have h := hr2.out; rwa [if_pos hX] at h
        have hq : (X.toList == x.toList) = true := by rw [beq_ba]; exact decide_eq_true hX
        clear hr2 hX
        go_wp2
        go_ret
        exact ⟨reti hr3.out.symm, rfl⟩
      · have hr3 : Hid (I = findI x (L.drop (k + 1)) (k + 1)) := by have h := hr2.out; rwa [if_neg hX] at h
        have hq : (X.toList == x.toList) = false := by rw [beq_ba]; exact decide_eq_false hX
        clear hr2 hX
        go_wp2
        exact ⟨⟨k + 1, by omega, by go_num, hr3⟩, by simp [intOf]; omega⟩
    · have c2 : ¬ (k : Int) < n := by omega
      have hr3 : Hid (I = -1) := by
        have h := hr.out
        rw [List.drop_eq_nil_of_le (by have := en.out; omega)] at h
        exact h
      go_wp2
      go_ret
      exact ⟨reti hr3.out.symm, rfl⟩

set_option maxRecDepth 100000 in
set_option maxHeartbeats 2000000 in
theorem rcsig_any (A : Value) (L : List Dec) (w : World) (hA : SigAt w A L) (lL : L.length ≤ 9223372036854775807) (lk : ∀ d ∈ L, d.kinds.length ≤ 9223372036854775807) :
    Calls Tryz.prog 12 #[A] w fun e w' => e = .returned (.int .i64 (sigE L)) ∧ Below w.heap.size w w' := by
  have HA : Hid (SigAt w A L) := hA
  obtain ⟨p, c, rfl, hc, HX0⟩ := hA.form
  have HX : Hid (∀ i (hi : i < L.length), ∃ b off u, p = some ⟨b, off, none⟩ ∧ b < w.heap.size ∧ w.cell? ⟨b, off + i * 2, none⟩ = some (.string L[i].name) ∧ w.cell? ⟨b, off + i * 2 + 1, none⟩ = some u ∧ KAt w u L[i].kinds) := HX0
  clear hA HX0
  obtain ⟨n, en⟩ : ∃ n : Nat, Hid (L.length = n) := ⟨_, rfl⟩
  obtain ⟨E, eE⟩ : ∃ E : Int, Hid (sigE L = E) := ⟨_, rfl⟩
  rw [en.out] at lL hc HA
  rw [eE.out, en.out]
  go_enter Tryz.func12, Tryz.ntmps12
  by_cases h32 : 32 < n
  · have hE : Hid (E = 3) := by have h := eE.out; unfold sigE at h; rw [if_pos (by have := en.out; omega)] at h; exact h.symm
    have h' : (32 : Int) < n := by omega
    go_wp2
    go_ret
    exact ⟨reti hE.out.symm, Below.refl _ _⟩
  · have hE : Hid (E = sigO [] L) := by have h := eE.out; unfold sigE at h; rw [if_neg (by have := en.out; omega)] at h; exact h.symm
    have h' : ¬ (32 : Int) < n := by omega
    go_wp2
    go_loopw [3] (fun i wr => ∃ k : Nat, k ≤ n ∧ i = .int .i64 k ∧ Hid (E = sigO (L.take k) (L.drop k)) ∧ Below w.heap.size w wr) (fun i _ => n - (intOf i).toNat)
    case atStart => exact ⟨0, Nat.zero_le _, rfl, by rw [List.drop_zero]; exact hE, Below.refl _ _⟩
    case round =>
      obtain ⟨k, hk, rfl, hr, hBw⟩ := hrel
      by_cases hlt : k < n
      · have kx : k < L.length := by have := en.out; omega
        obtain ⟨b, off, u, rfl, hb, r0, r1, r2⟩ := HX.out k kx
        have a0 := (hBw.cell (p := ⟨b, off + k * 2, none⟩) hb).trans r0
        have a1 := (hBw.cell (p := ⟨b, off + k * 2 + 1, none⟩) hb).trans r1
        have hlt' : (k : Int) < n := by omega
        have hr2 : Hid (E = if declE (L.take k) L[k] = 0 then sigO (L.take (k + 1)) (L.drop (k + 1)) else declE (L.take k) L[k]) := by
          have h := hr.out
          rw [List.drop_eq_getElem_cons kx] at h
          rw [h, List.take_succ_eq_append_getElem kx]
          rfl
        have hde : Hid (declE (L.take k) L[k] = if nameB L[k].name = false ∨ 0 ≤ findI L[k].name (L.take k) 0 then 1 else if 6 < L[k].kinds.length then 3 else kindsE L[k].kinds) := rfl
        obtain ⟨pu, cu, hu, HK0⟩ := r2.form
        subst hu
        have HK : Hid (∀ i (hi : i < L[k].kinds.length), ∃ b off, pu = some ⟨b, off, none⟩ ∧ b < w.heap.size ∧ w.cell? ⟨b, off + i, none⟩ = some (.int .i64 L[k].kinds[i])) := HK0
        have lkk := lk _ (List.getElem_mem kx)
        have kc : k ≤ c := by omega
        have cN : Hid (∀ W : World, Calls Tryz.prog 27 #[.string L[k].name] W fun e w' => e = .returned (.bool (nameB L[k].name)) ∧ Below W.heap.size W w') := fun W => rname_any _ W
        have cF : Hid (∀ W : World, Below wr.heap.size wr W → Calls Tryz.prog 28 #[.slice (some ⟨b, off, none⟩) k c, .string L[k].name] W fun e w' => e = .returned (.int .i64 (findI L[k].name (L.take k) 0)) ∧ w' = W) := fun W hW => rfind_any _ (L.take k) _ W ((HA.out.take k (by omega)).below (hBw.trans (hW.mono hBw.size))) (by rw [List.length_take]; omega)
        have hbr : b < wr.heap.size := Nat.lt_of_lt_of_le hb hBw.size
        clear r0 r1 r2 hr HK0
        generalize declE (L.take k) L[k] = Dk at hr2 hde
        generalize L[k].name = X at a0 cN cF hde
        generalize L[k].kinds = ks at a1 HK hde lkk
        obtain ⟨m, em⟩ : ∃ m : Nat, Hid (ks.length = m) := ⟨_, rfl⟩
        rw [em.out] at a1 lkk hde
        generalize nameB X = NB at cN hde
        generalize findI X (L.take k) 0 = I at cF hde
        go_wp2_with fail
        refine (cN.out _).mono ?_
        rintro e w1 ⟨rfl, hB1⟩
        have x0 := (hB1.cell (p := ⟨b, off + k * 2, none⟩) hbr).trans a0
        have x1 := (hB1.cell (p := ⟨b, off + k * 2 + 1, none⟩) hbr).trans a1
        have K1 : Below w.heap.size w w1 := hBw.trans (hB1.mono hBw.size)
        have hb1 : b < w1.heap.size := Nat.lt_of_lt_of_le hbr hB1.size
        have CF : Hid (∀ W : World, Below w1.heap.size w1 W → Calls Tryz.prog 28 #[.slice (some ⟨b, off, none⟩) k c, .string X] W fun e w' => e = .returned (.int .i64 I) ∧ w' = W) := fun W hW => cF.out W (hB1.trans (hW.mono hB1.size))
        clear cN cF a0 a1 hB1
        go_upto_region 7 with fail
        go_region_held3 (fun w' => w'.cell? ⟨b, off + k * 2, none⟩ = some (.string X)) (exact bclX (n := w1.heap.size) (by go_grown) x0 hb1)
          (first
            | (go_at_call 28; refine (CF.out _ (by go_grown)).mono ?_; rintro e w2 ⟨rfl, rfl⟩))
        have hB2 : Below w1.heap.size w1 w1.drew := by go_grown
        generalize w1.drew = w2 at hB2 ⊢
        have z1 := (hB2.cell (p := ⟨b, off + k * 2 + 1, none⟩) hb1).trans x1
        have K2 : Below w.heap.size w w2 := K1.trans (hB2.mono K1.size)
        have hb2 : b < w2.heap.size := Nat.lt_of_lt_of_le hb1 hB2.size
        clear CF x0 x1 hB2 K1
        cases hNB : NB with
        | false =>
          have hD : Hid (Dk = 1) := by have h := hde.out; rwa [if_pos (Or.inl hNB)] at h
          have hr3 : Hid (E = 1) := by have h := hr2.out; rwa [hD.out, if_neg (by decide)] at h
          go_wp2
          go_ret
          exact ⟨reti hr3.out.symm, K2⟩
        | true =>
          by_cases hI : 0 ≤ I
          · have hD : Hid (Dk = 1) := by have h := hde.out; rwa [if_pos (Or.inr hI)] at h
            have hr3 : Hid (E = 1) := by have h := hr2.out; rwa [hD.out, if_neg (by decide)] at h
            go_wp2
            go_ret
            exact ⟨reti hr3.out.symm, K2⟩
          · have hD1 : Hid (Dk = if 6 < m then 3 else kindsE ks) := by have h := hde.out; rwa [if_neg (by rw [hNB]; simp; omega)] at h
            have hI' : I < 0 := by omega
            by_cases h6 : 6 < m
            · have hD : Hid (Dk = 3) := by have h := hD1.out; rwa [if_pos h6] at h
              have hr3 : Hid (E = 3) := by have h := hr2.out; rwa [hD.out, if_neg (by decide)] at h
              have h6' : (6 : Int) < m := by omega
              go_wp2
              go_ret
              exact ⟨reti hr3.out.symm, K2⟩
            · have hD : Hid (Dk = kindsE ks) := by have h := hD1.out; rwa [if_neg h6] at h
              have h6' : ¬ (6 : Int) < m := by omega
              clear hD1 hde
              go_wp2
              go_loop [6] (fun i => ∃ j : Nat, j ≤ m ∧ i = .int .i64 j ∧ Hid (kindsE ks = kindsE (ks.drop j))) (fun i => m - (intOf i).toNat)
              case atStart => exact ⟨0, Nat.zero_le _, rfl, by rw [List.drop_zero]; exact (show kindsE ks = kindsE ks from rfl)⟩
              case round =>
                obtain ⟨j, hj, rfl, hrj⟩ := hrel
                by_cases hjm : j < m
                · have jx : j < ks.length := by have := em.out; omega
                  obtain ⟨b9, off9, rfl, hb9, q0⟩ := HK.out j jx
                  have g0 := (K2.cell (p := ⟨b9, off9 + j, none⟩) hb9).trans q0
                  have hjm' : (j : Int) < m := by omega
                  have hr5 : Hid (kindsE ks = if 1 ≤ ks[j] ∧ ks[j] ≤ 3 then kindsE (ks.drop (j + 1)) else 20) := by
                    have h := hrj.out
                    rw [List.drop_eq_getElem_cons jx] at h
                    exact h
                  clear q0 hrj
                  generalize ks[j] = Kj at g0 hr5
                  by_cases hK : 1 ≤ Kj ∧ Kj ≤ 3
                  · have hr6 : Hid (kindsE ks = kindsE (ks.drop (j + 1))) := by have h := hr5.out; rwa [if_pos hK] at h
                    have y1 : ¬ Kj < 1 := by omega
                    have y2 : ¬ 3 < Kj := by omega
                    clear hr5 hK
                    go_wp2
                    exact ⟨⟨j + 1, by omega, by go_num, hr6⟩, by simp [intOf]; omega⟩
                  · have hr6 : Hid (E = 20) := by
                      have h := hr5.out
                      rw [if_neg hK] at h
                      have h' := hr2.out
                      rwa [hD.out, h, if_neg (by decide)] at h'
                    by_cases y1 : Kj < 1
                    · clear hr5 hK
                      go_wp2
                      go_ret
                      exact ⟨reti hr6.out.symm, K2⟩
                    · have y2 : 3 < Kj := by omega
                      clear hr5 hK
                      go_wp2
                      go_ret
                      exact ⟨reti hr6.out.symm, K2⟩
                · have c2 : ¬ (j : Int) < m := by omega
                  have hr6 : Hid (E = sigO (L.take (k + 1)) (L.drop (k + 1))) := by
                    have h := hrj.out
                    rw [List.drop_eq_nil_of_le (by have := em.out; omega)] at h
                    have h' := hr2.out
                    rw [hD.out, h] at h'
                    exact h'
                  go_wp2
                  exact ⟨⟨k + 1, by omega, by go_num, hr6, K2⟩, by simp [intOf]; omega⟩
      · have c2 : ¬ (k : Int) < n := by omega
        have hr3 : Hid (E = 0) := by
          have h := hr.out
          rw [List.drop_eq_nil_of_le (by have := en.out; omega)] at h
          exact h
        go_wp2
        go_ret
        exact ⟨reti hr3.out.symm, hBw⟩

end Go.Proofs.YticmebamclacaaaGreatDoor

namespace Go.Proofs.YticmebamclacaaaGreatDoor
open Go.RowKit LX Go.Shelf
set_option linter.unusedVariables false

set_option maxRecDepth 100000 in
set_option maxHeartbeats 1000000 in
theorem rvals_any (V : Value) (vs : List Val) (w : World) (hV : RowAt w V vs) (fx : ∀ v ∈ vs, v.Fits) (lv : vs.length ≤ 9223372036854775807) :
    Calls Tryz.prog 39 #[V] w fun r w' => r = .returned (.int .i64 (valsE vs)) ∧ Below w.heap.size w w' := by
  obtain ⟨pv, cv, rfl, HY0⟩ := hV.formX
  have HY : Hid (∀ i (hi : i < vs.length), ∃ b off, pv = some ⟨b, off, none⟩ ∧ b < w.heap.size ∧ w.cell? ⟨b, off + i * 4, none⟩ = some (.int .i64 vs[i].k) ∧ w.cell? ⟨b, off + i * 4 + 1, none⟩ = some (.int .i64 vs[i].n) ∧ w.cell? ⟨b, off + i * 4 + 2, none⟩ = some (.int .i64 vs[i].d) ∧ w.cell? ⟨b, off + i * 4 + 3, none⟩ = some (.string vs[i].s)) := HY0
  clear hV HY0
  obtain ⟨m, em⟩ : ∃ m : Nat, Hid (vs.length = m) := ⟨_, rfl⟩
  obtain ⟨E, eE⟩ : ∃ E : Int, Hid (valsE vs = E) := ⟨_, rfl⟩
  rw [em.out] at lv
  rw [eE.out, em.out]
  go_enter Tryz.func39, Tryz.ntmps39
  go_wp2
  go_loopw [3] (fun i wr => ∃ k : Nat, k ≤ m ∧ i = .int .i64 k ∧ Hid (E = valsE (vs.drop k)) ∧ Below w.heap.size w wr) (fun i _ => m - (intOf i).toNat)
  case atStart => exact ⟨0, Nat.zero_le _, rfl, by rw [List.drop_zero]; exact eE.out.symm, Below.refl _ _⟩
  case round =>
    obtain ⟨k, hk, rfl, hr, hB⟩ := hrel
    by_cases hlt : k < m
    · have kx : k < vs.length := by have := em.out; omega
      obtain ⟨b, off, rfl, hb, r0, r1, r2, r3⟩ := HY.out k kx
      have a0 := (hB.cell (p := ⟨b, off + k * 4, none⟩) hb).trans r0
      have a1 := (hB.cell (p := ⟨b, off + k * 4 + 1, none⟩) hb).trans r1
      have a2 := (hB.cell (p := ⟨b, off + k * 4 + 2, none⟩) hb).trans r2
      have a3 := (hB.cell (p := ⟨b, off + k * 4 + 3, none⟩) hb).trans r3
      have hbr : b < wr.heap.size := Nat.lt_of_lt_of_le hb hB.size
      have f1 := fx vs[k] (List.getElem_mem kx)
      have hr2 : Hid (E = if vs[k].may = 0 then valsE (vs.drop (k + 1)) else vs[k].may) := by
        have h := hr.out
        rw [List.drop_eq_getElem_cons kx] at h
        exact h
      clear r0 r1 r2 r3 hr
      generalize vs[k] = Y at a0 a1 a2 a3 hr2 f1
      obtain ⟨C, eC⟩ : ∃ C : Int, Hid (Y.may = C) := ⟨_, rfl⟩
      rw [eC.out] at hr2
      have ct : Hid (∀ W : World, Calls Tryz.prog 57 #[.agg #[.int .i64 Y.k, .int .i64 Y.n, .int .i64 Y.d, .string Y.s]] W fun e w' => e = .returned (.int .i64 C) ∧ Below W.heap.size W w') := fun W => by
        have h := rcheck_any Y.k Y.n Y.d Y.s W f1.n1 f1.n2 f1.d1 f1.d2
        rw [show chk Y.k Y.n Y.d Y.s = C from eC.out] at h
        exact h
      clear eC
      by_cases hC : C = 0
      · have hr3 : Hid (E = valsE (vs.drop (k + 1))) := by have h := hr2.out; rwa [if_pos hC] at h
        subst hC
        clear hr2
        go_wp2_with fail
        refine (ct.out _).mono ?_
        rintro e' w1 ⟨rfl, hw1⟩
        obtain ⟨hw2, hn2⟩ := bgX (n := wr.heap.size) (W0 := wr) (by go_grown) (by go_size) hw1
        have hB2 : Below w.heap.size w w1 := hB.trans (hw2.mono hB.size)
        clear a0 a1 a2 a3 ct hw1 hw2 hn2
        go_wp2
        exact ⟨⟨k + 1, by omega, by go_num, hr3, hB2⟩, by simp [intOf]; omega⟩
      · have hr3 : Hid (E = C) := by have h := hr2.out; rwa [if_neg hC] at h
        have hC' : (C == 0) = false := by simpa using hC
        clear hr2
        go_wp2_with fail
        refine (ct.out _).mono ?_
        rintro e' w1 ⟨rfl, hw1⟩
        obtain ⟨hw2, hn2⟩ := bgX (n := wr.heap.size) (W0 := wr) (by go_grown) (by go_size) hw1
        have hB2 : Below w.heap.size w w1 := hB.trans (hw2.mono hB.size)
        clear a0 a1 a2 a3 ct hw1 hw2 hn2
        go_wp2
        go_ret
        exact ⟨reti hr3.out.symm, hB2⟩
    · have c2 : ¬ (k : Int) < m := by omega
      have hr3 : Hid (E = 0) := by
        have h := hr.out
        rw [List.drop_eq_nil_of_le (by have := em.out; omega)] at h
        exact h
      go_wp2
      go_ret
      exact ⟨reti hr3.out.symm, hB⟩

set_option maxRecDepth 100000 in
theorem rsizes_any (t : Int) (p : Option Addr) (n c : Nat) (w : World) :
    Calls Tryz.prog 38 #[.agg #[.int .i64 t, .slice p n c]] w fun e w' => e = .returned (.int .i64 (sizeE t n)) ∧ Below w.heap.size w w' := by
  obtain ⟨E, eE⟩ : ∃ E : Int, Hid (sizeE t n = E) := ⟨_, rfl⟩
  rw [eE.out]
  by_cases h1 : t < 0
  · have hE : Hid (E = 5) := by have h := eE.out; unfold sizeE at h; rw [if_pos (Or.inl h1)] at h; exact h.symm
    go_enter Tryz.func38, Tryz.ntmps38
    go_wp2
    go_ret
    exact ⟨reti hE.out.symm, by go_grown⟩
  · by_cases h2 : 1099511627776 < t
    · have hE : Hid (E = 5) := by have h := eE.out; unfold sizeE at h; rw [if_pos (Or.inr h2)] at h; exact h.symm
      go_enter Tryz.func38, Tryz.ntmps38
      go_wp2
      go_ret
      exact ⟨reti hE.out.symm, by go_grown⟩
    · by_cases h3 : 64 < n
      · have hE : Hid (E = 3) := by have h := eE.out; unfold sizeE at h; rw [if_neg (by omega), if_pos h3] at h; exact h.symm
        have h3' : (64 : Int) < n := by omega
        go_enter Tryz.func38, Tryz.ntmps38
        go_wp2
        go_ret
        exact ⟨reti hE.out.symm, by go_grown⟩
      · have hE : Hid (E = 0) := by have h := eE.out; unfold sizeE at h; rw [if_neg (by omega), if_neg h3] at h; exact h.symm
        have h3' : ¬ (64 : Int) < n := by omega
        go_enter Tryz.func38, Tryz.ntmps38
        go_wp2
        go_ret
        exact ⟨reti hE.out.symm, by go_grown⟩

/-- Is an event one of a signature's? -/
def fitB (L : List Dec) (e : Evt) : Bool := decide (0 ≤ findI e.name L 0 ∧ kfit (kindsAt L (findI e.name L 0)) e.args = true)
theorem evtE_fit (L : List Dec) (e : Evt) : evtE L e = if valsE e.args = 0 then (if fitB L e = true then 0 else 90) else valsE e.args := by
  unfold evtE fitB
  simp only [decide_eq_true_eq]

set_option maxRecDepth 100000 in
set_option maxHeartbeats 4000000 in
theorem rfits_any (A V : Value) (L : List Dec) (e : Evt) (w : World) (hA : SigAt w A L) (hV : RowAt w V e.args) (lL : L.length ≤ 9223372036854775807) (lk : ∀ d ∈ L, d.kinds.length ≤ 9223372036854775807) (lv : e.args.length ≤ 9223372036854775807) :
    Calls Tryz.prog 40 #[A, .agg #[.string e.name, V]] w fun r w' => r = .returned (.bool (fitB L e)) ∧ Below w.heap.size w w' := by
  have HA : Hid (SigAt w A L) := hA
  obtain ⟨pA, cA, rfl, -, HX0⟩ := hA.form
  obtain ⟨pv, cv, rfl, HY0⟩ := hV.formX
  have HX : Hid (∀ i (hi : i < L.length), ∃ b off u, pA = some ⟨b, off, none⟩ ∧ b < w.heap.size ∧ w.cell? ⟨b, off + i * 2, none⟩ = some (.string L[i].name) ∧ w.cell? ⟨b, off + i * 2 + 1, none⟩ = some u ∧ KAt w u L[i].kinds) := HX0
  have HY : Hid (∀ i (hi : i < e.args.length), ∃ b off, pv = some ⟨b, off, none⟩ ∧ b < w.heap.size ∧ w.cell? ⟨b, off + i * 4, none⟩ = some (.int .i64 e.args[i].k) ∧ w.cell? ⟨b, off + i * 4 + 1, none⟩ = some (.int .i64 e.args[i].n) ∧ w.cell? ⟨b, off + i * 4 + 2, none⟩ = some (.int .i64 e.args[i].d) ∧ w.cell? ⟨b, off + i * 4 + 3, none⟩ = some (.string e.args[i].s)) := HY0
  have LK : Hid (∀ d ∈ L, d.kinds.length ≤ 9223372036854775807) := lk
  have cF : Hid (∀ W : World, Below w.heap.size w W → Calls Tryz.prog 28 #[.slice pA L.length cA, .string e.name] W fun e' w' => e' = .returned (.int .i64 (findI e.name L 0)) ∧ Below W.heap.size W w') := fun W hW => (rfind_any _ L e.name W (HA.out.below hW) lL).mono fun r w' ⟨h1, h2⟩ => ⟨h1, h2 ▸ Below.refl _ _⟩
  have hbd : Hid (0 ≤ findI e.name L 0 → (findI e.name L 0).toNat < L.length) := fun h => by have := findI_bound e.name L 0 h; omega
  have hev : Hid (fitB L e = decide (0 ≤ findI e.name L 0 ∧ kfit (kindsAt L (findI e.name L 0)) e.args = true)) := rfl
  clear hA hV HX0 HY0 lk
  obtain ⟨n, en⟩ : ∃ n : Nat, Hid (L.length = n) := ⟨_, rfl⟩
  obtain ⟨m, em⟩ : ∃ m : Nat, Hid (e.args.length = m) := ⟨_, rfl⟩
  obtain ⟨X, eX⟩ : ∃ X : ByteArray, Hid (e.name = X) := ⟨_, rfl⟩
  obtain ⟨I, eI⟩ : ∃ I : Int, Hid (findI X L 0 = I) := ⟨_, rfl⟩
  obtain ⟨E, eE⟩ : ∃ E : Bool, Hid (fitB L e = E) := ⟨_, rfl⟩
  rw [eX.out, eI.out] at cF hbd
  rw [eE.out, eX.out, eI.out] at hev
  rw [en.out] at cF lL HA
  rw [em.out] at lv
  rw [eE.out, eX.out, en.out, em.out]
  go_enter Tryz.func40, Tryz.ntmps40
  go_wp2_with fail
  refine (cF.out _ (by go_grown)).mono ?_
  rintro e' w0 ⟨rfl, hw1⟩
  have z1 : w0.cell? ⟨w.heap.size, 1, none⟩ = some (.slice pv m cv) := (hw1.cell (p := ⟨w.heap.size, 1, none⟩) (by simp)).trans (by simp [go_sem])
  have zs : w.heap.size < w0.heap.size := by have := hw1.size; simp at this; omega
  obtain ⟨zB, -⟩ := bgX (n := w.heap.size) (W0 := w) (by go_grown) (by go_size) hw1
  clear hw1 cF
  by_cases hI : I < 0
  · have hr4 : Hid (E = false) := by have h := hev.out; rw [h]; exact decide_eq_false (fun hh => by omega)
    clear hev
    go_upto_region 2 with fail
    go_quiet (fail)
    have K9 : Below w.heap.size w (w0.drewN nq) := bdrewX _ zB
    go_wp2
    go_ret
    exact ⟨retb hr4.out.symm, K9⟩
  · obtain ⟨i, rfl⟩ : ∃ i : Nat, I = i := ⟨I.toNat, by omega⟩
    have hin : i < L.length := by have h := hbd.out (by omega); simpa using h
    have hi : i < n := by have := en.out; omega
    obtain ⟨b, off, u, rfl, hb, r0, r1, r2⟩ := HX.out i hin
    have hk2 : Hid (kindsAt L (i : Int) = L[i].kinds) := kindsAt_nat L i hin
    have lki := LK.out _ (List.getElem_mem hin)
    have hev2 : Hid (E = kfit L[i].kinds e.args) := by
      have h := hev.out
      rw [hk2.out] at h
      unfold Hid
      rw [h]
      cases kfit L[i].kinds e.args <;> simp
    obtain ⟨pk, ck, hu, HK0⟩ := r2.form
    subst hu
    have HK : Hid (∀ j (hj : j < L[i].kinds.length), ∃ b off, pk = some ⟨b, off, none⟩ ∧ b < w.heap.size ∧ w.cell? ⟨b, off + j, none⟩ = some (.int .i64 L[i].kinds[j])) := HK0
    have a1 := (zB.cell (p := ⟨b, off + i * 2 + 1, none⟩) hb).trans r1
    have hbl : b < w0.heap.size := Nat.lt_of_lt_of_le hb zB.size
    have hnI : ¬ (i : Int) < 0 := by omega
    clear r0 r1 r2 hk2 hev HK0 hI hbd eI
    generalize L[i].kinds = ks at a1 HK hev2 lki
    generalize e.args = vs at HY em hev2
    by_cases hl : ks.length = m
    · have hl' : ((ks.length : Int) != m) = false := by simp; omega
      have hks : Hid (ks.length = m) := hl
      rw [hl] at a1 hl'
      clear hl lki
      have a1' : Hid (w0.cell? ⟨b, off + i * 2 + 1, none⟩ = some (.slice pk m ck)) := a1
      go_upto_region 2 with fail
      go_quiet (fail)
      have K9 : Below w0.heap.size w0 (w0.drewN nq) := bdrewX _ (Below.refl _ _)
      clear a1
      go_wp2
      go_loopw [6] (fun j wr => ∃ k : Nat, k ≤ m ∧ j = .int .i64 k ∧ Hid (E = kfit (ks.drop k) (vs.drop k)) ∧ Below w0.heap.size w0 wr) (fun j _ => m - (intOf j).toNat)
      case atStart => exact ⟨0, Nat.zero_le _, rfl, by rw [List.drop_zero, List.drop_zero]; exact hev2, K9⟩
      case round =>
        obtain ⟨k, hk, rfl, hr, hB0⟩ := hrel
        have hB : Below w.heap.size w wr := zB.trans (hB0.mono zB.size)
        have y1 : wr.cell? ⟨w.heap.size, 1, none⟩ = some (.slice pv m cv) := (hB0.cell (p := ⟨w.heap.size, 1, none⟩) zs).trans z1
        have x1 : wr.cell? ⟨b, off + i * 2 + 1, none⟩ = some (.slice pk m ck) := (hB0.cell (p := ⟨b, off + i * 2 + 1, none⟩) hbl).trans a1'.out
        by_cases hlt : k < m
        · have kx : k < ks.length := by have := hks.out; omega
          have ky : k < vs.length := by have := em.out; omega
          obtain ⟨b2, off2, rfl, hb2, r0⟩ := HK.out k kx
          obtain ⟨b3, off3, rfl, hb3, s0, s1, s2, s3⟩ := HY.out k ky
          have g0 := (hB.cell (p := ⟨b2, off2 + k, none⟩) hb2).trans r0
          have g1 := (hB.cell (p := ⟨b3, off3 + k * 4, none⟩) hb3).trans s0
          have hlt' : (k : Int) < m := by omega
          have hr2 : Hid (E = (vs[k].k == ks[k] && kfit (ks.drop (k + 1)) (vs.drop (k + 1)))) := by
            have h := hr.out
            rw [List.drop_eq_getElem_cons kx, List.drop_eq_getElem_cons ky] at h
            exact h
          clear r0 s0 s1 s2 s3 hr
          generalize ks[k] = K at g0 hr2
          generalize vs[k].k = Y at g1 hr2
          by_cases hY : Y = K
          · have hr3 : Hid (E = kfit (ks.drop (k + 1)) (vs.drop (k + 1))) := by have h := hr2.out; rw [beq_iff_eq.2 hY, Bool.true_and] at h; exact h
            have hY' : (Y != K) = false := by simp [hY]
            clear hr2 hY
            go_upto_region 7 with fail
            go_quiet (fail)
            have K8 : Below w0.heap.size w0 (wr.drewN nq) := bdrewX _ hB0
            clear g0 g1 x1 y1
            go_wp2
            exact ⟨⟨k + 1, by omega, by go_num, hr3, K8⟩, by simp [intOf]; omega⟩
          · have hr3 : Hid (E = false) := by have h := hr2.out; rw [beq_eq_false_iff_ne.2 hY, Bool.false_and] at h; exact h
            have hY' : (Y != K) = true := by simp [hY]
            clear hr2 hY
            go_upto_region 7 with fail
            go_quiet (fail)
            have K8 : Below w.heap.size w (wr.drewN nq) := bdrewX _ hB
            clear g0 g1 x1 y1
            go_wp2
            go_ret
            exact ⟨retb hr3.out.symm, K8⟩
        · have c2 : ¬ (k : Int) < m := by omega
          have hr3 : Hid (E = true) := by
            have h := hr.out
            rw [List.drop_eq_nil_of_le (by have := hks.out; omega), List.drop_eq_nil_of_le (by have := em.out; omega)] at h
            exact h
          go_wp2
          go_ret
          exact ⟨retb hr3.out.symm, hB⟩
    · have hr4 : Hid (E = false) := by have h := hev2.out; rw [h]; exact kfit_len (by have := em.out; omega)
      have hl' : ((ks.length : Int) != m) = true := by simp; omega
      clear hev2 HK
      generalize ks.length = nk at *
      go_upto_region 2 with fail
      go_quiet (fail)
      have K9 : Below w.heap.size w (w0.drewN nq) := bdrewX _ zB
      go_wp2
      go_ret
      exact ⟨retb hr4.out.symm, K9⟩

end Go.Proofs.YticmebamclacaaaGreatDoor

namespace Go.Proofs.YticmebamclacaaaGreatDoor
open Go.RowKit LX Go.Shelf
set_option linter.unusedVariables false

set_option maxRecDepth 100000 in
set_option maxHeartbeats 4000000 in
theorem rcpoint_any (A V : Value) (L : List Dec) (t : Int) (es : List Evt) (w : World) (hA : SigAt w A L) (hV : EvsAt w V es) (fx : ∀ e ∈ es, ∀ v ∈ e.args, v.Fits) (lL : L.length ≤ 9223372036854775807) (lk : ∀ d ∈ L, d.kinds.length ≤ 9223372036854775807) (lv : ∀ e ∈ es, e.args.length ≤ 9223372036854775807) (le : es.length ≤ 9223372036854775807) :
    Calls Tryz.prog 18 #[A, .agg #[.int .i64 t, V]] w fun r w' => r = .returned (.int .i64 (pointE L t es)) ∧ Below w.heap.size w w' := by
  have cS : Hid (∀ W : World, Below w.heap.size w W → Calls Tryz.prog 12 #[A] W fun e w' => e = .returned (.int .i64 (sigE L)) ∧ Below W.heap.size W w') := fun W hW => rcsig_any A L W (hA.below hW) lL lk
  have cV : Hid (∀ (W : World) (U : Value) (e : Evt), e ∈ es → RowAt W U e.args → Calls Tryz.prog 39 #[U] W fun r w' => r = .returned (.int .i64 (valsE e.args)) ∧ Below W.heap.size W w') := fun W U e he hU => rvals_any U e.args W hU (fx e he) (lv e he)
  have cE : Hid (∀ (W : World) (U : Value) (e : Evt), Below w.heap.size w W → e ∈ es → RowAt W U e.args → Calls Tryz.prog 40 #[A, .agg #[.string e.name, U]] W fun r w' => r = .returned (.bool (fitB L e)) ∧ Below W.heap.size W w') := fun W U e hW he hU => rfits_any A U L e W (hA.below hW) hU lL lk (lv e he)
  obtain ⟨pA, cA, rfl, -⟩ := hA.form
  obtain ⟨pv, cv, rfl, HY0⟩ := hV.form
  have HY : Hid (∀ i (hi : i < es.length), ∃ b off u, pv = some ⟨b, off, none⟩ ∧ b < w.heap.size ∧ w.cell? ⟨b, off + i * 2, none⟩ = some (.string es[i].name) ∧ w.cell? ⟨b, off + i * 2 + 1, none⟩ = some u ∧ RowAt w u es[i].args) := HY0
  have hp : Hid (pointE L t es = if sigE L = 0 then (if sizeE t es.length = 0 then evtsE L es else sizeE t es.length) else sigE L) := rfl
  clear hA hV HY0 fx lk lv
  obtain ⟨n, en⟩ : ∃ n : Nat, Hid (L.length = n) := ⟨_, rfl⟩
  obtain ⟨m, em⟩ : ∃ m : Nat, Hid (es.length = m) := ⟨_, rfl⟩
  obtain ⟨E, eE⟩ : ∃ E : Int, Hid (pointE L t es = E) := ⟨_, rfl⟩
  obtain ⟨C, eC⟩ : ∃ C : Int, Hid (sigE L = C) := ⟨_, rfl⟩
  obtain ⟨Z, eZ⟩ : ∃ Z : Int, Hid (sizeE t m = Z) := ⟨_, rfl⟩
  rw [en.out, eC.out] at cS
  rw [en.out] at cE lL
  rw [eE.out, em.out, eC.out, eZ.out] at hp
  rw [em.out] at le
  rw [eE.out, en.out, em.out]
  have cZ : Hid (∀ W : World, Calls Tryz.prog 38 #[.agg #[.int .i64 t, .slice pv m cv]] W fun e w' => e = .returned (.int .i64 Z) ∧ Below W.heap.size W w') := fun W => by
    have h := rsizes_any t pv m cv W
    rw [eZ.out] at h
    exact h
  go_enter Tryz.func18, Tryz.ntmps18
  go_wp2_with fail
  refine (cS.out _ (by go_grown)).mono ?_
  rintro e w1 ⟨rfl, hb1⟩
  have b0 : w1.cell? ⟨w.heap.size, 0, none⟩ = some (.int .i64 t) := (hb1.cell (p := ⟨w.heap.size, 0, none⟩) (by simp)).trans (by simp [go_sem])
  have b1 : w1.cell? ⟨w.heap.size, 1, none⟩ = some (.slice pv m cv) := (hb1.cell (p := ⟨w.heap.size, 1, none⟩) (by simp)).trans (by simp [go_sem])
  have hs1 : w.heap.size < w1.heap.size := by have := hb1.size; simp at this; omega
  obtain ⟨hB1, -⟩ := bgX (n := w.heap.size) (W0 := w) (by go_grown) (by go_size) hb1
  clear hb1 cS
  by_cases hC : C = 0
  · have hp1 : Hid (E = if Z = 0 then evtsE L es else Z) := by have h := hp.out; rwa [if_pos hC] at h
    subst hC
    go_wp2_with fail
    refine (cZ.out _).mono ?_
    rintro e w2 ⟨rfl, hb2⟩
    have c1 : w2.cell? ⟨w.heap.size, 1, none⟩ = some (.slice pv m cv) := (hb2.cell (p := ⟨w.heap.size, 1, none⟩) hs1).trans b1
    have hs2 : w.heap.size < w2.heap.size := Nat.lt_of_lt_of_le hs1 hb2.size
    have hB2 : Below w.heap.size w w2 := hB1.trans (hb2.mono hB1.size)
    clear b0 b1 cZ hb2 hB1
    by_cases hZ : Z = 0
    · have hE : Hid (E = evtsE L es) := by have h := hp1.out; rwa [if_pos hZ] at h
      subst hZ
      clear hp1
      go_wp2
      go_loopw [7] (fun i wr => ∃ k : Nat, k ≤ m ∧ i = .int .i64 k ∧ Hid (E = evtsE L (es.drop k)) ∧ Below w2.heap.size w2 wr) (fun i _ => m - (intOf i).toNat)
      case atStart => exact ⟨0, Nat.zero_le _, rfl, by rw [List.drop_zero]; exact hE, Below.refl _ _⟩
      case round =>
        obtain ⟨k, hk, rfl, hr, hB0⟩ := hrel
        have hBw : Below w.heap.size w wr := hB2.trans (hB0.mono hB2.size)
        have y1 : wr.cell? ⟨w.heap.size, 1, none⟩ = some (.slice pv m cv) := (hB0.cell (p := ⟨w.heap.size, 1, none⟩) hs2).trans c1
        have ys : w.heap.size < wr.heap.size := Nat.lt_of_lt_of_le hs2 hB0.size
        by_cases hlt : k < m
        · have kx : k < es.length := by have := em.out; omega
          obtain ⟨b, off, u, rfl, hb, r0, r1, r2⟩ := HY.out k kx
          have a0 := (hBw.cell (p := ⟨b, off + k * 2, none⟩) hb).trans r0
          have a1 := (hBw.cell (p := ⟨b, off + k * 2 + 1, none⟩) hb).trans r1
          have hlt' : (k : Int) < m := by omega
          have hr2 : Hid (E = if evtE L es[k] = 0 then evtsE L (es.drop (k + 1)) else evtE L es[k]) := by
            have h := hr.out
            rw [List.drop_eq_getElem_cons kx] at h
            exact h
          have hde : Hid (evtE L es[k] = if valsE es[k].args = 0 then (if fitB L es[k] = true then 0 else 90) else valsE es[k].args) := evtE_fit L es[k]
          have ct : Hid (∀ W : World, Below wr.heap.size wr W → Calls Tryz.prog 39 #[u] W fun r w' => r = .returned (.int .i64 (valsE es[k].args)) ∧ Below W.heap.size W w') := fun W hW => cV.out W u es[k] (List.getElem_mem kx) (r2.below (hBw.trans (hW.mono hBw.size)))
          have cf : Hid (∀ W : World, Below wr.heap.size wr W → Calls Tryz.prog 40 #[.slice pA n cA, .agg #[.string es[k].name, u]] W fun r w' => r = .returned (.bool (fitB L es[k])) ∧ Below W.heap.size W w') := fun W hW => by
            have hWw := hBw.trans (hW.mono hBw.size)
            exact cE.out W u es[k] hWw (List.getElem_mem kx) (r2.below hWw)
          obtain ⟨pu, cu, rfl, -⟩ := r2.formX
          have hbr : b < wr.heap.size := Nat.lt_of_lt_of_le hb hBw.size
          clear r0 r1 r2 hr
          generalize evtE L es[k] = Ek at hr2 hde
          generalize valsE es[k].args = G at ct hde
          generalize fitB L es[k] = B at cf hde
          generalize es[k].args.length = nk at a1 ct cf
          generalize es[k].name = X at a0 cf
          go_wp2_with fail
          refine (ct.out _ (by go_grown)).mono ?_
          rintro e w3 ⟨rfl, hb3⟩
          have d0 := (hb3.cell (p := ⟨b, off + k * 2, none⟩) hbr).trans a0
          have d1 := (hb3.cell (p := ⟨b, off + k * 2 + 1, none⟩) hbr).trans a1
          have d2 := (hb3.cell (p := ⟨w.heap.size, 1, none⟩) ys).trans y1
          have hB3 : Below w2.heap.size w2 w3 := hB0.trans (hb3.mono hB0.size)
          have cf' : Hid (∀ W : World, Below w3.heap.size w3 W → Calls Tryz.prog 40 #[.slice pA n cA, .agg #[.string X, .slice pu nk cu]] W fun r w' => r = .returned (.bool B) ∧ Below W.heap.size W w') := fun W hW => cf.out W (hb3.trans (hW.mono hb3.size))
          clear ct cf a0 a1 y1 hb3
          by_cases hG : G = 0
          · have hd2 : Hid (Ek = if B = true then 0 else 90) := by have h := hde.out; rwa [if_pos hG] at h
            subst hG
            clear hde
            go_wp2_with fail
            refine (cf'.out _ (by go_grown)).mono ?_
            rintro e w4 ⟨rfl, hb4⟩
            have hB4 : Below w2.heap.size w2 w4 := hB3.trans (hb4.mono hB3.size)
            clear cf' d0 d1 d2 hb4
            cases B with
            | true =>
              have hr3 : Hid (E = evtsE L (es.drop (k + 1))) := by
                have h := hr2.out
                have h2 : Ek = 0 := hd2.out
                rwa [if_pos h2] at h
              clear hr2 hd2
              go_wp2
              exact ⟨⟨k + 1, by omega, by go_num, hr3, hB4⟩, by simp [intOf]; omega⟩
            | false =>
              have hr3 : Hid (E = 90) := by
                have h := hr2.out
                have h2 : Ek = 90 := hd2.out
                rwa [h2, if_neg (by decide)] at h
              clear hr2 hd2
              go_wp2
              go_ret
              exact ⟨reti hr3.out.symm, hB2.trans (hB4.mono hB2.size)⟩
          · have hr3 : Hid (E = G) := by
              have h := hr2.out
              have h2 := hde.out
              rw [if_neg hG] at h2
              rwa [h2, if_neg hG] at h
            have hG' : (G == 0) = false := by simpa using hG
            clear hr2 hde
            go_wp2
            go_ret
            exact ⟨reti hr3.out.symm, hB2.trans (hB3.mono hB2.size)⟩
        · have c2 : ¬ (k : Int) < m := by omega
          have hr3 : Hid (E = 0) := by
            have h := hr.out
            rw [List.drop_eq_nil_of_le (by have := em.out; omega)] at h
            exact h
          go_wp2
          go_ret
          exact ⟨reti hr3.out.symm, hBw⟩
    · have hE : Hid (E = Z) := by have h := hp1.out; rwa [if_neg hZ] at h
      have hZ' : (Z == 0) = false := by simpa using hZ
      clear hp1
      go_wp2
      go_ret
      exact ⟨reti hE.out.symm, hB2⟩
  · have hE : Hid (E = C) := by have h := hp.out; rwa [if_neg hC] at h
    have hC' : (C == 0) = false := by simpa using hC
    clear hp
    go_wp2
    go_ret
    exact ⟨reti hE.out.symm, hB1⟩

end Go.Proofs.YticmebamclacaaaGreatDoor



namespace Go.Proofs.YticmebamclacaaaGreatDoor
open Go.RowKit Go.Shelf
set_option linter.unusedVariables false

/-- A digit to the base 16, capital or not; 16: it is none. -/
def hexv (c : UInt8) : Nat := if 48 ≤ c.toNat ∧ c.toNat ≤ 57 then c.toNat - 48 else if 97 ≤ c.toNat ∧ c.toNat ≤ 102 then c.toNat - 87 else if 65 ≤ c.toNat ∧ c.toNat ≤ 70 then c.toNat - 55 else 16
/-- A byte made small. -/
def low8 (c : UInt8) : Int := bits .or .u8 c.toNat 32
theorem low_all : ∀ n : Fin 256, 0 ≤ bits .or .u8 (n.1 : Int) 32 ∧ bits .or .u8 (n.1 : Int) 32 ≤ 255 ∧ (if 48 ≤ n.1 ∧ n.1 ≤ 57 then True else if 97 ≤ bits .or .u8 (n.1 : Int) 32 ∧ bits .or .u8 (n.1 : Int) 32 ≤ 122 then (if bits .or .u8 (n.1 : Int) 32 ≤ 102 then ((hexv (UInt8.ofNat n.1) : Nat) : Int) = bits .or .u8 (n.1 : Int) 32 - 87 else hexv (UInt8.ofNat n.1) = 16) else hexv (UInt8.ofNat n.1) = 16) := by decide +kernel

/-- What class a byte is of. -/
inductive Cls (c : UInt8) : Prop where
  | dig (h1 : 48 ≤ (c.toNat : Int)) (h2 : (c.toNat : Int) ≤ 57) (h3 : ((hexv c : Nat) : Int) = c.toNat - 48) (h9 : ((c.toNat : Int) == 95) = false)
  | hex (h1 : ¬ (48 ≤ (c.toNat : Int) ∧ (c.toNat : Int) ≤ 57)) (h2 : 97 ≤ low8 c) (h3 : low8 c ≤ 102) (h4 : ((hexv c : Nat) : Int) = low8 c - 87) (h9 : ((c.toNat : Int) == 95) = false)
  | let (h1 : ¬ (48 ≤ (c.toNat : Int) ∧ (c.toNat : Int) ≤ 57)) (h2 : 102 < low8 c) (h3 : low8 c ≤ 122) (h4 : hexv c = 16) (h9 : ((c.toNat : Int) == 95) = false)
  | lss (h1 : ¬ (48 ≤ (c.toNat : Int) ∧ (c.toNat : Int) ≤ 57)) (h2 : low8 c < 97) (h3 : 0 ≤ low8 c) (h4 : hexv c = 16) (h9 : ((c.toNat : Int) == 95) = false)
  | gtr (h1 : ¬ (48 ≤ (c.toNat : Int) ∧ (c.toNat : Int) ≤ 57)) (h2 : 122 < low8 c) (h3 : low8 c ≤ 255) (h4 : hexv c = 16)
theorem cls (c : UInt8) : Cls c := by
  have hc : c.toNat < 256 := c.toNat_lt
  obtain ⟨a1, a2, a3⟩ := low_all ⟨c.toNat, hc⟩
  rw [show (⟨c.toNat, hc⟩ : Fin 256).1 = c.toNat from rfl, UInt8.ofNat_toNat] at a3
  have a4 : c.toNat = 95 → bits .or .u8 (c.toNat : Int) 32 = 127 := by intro h; rw [h]; decide
  by_cases h : 48 ≤ c.toNat ∧ c.toNat ≤ 57
  · exact .dig (by omega) (by omega) (by unfold hexv; rw [if_pos h]; omega) (by simp; omega)
  · rw [if_neg h] at a3
    by_cases g : 97 ≤ bits .or .u8 (c.toNat : Int) 32 ∧ bits .or .u8 (c.toNat : Int) 32 ≤ 122
    · rw [if_pos g] at a3
      by_cases f : bits .or .u8 (c.toNat : Int) 32 ≤ 102
      · rw [if_pos f] at a3
        exact .hex (by omega) g.1 f a3 (by simp; omega)
      · rw [if_neg f] at a3
        exact .let (by omega) (by unfold low8; omega) g.2 a3 (by simp; omega)
    · rw [if_neg g] at a3
      by_cases f : bits .or .u8 (c.toNat : Int) 32 < 97
      · exact .lss (by omega) f a1 a3 (by simp; omega)
      · exact .gtr (by omega) (by unfold low8; omega) a2 a3

set_option maxRecDepth 100000 in
set_option maxHeartbeats 4000000 in
theorem pu_let (a b : UInt8) (w : World) (h0 : ¬ (48 ≤ (a.toNat : Int) ∧ (a.toNat : Int) ≤ 57)) (h2 : 102 < low8 a) (h3 : low8 a ≤ 122) (h9 : ((a.toNat : Int) == 95) = false) :
    Calls Tryz.prog 174 #[.string ⟨#[a, b]⟩, .int .i64 16, .int .i64 8] w fun e w' => e = .returned (.tuple #[.int .u64 0, .iface 244 (.int .i64 2)]) ∧ Below w.heap.size w w' := by
  have hcv := Lib.run_convert_string_bytes (P := Tryz.prog) w 9 60 5 ⟨#[a, b]⟩ Tryz.underlying9 Tryz.underlying60 Tryz.underlying5
  have hB0 : (Lib.bytesWorld w 5 ⟨#[a, b]⟩).cell? ⟨w.heap.size, 0, none⟩ = some (.int .u8 a.toNat) := Lib.bytesWorld_cell w 5 ⟨#[a, b]⟩ 0 (by show 0 < 2; decide)
  have hB1 : (Lib.bytesWorld w 5 ⟨#[a, b]⟩).cell? ⟨w.heap.size, 1, none⟩ = some (.int .u8 b.toNat) := Lib.bytesWorld_cell w 5 ⟨#[a, b]⟩ 1 (by show 1 < 2; decide)
  have hbb := Lib.bytesWorld_below w 5 ⟨#[a, b]⟩
  have ua : a.toNat < 256 := a.toNat_lt
  have ub : b.toNat < 256 := b.toNat_lt
  have LA : Hid (∀ W : World, Calls Tryz.prog 180 #[.int .u8 a.toNat] W fun e w' => e = .returned (.int .u8 (low8 a)) ∧ w' = W) := fun W => Tryz.internal_strconv_lower a.toNat W
  have LB : Hid (∀ W : World, Calls Tryz.prog 180 #[.int .u8 b.toNat] W fun e w' => e = .returned (.int .u8 (low8 b)) ∧ w' = W) := fun W => Tryz.internal_strconv_lower b.toNat W
  generalize Lib.bytesWorld w 5 ⟨#[a, b]⟩ = W1 at *
  have hn : (48 ≤ (a.toNat : Int)) = False ∨ ((48 ≤ (a.toNat : Int)) = True ∧ ((a.toNat : Int) ≤ 57) = False) := by
    by_cases q : 48 ≤ (a.toNat : Int)
    · right; refine ⟨by simpa using q, by simp; omega⟩
    · left; simpa using q

  rcases hn with hx | ⟨hx, hy⟩
  all_goals clear h0
  all_goals
    go_enter Tryz.func174, Tryz.ntmps174
    go_wp2
    refine wp_loop_rounds 4 ?_
    rw [rounds_succ]
    go_wp2_with (first | (go_at_call_of 180 (Value.int IntKind.u8 a.toNat); refine (LA.out _).mono ?_; rintro e w' ⟨rfl, rfl⟩) | (go_at_call_of 180 (Value.int IntKind.u8 b.toNat); refine (LB.out _).mono ?_; rintro e w' ⟨rfl, rfl⟩))
    go_ret2
    exact ⟨rfl, hbb⟩

set_option maxRecDepth 100000 in
set_option maxHeartbeats 4000000 in
theorem pu_lss (a b : UInt8) (w : World) (h0 : ¬ (48 ≤ (a.toNat : Int) ∧ (a.toNat : Int) ≤ 57)) (h2 : low8 a < 97) (h3 : 0 ≤ low8 a) (h9 : ((a.toNat : Int) == 95) = false) :
    Calls Tryz.prog 174 #[.string ⟨#[a, b]⟩, .int .i64 16, .int .i64 8] w fun e w' => e = .returned (.tuple #[.int .u64 0, .iface 244 (.int .i64 2)]) ∧ Below w.heap.size w w' := by
  have hcv := Lib.run_convert_string_bytes (P := Tryz.prog) w 9 60 5 ⟨#[a, b]⟩ Tryz.underlying9 Tryz.underlying60 Tryz.underlying5
  have hB0 : (Lib.bytesWorld w 5 ⟨#[a, b]⟩).cell? ⟨w.heap.size, 0, none⟩ = some (.int .u8 a.toNat) := Lib.bytesWorld_cell w 5 ⟨#[a, b]⟩ 0 (by show 0 < 2; decide)
  have hB1 : (Lib.bytesWorld w 5 ⟨#[a, b]⟩).cell? ⟨w.heap.size, 1, none⟩ = some (.int .u8 b.toNat) := Lib.bytesWorld_cell w 5 ⟨#[a, b]⟩ 1 (by show 1 < 2; decide)
  have hbb := Lib.bytesWorld_below w 5 ⟨#[a, b]⟩
  have ua : a.toNat < 256 := a.toNat_lt
  have ub : b.toNat < 256 := b.toNat_lt
  have LA : Hid (∀ W : World, Calls Tryz.prog 180 #[.int .u8 a.toNat] W fun e w' => e = .returned (.int .u8 (low8 a)) ∧ w' = W) := fun W => Tryz.internal_strconv_lower a.toNat W
  have LB : Hid (∀ W : World, Calls Tryz.prog 180 #[.int .u8 b.toNat] W fun e w' => e = .returned (.int .u8 (low8 b)) ∧ w' = W) := fun W => Tryz.internal_strconv_lower b.toNat W
  generalize Lib.bytesWorld w 5 ⟨#[a, b]⟩ = W1 at *
  have hn : (48 ≤ (a.toNat : Int)) = False ∨ ((48 ≤ (a.toNat : Int)) = True ∧ ((a.toNat : Int) ≤ 57) = False) := by
    by_cases q : 48 ≤ (a.toNat : Int)
    · right; refine ⟨by simpa using q, by simp; omega⟩
    · left; simpa using q

  rcases hn with hx | ⟨hx, hy⟩
  all_goals clear h0
  all_goals
    go_enter Tryz.func174, Tryz.ntmps174
    go_wp2
    refine wp_loop_rounds 4 ?_
    rw [rounds_succ]
    go_wp2_with (first | (go_at_call_of 180 (Value.int IntKind.u8 a.toNat); refine (LA.out _).mono ?_; rintro e w' ⟨rfl, rfl⟩) | (go_at_call_of 180 (Value.int IntKind.u8 b.toNat); refine (LB.out _).mono ?_; rintro e w' ⟨rfl, rfl⟩))
    go_ret2
    exact ⟨rfl, hbb⟩

set_option maxRecDepth 100000 in
set_option maxHeartbeats 4000000 in
theorem pu_gtr (a b : UInt8) (w : World) (h0 : ¬ (48 ≤ (a.toNat : Int) ∧ (a.toNat : Int) ≤ 57)) (h2 : 122 < low8 a) (h3 : low8 a ≤ 255) :
    Calls Tryz.prog 174 #[.string ⟨#[a, b]⟩, .int .i64 16, .int .i64 8] w fun e w' => e = .returned (.tuple #[.int .u64 0, .iface 244 (.int .i64 2)]) ∧ Below w.heap.size w w' := by
  have hcv := Lib.run_convert_string_bytes (P := Tryz.prog) w 9 60 5 ⟨#[a, b]⟩ Tryz.underlying9 Tryz.underlying60 Tryz.underlying5
  have hB0 : (Lib.bytesWorld w 5 ⟨#[a, b]⟩).cell? ⟨w.heap.size, 0, none⟩ = some (.int .u8 a.toNat) := Lib.bytesWorld_cell w 5 ⟨#[a, b]⟩ 0 (by show 0 < 2; decide)
  have hB1 : (Lib.bytesWorld w 5 ⟨#[a, b]⟩).cell? ⟨w.heap.size, 1, none⟩ = some (.int .u8 b.toNat) := Lib.bytesWorld_cell w 5 ⟨#[a, b]⟩ 1 (by show 1 < 2; decide)
  have hbb := Lib.bytesWorld_below w 5 ⟨#[a, b]⟩
  have ua : a.toNat < 256 := a.toNat_lt
  have ub : b.toNat < 256 := b.toNat_lt
  have LA : Hid (∀ W : World, Calls Tryz.prog 180 #[.int .u8 a.toNat] W fun e w' => e = .returned (.int .u8 (low8 a)) ∧ w' = W) := fun W => Tryz.internal_strconv_lower a.toNat W
  have LB : Hid (∀ W : World, Calls Tryz.prog 180 #[.int .u8 b.toNat] W fun e w' => e = .returned (.int .u8 (low8 b)) ∧ w' = W) := fun W => Tryz.internal_strconv_lower b.toNat W
  generalize Lib.bytesWorld w 5 ⟨#[a, b]⟩ = W1 at *
  have hm : ((a.toNat : Int) == 95) = false ∨ ((a.toNat : Int) == 95) = true := by cases ((a.toNat : Int) == 95) <;> simp
  have hn : (48 ≤ (a.toNat : Int)) = False ∨ ((48 ≤ (a.toNat : Int)) = True ∧ ((a.toNat : Int) ≤ 57) = False) := by
    by_cases q : 48 ≤ (a.toNat : Int)
    · right; refine ⟨by simpa using q, by simp; omega⟩
    · left; simpa using q

  rcases hm with h9 | h9 <;> rcases hn with hx | ⟨hx, hy⟩
  all_goals clear h0
  all_goals
    go_enter Tryz.func174, Tryz.ntmps174
    go_wp2
    refine wp_loop_rounds 4 ?_
    rw [rounds_succ]
    go_wp2_with (first | (go_at_call_of 180 (Value.int IntKind.u8 a.toNat); refine (LA.out _).mono ?_; rintro e w' ⟨rfl, rfl⟩) | (go_at_call_of 180 (Value.int IntKind.u8 b.toNat); refine (LB.out _).mono ?_; rintro e w' ⟨rfl, rfl⟩))
    go_ret2
    exact ⟨rfl, hbb⟩

set_option maxRecDepth 100000 in
set_option maxHeartbeats 4000000 in
theorem pu_dig_dig (a b : UInt8) (w : World) (h1 : 48 ≤ (a.toNat : Int)) (h2 : (a.toNat : Int) ≤ 57) (h9 : ((a.toNat : Int) == 95) = false) (g1 : 48 ≤ (b.toNat : Int)) (g2 : (b.toNat : Int) ≤ 57) (g9 : ((b.toNat : Int) == 95) = false) :
    Calls Tryz.prog 174 #[.string ⟨#[a, b]⟩, .int .i64 16, .int .i64 8] w fun e w' => e = .returned (.tuple #[.int .u64 ((a.toNat - 48 : Int) * 16 + (b.toNat - 48 : Int)), .nilIface]) ∧ Below w.heap.size w w' := by
  have hcv := Lib.run_convert_string_bytes (P := Tryz.prog) w 9 60 5 ⟨#[a, b]⟩ Tryz.underlying9 Tryz.underlying60 Tryz.underlying5
  have hB0 : (Lib.bytesWorld w 5 ⟨#[a, b]⟩).cell? ⟨w.heap.size, 0, none⟩ = some (.int .u8 a.toNat) := Lib.bytesWorld_cell w 5 ⟨#[a, b]⟩ 0 (by show 0 < 2; decide)
  have hB1 : (Lib.bytesWorld w 5 ⟨#[a, b]⟩).cell? ⟨w.heap.size, 1, none⟩ = some (.int .u8 b.toNat) := Lib.bytesWorld_cell w 5 ⟨#[a, b]⟩ 1 (by show 1 < 2; decide)
  have hbb := Lib.bytesWorld_below w 5 ⟨#[a, b]⟩
  have ua : a.toNat < 256 := a.toNat_lt
  have ub : b.toNat < 256 := b.toNat_lt
  have LA : Hid (∀ W : World, Calls Tryz.prog 180 #[.int .u8 a.toNat] W fun e w' => e = .returned (.int .u8 (low8 a)) ∧ w' = W) := fun W => Tryz.internal_strconv_lower a.toNat W
  have LB : Hid (∀ W : World, Calls Tryz.prog 180 #[.int .u8 b.toNat] W fun e w' => e = .returned (.int .u8 (low8 b)) ∧ w' = W) := fun W => Tryz.internal_strconv_lower b.toNat W
  generalize Lib.bytesWorld w 5 ⟨#[a, b]⟩ = W1 at *

  go_enter Tryz.func174, Tryz.ntmps174
  go_wp2
  refine wp_loop_rounds 4 ?_
  rw [rounds_succ]
  go_wp2_with (first | (go_at_call_of 180 (Value.int IntKind.u8 a.toNat); refine (LA.out _).mono ?_; rintro e w' ⟨rfl, rfl⟩) | (go_at_call_of 180 (Value.int IntKind.u8 b.toNat); refine (LB.out _).mono ?_; rintro e w' ⟨rfl, rfl⟩))
  rw [rounds_succ]
  go_wp2_with (first | (go_at_call_of 180 (Value.int IntKind.u8 a.toNat); refine (LA.out _).mono ?_; rintro e w' ⟨rfl, rfl⟩) | (go_at_call_of 180 (Value.int IntKind.u8 b.toNat); refine (LB.out _).mono ?_; rintro e w' ⟨rfl, rfl⟩))
  rw [rounds_succ]
  go_wp2
  go_ret2
  exact ⟨rfl, hbb⟩

set_option maxRecDepth 100000 in
set_option maxHeartbeats 4000000 in
theorem pu_dig_hex (a b : UInt8) (w : World) (h1 : 48 ≤ (a.toNat : Int)) (h2 : (a.toNat : Int) ≤ 57) (h9 : ((a.toNat : Int) == 95) = false) (g0 : ¬ (48 ≤ (b.toNat : Int) ∧ (b.toNat : Int) ≤ 57)) (g2 : 97 ≤ low8 b) (g3 : low8 b ≤ 102) (g9 : ((b.toNat : Int) == 95) = false) :
    Calls Tryz.prog 174 #[.string ⟨#[a, b]⟩, .int .i64 16, .int .i64 8] w fun e w' => e = .returned (.tuple #[.int .u64 ((a.toNat - 48 : Int) * 16 + (low8 b - 97 + 10)), .nilIface]) ∧ Below w.heap.size w w' := by
  have hcv := Lib.run_convert_string_bytes (P := Tryz.prog) w 9 60 5 ⟨#[a, b]⟩ Tryz.underlying9 Tryz.underlying60 Tryz.underlying5
  have hB0 : (Lib.bytesWorld w 5 ⟨#[a, b]⟩).cell? ⟨w.heap.size, 0, none⟩ = some (.int .u8 a.toNat) := Lib.bytesWorld_cell w 5 ⟨#[a, b]⟩ 0 (by show 0 < 2; decide)
  have hB1 : (Lib.bytesWorld w 5 ⟨#[a, b]⟩).cell? ⟨w.heap.size, 1, none⟩ = some (.int .u8 b.toNat) := Lib.bytesWorld_cell w 5 ⟨#[a, b]⟩ 1 (by show 1 < 2; decide)
  have hbb := Lib.bytesWorld_below w 5 ⟨#[a, b]⟩
  have ua : a.toNat < 256 := a.toNat_lt
  have ub : b.toNat < 256 := b.toNat_lt
  have LA : Hid (∀ W : World, Calls Tryz.prog 180 #[.int .u8 a.toNat] W fun e w' => e = .returned (.int .u8 (low8 a)) ∧ w' = W) := fun W => Tryz.internal_strconv_lower a.toNat W
  have LB : Hid (∀ W : World, Calls Tryz.prog 180 #[.int .u8 b.toNat] W fun e w' => e = .returned (.int .u8 (low8 b)) ∧ w' = W) := fun W => Tryz.internal_strconv_lower b.toNat W
  generalize Lib.bytesWorld w 5 ⟨#[a, b]⟩ = W1 at *
  have gn : (48 ≤ (b.toNat : Int)) = False ∨ ((48 ≤ (b.toNat : Int)) = True ∧ ((b.toNat : Int) ≤ 57) = False) := by
    by_cases q : 48 ≤ (b.toNat : Int)
    · right; refine ⟨by simpa using q, by simp; omega⟩
    · left; simpa using q

  rcases gn with gx | ⟨gx, gy⟩
  all_goals clear g0
  all_goals
    go_enter Tryz.func174, Tryz.ntmps174
    go_wp2
    refine wp_loop_rounds 4 ?_
    rw [rounds_succ]
    go_wp2_with (first | (go_at_call_of 180 (Value.int IntKind.u8 a.toNat); refine (LA.out _).mono ?_; rintro e w' ⟨rfl, rfl⟩) | (go_at_call_of 180 (Value.int IntKind.u8 b.toNat); refine (LB.out _).mono ?_; rintro e w' ⟨rfl, rfl⟩))
    rw [rounds_succ]
    go_wp2_with (first | (go_at_call_of 180 (Value.int IntKind.u8 a.toNat); refine (LA.out _).mono ?_; rintro e w' ⟨rfl, rfl⟩) | (go_at_call_of 180 (Value.int IntKind.u8 b.toNat); refine (LB.out _).mono ?_; rintro e w' ⟨rfl, rfl⟩))
    rw [rounds_succ]
    go_wp2
    go_ret2
    exact ⟨rfl, hbb⟩

set_option maxRecDepth 100000 in
set_option maxHeartbeats 4000000 in
theorem pu_dig_let (a b : UInt8) (w : World) (h1 : 48 ≤ (a.toNat : Int)) (h2 : (a.toNat : Int) ≤ 57) (h9 : ((a.toNat : Int) == 95) = false) (g0 : ¬ (48 ≤ (b.toNat : Int) ∧ (b.toNat : Int) ≤ 57)) (g2 : 102 < low8 b) (g3 : low8 b ≤ 122) (g9 : ((b.toNat : Int) == 95) = false) :
    Calls Tryz.prog 174 #[.string ⟨#[a, b]⟩, .int .i64 16, .int .i64 8] w fun e w' => e = .returned (.tuple #[.int .u64 0, .iface 244 (.int .i64 2)]) ∧ Below w.heap.size w w' := by
  have hcv := Lib.run_convert_string_bytes (P := Tryz.prog) w 9 60 5 ⟨#[a, b]⟩ Tryz.underlying9 Tryz.underlying60 Tryz.underlying5
  have hB0 : (Lib.bytesWorld w 5 ⟨#[a, b]⟩).cell? ⟨w.heap.size, 0, none⟩ = some (.int .u8 a.toNat) := Lib.bytesWorld_cell w 5 ⟨#[a, b]⟩ 0 (by show 0 < 2; decide)
  have hB1 : (Lib.bytesWorld w 5 ⟨#[a, b]⟩).cell? ⟨w.heap.size, 1, none⟩ = some (.int .u8 b.toNat) := Lib.bytesWorld_cell w 5 ⟨#[a, b]⟩ 1 (by show 1 < 2; decide)
  have hbb := Lib.bytesWorld_below w 5 ⟨#[a, b]⟩
  have ua : a.toNat < 256 := a.toNat_lt
  have ub : b.toNat < 256 := b.toNat_lt
  have LA : Hid (∀ W : World, Calls Tryz.prog 180 #[.int .u8 a.toNat] W fun e w' => e = .returned (.int .u8 (low8 a)) ∧ w' = W) := fun W => Tryz.internal_strconv_lower a.toNat W
  have LB : Hid (∀ W : World, Calls Tryz.prog 180 #[.int .u8 b.toNat] W fun e w' => e = .returned (.int .u8 (low8 b)) ∧ w' = W) := fun W => Tryz.internal_strconv_lower b.toNat W
  generalize Lib.bytesWorld w 5 ⟨#[a, b]⟩ = W1 at *
  have gn : (48 ≤ (b.toNat : Int)) = False ∨ ((48 ≤ (b.toNat : Int)) = True ∧ ((b.toNat : Int) ≤ 57) = False) := by
    by_cases q : 48 ≤ (b.toNat : Int)
    · right; refine ⟨by simpa using q, by simp; omega⟩
    · left; simpa using q

  rcases gn with gx | ⟨gx, gy⟩
  all_goals clear g0
  all_goals
    go_enter Tryz.func174, Tryz.ntmps174
    go_wp2
    refine wp_loop_rounds 4 ?_
    rw [rounds_succ]
    go_wp2_with (first | (go_at_call_of 180 (Value.int IntKind.u8 a.toNat); refine (LA.out _).mono ?_; rintro e w' ⟨rfl, rfl⟩) | (go_at_call_of 180 (Value.int IntKind.u8 b.toNat); refine (LB.out _).mono ?_; rintro e w' ⟨rfl, rfl⟩))
    rw [rounds_succ]
    go_wp2_with (first | (go_at_call_of 180 (Value.int IntKind.u8 a.toNat); refine (LA.out _).mono ?_; rintro e w' ⟨rfl, rfl⟩) | (go_at_call_of 180 (Value.int IntKind.u8 b.toNat); refine (LB.out _).mono ?_; rintro e w' ⟨rfl, rfl⟩))
    go_ret2
    exact ⟨rfl, hbb⟩

set_option maxRecDepth 100000 in
set_option maxHeartbeats 4000000 in
theorem pu_dig_lss (a b : UInt8) (w : World) (h1 : 48 ≤ (a.toNat : Int)) (h2 : (a.toNat : Int) ≤ 57) (h9 : ((a.toNat : Int) == 95) = false) (g0 : ¬ (48 ≤ (b.toNat : Int) ∧ (b.toNat : Int) ≤ 57)) (g2 : low8 b < 97) (g3 : 0 ≤ low8 b) (g9 : ((b.toNat : Int) == 95) = false) :
    Calls Tryz.prog 174 #[.string ⟨#[a, b]⟩, .int .i64 16, .int .i64 8] w fun e w' => e = .returned (.tuple #[.int .u64 0, .iface 244 (.int .i64 2)]) ∧ Below w.heap.size w w' := by
  have hcv := Lib.run_convert_string_bytes (P := Tryz.prog) w 9 60 5 ⟨#[a, b]⟩ Tryz.underlying9 Tryz.underlying60 Tryz.underlying5
  have hB0 : (Lib.bytesWorld w 5 ⟨#[a, b]⟩).cell? ⟨w.heap.size, 0, none⟩ = some (.int .u8 a.toNat) := Lib.bytesWorld_cell w 5 ⟨#[a, b]⟩ 0 (by show 0 < 2; decide)
  have hB1 : (Lib.bytesWorld w 5 ⟨#[a, b]⟩).cell? ⟨w.heap.size, 1, none⟩ = some (.int .u8 b.toNat) := Lib.bytesWorld_cell w 5 ⟨#[a, b]⟩ 1 (by show 1 < 2; decide)
  have hbb := Lib.bytesWorld_below w 5 ⟨#[a, b]⟩
  have ua : a.toNat < 256 := a.toNat_lt
  have ub : b.toNat < 256 := b.toNat_lt
  have LA : Hid (∀ W : World, Calls Tryz.prog 180 #[.int .u8 a.toNat] W fun e w' => e = .returned (.int .u8 (low8 a)) ∧ w' = W) := fun W => Tryz.internal_strconv_lower a.toNat W
  have LB : Hid (∀ W : World, Calls Tryz.prog 180 #[.int .u8 b.toNat] W fun e w' => e = .returned (.int .u8 (low8 b)) ∧ w' = W) := fun W => Tryz.internal_strconv_lower b.toNat W
  generalize Lib.bytesWorld w 5 ⟨#[a, b]⟩ = W1 at *
  have gn : (48 ≤ (b.toNat : Int)) = False ∨ ((48 ≤ (b.toNat : Int)) = True ∧ ((b.toNat : Int) ≤ 57) = False) := by
    by_cases q : 48 ≤ (b.toNat : Int)
    · right; refine ⟨by simpa using q, by simp; omega⟩
    · left; simpa using q

  rcases gn with gx | ⟨gx, gy⟩
  all_goals clear g0
  all_goals
    go_enter Tryz.func174, Tryz.ntmps174
    go_wp2
    refine wp_loop_rounds 4 ?_
    rw [rounds_succ]
    go_wp2_with (first | (go_at_call_of 180 (Value.int IntKind.u8 a.toNat); refine (LA.out _).mono ?_; rintro e w' ⟨rfl, rfl⟩) | (go_at_call_of 180 (Value.int IntKind.u8 b.toNat); refine (LB.out _).mono ?_; rintro e w' ⟨rfl, rfl⟩))
    rw [rounds_succ]
    go_wp2_with (first | (go_at_call_of 180 (Value.int IntKind.u8 a.toNat); refine (LA.out _).mono ?_; rintro e w' ⟨rfl, rfl⟩) | (go_at_call_of 180 (Value.int IntKind.u8 b.toNat); refine (LB.out _).mono ?_; rintro e w' ⟨rfl, rfl⟩))
    go_ret2
    exact ⟨rfl, hbb⟩

set_option maxRecDepth 100000 in
set_option maxHeartbeats 4000000 in
theorem pu_dig_gtr (a b : UInt8) (w : World) (h1 : 48 ≤ (a.toNat : Int)) (h2 : (a.toNat : Int) ≤ 57) (h9 : ((a.toNat : Int) == 95) = false) (g0 : ¬ (48 ≤ (b.toNat : Int) ∧ (b.toNat : Int) ≤ 57)) (g2 : 122 < low8 b) (g3 : low8 b ≤ 255) :
    Calls Tryz.prog 174 #[.string ⟨#[a, b]⟩, .int .i64 16, .int .i64 8] w fun e w' => e = .returned (.tuple #[.int .u64 0, .iface 244 (.int .i64 2)]) ∧ Below w.heap.size w w' := by
  have hcv := Lib.run_convert_string_bytes (P := Tryz.prog) w 9 60 5 ⟨#[a, b]⟩ Tryz.underlying9 Tryz.underlying60 Tryz.underlying5
  have hB0 : (Lib.bytesWorld w 5 ⟨#[a, b]⟩).cell? ⟨w.heap.size, 0, none⟩ = some (.int .u8 a.toNat) := Lib.bytesWorld_cell w 5 ⟨#[a, b]⟩ 0 (by show 0 < 2; decide)
  have hB1 : (Lib.bytesWorld w 5 ⟨#[a, b]⟩).cell? ⟨w.heap.size, 1, none⟩ = some (.int .u8 b.toNat) := Lib.bytesWorld_cell w 5 ⟨#[a, b]⟩ 1 (by show 1 < 2; decide)
  have hbb := Lib.bytesWorld_below w 5 ⟨#[a, b]⟩
  have ua : a.toNat < 256 := a.toNat_lt
  have ub : b.toNat < 256 := b.toNat_lt
  have LA : Hid (∀ W : World, Calls Tryz.prog 180 #[.int .u8 a.toNat] W fun e w' => e = .returned (.int .u8 (low8 a)) ∧ w' = W) := fun W => Tryz.internal_strconv_lower a.toNat W
  have LB : Hid (∀ W : World, Calls Tryz.prog 180 #[.int .u8 b.toNat] W fun e w' => e = .returned (.int .u8 (low8 b)) ∧ w' = W) := fun W => Tryz.internal_strconv_lower b.toNat W
  generalize Lib.bytesWorld w 5 ⟨#[a, b]⟩ = W1 at *
  have gm : ((b.toNat : Int) == 95) = false ∨ ((b.toNat : Int) == 95) = true := by cases ((b.toNat : Int) == 95) <;> simp
  have gn : (48 ≤ (b.toNat : Int)) = False ∨ ((48 ≤ (b.toNat : Int)) = True ∧ ((b.toNat : Int) ≤ 57) = False) := by
    by_cases q : 48 ≤ (b.toNat : Int)
    · right; refine ⟨by simpa using q, by simp; omega⟩
    · left; simpa using q

  rcases gm with g9 | g9 <;> rcases gn with gx | ⟨gx, gy⟩
  all_goals clear g0
  all_goals
    go_enter Tryz.func174, Tryz.ntmps174
    go_wp2
    refine wp_loop_rounds 4 ?_
    rw [rounds_succ]
    go_wp2_with (first | (go_at_call_of 180 (Value.int IntKind.u8 a.toNat); refine (LA.out _).mono ?_; rintro e w' ⟨rfl, rfl⟩) | (go_at_call_of 180 (Value.int IntKind.u8 b.toNat); refine (LB.out _).mono ?_; rintro e w' ⟨rfl, rfl⟩))
    rw [rounds_succ]
    go_wp2_with (first | (go_at_call_of 180 (Value.int IntKind.u8 a.toNat); refine (LA.out _).mono ?_; rintro e w' ⟨rfl, rfl⟩) | (go_at_call_of 180 (Value.int IntKind.u8 b.toNat); refine (LB.out _).mono ?_; rintro e w' ⟨rfl, rfl⟩))
    go_ret2
    exact ⟨rfl, hbb⟩

set_option maxRecDepth 100000 in
set_option maxHeartbeats 4000000 in
theorem pu_hex_dig (a b : UInt8) (w : World) (h0 : ¬ (48 ≤ (a.toNat : Int) ∧ (a.toNat : Int) ≤ 57)) (h2 : 97 ≤ low8 a) (h3 : low8 a ≤ 102) (h9 : ((a.toNat : Int) == 95) = false) (g1 : 48 ≤ (b.toNat : Int)) (g2 : (b.toNat : Int) ≤ 57) (g9 : ((b.toNat : Int) == 95) = false) :
    Calls Tryz.prog 174 #[.string ⟨#[a, b]⟩, .int .i64 16, .int .i64 8] w fun e w' => e = .returned (.tuple #[.int .u64 ((low8 a - 97 + 10) * 16 + (b.toNat - 48 : Int)), .nilIface]) ∧ Below w.heap.size w w' := by
  have hcv := Lib.run_convert_string_bytes (P := Tryz.prog) w 9 60 5 ⟨#[a, b]⟩ Tryz.underlying9 Tryz.underlying60 Tryz.underlying5
  have hB0 : (Lib.bytesWorld w 5 ⟨#[a, b]⟩).cell? ⟨w.heap.size, 0, none⟩ = some (.int .u8 a.toNat) := Lib.bytesWorld_cell w 5 ⟨#[a, b]⟩ 0 (by show 0 < 2; decide)
  have hB1 : (Lib.bytesWorld w 5 ⟨#[a, b]⟩).cell? ⟨w.heap.size, 1, none⟩ = some (.int .u8 b.toNat) := Lib.bytesWorld_cell w 5 ⟨#[a, b]⟩ 1 (by show 1 < 2; decide)
  have hbb := Lib.bytesWorld_below w 5 ⟨#[a, b]⟩
  have ua : a.toNat < 256 := a.toNat_lt
  have ub : b.toNat < 256 := b.toNat_lt
  have LA : Hid (∀ W : World, Calls Tryz.prog 180 #[.int .u8 a.toNat] W fun e w' => e = .returned (.int .u8 (low8 a)) ∧ w' = W) := fun W => Tryz.internal_strconv_lower a.toNat W
  have LB : Hid (∀ W : World, Calls Tryz.prog 180 #[.int .u8 b.toNat] W fun e w' => e = .returned (.int .u8 (low8 b)) ∧ w' = W) := fun W => Tryz.internal_strconv_lower b.toNat W
  generalize Lib.bytesWorld w 5 ⟨#[a, b]⟩ = W1 at *
  have hn : (48 ≤ (a.toNat : Int)) = False ∨ ((48 ≤ (a.toNat : Int)) = True ∧ ((a.toNat : Int) ≤ 57) = False) := by
    by_cases q : 48 ≤ (a.toNat : Int)
    · right; refine ⟨by simpa using q, by simp; omega⟩
    · left; simpa using q

  rcases hn with hx | ⟨hx, hy⟩
  all_goals clear h0
  all_goals
    go_enter Tryz.func174, Tryz.ntmps174
    go_wp2
    refine wp_loop_rounds 4 ?_
    rw [rounds_succ]
    go_wp2_with (first | (go_at_call_of 180 (Value.int IntKind.u8 a.toNat); refine (LA.out _).mono ?_; rintro e w' ⟨rfl, rfl⟩) | (go_at_call_of 180 (Value.int IntKind.u8 b.toNat); refine (LB.out _).mono ?_; rintro e w' ⟨rfl, rfl⟩))
    rw [rounds_succ]
    go_wp2_with (first | (go_at_call_of 180 (Value.int IntKind.u8 a.toNat); refine (LA.out _).mono ?_; rintro e w' ⟨rfl, rfl⟩) | (go_at_call_of 180 (Value.int IntKind.u8 b.toNat); refine (LB.out _).mono ?_; rintro e w' ⟨rfl, rfl⟩))
    rw [rounds_succ]
    go_wp2
    go_ret2
    exact ⟨rfl, hbb⟩

set_option maxRecDepth 100000 in
set_option maxHeartbeats 4000000 in
theorem pu_hex_hex (a b : UInt8) (w : World) (h0 : ¬ (48 ≤ (a.toNat : Int) ∧ (a.toNat : Int) ≤ 57)) (h2 : 97 ≤ low8 a) (h3 : low8 a ≤ 102) (h9 : ((a.toNat : Int) == 95) = false) (g0 : ¬ (48 ≤ (b.toNat : Int) ∧ (b.toNat : Int) ≤ 57)) (g2 : 97 ≤ low8 b) (g3 : low8 b ≤ 102) (g9 : ((b.toNat : Int) == 95) = false) :
    Calls Tryz.prog 174 #[.string ⟨#[a, b]⟩, .int .i64 16, .int .i64 8] w fun e w' => e = .returned (.tuple #[.int .u64 ((low8 a - 97 + 10) * 16 + (low8 b - 97 + 10)), .nilIface]) ∧ Below w.heap.size w w' := by
  have hcv := Lib.run_convert_string_bytes (P := Tryz.prog) w 9 60 5 ⟨#[a, b]⟩ Tryz.underlying9 Tryz.underlying60 Tryz.underlying5
  have hB0 : (Lib.bytesWorld w 5 ⟨#[a, b]⟩).cell? ⟨w.heap.size, 0, none⟩ = some (.int .u8 a.toNat) := Lib.bytesWorld_cell w 5 ⟨#[a, b]⟩ 0 (by show 0 < 2; decide)
  have hB1 : (Lib.bytesWorld w 5 ⟨#[a, b]⟩).cell? ⟨w.heap.size, 1, none⟩ = some (.int .u8 b.toNat) := Lib.bytesWorld_cell w 5 ⟨#[a, b]⟩ 1 (by show 1 < 2; decide)
  have hbb := Lib.bytesWorld_below w 5 ⟨#[a, b]⟩
  have ua : a.toNat < 256 := a.toNat_lt
  have ub : b.toNat < 256 := b.toNat_lt
  have LA : Hid (∀ W : World, Calls Tryz.prog 180 #[.int .u8 a.toNat] W fun e w' => e = .returned (.int .u8 (low8 a)) ∧ w' = W) := fun W => Tryz.internal_strconv_lower a.toNat W
  have LB : Hid (∀ W : World, Calls Tryz.prog 180 #[.int .u8 b.toNat] W fun e w' => e = .returned (.int .u8 (low8 b)) ∧ w' = W) := fun W => Tryz.internal_strconv_lower b.toNat W
  generalize Lib.bytesWorld w 5 ⟨#[a, b]⟩ = W1 at *
  have hn : (48 ≤ (a.toNat : Int)) = False ∨ ((48 ≤ (a.toNat : Int)) = True ∧ ((a.toNat : Int) ≤ 57) = False) := by
    by_cases q : 48 ≤ (a.toNat : Int)
    · right; refine ⟨by simpa using q, by simp; omega⟩
    · left; simpa using q
  have gn : (48 ≤ (b.toNat : Int)) = False ∨ ((48 ≤ (b.toNat : Int)) = True ∧ ((b.toNat : Int) ≤ 57) = False) := by
    by_cases q : 48 ≤ (b.toNat : Int)
    · right; refine ⟨by simpa using q, by simp; omega⟩
    · left; simpa using q

  rcases hn with hx | ⟨hx, hy⟩ <;> rcases gn with gx | ⟨gx, gy⟩
  all_goals clear h0
  all_goals clear g0
  all_goals
    go_enter Tryz.func174, Tryz.ntmps174
    go_wp2
    refine wp_loop_rounds 4 ?_
    rw [rounds_succ]
    go_wp2_with (first | (go_at_call_of 180 (Value.int IntKind.u8 a.toNat); refine (LA.out _).mono ?_; rintro e w' ⟨rfl, rfl⟩) | (go_at_call_of 180 (Value.int IntKind.u8 b.toNat); refine (LB.out _).mono ?_; rintro e w' ⟨rfl, rfl⟩))
    rw [rounds_succ]
    go_wp2_with (first | (go_at_call_of 180 (Value.int IntKind.u8 a.toNat); refine (LA.out _).mono ?_; rintro e w' ⟨rfl, rfl⟩) | (go_at_call_of 180 (Value.int IntKind.u8 b.toNat); refine (LB.out _).mono ?_; rintro e w' ⟨rfl, rfl⟩))
    rw [rounds_succ]
    go_wp2
    go_ret2
    exact ⟨rfl, hbb⟩

set_option maxRecDepth 100000 in
set_option maxHeartbeats 4000000 in
theorem pu_hex_let (a b : UInt8) (w : World) (h0 : ¬ (48 ≤ (a.toNat : Int) ∧ (a.toNat : Int) ≤ 57)) (h2 : 97 ≤ low8 a) (h3 : low8 a ≤ 102) (h9 : ((a.toNat : Int) == 95) = false) (g0 : ¬ (48 ≤ (b.toNat : Int) ∧ (b.toNat : Int) ≤ 57)) (g2 : 102 < low8 b) (g3 : low8 b ≤ 122) (g9 : ((b.toNat : Int) == 95) = false) :
    Calls Tryz.prog 174 #[.string ⟨#[a, b]⟩, .int .i64 16, .int .i64 8] w fun e w' => e = .returned (.tuple #[.int .u64 0, .iface 244 (.int .i64 2)]) ∧ Below w.heap.size w w' := by
  have hcv := Lib.run_convert_string_bytes (P := Tryz.prog) w 9 60 5 ⟨#[a, b]⟩ Tryz.underlying9 Tryz.underlying60 Tryz.underlying5
  have hB0 : (Lib.bytesWorld w 5 ⟨#[a, b]⟩).cell? ⟨w.heap.size, 0, none⟩ = some (.int .u8 a.toNat) := Lib.bytesWorld_cell w 5 ⟨#[a, b]⟩ 0 (by show 0 < 2; decide)
  have hB1 : (Lib.bytesWorld w 5 ⟨#[a, b]⟩).cell? ⟨w.heap.size, 1, none⟩ = some (.int .u8 b.toNat) := Lib.bytesWorld_cell w 5 ⟨#[a, b]⟩ 1 (by show 1 < 2; decide)
  have hbb := Lib.bytesWorld_below w 5 ⟨#[a, b]⟩
  have ua : a.toNat < 256 := a.toNat_lt
  have ub : b.toNat < 256 := b.toNat_lt
  have LA : Hid (∀ W : World, Calls Tryz.prog 180 #[.int .u8 a.toNat] W fun e w' => e = .returned (.int .u8 (low8 a)) ∧ w' = W) := fun W => Tryz.internal_strconv_lower a.toNat W
  have LB : Hid (∀ W : World, Calls Tryz.prog 180 #[.int .u8 b.toNat] W fun e w' => e = .returned (.int .u8 (low8 b)) ∧ w' = W) := fun W => Tryz.internal_strconv_lower b.toNat W
  generalize Lib.bytesWorld w 5 ⟨#[a, b]⟩ = W1 at *
  have hn : (48 ≤ (a.toNat : Int)) = False ∨ ((48 ≤ (a.toNat : Int)) = True ∧ ((a.toNat : Int) ≤ 57) = False) := by
    by_cases q : 48 ≤ (a.toNat : Int)
    · right; refine ⟨by simpa using q, by simp; omega⟩
    · left; simpa using q
  have gn : (48 ≤ (b.toNat : Int)) = False ∨ ((48 ≤ (b.toNat : Int)) = True ∧ ((b.toNat : Int) ≤ 57) = False) := by
    by_cases q : 48 ≤ (b.toNat : Int)
    · right; refine ⟨by simpa using q, by simp; omega⟩
    · left; simpa using q

  rcases hn with hx | ⟨hx, hy⟩ <;> rcases gn with gx | ⟨gx, gy⟩
  all_goals clear h0
  all_goals clear g0
  all_goals
    go_enter Tryz.func174, Tryz.ntmps174
    go_wp2
    refine wp_loop_rounds 4 ?_
    rw [rounds_succ]
    go_wp2_with (first | (go_at_call_of 180 (Value.int IntKind.u8 a.toNat); refine (LA.out _).mono ?_; rintro e w' ⟨rfl, rfl⟩) | (go_at_call_of 180 (Value.int IntKind.u8 b.toNat); refine (LB.out _).mono ?_; rintro e w' ⟨rfl, rfl⟩))
    rw [rounds_succ]
    go_wp2_with (first | (go_at_call_of 180 (Value.int IntKind.u8 a.toNat); refine (LA.out _).mono ?_; rintro e w' ⟨rfl, rfl⟩) | (go_at_call_of 180 (Value.int IntKind.u8 b.toNat); refine (LB.out _).mono ?_; rintro e w' ⟨rfl, rfl⟩))
    go_ret2
    exact ⟨rfl, hbb⟩

set_option maxRecDepth 100000 in
set_option maxHeartbeats 4000000 in
theorem pu_hex_lss (a b : UInt8) (w : World) (h0 : ¬ (48 ≤ (a.toNat : Int) ∧ (a.toNat : Int) ≤ 57)) (h2 : 97 ≤ low8 a) (h3 : low8 a ≤ 102) (h9 : ((a.toNat : Int) == 95) = false) (g0 : ¬ (48 ≤ (b.toNat : Int) ∧ (b.toNat : Int) ≤ 57)) (g2 : low8 b < 97) (g3 : 0 ≤ low8 b) (g9 : ((b.toNat : Int) == 95) = false) :
    Calls Tryz.prog 174 #[.string ⟨#[a, b]⟩, .int .i64 16, .int .i64 8] w fun e w' => e = .returned (.tuple #[.int .u64 0, .iface 244 (.int .i64 2)]) ∧ Below w.heap.size w w' := by
  have hcv := Lib.run_convert_string_bytes (P := Tryz.prog) w 9 60 5 ⟨#[a, b]⟩ Tryz.underlying9 Tryz.underlying60 Tryz.underlying5
  have hB0 : (Lib.bytesWorld w 5 ⟨#[a, b]⟩).cell? ⟨w.heap.size, 0, none⟩ = some (.int .u8 a.toNat) := Lib.bytesWorld_cell w 5 ⟨#[a, b]⟩ 0 (by show 0 < 2; decide)
  have hB1 : (Lib.bytesWorld w 5 ⟨#[a, b]⟩).cell? ⟨w.heap.size, 1, none⟩ = some (.int .u8 b.toNat) := Lib.bytesWorld_cell w 5 ⟨#[a, b]⟩ 1 (by show 1 < 2; decide)
  have hbb := Lib.bytesWorld_below w 5 ⟨#[a, b]⟩
  have ua : a.toNat < 256 := a.toNat_lt
  have ub : b.toNat < 256 := b.toNat_lt
  have LA : Hid (∀ W : World, Calls Tryz.prog 180 #[.int .u8 a.toNat] W fun e w' => e = .returned (.int .u8 (low8 a)) ∧ w' = W) := fun W => Tryz.internal_strconv_lower a.toNat W
  have LB : Hid (∀ W : World, Calls Tryz.prog 180 #[.int .u8 b.toNat] W fun e w' => e = .returned (.int .u8 (low8 b)) ∧ w' = W) := fun W => Tryz.internal_strconv_lower b.toNat W
  generalize Lib.bytesWorld w 5 ⟨#[a, b]⟩ = W1 at *
  have hn : (48 ≤ (a.toNat : Int)) = False ∨ ((48 ≤ (a.toNat : Int)) = True ∧ ((a.toNat : Int) ≤ 57) = False) := by
    by_cases q : 48 ≤ (a.toNat : Int)
    · right; refine ⟨by simpa using q, by simp; omega⟩
    · left; simpa using q
  have gn : (48 ≤ (b.toNat : Int)) = False ∨ ((48 ≤ (b.toNat : Int)) = True ∧ ((b.toNat : Int) ≤ 57) = False) := by
    by_cases q : 48 ≤ (b.toNat : Int)
    · right; refine ⟨by simpa using q, by simp; omega⟩
    · left; simpa using q

  rcases hn with hx | ⟨hx, hy⟩ <;> rcases gn with gx | ⟨gx, gy⟩
  all_goals clear h0
  all_goals clear g0
  all_goals
    go_enter Tryz.func174, Tryz.ntmps174
    go_wp2
    refine wp_loop_rounds 4 ?_
    rw [rounds_succ]
    go_wp2_with (first | (go_at_call_of 180 (Value.int IntKind.u8 a.toNat); refine (LA.out _).mono ?_; rintro e w' ⟨rfl, rfl⟩) | (go_at_call_of 180 (Value.int IntKind.u8 b.toNat); refine (LB.out _).mono ?_; rintro e w' ⟨rfl, rfl⟩))
    rw [rounds_succ]
    go_wp2_with (first | (go_at_call_of 180 (Value.int IntKind.u8 a.toNat); refine (LA.out _).mono ?_; rintro e w' ⟨rfl, rfl⟩) | (go_at_call_of 180 (Value.int IntKind.u8 b.toNat); refine (LB.out _).mono ?_; rintro e w' ⟨rfl, rfl⟩))
    go_ret2
    exact ⟨rfl, hbb⟩

set_option maxRecDepth 100000 in
set_option maxHeartbeats 4000000 in
theorem pu_hex_gtr (a b : UInt8) (w : World) (h0 : ¬ (48 ≤ (a.toNat : Int) ∧ (a.toNat : Int) ≤ 57)) (h2 : 97 ≤ low8 a) (h3 : low8 a ≤ 102) (h9 : ((a.toNat : Int) == 95) = false) (g0 : ¬ (48 ≤ (b.toNat : Int) ∧ (b.toNat : Int) ≤ 57)) (g2 : 122 < low8 b) (g3 : low8 b ≤ 255) :
    Calls Tryz.prog 174 #[.string ⟨#[a, b]⟩, .int .i64 16, .int .i64 8] w fun e w' => e = .returned (.tuple #[.int .u64 0, .iface 244 (.int .i64 2)]) ∧ Below w.heap.size w w' := by
  have hcv := Lib.run_convert_string_bytes (P := Tryz.prog) w 9 60 5 ⟨#[a, b]⟩ Tryz.underlying9 Tryz.underlying60 Tryz.underlying5
  have hB0 : (Lib.bytesWorld w 5 ⟨#[a, b]⟩).cell? ⟨w.heap.size, 0, none⟩ = some (.int .u8 a.toNat) := Lib.bytesWorld_cell w 5 ⟨#[a, b]⟩ 0 (by show 0 < 2; decide)
  have hB1 : (Lib.bytesWorld w 5 ⟨#[a, b]⟩).cell? ⟨w.heap.size, 1, none⟩ = some (.int .u8 b.toNat) := Lib.bytesWorld_cell w 5 ⟨#[a, b]⟩ 1 (by show 1 < 2; decide)
  have hbb := Lib.bytesWorld_below w 5 ⟨#[a, b]⟩
  have ua : a.toNat < 256 := a.toNat_lt
  have ub : b.toNat < 256 := b.toNat_lt
  have LA : Hid (∀ W : World, Calls Tryz.prog 180 #[.int .u8 a.toNat] W fun e w' => e = .returned (.int .u8 (low8 a)) ∧ w' = W) := fun W => Tryz.internal_strconv_lower a.toNat W
  have LB : Hid (∀ W : World, Calls Tryz.prog 180 #[.int .u8 b.toNat] W fun e w' => e = .returned (.int .u8 (low8 b)) ∧ w' = W) := fun W => Tryz.internal_strconv_lower b.toNat W
  generalize Lib.bytesWorld w 5 ⟨#[a, b]⟩ = W1 at *
  have hn : (48 ≤ (a.toNat : Int)) = False ∨ ((48 ≤ (a.toNat : Int)) = True ∧ ((a.toNat : Int) ≤ 57) = False) := by
    by_cases q : 48 ≤ (a.toNat : Int)
    · right; refine ⟨by simpa using q, by simp; omega⟩
    · left; simpa using q
  have gm : ((b.toNat : Int) == 95) = false ∨ ((b.toNat : Int) == 95) = true := by cases ((b.toNat : Int) == 95) <;> simp
  have gn : (48 ≤ (b.toNat : Int)) = False ∨ ((48 ≤ (b.toNat : Int)) = True ∧ ((b.toNat : Int) ≤ 57) = False) := by
    by_cases q : 48 ≤ (b.toNat : Int)
    · right; refine ⟨by simpa using q, by simp; omega⟩
    · left; simpa using q

  rcases gm with g9 | g9 <;> rcases hn with hx | ⟨hx, hy⟩ <;> rcases gn with gx | ⟨gx, gy⟩
  all_goals clear h0
  all_goals clear g0
  all_goals
    go_enter Tryz.func174, Tryz.ntmps174
    go_wp2
    refine wp_loop_rounds 4 ?_
    rw [rounds_succ]
    go_wp2_with (first | (go_at_call_of 180 (Value.int IntKind.u8 a.toNat); refine (LA.out _).mono ?_; rintro e w' ⟨rfl, rfl⟩) | (go_at_call_of 180 (Value.int IntKind.u8 b.toNat); refine (LB.out _).mono ?_; rintro e w' ⟨rfl, rfl⟩))
    rw [rounds_succ]
    go_wp2_with (first | (go_at_call_of 180 (Value.int IntKind.u8 a.toNat); refine (LA.out _).mono ?_; rintro e w' ⟨rfl, rfl⟩) | (go_at_call_of 180 (Value.int IntKind.u8 b.toNat); refine (LB.out _).mono ?_; rintro e w' ⟨rfl, rfl⟩))
    go_ret2
    exact ⟨rfl, hbb⟩

end Go.Proofs.YticmebamclacaaaGreatDoor

namespace Go.Proofs.YticmebamclacaaaGreatDoor
open Go.RowKit Go.Shelf
set_option linter.unusedVariables false

/-- What two bytes say to the base 16. -/
def hex2 (a b : UInt8) : Option UInt8 := if hexv a < 16 ∧ hexv b < 16 then some (UInt8.ofNat (16 * hexv a + hexv b)) else none


/-- Internal ParseUint of two bytes. -/
theorem ipu_yes (a b : UInt8) (w : World) (hh : (hexv a < 16 ∧ hexv b < 16)) :
    Calls Tryz.prog 174 #[.string ⟨#[a, b]⟩, .int .i64 16, .int .i64 8] w fun e w' => e = .returned (.tuple #[.int .u64 ((16 * hexv a + hexv b : Nat) : Int), .nilIface]) ∧ Below w.heap.size w w' := by
  rcases cls a with ⟨h1, h2, h3, h9⟩ | ⟨h1, h2, h3, h4, h9⟩ | ⟨h1, h2, h3, h4, h9⟩ | ⟨h1, h2, h3, h4, h9⟩ | ⟨h1, h2, h3, h4⟩
  · rcases cls b with ⟨g1, g2, g3, g9⟩ | ⟨g1, g2, g3, g4, g9⟩ | ⟨g1, g2, g3, g4, g9⟩ | ⟨g1, g2, g3, g4, g9⟩ | ⟨g1, g2, g3, g4⟩
    · have h := pu_dig_dig a b w h1 h2 h9 g1 g2 g9
      rw [show (a.toNat - 48 : Int) * 16 + (b.toNat - 48 : Int) = ((16 * hexv a + hexv b : Nat) : Int) by omega] at h
      exact h
    · have h := pu_dig_hex a b w h1 h2 h9 g1 g2 g3 g9
      rw [show (a.toNat - 48 : Int) * 16 + (low8 b - 97 + 10) = ((16 * hexv a + hexv b : Nat) : Int) by omega] at h
      exact h
    · exfalso; omega
    · exfalso; omega
    · exfalso; omega
  · rcases cls b with ⟨g1, g2, g3, g9⟩ | ⟨g1, g2, g3, g4, g9⟩ | ⟨g1, g2, g3, g4, g9⟩ | ⟨g1, g2, g3, g4, g9⟩ | ⟨g1, g2, g3, g4⟩
    · have h := pu_hex_dig a b w h1 h2 h3 h9 g1 g2 g9
      rw [show (low8 a - 97 + 10) * 16 + (b.toNat - 48 : Int) = ((16 * hexv a + hexv b : Nat) : Int) by omega] at h
      exact h
    · have h := pu_hex_hex a b w h1 h2 h3 h9 g1 g2 g3 g9
      rw [show (low8 a - 97 + 10) * 16 + (low8 b - 97 + 10) = ((16 * hexv a + hexv b : Nat) : Int) by omega] at h
      exact h
    · exfalso; omega
    · exfalso; omega
    · exfalso; omega
  · exfalso; omega
  · exfalso; omega
  · exfalso; omega
/-- Internal ParseUint of two bytes. -/
theorem ipu_no (a b : UInt8) (w : World) (hh : ¬ (hexv a < 16 ∧ hexv b < 16)) :
    Calls Tryz.prog 174 #[.string ⟨#[a, b]⟩, .int .i64 16, .int .i64 8] w fun e w' => e = .returned (.tuple #[.int .u64 0, .iface 244 (.int .i64 2)]) ∧ Below w.heap.size w w' := by
  rcases cls a with ⟨h1, h2, h3, h9⟩ | ⟨h1, h2, h3, h4, h9⟩ | ⟨h1, h2, h3, h4, h9⟩ | ⟨h1, h2, h3, h4, h9⟩ | ⟨h1, h2, h3, h4⟩
  · rcases cls b with ⟨g1, g2, g3, g9⟩ | ⟨g1, g2, g3, g4, g9⟩ | ⟨g1, g2, g3, g4, g9⟩ | ⟨g1, g2, g3, g4, g9⟩ | ⟨g1, g2, g3, g4⟩
    · exact absurd ⟨by omega, by omega⟩ hh
    · exact absurd ⟨by omega, by omega⟩ hh
    · exact pu_dig_let a b w h1 h2 h9 g1 g2 g3 g9
    · exact pu_dig_lss a b w h1 h2 h9 g1 g2 g3 g9
    · exact pu_dig_gtr a b w h1 h2 h9 g1 g2 g3
  · rcases cls b with ⟨g1, g2, g3, g9⟩ | ⟨g1, g2, g3, g4, g9⟩ | ⟨g1, g2, g3, g4, g9⟩ | ⟨g1, g2, g3, g4, g9⟩ | ⟨g1, g2, g3, g4⟩
    · exact absurd ⟨by omega, by omega⟩ hh
    · exact absurd ⟨by omega, by omega⟩ hh
    · exact pu_hex_let a b w h1 h2 h3 h9 g1 g2 g3 g9
    · exact pu_hex_lss a b w h1 h2 h3 h9 g1 g2 g3 g9
    · exact pu_hex_gtr a b w h1 h2 h3 h9 g1 g2 g3
  · exact pu_let a b w h1 h2 h3 h9
  · exact pu_lss a b w h1 h2 h3 h9
  · exact pu_gtr a b w h1 h2 h3

/-- The two errors of strconv lie as interface values. -/
structure Errs (w : World) : Prop where
  syn : ∃ ev, w.cell? ⟨7, 0, none⟩ = some ev ∧ (ev = .nilIface ∨ ∃ te pe, ev = .iface te pe)
  rng : ∃ ev, w.cell? ⟨8, 0, none⟩ = some ev ∧ (ev = .nilIface ∨ ∃ te pe, ev = .iface te pe)
theorem Errs.below {w W : World} (h : Errs w) (hb : Below w.heap.size w W) (hs : 9 ≤ w.heap.size) : Errs W := by
  obtain ⟨⟨e1, c1, d1⟩, ⟨e2, c2, d2⟩⟩ := h
  exact ⟨⟨e1, (hb.cell (p := ⟨_, 0, none⟩) (by show 7 < w.heap.size; omega)).trans c1, d1⟩, ⟨e2, (hb.cell (p := ⟨_, 0, none⟩) (by show 8 < w.heap.size; omega)).trans c2, d2⟩⟩

set_option maxRecDepth 100000 in
set_option maxHeartbeats 2000000 in
theorem pu_yes (a b : UInt8) (w : World) (h : hexv a < 16 ∧ hexv b < 16) :
    Calls Tryz.prog 173 #[.string ⟨#[a, b]⟩, .int .i64 16, .int .i64 8] w fun e w' => e = .returned (.tuple #[.int .u64 ((16 * hexv a + hexv b : Nat) : Int), .nilIface]) ∧ Below w.heap.size w w' := by
  obtain ⟨v, ev⟩ : ∃ v : Int, Hid (((16 * hexv a + hexv b : Nat) : Int) = v) := ⟨_, rfl⟩
  have H : Hid (∀ W : World, Calls Tryz.prog 174 #[.string ⟨#[a, b]⟩, .int .i64 16, .int .i64 8] W fun e w' => e = .returned (.tuple #[.int .u64 v, .nilIface]) ∧ Below W.heap.size W w') := fun W => by
    have q := ipu_yes a b W h
    rw [ev.out] at q
    exact q
  rw [ev.out]
  clear h ev
  go_enter Tryz.func173, Tryz.ntmps173
  go_wp2_with fail
  refine (H.out _).mono ?_
  rintro e w1 ⟨rfl, hb⟩
  go_wp2
  go_ret2
  exact ⟨rfl, hb⟩

set_option maxRecDepth 100000 in
set_option maxHeartbeats 2000000 in
theorem pu_no (a b : UInt8) (w : World) (h : ¬ (hexv a < 16 ∧ hexv b < 16)) (he : Errs w) (hs : 9 ≤ w.heap.size) :
    Calls Tryz.prog 173 #[.string ⟨#[a, b]⟩, .int .i64 16, .int .i64 8] w fun e w' => ∃ p, e = .returned (.tuple #[.int .u64 0, .iface 245 p]) ∧ Below w.heap.size w w' := by
  have H : Hid (∀ W : World, Calls Tryz.prog 174 #[.string ⟨#[a, b]⟩, .int .i64 16, .int .i64 8] W fun e w' => e = .returned (.tuple #[.int .u64 0, .iface 244 (.int .i64 2)]) ∧ Below W.heap.size W w') := fun W => by
    exact ipu_no a b W h
  clear h
  go_enter Tryz.func173, Tryz.ntmps173
  go_wp2_with fail
  refine (H.out _).mono ?_
  rintro e w1 ⟨rfl, hb⟩
  obtain ⟨⟨ev, hv, hev⟩, -⟩ := he.below hb hs
  have hsz : (⟨#[a, b]⟩ : ByteArray).size ≤ 281474976710656 := by show 2 ≤ _; decide
  go_wp2_with fail
  refine (Tryz.strconv_toError_syntax _ _ 16 8 ev _ hsz hv hev).mono ?_
  rintro e w2 ⟨N, rfl, -, -, hb2⟩
  go_wp2
  go_ret2
  exact ⟨_, rfl, hb.trans (hb2.mono hb.size)⟩

end Go.Proofs.YticmebamclacaaaGreatDoor

namespace Go.Proofs.YticmebamclacaaaGreatDoor
open Go.RowKit Go.Shelf
set_option linter.unusedVariables false

/-- What stands behind a backslash: the byte, and how many bytes say so. -/
def une : List UInt8 → Option (UInt8 × Nat)
  | [] => none
  | c :: r => if c.toNat = 120 then (match r with
      | a :: b :: _ => (hex2 a b).map fun x => (x, 3)
      | _ => none) else some (c, 1)
/-- What a text between quotes says. -/
def unq (l : List UInt8) : Option (List UInt8) :=
  match l with
  | [] => some []
  | c :: r => if c.toNat = 92 then (match une r with
      | none => none
      | some (x, k) => (unq (r.drop k)).map fun y => x :: y) else (unq r).map fun y => c :: y
termination_by l.length
decreasing_by all_goals simp; try omega

theorem unq_nil : unq [] = some [] := by rw [unq]
theorem unq_plain {c : UInt8} (r : List UInt8) (h : c.toNat ≠ 92) : unq (c :: r) = (unq r).map fun y => c :: y := by rw [unq]; simp [h]
theorem unq_esc {c : UInt8} (r : List UInt8) (h : c.toNat = 92) : unq (c :: r) = (match une r with
      | none => none
      | some (x, k) => (unq (r.drop k)).map fun y => x :: y) := by rw [unq]; simp [h]
theorem une_len {l : List UInt8} {x : UInt8} {k : Nat} (h : une l = some (x, k)) : k ≤ l.length ∧ k ≤ 3 := by
  unfold une at h
  split at h
  · cases h
  · split at h
    · split at h
      · simp only [Option.map_eq_some_iff, Prod.mk.injEq] at h
        obtain ⟨y, _, _, rfl⟩ := h
        simp
      · cases h
    · simp only [Option.some.injEq, Prod.mk.injEq] at h
      simp [← h.2]
set_option maxRecDepth 100000 in
set_option maxHeartbeats 2000000 in
theorem unesc_nil (w : World) :
    Calls Tryz.prog 169 #[.string ⟨#[]⟩] w fun e w' => e = .returned (.tuple #[.int .u8 0, .int .i64 0, .bool false]) ∧ Below w.heap.size w w' := by
  go_enter Tryz.func169, Tryz.ntmps169
  go_wp2
  refine bodyPost_ret (by simp [results, Tryz.results169, go_sem]; try rfl) rfl ?_
  exact ⟨rfl, Below.refl _ _⟩

set_option maxRecDepth 100000 in
set_option maxHeartbeats 2000000 in
theorem unesc_one (u : ByteArray) (c : UInt8) (w : World) (h0 : 0 < u.size) (hc : u[0] = c) (h1 : ((c.toNat : Int) != 120) = true) (hne : (u.toList == []) = false) :
    Calls Tryz.prog 169 #[.string u] w fun e w' => e = .returned (.tuple #[.int .u8 c.toNat, .int .i64 1, .bool true]) ∧ Below w.heap.size w w' := by
  have h0' : (0 : Int) < u.size := by omega
  have hb : ByteArray.toList u ≠ [] := by simpa using hne
  go_enter Tryz.func169, Tryz.ntmps169
  go_wp2
  refine bodyPost_ret (by simp [results, Tryz.results169, go_sem]; try rfl) rfl ?_
  exact ⟨rfl, Below.refl _ _⟩

set_option maxRecDepth 100000 in
set_option maxHeartbeats 2000000 in
theorem unesc_short (u : ByteArray) (c : UInt8) (w : World) (h0 : 0 < u.size) (hc : u[0] = c) (h1 : ((c.toNat : Int) != 120) = false) (hne : (u.toList == []) = false) (h3 : u.size < 3) :
    Calls Tryz.prog 169 #[.string u] w fun e w' => e = .returned (.tuple #[.int .u8 0, .int .i64 0, .bool false]) ∧ Below w.heap.size w w' := by
  have h0' : (0 : Int) < u.size := by omega
  have h3' : (u.size : Int) < 3 := by omega
  have hb : ByteArray.toList u ≠ [] := by simpa using hne
  go_enter Tryz.func169, Tryz.ntmps169
  go_wp2
  refine bodyPost_ret (by simp [results, Tryz.results169, go_sem]; try rfl) rfl ?_
  exact ⟨rfl, Below.refl _ _⟩

set_option maxRecDepth 100000 in
set_option maxHeartbeats 2000000 in
theorem unesc_yes (u : ByteArray) (c a b : UInt8) (w : World) (h0 : 0 < u.size) (hc : u[0] = c) (h1 : ((c.toNat : Int) != 120) = false) (hne : (u.toList == []) = false) (h3 : 3 ≤ u.size) (hx : u.extract 1 3 = ⟨#[a, b]⟩) (hh : hexv a < 16 ∧ hexv b < 16) :
    Calls Tryz.prog 169 #[.string u] w fun e w' => e = .returned (.tuple #[.int .u8 ((16 * hexv a + hexv b : Nat) : Int), .int .i64 3, .bool true]) ∧ Below w.heap.size w w' := by
  obtain ⟨v, ev⟩ : ∃ v : Nat, Hid (16 * hexv a + hexv b = v) := ⟨_, rfl⟩
  have hv : v < 256 := by have := ev.out; omega
  have H : Hid (∀ W : World, Calls Tryz.prog 173 #[.string ⟨#[a, b]⟩, .int .i64 16, .int .i64 8] W fun e w' => e = .returned (.tuple #[.int .u64 (v : Int), .nilIface]) ∧ Below W.heap.size W w') := fun W => by
    have q := pu_yes a b W hh
    rw [ev.out] at q
    exact q
  have hw : IntKind.u8.wrap (v : Int) = (v : Int) := by simp [IntKind.wrap, IntKind.bits, IntKind.signed]; omega
  rw [ev.out]
  clear ev hh
  have h0' : (0 : Int) < u.size := by omega
  have h3' : (3 : Int) ≤ u.size := by omega
  have hb : ByteArray.toList u ≠ [] := by simpa using hne
  go_enter Tryz.func169, Tryz.ntmps169
  go_wp2_with fail
  refine (H.out _).mono ?_
  rintro e w1 ⟨rfl, hb1⟩
  go_wp2
  go_region
  go_wp2
  refine bodyPost_ret (by simp [results, Tryz.results169, go_sem]; try rfl) rfl ?_
  exact ⟨rfl, hb1.drew⟩

set_option maxRecDepth 100000 in
set_option maxHeartbeats 2000000 in
theorem unesc_no (u : ByteArray) (c a b : UInt8) (w : World) (h0 : 0 < u.size) (hc : u[0] = c) (h1 : ((c.toNat : Int) != 120) = false) (hne : (u.toList == []) = false) (h3 : 3 ≤ u.size) (hx : u.extract 1 3 = ⟨#[a, b]⟩) (hh : ¬ (hexv a < 16 ∧ hexv b < 16)) (he : Errs w) (h8 : 9 ≤ w.heap.size) :
    Calls Tryz.prog 169 #[.string u] w fun e w' => e = .returned (.tuple #[.int .u8 0, .int .i64 3, .bool false]) ∧ Below w.heap.size w w' := by
  have H : Hid (∀ W : World, Errs W → 9 ≤ W.heap.size → Calls Tryz.prog 173 #[.string ⟨#[a, b]⟩, .int .i64 16, .int .i64 8] W fun e w' => ∃ p, e = .returned (.tuple #[.int .u64 0, .iface 245 p]) ∧ Below W.heap.size W w') := fun W h g => pu_no a b W hh h g
  clear hh
  have h0' : (0 : Int) < u.size := by omega
  have h3' : (3 : Int) ≤ u.size := by omega
  have hb : ByteArray.toList u ≠ [] := by simpa using hne
  go_enter Tryz.func169, Tryz.ntmps169
  go_wp2_with fail
  refine (H.out _ he h8).mono ?_
  rintro e w1 ⟨p, rfl, hb1⟩
  go_wp2
  go_region
  go_wp2
  refine bodyPost_ret (by simp [results, Tryz.results169, go_sem]; try rfl) rfl ?_
  exact ⟨rfl, hb1.drew⟩

/-- unescape at every text. -/
theorem unesc_any (u : ByteArray) (w : World) (he : Errs w) (h8 : 9 ≤ w.heap.size) :
    Calls Tryz.prog 169 #[.string u] w fun e w' => (match une u.data.toList with
      | some (x, k) => e = .returned (.tuple #[.int .u8 x.toNat, .int .i64 k, .bool true])
      | none => ∃ p q, e = .returned (.tuple #[.int .u8 p, .int .i64 q, .bool false])) ∧ Below w.heap.size w w' := by
  obtain ⟨⟨l⟩⟩ := u
  match l with
  | [] =>
    refine (unesc_nil w).mono ?_
    rintro e w' ⟨rfl, hb⟩
    exact ⟨⟨_, _, rfl⟩, hb⟩
  | c :: r =>
    have h0 : 0 < (⟨⟨c :: r⟩⟩ : ByteArray).size := by show 0 < (c :: r).length; simp
    have hc : (⟨⟨c :: r⟩⟩ : ByteArray)[0] = c := rfl
    have hne : ((⟨⟨c :: r⟩⟩ : ByteArray).toList == []) = false := by simp [ByteArray.toList_eq]
    have el : (⟨⟨c :: r⟩⟩ : ByteArray).data.toList = c :: r := rfl
    rw [el]
    by_cases h1 : c.toNat = 120
    · have h1' : ((c.toNat : Int) != 120) = false := by simp [h1]
      match r with
      | [] =>
        refine (unesc_short _ c w h0 hc h1' hne (by show 1 < 3; omega)).mono ?_
        rintro e w' ⟨rfl, hb⟩
        refine ⟨?_, hb⟩
        simp only [une, h1, if_true]
        exact ⟨_, _, rfl⟩
      | [a] =>
        refine (unesc_short _ c w h0 hc h1' hne (by show 2 < 3; omega)).mono ?_
        rintro e w' ⟨rfl, hb⟩
        refine ⟨?_, hb⟩
        simp only [une, h1, if_true]
        exact ⟨_, _, rfl⟩
      | a :: b :: r' =>
        have h3 : 3 ≤ (⟨⟨c :: a :: b :: r'⟩⟩ : ByteArray).size := by show 3 ≤ (c :: a :: b :: r').length; simp
        have hx : (⟨⟨c :: a :: b :: r'⟩⟩ : ByteArray).extract 1 3 = ⟨#[a, b]⟩ := by apply ByteArray.ext; simp [ByteArray.data_extract]
        by_cases hh : hexv a < 16 ∧ hexv b < 16
        · refine (unesc_yes _ c a b w h0 hc h1' hne h3 hx hh).mono ?_
          rintro e w' ⟨rfl, hb⟩
          refine ⟨?_, hb⟩
          have e1 : (UInt8.ofNat (16 * hexv a + hexv b)).toNat = 16 * hexv a + hexv b := by simp [UInt8.toNat_ofNat]; omega
          simp only [une, h1, if_true, hex2, if_pos hh, Option.map_some, e1]
          rfl
        · refine (unesc_no _ c a b w h0 hc h1' hne h3 hx hh he h8).mono ?_
          rintro e w' ⟨rfl, hb⟩
          refine ⟨?_, hb⟩
          simp only [une, h1, if_true, hex2, if_neg hh, Option.map_none]
          exact ⟨_, _, rfl⟩
    · have h1' : ((c.toNat : Int) != 120) = true := by simp; omega
      refine (unesc_one _ c w h0 hc h1' hne).mono ?_
      rintro e w' ⟨rfl, hb⟩
      refine ⟨?_, hb⟩
      simp only [une, if_neg h1]
      rfl

theorem unq_len : ∀ (n : Nat) (l x : List UInt8), l.length ≤ n → unq l = some x → x.length ≤ l.length
  | n, [], x, _, h => by rw [unq_nil] at h; cases h; simp
  | 0, c :: r, x, hn, h => by simp at hn
  | n + 1, c :: r, x, hn, h => by
    by_cases hc : c.toNat = 92
    · rw [unq_esc _ hc] at h
      split at h
      · cases h
      · rename_i y k hu
        simp only [Option.map_eq_some_iff] at h
        obtain ⟨z, hz, rfl⟩ := h
        have := unq_len n (r.drop k) z (by simp at hn ⊢; omega) hz
        simp at this ⊢
        omega
    · rw [unq_plain _ hc] at h
      simp only [Option.map_eq_some_iff] at h
      obtain ⟨z, hz, rfl⟩ := h
      have := unq_len n r z (by simp at hn; omega) hz
      simp
      omega

/-- What is told of what a text may say. -/
def outS (o : Option (List UInt8)) : ByteArray := ⟨(o.getD []).toArray⟩
def outB (o : Option (List UInt8)) : Bool := o.isSome
/-- What stands behind a first quote. -/
def unqS (l : List UInt8) : Option (List UInt8) := if Lib.hasSuffix l [34] then unq (Lib.trimSuffix l [34]) else none

theorem ext_from (s : ByteArray) (k : Nat) : (s.extract k s.size).data.toList = s.data.toList.drop k := by
  have e : s.data.size = s.size := rfl
  simp [ByteArray.data_extract, List.take_of_length_le, e]

set_option maxRecDepth 100000 in
set_option maxHeartbeats 4000000 in
theorem unquote_no (t : ByteArray) (w : World) (hs : t.size ≤ 9223372036854775807) (h : Lib.hasSuffix t.data.toList [34] = false) :
    Calls Tryz.prog 165 #[.string t] w fun e w' => e = .returned (.tuple #[.string ⟨#[]⟩, .bool false]) ∧ Below w.heap.size w w' := by
  have CS : Hid (∀ W : World, Calls Tryz.prog 168 #[.string t, .string ⟨#[34]⟩] W fun e w' => ∃ I, e = .returned (.tuple #[.string I, .bool false]) ∧ w' = W) := fun W => by
    have q := Tryz.strings_CutSuffix t ⟨#[34]⟩ W hs
    rw [show (⟨#[34]⟩ : ByteArray).data.toList = [34] from rfl, h] at q
    refine q.mono ?_
    rintro e w' ⟨rfl, rfl⟩
    exact ⟨_, rfl, rfl⟩
  clear h
  go_enter Tryz.func165, Tryz.ntmps165
  go_wp2_with fail
  refine (CS.out _).mono ?_
  rintro e w1 ⟨I, rfl, rfl⟩
  go_wp2
  go_ret2
  exact ⟨rfl, Below.refl _ _⟩

set_option maxRecDepth 100000 in
set_option maxHeartbeats 8000000 in
theorem unquote_yes (t I : ByteArray) (w : World) (hs : t.size ≤ 9223372036854775807) (h : Lib.hasSuffix t.data.toList [34] = true) (hI : (⟨(Lib.trimSuffix t.data.toList [34]).toArray⟩ : ByteArray) = I) (hz : I.size ≤ 140737488355000) (he : Errs w) (h8 : 9 ≤ w.heap.size) :
    Calls Tryz.prog 165 #[.string t] w fun e w' => e = .returned (.tuple #[.string (outS (unq I.data.toList)), .bool (outB (unq I.data.toList))]) ∧ Below w.heap.size w w' := by
  have CS : Hid (∀ W : World, Calls Tryz.prog 168 #[.string t, .string ⟨#[34]⟩] W fun e w' => e = .returned (.tuple #[.string I, .bool true]) ∧ w' = W) := fun W => by
    have q := Tryz.strings_CutSuffix t ⟨#[34]⟩ W hs
    rw [show (⟨#[34]⟩ : ByteArray).data.toList = [34] from rfl, h, hI] at q
    exact q
  clear h hI
  have HE : Hid (Errs w) := he
  clear he
  go_enter Tryz.func165, Tryz.ntmps165
  go_wp2_with fail
  refine (CS.out _).mono ?_
  rintro e w' ⟨rfl, rfl⟩
  go_wp2
  have h0 : Hid (Lib.IsBuilder 62 5 w'.heap.size w'.heap.size (Lib.byteCells []) (w'.alloc (.cells #[.pointer none, .slice none 0 0] 62))) := Lib.fresh_isBuilder _ _ w'
  have k0 : Below w'.heap.size w' (w'.alloc (.cells #[.pointer none, .slice none 0 0] 62)) := (Below.refl _ _).alloc (Nat.le_refl _) _
  generalize w'.alloc (.cells #[.pointer none, .slice none 0 0] 62) = W0 at *
  go_loopw [7] (fun i wr => ∃ (k : Nat) (acc : List UInt8), k ≤ I.size ∧ acc.length ≤ k ∧ i = .int .i64 k ∧ Hid (unq I.data.toList = (unq (I.data.toList.drop k)).map fun y => acc ++ y) ∧ Hid (Lib.IsBuilder 62 5 w'.heap.size w'.heap.size (Lib.byteCells acc) wr) ∧ Below w'.heap.size w' wr) (fun i _ => I.size - (intOf i).toNat)
  case atStart => exact ⟨0, [], by omega, by simp, rfl, (show unq I.data.toList = (unq (I.data.toList.drop 0)).map fun y => [] ++ y by simp), h0, k0⟩
  case round =>
    obtain ⟨k, acc, hk, ha, rfl, hU, hI, hB⟩ := hrel
    have hsz := hB.size
    by_cases hke : k = I.size
    · subst hke
      have e0 : Hid (unq I.data.toList = some acc) := by
        have q := hU.out
        rw [List.drop_of_length_le (by simp), unq_nil] at q
        exact q.trans (by simp)
      clear hU
      go_wp2_with fail
      refine (Tryz.Builder_String_any w'.heap.size w'.heap.size _ _ hI.out hsz).mono ?_
      rintro e w3 ⟨rfl, hb3⟩
      go_wp2
      go_ret2
      refine ⟨?_, hB.trans hb3⟩
      rw [e0.out]
      rfl
    · have hk' : (k : Int) < I.size := by omega
      have hkk : k < I.size := by omega
      have hd : I.data.toList.drop k = I[k] :: I.data.toList.drop (k + 1) := by
        rw [List.drop_eq_getElem_cons (by simpa using hkk)]
        rfl
      rw [hd] at hU
      have hu : I[k].toNat < 256 := I[k].toNat_lt
      clear hd
      obtain ⟨c, hc⟩ : ∃ c : UInt8, I[k] = c := ⟨_, rfl⟩
      rw [hc] at hu
      rw [hc] at hU
      by_cases a1 : c.toNat = 92
      · have a1' : ((c.toNat : Int) == 92) = true := by simp; omega
        have EB : Errs wr := HE.out.below hB h8
        have h8' : 9 ≤ wr.heap.size := by omega
        have UE : Hid (∀ W : World, Errs W → 9 ≤ W.heap.size → Calls Tryz.prog 169 #[.string (I.extract (k + 1) I.size)] W fun e w' => (match une (I.data.toList.drop (k + 1)) with
            | some (x, k) => e = .returned (.tuple #[.int .u8 x.toNat, .int .i64 k, .bool true])
            | none => ∃ p q, e = .returned (.tuple #[.int .u8 p, .int .i64 q, .bool false])) ∧ Below W.heap.size W w') := fun W g1 g2 => by
          have q := unesc_any (I.extract (k + 1) I.size) W g1 g2
          rw [ext_from] at q
          exact q
        have hU2 := hU.out
        rw [unq_esc _ a1] at hU2
        have hk1 : (k : Int) + 1 ≤ I.size := by omega
        cases hun : une (I.data.toList.drop (k + 1)) with
        | none =>
          rw [hun] at hU2 UE
          have e0 : Hid (unq I.data.toList = none) := hU2.trans (by simp)
          clear hU hU2 hun a1
          go_wp2_with fail
          refine (UE.out _ EB h8').mono ?_
          rintro e w2 ⟨⟨p, q, rfl⟩, hb2⟩
          go_wp2
          go_ret2
          refine ⟨?_, hB.trans (hb2.mono hB.size)⟩
          rw [e0.out]
          rfl
        | some y =>
          obtain ⟨x, j⟩ := y
          rw [hun] at hU2 UE
          obtain ⟨j1, j2⟩ := une_len hun
          have j3 : k + 1 + j ≤ I.size := by simp at j1; omega
          have e0 : Hid (unq I.data.toList = (unq (I.data.toList.drop (k + j + 1))).map fun y => (acc ++ [x]) ++ y) := by
            simp only [Option.map_map, List.drop_drop] at hU2
            rw [show k + j + 1 = k + 1 + j by omega]
            refine Eq.trans hU2 ?_
            congr 1
            funext y
            simp
          clear hU hU2 hun a1 j1
          go_wp2_with fail
          refine (UE.out _ EB h8').mono ?_
          rintro e w2 ⟨rfl, hb2⟩
          have h2' : Hid (Lib.IsBuilder 62 5 w'.heap.size w'.heap.size (Lib.byteCells acc) w2) := isB_below hI.out hb2
          have k2 : Below w'.heap.size w' w2 := hB.trans (hb2.mono hB.size)
          have hx : x.toNat < 256 := x.toNat_lt
          have hj : (j : Int) ≤ 3 := by omega
          clear hI hb2 UE
          go_wp2_with fail
          refine (wbyte w'.heap.size w'.heap.size _ _ _ h2'.out (by rw [Lib.byteCells_length]; omega) k2.size).mono ?_
          rintro e w3 ⟨rfl, h3, hb3⟩
          have h3' : Hid (Lib.IsBuilder 62 5 w'.heap.size w'.heap.size (Lib.byteCells (acc ++ [x])) w3) := by
            have := cells_snoc acc x
            rw [← this]
            exact Or.inr h3
          clear h3
          go_wp2
          exact ⟨⟨k + j + 1, acc ++ [x], by omega, by simp; omega, by simp, e0, h3', k2.trans hb3⟩, by simp [intOf]; omega⟩
      · have a1' : ((c.toNat : Int) == 92) = false := by simp; omega
        have e0 : Hid (unq I.data.toList = (unq (I.data.toList.drop (k + 1))).map fun y => (acc ++ [c]) ++ y) := by
          have q := hU.out
          rw [unq_plain _ a1, Option.map_map] at q
          refine Eq.trans q ?_
          congr 1
          funext y
          simp
        clear hU a1
        go_wp2_with fail
        refine (wbyte w'.heap.size w'.heap.size _ _ _ hI.out (by rw [Lib.byteCells_length]; omega) hsz).mono ?_
        rintro e w3 ⟨rfl, h3, hb3⟩
        have h3' : Hid (Lib.IsBuilder 62 5 w'.heap.size w'.heap.size (Lib.byteCells (acc ++ [c])) w3) := by
          have := cells_snoc acc c
          rw [← this]
          exact Or.inr h3
        clear h3
        go_wp2
        exact ⟨⟨k + 1, acc ++ [c], by omega, by simp; omega, by simp, e0, h3', hB.trans hb3⟩, by simp [intOf]; omega⟩

end Go.Proofs.YticmebamclacaaaGreatDoor

namespace Go.Proofs.YticmebamclacaaaGreatDoor
open Go.RowKit Go.Shelf
set_option linter.unusedVariables false

/-- A text cut at its first slash. -/
def cutL : List UInt8 → List UInt8 × List UInt8 × Bool
  | [] => ([], [], false)
  | c :: r => if c.toNat = 47 then ([], r, true) else (c :: (cutL r).1, (cutL r).2.1, (cutL r).2.2)
/-- What ParseInt tells: the number, and whether there is no error. -/
def pint (l : List UInt8) : Int × Bool := match Lib.parseIntB 64 l with
  | .ok v => (v, true)
  | .«syntax» => (0, false)
  | .range => (Lib.intSat 64 l, false)
theorem pint_fits (l : List UInt8) : -9223372036854775808 ≤ (pint l).1 ∧ (pint l).1 ≤ 9223372036854775807 := by
  unfold pint
  split
  · rename_i v h
    have p63 : (2 : Nat) ^ (64 - 1) = 9223372036854775808 := by decide
    unfold Lib.parseIntB at h
    split at h
    · cases h
    · simp only [] at h
      split at h
      · cases h
      · cases h
      · rw [p63] at h
        split at h
        · cases h
        · split at h
          · cases h
          · simp only [Lib.NumEnd.ok.injEq] at h
            rw [← h]
            split <;> simp only [] <;> omega
  · simp
  · unfold Lib.intSat
    have p63 : (2 : Nat) ^ (64 - 1) = 9223372036854775808 := by decide
    rw [p63]
    split <;> simp

theorem cutL_no : ∀ (l : List UInt8), (cutL l).2.2 = false → cutL l = (l, [], false) ∧ Lib.indexByte l 47 = -1
  | [], _ => ⟨rfl, rfl⟩
  | c :: r, h => by
    unfold cutL at h ⊢
    by_cases hc : c.toNat = 47
    · rw [if_pos hc] at h; cases h
    · rw [if_neg hc] at h ⊢
      obtain ⟨h1, h2⟩ := cutL_no r h
      have h3 : (c == 47) = false := by simp; intro e; exact hc (by rw [e]; rfl)
      refine ⟨by rw [h1], ?_⟩
      unfold Lib.indexByte
      rw [h3, h2]
      rfl
theorem cutL_yes : ∀ (l : List UInt8), (cutL l).2.2 = true → l = (cutL l).1 ++ 47 :: (cutL l).2.1 ∧ Lib.indexByte l 47 = ((cutL l).1.length : Int)
  | [], h => by cases h
  | c :: r, h => by
    unfold cutL at h ⊢
    by_cases hc : c.toNat = 47
    · rw [if_pos hc]
      have e : c = 47 := UInt8.toNat_inj.1 hc
      subst e
      exact ⟨rfl, rfl⟩
    · rw [if_neg hc] at h ⊢
      obtain ⟨h1, h2⟩ := cutL_yes r h
      have h3 : (c == 47) = false := by simp; intro e; exact hc (by rw [e]; rfl)
      refine ⟨by simp only [List.cons_append]; rw [← h1], ?_⟩
      unfold Lib.indexByte
      rw [h3, h2]
      have h4 : (((cutL r).1.length : Int) == -1) = false := by simp
      simp [h4]

theorem ext_take (s : ByteArray) (k : Nat) (h : k ≤ s.size) : (s.extract 0 k).data.toList = s.data.toList.take k := by
  simp [ByteArray.data_extract]
theorem ext_drop (s : ByteArray) (k : Nat) (h : k ≤ s.size) : (s.extract k s.size).data.toList = s.data.toList.drop k := by
  have e : s.data.size = s.size := rfl
  simp [ByteArray.data_extract, List.take_of_length_le, e]
theorem ba_eq {a : ByteArray} {l : List UInt8} (h : a.data.toList = l) : a = ⟨l.toArray⟩ := by
  apply ByteArray.ext
  rw [← h]

set_option maxRecDepth 100000 in
set_option maxHeartbeats 2000000 in
theorem cut_no (s : ByteArray) (w : World) (h : (cutL s.data.toList).2.2 = false) :
    Calls Tryz.prog 159 #[.string s, .string ⟨#[47]⟩] w fun e w' => e = .returned (.tuple #[.string s, .string ⟨#[]⟩, .bool false]) ∧ ∃ k, w' = w.drewN k := by
  have H : Hid (∀ W : World, Calls Tryz.prog 163 #[.string s, .string ⟨#[47]⟩] W fun e w' => e = .returned (.tuple #[.string s, .string ⟨#[]⟩, .bool false]) ∧ ∃ k, w' = W.drewN k) := fun W => by
    have I : Hid (∀ W : World, Calls Tryz.prog 117 #[.string s, .string ⟨#[47]⟩] W fun e w' => e = .returned (.int .i64 (-1)) ∧ w' = W) := fun W => by
      have q := Tryz.stringslite_Index_one s 47 W
      rw [(cutL_no _ h).2] at q
      exact q
    clear h
    go_enter Tryz.func163, Tryz.ntmps163
    go_wp2_with fail
    refine (I.out _).mono ?_
    rintro e w1 ⟨rfl, rfl⟩
    go_wp2
    refine bodyPost_ret (by simp [results, Tryz.results163, go_sem]; try rfl) rfl ?_
    exact ⟨rfl, 0, rfl⟩
  clear h
  go_enter Tryz.func159, Tryz.ntmps159
  go_wp2_with fail
  refine (H.out _).mono ?_
  rintro e w1 ⟨rfl, k, rfl⟩
  go_wp2
  refine bodyPost_ret (by simp [results, Tryz.results159, go_sem]; try rfl) rfl ?_
  exact ⟨rfl, k, rfl⟩

set_option maxRecDepth 100000 in
set_option maxHeartbeats 2000000 in
theorem cut_yes (s : ByteArray) (w : World) (h : (cutL s.data.toList).2.2 = true) (hs : s.size ≤ 140737488355328) :
    Calls Tryz.prog 159 #[.string s, .string ⟨#[47]⟩] w fun e w' => e = .returned (.tuple #[.string ⟨(cutL s.data.toList).1.toArray⟩, .string ⟨(cutL s.data.toList).2.1.toArray⟩, .bool true]) ∧ ∃ k, w' = w.drewN k := by
  obtain ⟨h1, h2⟩ := cutL_yes _ h
  obtain ⟨A, eA⟩ : ∃ A : ByteArray, Hid ((⟨(cutL s.data.toList).1.toArray⟩ : ByteArray) = A) := ⟨_, rfl⟩
  obtain ⟨B, eB⟩ : ∃ B : ByteArray, Hid ((⟨(cutL s.data.toList).2.1.toArray⟩ : ByteArray) = B) := ⟨_, rfl⟩
  obtain ⟨n, en⟩ : ∃ n : Nat, Hid ((cutL s.data.toList).1.length = n) := ⟨_, rfl⟩
  have hl : s.data.toList.length = n + 1 + (cutL s.data.toList).2.1.length := by
    have := congrArg List.length h1
    rw [List.length_append, List.length_cons, en.out] at this
    omega
  have hsz : s.data.toList.length = s.size := by simp
  have hn : n + 1 ≤ s.size := by omega
  have x1 : s.extract 0 n = A := by
    rw [← eA.out]
    refine ba_eq ?_
    rw [ext_take s n (by omega)]
    generalize cutL s.data.toList = c at h1 en
    rw [h1, ← en.out]
    simp
  have x2 : s.extract (n + 1) s.size = B := by
    rw [← eB.out]
    refine ba_eq ?_
    rw [ext_drop s (n + 1) hn]
    generalize cutL s.data.toList = c at h1 en
    rw [h1, ← en.out, List.drop_append]
    simp
  rw [eA.out, eB.out]
  have H : Hid (∀ W : World, Calls Tryz.prog 163 #[.string s, .string ⟨#[47]⟩] W fun e w' => e = .returned (.tuple #[.string A, .string B, .bool true]) ∧ ∃ k, w' = W.drewN k) := fun W => by
    have I : Hid (∀ W : World, Calls Tryz.prog 117 #[.string s, .string ⟨#[47]⟩] W fun e w' => e = .returned (.int .i64 n) ∧ w' = W) := fun W => by
      have q := Tryz.stringslite_Index_one s 47 W
      rw [h2, en.out] at q
      exact q
    clear h h1 h2 eA eB en hl hsz
    have z1 : (⟨#[47]⟩ : ByteArray).size = 1 := rfl
    have hn0 : (n : Int) ≤ s.size := by omega
    have hn1 : (n : Int) + 1 ≤ s.size := by omega
    go_enter Tryz.func163, Tryz.ntmps163
    go_wp2_with fail
    refine (I.out _).mono ?_
    rintro e w1 ⟨rfl, rfl⟩
    go_wp2
    go_quiet (fail)
    go_wp2
    refine bodyPost_ret (by simp [results, Tryz.results163, go_sem]; try rfl) rfl ?_
    exact ⟨rfl, nq, rfl⟩
  clear h h1 h2 eA eB en x1 x2 hl hsz
  go_enter Tryz.func159, Tryz.ntmps159
  go_wp2_with fail
  refine (H.out _).mono ?_
  rintro e w1 ⟨rfl, k, rfl⟩
  go_wp2
  refine bodyPost_ret (by simp [results, Tryz.results159, go_sem]; try rfl) rfl ?_
  exact ⟨rfl, k, rfl⟩

end Go.Proofs.YticmebamclacaaaGreatDoor
