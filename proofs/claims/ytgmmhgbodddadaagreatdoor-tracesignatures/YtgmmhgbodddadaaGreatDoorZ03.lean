/- The plain mathematics of texts of values: ParseInt of a number's digits, the cut at a slash; the walk of strings.Cut at a slash. -/
import Derived.Test.YtgmmhgbodddadaaGreatDoorZ02
import Derived.Test.YtgmmhgbodddadaaGreatDoorZ01

namespace Go.Proofs.YtgmmhgbodddadaaGreatDoor
open Go.RowKit LX Go.Shelf
set_option linter.unusedVariables false

theorem kindsAt_nat (L : List Dec) (i : Nat) (h : i < L.length) : kindsAt L (i : Int) = L[i].kinds := by
  unfold kindsAt
  rw [Int.toNat_natCast, List.getD_eq_getElem?_getD, List.getElem?_eq_getElem h]
  rfl
theorem bdrewX {B : Nat} {a w : World} (n : Nat) (h : Below B a w) : Below B a (w.drewN n) := ⟨h.os, h.tape, h.output, h.size, h.block⟩
set_option maxRecDepth 100000 in
set_option maxHeartbeats 4000000 in
theorem cevt_any (A V : Value) (L : List Dec) (e : Evt) (w : World) (hA : SigAt w A L) (hV : RowAt w V e.args) (fx : ∀ v ∈ e.args, v.Fits) (lL : L.length ≤ 9223372036854775807) (lk : ∀ d ∈ L, d.kinds.length ≤ 9223372036854775807) (lv : e.args.length ≤ 9223372036854775807) :
    Calls Tryz.prog 49 #[A, .agg #[.string e.name, V]] w fun r w' => r = .returned (errV (evtE L e)) ∧ Below w.heap.size w w' := by
  have HA : Hid (SigAt w A L) := hA
  have HV : Hid (RowAt w V e.args) := hV
  have LK : Hid (∀ d ∈ L, d.kinds.length ≤ 9223372036854775807) := lk
  obtain ⟨pA, cA, rfl, -, HX0⟩ := hA.form
  obtain ⟨pv, cv, rfl, HY0⟩ := hV.formX
  have HX : Hid (∀ i (hi : i < L.length), ∃ b off u, pA = some ⟨b, off, none⟩ ∧ b < w.heap.size ∧ w.cell? ⟨b, off + i * 2, none⟩ = some (.string L[i].name) ∧ w.cell? ⟨b, off + i * 2 + 1, none⟩ = some u ∧ KAt w u L[i].kinds) := HX0
  have HY : Hid (∀ i (hi : i < e.args.length), ∃ b off, pv = some ⟨b, off, none⟩ ∧ b < w.heap.size ∧ w.cell? ⟨b, off + i * 4, none⟩ = some (.int .i64 e.args[i].k) ∧ w.cell? ⟨b, off + i * 4 + 1, none⟩ = some (.int .i64 e.args[i].n) ∧ w.cell? ⟨b, off + i * 4 + 2, none⟩ = some (.int .i64 e.args[i].d) ∧ w.cell? ⟨b, off + i * 4 + 3, none⟩ = some (.string e.args[i].s)) := HY0
  have cF : Hid (∀ W : World, Below w.heap.size w W → Calls Tryz.prog 70 #[.slice pA L.length cA, .string e.name] W fun e' w' => e' = .returned (.int .i64 (findI e.name L 0)) ∧ Below W.heap.size W w') := fun W hW => find_any _ L e.name W (HA.out.below hW) lL
  have hbd : Hid (0 ≤ findI e.name L 0 → (findI e.name L 0).toNat < L.length) := fun h => by have := findI_bound e.name L 0 h; omega
  have hev : Hid (evtE L e = if valsE e.args = 0 then (if 0 ≤ findI e.name L 0 ∧ kfit (kindsAt L (findI e.name L 0)) e.args = true then 0 else 90) else valsE e.args) := rfl
  clear hA hV HX0 HY0 lk
  obtain ⟨n, en⟩ : ∃ n : Nat, Hid (L.length = n) := ⟨_, rfl⟩
  obtain ⟨m, em⟩ : ∃ m : Nat, Hid (e.args.length = m) := ⟨_, rfl⟩
  obtain ⟨X, eX⟩ : ∃ X : ByteArray, Hid (e.name = X) := ⟨_, rfl⟩
  obtain ⟨I, eI⟩ : ∃ I : Int, Hid (findI X L 0 = I) := ⟨_, rfl⟩
  obtain ⟨E, eE⟩ : ∃ E : Int, Hid (evtE L e = E) := ⟨_, rfl⟩
  rw [eX.out, eI.out] at cF hbd
  rw [eE.out, eX.out, eI.out] at hev
  rw [en.out] at cF lL HA
  rw [em.out] at lv HV
  rw [eE.out, eX.out, en.out, em.out]
  go_enter Tryz.func49, Tryz.ntmps49
  go_wp2
  refine wpX_world ?_
  intro w0 hw0
  have z0 : w0.cell? ⟨w.heap.size, 0, none⟩ = some (.string X) := by rw [hw0]; simp [go_sem]
  have z1 : w0.cell? ⟨w.heap.size, 1, none⟩ = some (.slice pv m cv) := by rw [hw0]; simp [go_sem]
  have zB : Below w.heap.size w w0 := by rw [hw0]; go_grown
  have zs : w.heap.size < w0.heap.size := by rw [hw0]; simp
  clear hw0
  go_loopw [12] (fun i wr => ∃ k : Nat, k ≤ m ∧ i = .int .i64 k ∧ Hid (valsE e.args = valsE (e.args.drop k)) ∧ Below w0.heap.size w0 wr) (fun i _ => m - (intOf i).toNat)
  case atStart => exact ⟨0, Nat.zero_le _, rfl, by rw [List.drop_zero]; exact (show valsE e.args = valsE e.args from rfl), Below.refl _ _⟩
  case round =>
    obtain ⟨k, hk, rfl, hr, hB0⟩ := hrel
    have hB : Below w.heap.size w wr := zB.trans (hB0.mono zB.size)
    have y0 : wr.cell? ⟨w.heap.size, 0, none⟩ = some (.string X) := (hB0.cell (p := ⟨w.heap.size, 0, none⟩) zs).trans z0
    have y1 : wr.cell? ⟨w.heap.size, 1, none⟩ = some (.slice pv m cv) := (hB0.cell (p := ⟨w.heap.size, 1, none⟩) zs).trans z1
    have ys : w.heap.size < wr.heap.size := Nat.lt_of_lt_of_le zs hB0.size
    by_cases hlt : k < m
    · have kx : k < e.args.length := by have := em.out; omega
      obtain ⟨b, off, rfl, hb, r0, r1, r2, r3⟩ := HY.out k kx
      have a0 := (hB.cell (p := ⟨b, off + k * 4, none⟩) hb).trans r0
      have a1 := (hB.cell (p := ⟨b, off + k * 4 + 1, none⟩) hb).trans r1
      have a2 := (hB.cell (p := ⟨b, off + k * 4 + 2, none⟩) hb).trans r2
      have a3 := (hB.cell (p := ⟨b, off + k * 4 + 3, none⟩) hb).trans r3
      have hbr : b < wr.heap.size := Nat.lt_of_lt_of_le hb hB.size
      have f1 := fx e.args[k] (List.getElem_mem kx)
      have hr2 : Hid (valsE e.args = if e.args[k].may = 0 then valsE (e.args.drop (k + 1)) else e.args[k].may) := by
        have h := hr.out
        rw [List.drop_eq_getElem_cons kx] at h
        exact h
      clear r0 r1 r2 r3 hr
      generalize e.args[k] = Y at a0 a1 a2 a3 hr2 f1
      obtain ⟨C, eC⟩ : ∃ C : Int, Hid (Y.may = C) := ⟨_, rfl⟩
      rw [eC.out] at hr2
      have ct : Hid (∀ W : World, Calls Tryz.prog 69 #[.agg #[.int .i64 Y.k, .int .i64 Y.n, .int .i64 Y.d, .string Y.s]] W fun e w' => e = .returned (.int .i64 C) ∧ Below W.heap.size W w') := fun W => by
        have h := check_any Y.k Y.n Y.d Y.s W f1.n1 f1.n2 f1.d1 f1.d2
        rw [show chk Y.k Y.n Y.d Y.s = C from eC.out] at h
        exact h
      have cf : Hid (∀ W : World, Calls Tryz.prog 68 #[.int .i64 C] W fun r w' => r = .returned (errV C) ∧ w' = W) := fun W => failed_any C W
      clear eC
      by_cases hC : C = 0
      · have hr3 : Hid (valsE e.args = valsE (e.args.drop (k + 1))) := by have h := hr2.out; rwa [if_pos hC] at h
        subst hC
        rw [errV_0] at cf
        clear hr2
        go_wp2_with fail
        refine (ct.out _).mono ?_
        rintro e' w1 ⟨rfl, hw1⟩
        obtain ⟨hw2, hn2⟩ := bgX (n := wr.heap.size) (W0 := wr) (by go_grown) (by go_size) hw1
        have hB2 : Below w0.heap.size w0 w1 := hB0.trans (hw2.mono hB0.size)
        clear a0 a1 a2 a3 ct hw1 hw2 hn2
        go_wp2_with fail
        refine (cf.out _).mono ?_
        rintro e' w2 ⟨rfl, rfl⟩
        clear cf y0 y1
        go_wp2
        exact ⟨⟨k + 1, by omega, by go_num, hr3, hB2⟩, by simp [intOf]; omega⟩
      · have hr3 : Hid (E = C) := by
          have h := hev.out
          have h' := hr2.out
          rw [if_neg hC] at h'
          rw [h', if_neg hC] at h
          exact h
        have hd : Hid (errV C = .iface 92 (.agg #[.int .i64 C])) := errV_ne hC
        rw [hd.out] at cf
        clear hr2 hC
        go_wp2_with fail
        refine (ct.out _).mono ?_
        rintro e' w1 ⟨rfl, hw1⟩
        obtain ⟨hw2, hn2⟩ := bgX (n := wr.heap.size) (W0 := wr) (by go_grown) (by go_size) hw1
        have hB2 : Below w.heap.size w w1 := hB.trans (hw2.mono hB.size)
        clear a0 a1 a2 a3 ct hw1 hw2 hn2
        go_wp2_with fail
        refine (cf.out _).mono ?_
        rintro e' w2 ⟨rfl, rfl⟩
        clear cf y0 y1
        go_wp2
        go_ret
        exact ⟨retE hr3.out hd.out.symm, hB2⟩
    · have c2 : ¬ (k : Int) < m := by omega
      have hr3 : Hid (E = if 0 ≤ I ∧ kfit (kindsAt L I) e.args = true then 0 else 90) := by
        have h := hev.out
        have h' := hr.out
        rw [List.drop_eq_nil_of_le (by have := em.out; omega)] at h'
        rw [h'] at h
        exact h
      go_wp2_with fail
      refine (cF.out _ hB).mono ?_
      rintro e' w1 ⟨rfl, hw1⟩
      have hB1 : Below w.heap.size w w1 := hB.trans (hw1.mono hB.size)
      have x1 : w1.cell? ⟨w.heap.size, 1, none⟩ = some (.slice pv m cv) := (hw1.cell (p := ⟨w.heap.size, 1, none⟩) ys).trans y1
      have xs : w.heap.size < w1.heap.size := Nat.lt_of_lt_of_le ys hw1.size
      clear cF y0 y1 z0 z1 hw1
      by_cases hI : I < 0
      · have hr4 : Hid (E = 90) := by have h := hr3.out; rwa [if_neg (by omega)] at h
        clear hr3
        go_upto_region 9 with fail
        go_quiet (fail)
        have K9 : Below w.heap.size w (w1.drewN nq) := bdrewX _ hB1
        go_wp2
        go_ret
        exact ⟨retE hr4.out rfl, K9⟩
      · obtain ⟨i, rfl⟩ : ∃ i : Nat, I = i := ⟨I.toNat, by omega⟩
        have hin : i < L.length := by have h := hbd.out (by omega); simpa using h
        have hi : i < n := by have := en.out; omega
        obtain ⟨b, off, u, rfl, hb, r0, r1, r2⟩ := HX.out i hin
        have a1 := (hB1.cell (p := ⟨b, off + i * 2 + 1, none⟩) hb).trans r1
        have hk2 : Hid (kindsAt L (i : Int) = L[i].kinds) := kindsAt_nat L i hin
        have lki := LK.out _ (List.getElem_mem hin)
        have hK1 : KAt w1 u L[i].kinds := r2.below hB1
        obtain ⟨F, eF⟩ : ∃ F : Bool, Hid (kfit L[i].kinds e.args = F) := ⟨kfit L[i].kinds e.args, (show _ = _ from rfl)⟩
        have hr4 : Hid (E = if F = true then 0 else 90) := by
          have h := hr3.out
          rw [hk2.out, eF.out] at h
          unfold Hid
          rw [h]
          simp
        obtain ⟨pk, ck, rfl, -⟩ := hK1.form
        have ct : Hid (∀ W : World, Below w1.heap.size w1 W → Calls Tryz.prog 71 #[.slice pk L[i].kinds.length ck, .slice pv m cv, .func (.func 72) #[] #[]] W fun e w' => e = .returned (.bool F) ∧ Below W.heap.size W w') := fun W hW => by
          have h := eqk_any _ (.slice pv m cv) L[i].kinds e.args W (hK1.below hW) (HV.out.below (hB1.trans (hW.mono hB1.size))) lki (by have := em.out; omega)
          rw [eF.out] at h
          exact h
        have hbl : b < w1.heap.size := Nat.lt_of_lt_of_le hb hB1.size
        have hnI : ¬ (i : Int) < 0 := by omega
        clear r0 r1 r2 hr3 hK1 eF hk2 hI
        generalize L[i].kinds.length = nk at a1 ct lki
        cases F with
        | true =>
          have hr5 : Hid (E = 0) := hr4.out
          clear hr4
          go_upto_region 9 with fail
          go_region_held3 (fun w' => w'.cell? ⟨b, off + i * 2 + 1, none⟩ = some (.slice pk nk ck) ∧ w'.cell? ⟨w.heap.size, 1, none⟩ = some (.slice pv m cv)) (exact ⟨bclX (n := w1.heap.size) (by go_grown) a1 hbl, bclX (n := w1.heap.size) (by go_grown) x1 xs⟩)
            (first
              | (go_at_call 71; refine (ct.out _ (by go_grown)).mono ?_; rintro e' w2 ⟨rfl, hb2⟩; obtain ⟨hB2, hn2⟩ := bgX (n := w1.heap.size) (W0 := w1) (by go_grown) (by go_size) hb2))
          all_goals
            have K9 : Below w.heap.size w w2 := hB1.trans (hB2.mono hB1.size)
            clear ct a1 x1 hB2 hn2 hb2
            go_wp2
            go_ret
            exact ⟨retE hr5.out rfl, K9⟩
        | false =>
          have hr5 : Hid (E = 90) := hr4.out
          clear hr4
          go_upto_region 9 with fail
          go_region_held3 (fun w' => w'.cell? ⟨b, off + i * 2 + 1, none⟩ = some (.slice pk nk ck) ∧ w'.cell? ⟨w.heap.size, 1, none⟩ = some (.slice pv m cv)) (exact ⟨bclX (n := w1.heap.size) (by go_grown) a1 hbl, bclX (n := w1.heap.size) (by go_grown) x1 xs⟩)
            (first
              | (go_at_call 71; refine (ct.out _ (by go_grown)).mono ?_; rintro e' w2 ⟨rfl, hb2⟩; obtain ⟨hB2, hn2⟩ := bgX (n := w1.heap.size) (W0 := w1) (by go_grown) (by go_size) hb2))
          all_goals
            have K9 : Below w.heap.size w w2 := hB1.trans (hB2.mono hB1.size)
            clear ct a1 x1 hB2 hn2 hb2
            go_wp2
            go_ret
            exact ⟨retE hr5.out rfl, K9⟩

set_option maxRecDepth 100000 in
set_option maxHeartbeats 4000000 in
theorem cpoint_any (A V : Value) (L : List Dec) (t : Int) (es : List Evt) (w : World) (hA : SigAt w A L) (hV : EvsAt w V es) (fx : ∀ e ∈ es, ∀ v ∈ e.args, v.Fits) (lL : L.length ≤ 9223372036854775807) (lk : ∀ d ∈ L, d.kinds.length ≤ 9223372036854775807) (lv : ∀ e ∈ es, e.args.length ≤ 9223372036854775807) (le : es.length ≤ 9223372036854775807) :
    Calls Tryz.prog 25 #[A, .agg #[.int .i64 t, V]] w fun r w' => r = .returned (errV (pointE L t es)) ∧ Below w.heap.size w w' := by
  have HA : Hid (SigAt w A L) := hA
  have cS : Hid (∀ W : World, Below w.heap.size w W → Calls Tryz.prog 26 #[A] W fun e w' => e = .returned (errV (sigE L)) ∧ Below W.heap.size W w') := fun W hW => csig_any A L W (hA.below hW) lL lk
  have cE : Hid (∀ (W : World) (U : Value) (e : Evt), Below w.heap.size w W → e ∈ es → RowAt W U e.args → Calls Tryz.prog 49 #[A, .agg #[.string e.name, U]] W fun r w' => r = .returned (errV (evtE L e)) ∧ Below W.heap.size W w') := fun W U e hW he hU => cevt_any A U L e W (hA.below hW) hU (fx e he) lL lk (lv e he)
  obtain ⟨pA, cA, rfl, -⟩ := hA.form
  obtain ⟨pv, cv, rfl, HY0⟩ := hV.form
  have HY : Hid (∀ i (hi : i < es.length), ∃ b off u, pv = some ⟨b, off, none⟩ ∧ b < w.heap.size ∧ w.cell? ⟨b, off + i * 2, none⟩ = some (.string es[i].name) ∧ w.cell? ⟨b, off + i * 2 + 1, none⟩ = some u ∧ RowAt w u es[i].args) := HY0
  have hp : Hid (pointE L t es = if sigE L = 0 then (if sizeE t es.length = 0 then evtsE L es else sizeE t es.length) else sigE L) := rfl
  clear hA hV HY0 HA fx lk lv
  obtain ⟨n, en⟩ : ∃ n : Nat, Hid (L.length = n) := ⟨_, rfl⟩
  obtain ⟨m, em⟩ : ∃ m : Nat, Hid (es.length = m) := ⟨_, rfl⟩
  obtain ⟨E, eE⟩ : ∃ E : Int, Hid (pointE L t es = E) := ⟨_, rfl⟩
  obtain ⟨C, eC⟩ : ∃ C : Int, Hid (sigE L = C) := ⟨_, rfl⟩
  obtain ⟨Z, eZ⟩ : ∃ Z : Int, Hid (sizeE t m = Z) := ⟨_, rfl⟩
  rw [en.out, eC.out] at cS
  rw [en.out] at cE lL
  rw [eE.out, em.out, eC.out, eZ.out] at hp
  rw [em.out] at le
  rw [eE.out, en.out, em.out]
  have cZ : Hid (∀ W : World, Calls Tryz.prog 48 #[.agg #[.int .i64 t, .slice pv m cv]] W fun e w' => e = .returned (errV Z) ∧ Below W.heap.size W w') := fun W => by
    have h := csize_any t pv m cv W
    rw [eZ.out] at h
    exact h
  go_enter Tryz.func25, Tryz.ntmps25
  by_cases hC : C = 0
  · have hp1 : Hid (E = if Z = 0 then evtsE L es else Z) := by have h := hp.out; rwa [if_pos hC] at h
    subst hC
    rw [errV_0] at cS
    go_wp2_with fail
    refine (cS.out _ (by go_grown)).mono ?_
    rintro e w1 ⟨rfl, hb1⟩
    have b0 : w1.cell? ⟨w.heap.size, 0, none⟩ = some (.int .i64 t) := (hb1.cell (p := ⟨w.heap.size, 0, none⟩) (by simp)).trans (by simp [go_sem])
    have b1 : w1.cell? ⟨w.heap.size, 1, none⟩ = some (.slice pv m cv) := (hb1.cell (p := ⟨w.heap.size, 1, none⟩) (by simp)).trans (by simp [go_sem])
    have hs1 : w.heap.size < w1.heap.size := by have := hb1.size; simp at this; omega
    obtain ⟨hB1, -⟩ := bgX (n := w.heap.size) (W0 := w) (by go_grown) (by go_size) hb1
    clear hb1 cS
    by_cases hZ : Z = 0
    · have hE : Hid (E = evtsE L es) := by have h := hp1.out; rwa [if_pos hZ] at h
      subst hZ
      rw [errV_0] at cZ
      go_wp2_with fail
      refine (cZ.out _).mono ?_
      rintro e w2 ⟨rfl, hb2⟩
      have c1 : w2.cell? ⟨w.heap.size, 1, none⟩ = some (.slice pv m cv) := (hb2.cell (p := ⟨w.heap.size, 1, none⟩) hs1).trans b1
      have hB2 : Below w.heap.size w w2 := hB1.trans (hb2.mono hB1.size)
      clear b0 b1 cZ hb2 hB1
      go_wp2
      go_loopw [23] (fun i wr => ∃ k : Nat, k ≤ m ∧ i = .int .i64 k ∧ Hid (E = evtsE L (es.drop k)) ∧ Below w.heap.size w wr) (fun i _ => m - (intOf i).toNat)
      case atStart => exact ⟨0, Nat.zero_le _, rfl, by rw [List.drop_zero]; exact hE, hB2⟩
      case round =>
        obtain ⟨k, hk, rfl, hr, hBw⟩ := hrel
        by_cases hlt : k < m
        · have kx : k < es.length := by have := em.out; omega
          obtain ⟨b, off, u, rfl, hb, r0, r1, r2⟩ := HY.out k kx
          have a0 := (hBw.cell (p := ⟨b, off + k * 2, none⟩) hb).trans r0
          have a1 := (hBw.cell (p := ⟨b, off + k * 2 + 1, none⟩) hb).trans r1
          have hr2 : Hid (E = if evtE L es[k] = 0 then evtsE L (es.drop (k + 1)) else evtE L es[k]) := by
            have h := hr.out
            rw [List.drop_eq_getElem_cons kx] at h
            exact h
          obtain ⟨D, eD⟩ : ∃ D : Int, Hid (evtE L es[k] = D) := ⟨evtE L es[k], (show _ = _ from rfl)⟩
          have ct : Hid (∀ W : World, Below wr.heap.size wr W → Calls Tryz.prog 49 #[.slice pA n cA, .agg #[.string es[k].name, u]] W fun r w' => r = .returned (errV D) ∧ Below W.heap.size W w') := fun W hW => by
            have hWw := hBw.trans (hW.mono hBw.size)
            have h := cE.out W u es[k] hWw (List.getElem_mem kx) (r2.below hWw)
            rw [eD.out] at h
            exact h
          rw [eD.out] at hr2
          obtain ⟨pu, cu, rfl, -⟩ := r2.formX
          have hbr : b < wr.heap.size := Nat.lt_of_lt_of_le hb hBw.size
          clear r0 r1 r2 hr eD
          generalize es[k].args.length = nk at a1 ct
          generalize es[k].name = X at a0 ct
          by_cases hD : D = 0
          · have hr3 : Hid (E = evtsE L (es.drop (k + 1))) := by have h := hr2.out; rwa [if_pos hD] at h
            subst hD
            rw [errV_0] at ct
            clear hr2
            go_wp2_with fail
            refine (ct.out _ (by go_grown)).mono ?_
            rintro e w3 ⟨rfl, hb3⟩
            obtain ⟨hB3, -⟩ := bgX (n := wr.heap.size) (W0 := wr) (by go_grown) (by go_size) hb3
            have K9 : Below w.heap.size w w3 := hBw.trans (hB3.mono hBw.size)
            clear ct a0 a1 hB3 hb3
            go_wp2
            exact ⟨⟨k + 1, by omega, by go_num, hr3, K9⟩, by simp [intOf]; omega⟩
          · have hr3 : Hid (E = D) := by have h := hr2.out; rwa [if_neg hD] at h
            have hd : Hid (errV D = .iface 92 (.agg #[.int .i64 D])) := errV_ne hD
            rw [hd.out] at ct
            clear hr2 hD
            go_wp2_with fail
            refine (ct.out _ (by go_grown)).mono ?_
            rintro e w3 ⟨rfl, hb3⟩
            obtain ⟨hB3, -⟩ := bgX (n := wr.heap.size) (W0 := wr) (by go_grown) (by go_size) hb3
            have K9 : Below w.heap.size w w3 := hBw.trans (hB3.mono hBw.size)
            clear ct a0 a1 hB3 hb3
            go_wp2
            go_ret
            exact ⟨retE hr3.out hd.out.symm, K9⟩
        · have c2 : ¬ (k : Int) < m := by omega
          have hr3 : Hid (E = 0) := by
            have h := hr.out
            rw [List.drop_eq_nil_of_le (by have := em.out; omega)] at h
            exact h
          go_wp2
          go_ret
          exact ⟨retE hr3.out rfl, hBw⟩
    · have hE : Hid (E = Z) := by have h := hp1.out; rwa [if_neg hZ] at h
      have hd : Hid (errV Z = .iface 92 (.agg #[.int .i64 Z])) := errV_ne hZ
      rw [hd.out] at cZ
      clear hZ
      go_wp2_with fail
      refine (cZ.out _).mono ?_
      rintro e w2 ⟨rfl, hb2⟩
      have hB2 : Below w.heap.size w w2 := hB1.trans (hb2.mono hB1.size)
      clear b0 b1 cZ hb2 hB1
      go_wp2
      go_ret
      exact ⟨retE hE.out hd.out.symm, hB2⟩
  · have hE : Hid (E = C) := by have h := hp.out; rwa [if_neg hC] at h
    have hd : Hid (errV C = .iface 92 (.agg #[.int .i64 C])) := errV_ne hC
    rw [hd.out] at cS
    clear hC
    go_wp2_with fail
    refine (cS.out _ (by go_grown)).mono ?_
    rintro e w1 ⟨rfl, hb1⟩
    obtain ⟨hB1, -⟩ := bgX (n := w.heap.size) (W0 := w) (by go_grown) (by go_size) hb1
    clear hb1 cS
    go_wp2
    go_ret
    exact ⟨retE hE.out hd.out.symm, hB1⟩

set_option maxRecDepth 100000 in
theorem checkpoint_any (A V : Value) (L : List Dec) (t : Int) (es : List Evt) (w : World) (hg : ErrT w) (hA : SigAt w A L) (hV : EvsAt w V es) (fx : ∀ e ∈ es, ∀ v ∈ e.args, v.Fits) (lL : L.length ≤ 9223372036854775807) (lk : ∀ d ∈ L, d.kinds.length ≤ 9223372036854775807) (lv : ∀ e ∈ es, e.args.length ≤ 9223372036854775807) (le : es.length ≤ 9223372036854775807) :
    Calls Tryz.prog 9 #[A, .agg #[.int .i64 t, V]] w fun r w' => r = .returned (.int .i64 (pointE L t es)) ∧ Below w.heap.size w w' := by
  have ct : Hid (∀ W : World, Below w.heap.size w W → Calls Tryz.prog 25 #[A, .agg #[.int .i64 t, V]] W fun e w' => e = .returned (errV (pointE L t es)) ∧ Below W.heap.size W w') := fun W hW => cpoint_any A V L t es W (hA.below hW) (hV.below hW) fx lL lk lv le
  obtain ⟨p, c, rfl, -⟩ := hA.form
  obtain ⟨pv, cv, rfl, -⟩ := hV.form
  generalize pointE L t es = E at *
  clear hA hV lk fx lv
  generalize L.length = n at *
  generalize es.length = m at *
  have cn : Hid (∀ W : World, ErrT W → Calls Tryz.prog 24 #[errV E] W fun r w' => r = .returned (.int .i64 E) ∧ Below W.heap.size W w') := fun W hW => tnumber_any E W hW
  generalize errV E = EV at *
  go_enter Tryz.func9, Tryz.ntmps9
  go_wp2_with fail
  refine (ct.out _ (by go_grown)).mono ?_
  rintro e w1 ⟨rfl, hw1⟩
  obtain ⟨hB1, -⟩ := bgX (n := w.heap.size) (W0 := w) (by go_grown) (by go_size) hw1
  clear ct hw1
  go_wp2_with fail
  refine (cn.out _ (hg.below hB1)).mono ?_
  rintro e w2 ⟨rfl, hw2⟩
  have K : Below w.heap.size w w2 := hB1.trans (hw2.mono hB1.size)
  clear cn hB1 hw2
  go_wp2
  go_ret
  exact ⟨rfl, K⟩

end Go.Proofs.YtgmmhgbodddadaaGreatDoor

namespace Go.Proofs.YtgmmhgbodddadaaGreatDoor
open Go.RowKit LX Go.Shelf
set_option linter.unusedVariables false

/-- Why events may not be told. -/
def wevsE : List Evt → Int
  | [] => 0
  | e :: l => if wevE e = 0 then wevsE l else wevE e
def evsT : List Evt → List UInt8
  | [] => []
  | e :: l => evtT e ++ evsT l
def evW (e : Evt) : Nat := 301 * e.args.length + e.name.size + 500
def evsW : List Evt → Nat
  | [] => 0
  | e :: l => evW e + evsW l
theorem evsT_snoc (l : List Evt) (v : Evt) : evsT (l ++ [v]) = evsT l ++ evtT v := by
  induction l with
  | nil => simp [evsT]
  | cons x l ih => simp only [List.cons_append, evsT, ih, List.append_assoc]
theorem evsW_snoc (l : List Evt) (v : Evt) : evsW (l ++ [v]) = evsW l + evW v := by
  induction l with
  | nil => simp [evsW]
  | cons x l ih => simp only [List.cons_append, evsW, ih]; omega
theorem evsW_app (l r : List Evt) : evsW (l ++ r) = evsW l + evsW r := by
  induction l with
  | nil => simp [evsW]
  | cons x l ih => simp only [List.cons_append, evsW, ih]; omega
theorem evsW_take (l : List Evt) (k : Nat) (h : k < l.length) : evsW (l.take k) + evW l[k] ≤ evsW l := by
  have e1 : l.take (k + 1) = l.take k ++ [l[k]] := List.take_succ_eq_append_getElem h
  have e2 : evsW l = evsW (l.take (k + 1)) + evsW (l.drop (k + 1)) := by rw [← evsW_app, List.take_append_drop]
  rw [e2, e1, evsW_snoc]
  omega
theorem wevE_vals {e : Evt} (h : wevE e = 0) : nameB e.name = true ∧ valsE e.args = 0 := by
  unfold wevE at h
  by_cases hn : nameB e.name = true
  · rw [if_pos hn] at h; exact ⟨hn, h⟩
  · rw [if_neg hn] at h; cases h
theorem evtT_len {e : Evt} (h : wevE e = 0) (fx : ∀ v ∈ e.args, v.Fits) : (evtT e).length ≤ evW e := by
  obtain ⟨-, hv⟩ := wevE_vals h
  have h1 := argsT_len e.args (fun v hm => ⟨valsE_all hv v hm, fx v hm⟩)
  have h2 : e.name.data.toList.length = e.name.size := by simp
  unfold evtT evW
  simp only [List.length_append, List.length_cons, List.length_nil]
  omega
theorem evsT_len {l : List Evt} (h : ∀ e ∈ l, wevE e = 0) (fx : ∀ e ∈ l, ∀ v ∈ e.args, v.Fits) : (evsT l).length ≤ evsW l := by
  induction l with
  | nil => simp [evsT]
  | cons x l ih =>
    have h1 := evtT_len (h x (by simp)) (fx x (by simp))
    have h2 := ih (fun v hv => h v (by simp [hv])) (fun v hv => fx v (by simp [hv]))
    simp only [evsT, evsW, List.length_append]
    omega
/-- A point's line, and why it has none. -/
def lineT (t : Int) (es : List Evt) : List UInt8 := (64 :: Lib.itoa t) ++ evsT es
def ppE (t : Int) (es : List Evt) : Int := if sizeE t es.length = 0 then (if wevsE es = 0 then (if 4096 < (lineT t es).length then 2 else 0) else wevsE es) else sizeE t es.length
def ppT (t : Int) (es : List Evt) : List UInt8 := if ppE t es = 0 then lineT t es else []
theorem sizeE_ok {t : Int} {n : Nat} (h : sizeE t n = 0) : 0 ≤ t ∧ t ≤ 1099511627776 ∧ n ≤ 64 := by
  unfold sizeE at h
  split at h
  · cases h
  · split at h
    · cases h
    · omega
theorem ret2 {s : ByteArray} {E n : Int} {v : Value} {l : List UInt8} (hs : (⟨l.toArray⟩ : ByteArray) = s) (h : E = n) (hv : v = errV n) : Ending.returned (.tuple #[.string s, v]) = .returned (.tuple #[.string ⟨l.toArray⟩, errV E]) := by rw [h, hv, hs]

set_option maxRecDepth 100000 in
set_option maxHeartbeats 8000000 in
theorem ptext_any (V : Value) (t : Int) (es : List Evt) (w : World) (t1 : -9223372036854775808 ≤ t) (t2 : t ≤ 9223372036854775807) (hV : EvsAt w V es) (ht : Pow w) (fx : ∀ e ∈ es, ∀ v ∈ e.args, v.Fits) (lv : ∀ e ∈ es, e.args.length ≤ 9223372036854775807) (le : es.length ≤ 9223372036854775807) (hl : evsW es + 1000 ≤ 140737488355328) :
    Calls Tryz.prog 44 #[.agg #[.int .i64 t, V]] w fun r w' => r = .returned (.tuple #[.string ⟨(ppT t es).toArray⟩, errV (ppE t es)]) ∧ Below w.heap.size w w' := by
  obtain ⟨pv, cv, rfl, HY0⟩ := hV.form
  have HY : Hid (∀ i (hi : i < es.length), ∃ b off u, pv = some ⟨b, off, none⟩ ∧ b < w.heap.size ∧ w.cell? ⟨b, off + i * 2, none⟩ = some (.string es[i].name) ∧ w.cell? ⟨b, off + i * 2 + 1, none⟩ = some u ∧ RowAt w u es[i].args) := HY0
  have HT : Hid (Pow w) := ht
  have hp : Hid (ppE t es = if sizeE t es.length = 0 then (if wevsE es = 0 then (if 4096 < (lineT t es).length then 2 else 0) else wevsE es) else sizeE t es.length) := rfl
  have hq : Hid (ppT t es = if ppE t es = 0 then lineT t es else []) := rfl
  have lI := Lib.itoa_length_le t t1 t2
  clear hV HY0 ht
  obtain ⟨m, em⟩ : ∃ m : Nat, Hid (es.length = m) := ⟨_, rfl⟩
  obtain ⟨E, eE⟩ : ∃ E : Int, Hid (ppE t es = E) := ⟨_, rfl⟩
  obtain ⟨Q, eQ⟩ : ∃ Q : List UInt8, Hid (ppT t es = Q) := ⟨_, rfl⟩
  obtain ⟨Z, eZ⟩ : ∃ Z : Int, Hid (sizeE t m = Z) := ⟨_, rfl⟩
  rw [eE.out, em.out, eZ.out] at hp
  rw [eE.out, eQ.out] at hq
  rw [em.out] at le
  rw [eE.out, eQ.out, em.out]
  have cZ : Hid (∀ W : World, Calls Tryz.prog 48 #[.agg #[.int .i64 t, .slice pv m cv]] W fun e w' => e = .returned (errV Z) ∧ Below W.heap.size W w') := fun W => by
    have h := csize_any t pv m cv W
    rw [eZ.out] at h
    exact h
  go_enter Tryz.func44, Tryz.ntmps44
  by_cases hZ : Z = 0
  · have hp1 : Hid (E = if wevsE es = 0 then (if 4096 < (lineT t es).length then 2 else 0) else wevsE es) := by have h := hp.out; rwa [if_pos hZ] at h
    have h64 : m ≤ 64 := (sizeE_ok (eZ.out.trans hZ)).2.2
    subst hZ
    rw [errV_0] at cZ
    obtain ⟨A, eA⟩ : ∃ A : ByteArray, Hid (⟨(Lib.itoa t).toArray⟩ = A) := ⟨_, rfl⟩
    obtain ⟨S, eS⟩ : ∃ S : ByteArray, Hid (S = (⟨#[64]⟩ : ByteArray) ++ A) := ⟨_, rfl⟩
    have sA : A.size ≤ 21 := by rw [← eA.out]; show (Lib.itoa t).toArray.size ≤ 21; simpa using lI
    have x1 : ∀ W : World, (Op.stringOp .add ⟨#[64]⟩ A).run Tryz.prog W = .ok (.string S) W := fun W => by
      rw [run_string_add_sum W _ _ (by have : (⟨#[64]⟩ : ByteArray).size = 1 := rfl
                                       omega), eS.out]
    have sS : S.size ≤ 22 := by
      rw [eS.out, ByteArray.size_append]
      have : (⟨#[64]⟩ : ByteArray).size = 1 := rfl
      omega
    have lS : Hid (S.data.toList = 64 :: Lib.itoa t) := by unfold Hid; rw [eS.out, ← eA.out]; simp
    have cI : Hid (∀ W : World, Pow W → Calls Tryz.prog 60 #[.int .i64 t, .int .i64 10] W fun e w' => e = .returned (.string A) ∧ Below W.heap.size W w') := fun W hW => by
      refine (Tryz.strconv_FormatInt_10 t t1 t2 W hW).mono ?_
      rintro e w1 ⟨rfl, k, os, rfl⟩
      rw [eA.out]
      exact ⟨rfl, below_grow W k os⟩
    go_wp2_with fail
    refine (cZ.out _).mono ?_
    rintro e w1 ⟨rfl, hb1⟩
    have b0 : w1.cell? ⟨w.heap.size, 0, none⟩ = some (.int .i64 t) := (hb1.cell (p := ⟨w.heap.size, 0, none⟩) (by simp)).trans (by simp [go_sem])
    have b1 : w1.cell? ⟨w.heap.size, 1, none⟩ = some (.slice pv m cv) := (hb1.cell (p := ⟨w.heap.size, 1, none⟩) (by simp)).trans (by simp [go_sem])
    have hs1 : w.heap.size < w1.heap.size := by have := hb1.size; simp at this; omega
    obtain ⟨hB1, -⟩ := bgX (n := w.heap.size) (W0 := w) (by go_grown) (by go_size) hb1
    clear hb1 cZ
    go_wp2_with fail
    refine (cI.out _ (HT.out.below (hB1.trans (Below.mono (B := w1.heap.size) (by go_grown) hB1.size)))).mono ?_
    rintro e w2 ⟨rfl, hb2⟩
    have HB2 : Hid (Bld w1.heap.size w1.heap.size [] w2) := by
      have h0 : Bld w1.heap.size w1.heap.size [] (w1.alloc (.cells #[.pointer none, .slice none 0 0] 62)) := Lib.fresh_isBuilder _ _ w1
      exact h0.below hb2
    have hs2 : w1.heap.size < w2.heap.size := by have := hb2.size; simp at this; omega
    have c1 : w2.cell? ⟨w.heap.size, 1, none⟩ = some (.slice pv m cv) := (hb2.cell (p := ⟨w.heap.size, 1, none⟩) (by simp; omega)).trans (by rw [World.cell?_alloc_lt _ _ ⟨w.heap.size, 1, none⟩ hs1]; exact b1)
    obtain ⟨hB2, -⟩ := bgX (n := w1.heap.size) (W0 := w1) (by go_grown) (by go_size) hb2
    clear hb2 cI b0 b1
    go_wp2_with fail
    refine (wsB w1.heap.size w1.heap.size [] S _ HB2.out (by simp; omega) (by omega)).mono ?_
    rintro e w3 ⟨rfl, hb3, hB3, -⟩
    have d1 : w3.cell? ⟨w.heap.size, 1, none⟩ = some (.slice pv m cv) := (hB3.cell (p := ⟨w.heap.size, 1, none⟩) hs1).trans c1
    have K3 : Below w1.heap.size w1 w3 := hB2.trans hB3
    have HB3 : Hid (Bld w1.heap.size w1.heap.size (64 :: Lib.itoa t) w3) := by rw [← lS.out]; exact hb3
    have hs3 : w1.heap.size < w3.heap.size := Nat.lt_of_lt_of_le hs2 hB3.size
    clear hb3 hB3 hB2 HB2 c1 x1
    go_wp2
    go_loopw [22] (fun i wr => ∃ k : Nat, k ≤ m ∧ i = .int .i64 k ∧ Hid (wevsE es = wevsE (es.drop k)) ∧ Hid (∀ v ∈ es.take k, wevE v = 0) ∧ Hid (Bld w1.heap.size w1.heap.size ((64 :: Lib.itoa t) ++ evsT (es.take k)) wr) ∧ Below w1.heap.size w1 wr) (fun i _ => m - (intOf i).toNat)
    case atStart => exact ⟨0, Nat.zero_le _, rfl, by rw [List.drop_zero]; exact (show wevsE es = wevsE es from rfl), (fun v hv => by simp at hv), by simpa [evsT, Hid] using HB3.out, K3⟩
    case round =>
      obtain ⟨k, hk, rfl, hr, hok, hbl, hBw⟩ := hrel
      have lT : (evsT (es.take k)).length ≤ evsW (es.take k) := evsT_len hok.out (fun e he => fx e (List.mem_of_mem_take he))
      have lG : ((64 :: Lib.itoa t) ++ evsT (es.take k)).length ≤ evsW (es.take k) + 22 := by
        rw [List.length_append, List.length_cons]
        omega
      have hBww : Below w.heap.size w wr := hB1.trans (hBw.mono hB1.size)
      by_cases hlt : k < m
      · have kx : k < es.length := by have := em.out; omega
        obtain ⟨b, off, u, rfl, hb, r0, r1, r2⟩ := HY.out k kx
        have a0 := (hBww.cell (p := ⟨b, off + k * 2, none⟩) hb).trans r0
        have a1 := (hBww.cell (p := ⟨b, off + k * 2 + 1, none⟩) hb).trans r1
        have hr2 : Hid (wevsE es = if wevE es[k] = 0 then wevsE (es.drop (k + 1)) else wevE es[k]) := by
          have h := hr.out
          rw [List.drop_eq_getElem_cons kx] at h
          exact h
        have hbl2 : Hid (∀ W, Bld w1.heap.size w1.heap.size ((64 :: Lib.itoa t) ++ evsT (es.take k) ++ evtT es[k]) W → Bld w1.heap.size w1.heap.size ((64 :: Lib.itoa t) ++ evsT (es.take (k + 1))) W) := fun W h => by
          rw [List.take_succ_eq_append_getElem kx, evsT_snoc, ← List.append_assoc]
          exact h
        have hok2 : Hid (wevE es[k] = 0 → ∀ v ∈ es.take (k + 1), wevE v = 0) := fun hz v hv => by
          rw [List.take_succ_eq_append_getElem kx] at hv
          rcases List.mem_append.1 hv with hv | hv
          · exact hok.out v hv
          · rw [List.mem_singleton] at hv; rw [hv]; exact hz
        have hwk := evsW_take es k kx
        obtain ⟨D, eD⟩ : ∃ D : Int, Hid (wevE es[k] = D) := ⟨wevE es[k], (show _ = _ from rfl)⟩
        have HBL : Hid (Bld w1.heap.size w1.heap.size ((64 :: Lib.itoa t) ++ evsT (es.take k)) wr) := hbl
        have ct : Hid (∀ W : World, Below wr.heap.size wr W → Calls Tryz.prog 61 #[.pointer (some ⟨w1.heap.size, 0, none⟩), .agg #[.string es[k].name, u]] W fun r w' => r = .returned (errV D) ∧ Below w1.heap.size W w' ∧ (D = 0 → Bld w1.heap.size w1.heap.size ((64 :: Lib.itoa t) ++ evsT (es.take k) ++ evtT es[k]) w')) := fun W hW => by
          have h := wev_any w1.heap.size w1.heap.size ((64 :: Lib.itoa t) ++ evsT (es.take k)) es[k] u w W (hBww.trans (hW.mono hBww.size)) (Nat.le_of_lt hs1) (Nat.le_trans hBw.size hW.size) (HBL.out.below hW) r2 HT.out (fx _ (List.getElem_mem kx)) (lv _ (List.getElem_mem kx)) (by unfold evW at hwk; omega)
          rw [eD.out] at h
          exact h
        rw [eD.out] at hr2 hok2
        obtain ⟨pu, cu, rfl, -⟩ := r2.formX
        clear r0 r1 r2 hr eD hok hbl HBL lG lT
        generalize es[k].args.length = nk at a1 ct
        generalize (64 :: Lib.itoa t) ++ evsT (es.take k) ++ evtT es[k] = G at ct hbl2
        generalize es[k].name = X at a0 ct
        by_cases hD : D = 0
        · have hr3 : Hid (wevsE es = wevsE (es.drop (k + 1))) := by have h := hr2.out; rwa [if_pos hD] at h
          have hok3 : Hid (∀ v ∈ es.take (k + 1), wevE v = 0) := hok2.out hD
          subst hD
          rw [errV_0] at ct
          clear hr2 hok2
          go_wp2_with fail
          refine (ct.out _ (by go_grown)).mono ?_
          rintro e w4 ⟨rfl, hb4, hg4⟩
          have K4 : Below w1.heap.size w1 w4 := hBw.trans (Below.trans (Below.mono (B := wr.heap.size) (by go_grown) hBw.size) hb4)
          have HB4 : Hid (Bld w1.heap.size w1.heap.size ((64 :: Lib.itoa t) ++ evsT (es.take (k + 1))) w4) := hbl2.out w4 (hg4 (by first | trivial | rfl))
          clear ct a0 a1 hb4 hg4 hbl2
          go_wp2
          exact ⟨⟨k + 1, by omega, by go_num, hr3, hok3, HB4, K4⟩, by simp [intOf]; omega⟩
        · have hr3 : Hid (wevsE es = D) := by have h := hr2.out; rwa [if_neg hD] at h
          have hE : Hid (E = D) := by
            have h := hp1.out
            rw [hr3.out, if_neg hD] at h
            exact h
          have hQ : Hid (Q = []) := by have h := hq.out; rwa [if_neg (by rw [hE.out]; exact hD)] at h
          have hd : Hid (errV D = .iface 92 (.agg #[.int .i64 D])) := errV_ne hD
          rw [hd.out] at ct
          clear hr2 hD hok2
          go_wp2_with fail
          refine (ct.out _ (by go_grown)).mono ?_
          rintro e w4 ⟨rfl, hb4, -⟩
          have K4 : Below w1.heap.size w1 w4 := hBw.trans (Below.trans (Below.mono (B := wr.heap.size) (by go_grown) hBw.size) hb4)
          have K5 : Below w.heap.size w w4 := hB1.trans (K4.mono hB1.size)
          clear ct a0 a1 hb4 hbl2
          go_wp2
          go_ret2
          exact ⟨ret2 (by rw [hQ.out]) hE.out hd.out.symm, K5⟩
      · have c2 : ¬ (k : Int) < m := by omega
        have hr3 : Hid (wevsE es = 0) := by
          have h := hr.out
          rw [List.drop_eq_nil_of_le (by have := em.out; omega)] at h
          exact h
        have hall : es.take k = es := List.take_of_length_le (by have := em.out; omega)
        rw [hall] at hbl
        have HBL : Hid (Bld w1.heap.size w1.heap.size (lineT t es) wr) := hbl
        have hE1 : Hid (E = if 4096 < (lineT t es).length then 2 else 0) := by have h := hp1.out; rwa [if_pos hr3.out] at h
        have cL : Hid (Calls Tryz.prog 62 #[.pointer (some ⟨w1.heap.size, 0, none⟩)] wr fun e w' => e = .returned (.int .i64 (lineT t es).length) ∧ w' = wr) := by
          have h := Tryz.Builder_Len w1.heap.size w1.heap.size _ wr HBL.out
          rw [Lib.byteCells_length] at h
          exact h
        have cT : Hid (Calls Tryz.prog 32 #[.pointer (some ⟨w1.heap.size, 0, none⟩)] wr fun e w' => e = .returned (.string ⟨(lineT t es).toArray⟩) ∧ Below w1.heap.size wr w') := Tryz.Builder_String_any w1.heap.size w1.heap.size _ wr HBL.out hBw.size
        clear hbl hall lT lG hr hok HBL
        generalize hN : (lineT t es).length = N at cL hE1
        have hN' : Hid ((lineT t es).length = N) := hN
        clear hN
        generalize lineT t es = LT at cT hq hN'
        by_cases h4 : 4096 < N
        · have hE : Hid (E = 2) := by have h := hE1.out; rwa [if_pos h4] at h
          have hQ : Hid (Q = []) := by have h := hq.out; rwa [if_neg (by rw [hE.out]; decide)] at h
          have h4' : (4096 : Int) < N := by omega
          go_wp2_with fail
          refine cL.out.mono ?_
          rintro e w4 ⟨rfl, rfl⟩
          clear cL cT
          go_wp2
          go_ret2
          exact ⟨ret2 (by rw [hQ.out]) hE.out rfl, hBww⟩
        · have hE : Hid (E = 0) := by have h := hE1.out; rwa [if_neg h4] at h
          have hQ : Hid (Q = LT) := by have h := hq.out; rwa [if_pos hE.out] at h
          have h4' : ¬ (4096 : Int) < N := by omega
          go_wp2_with fail
          refine cL.out.mono ?_
          rintro e w4 ⟨rfl, rfl⟩
          clear cL
          go_wp2_with fail
          refine cT.out.mono ?_
          rintro e w5 ⟨rfl, hb5⟩
          have K5 : Below w.heap.size w w5 := hBww.trans (hb5.mono (Nat.le_of_lt hs1))
          clear cT hb5
          go_wp2
          go_ret2
          exact ⟨ret2 (by rw [hQ.out]) hE.out rfl, K5⟩
  · have hE : Hid (E = Z) := by have h := hp.out; rwa [if_neg hZ] at h
    have hQ : Hid (Q = []) := by have h := hq.out; rwa [if_neg (by rw [hE.out]; exact hZ)] at h
    have hd : Hid (errV Z = .iface 92 (.agg #[.int .i64 Z])) := errV_ne hZ
    rw [hd.out] at cZ
    clear hZ
    go_wp2_with fail
    refine (cZ.out _).mono ?_
    rintro e w1 ⟨rfl, hb1⟩
    obtain ⟨hB1, -⟩ := bgX (n := w.heap.size) (W0 := w) (by go_grown) (by go_size) hb1
    clear hb1 cZ
    go_wp2
    go_ret2
    exact ⟨ret2 (by rw [hQ.out]) hE.out hd.out.symm, hB1⟩

set_option maxRecDepth 100000 in
theorem ppoint_any (V : Value) (t : Int) (es : List Evt) (w : World) (hg : ErrT w) (t1 : -9223372036854775808 ≤ t) (t2 : t ≤ 9223372036854775807) (hV : EvsAt w V es) (ht : Pow w) (fx : ∀ e ∈ es, ∀ v ∈ e.args, v.Fits) (lv : ∀ e ∈ es, e.args.length ≤ 9223372036854775807) (le : es.length ≤ 9223372036854775807) (hl : evsW es + 1000 ≤ 140737488355328) :
    Calls Tryz.prog 22 #[.agg #[.int .i64 t, V]] w fun r w' => r = .returned (.tuple #[.string ⟨(ppT t es).toArray⟩, .int .i64 (ppE t es)]) ∧ Below w.heap.size w w' := by
  have ct : Hid (∀ W : World, Below w.heap.size w W → Calls Tryz.prog 44 #[.agg #[.int .i64 t, V]] W fun r w' => r = .returned (.tuple #[.string ⟨(ppT t es).toArray⟩, errV (ppE t es)]) ∧ Below W.heap.size W w') := fun W hW => ptext_any V t es W t1 t2 (hV.below hW) (ht.below hW) fx lv le hl
  obtain ⟨pv, cv, rfl, -⟩ := hV.form
  generalize (⟨(ppT t es).toArray⟩ : ByteArray) = Q at *
  generalize ppE t es = E at *
  clear hV fx lv hl
  generalize es.length = m at *
  have cn : Hid (∀ W : World, ErrT W → Calls Tryz.prog 24 #[errV E] W fun r w' => r = .returned (.int .i64 E) ∧ Below W.heap.size W w') := fun W hW => tnumber_any E W hW
  generalize errV E = EV at *
  go_enter Tryz.func22, Tryz.ntmps22
  go_wp2_with fail
  refine (ct.out _ (by go_grown)).mono ?_
  rintro e w1 ⟨rfl, hw1⟩
  obtain ⟨hB1, -⟩ := bgX (n := w.heap.size) (W0 := w) (by go_grown) (by go_size) hw1
  clear ct hw1
  go_wp2_with fail
  refine (cn.out _ (hg.below hB1)).mono ?_
  rintro e w2 ⟨rfl, hw2⟩
  have K : Below w.heap.size w w2 := hB1.trans (hw2.mono hB1.size)
  clear cn hB1 hw2
  go_wp2
  go_ret2
  exact ⟨rfl, K⟩

end Go.Proofs.YtgmmhgbodddadaaGreatDoor

namespace Go.Proofs.YtgmmhgbodddadaaGreatDoor
open Go.RowKit LX Go.Shelf
set_option linter.unusedVariables false

def kindsT : List Int → List UInt8
  | [] => []
  | k :: l => (32 :: kwL k) ++ kindsT l
def decT (d : Dec) : List UInt8 := d.name.data.toList ++ kindsT d.kinds ++ [10]
def sigT : List Dec → List UInt8
  | [] => []
  | d :: l => decT d ++ sigT l
def psT (L : List Dec) : List UInt8 := if sigE L = 0 then sigT L else []
theorem kindsT_snoc (l : List Int) (v : Int) : kindsT (l ++ [v]) = kindsT l ++ (32 :: kwL v) := by
  induction l with
  | nil => simp [kindsT]
  | cons x l ih => simp only [List.cons_append, kindsT, ih, List.append_assoc]
theorem sigT_snoc (l : List Dec) (v : Dec) : sigT (l ++ [v]) = sigT l ++ decT v := by
  induction l with
  | nil => simp [sigT]
  | cons x l ih => simp only [List.cons_append, sigT, ih, List.append_assoc]
theorem kwL_len (k : Int) : (kwL k).length ≤ 3 := by
  unfold kwL
  split
  · simp
  · split
    · simp
    · split <;> simp
theorem kindsT_len (l : List Int) : (kindsT l).length ≤ 4 * l.length := by
  induction l with
  | nil => simp [kindsT]
  | cons x l ih =>
    have := kwL_len x
    simp only [kindsT, List.length_append, List.length_cons]
    omega
/-- A declaration that is not too long. -/
def Short (d : Dec) : Prop := d.name.size ≤ 16 ∧ d.kinds.length ≤ 6
theorem declE_short {A : List Dec} {d : Dec} (h : declE A d = 0) : Short d := by
  unfold declE at h
  by_cases h1 : nameB d.name = false ∨ 0 ≤ findI d.name A 0
  · rw [if_pos h1] at h; cases h
  · rw [if_neg h1] at h
    by_cases h2 : 6 < d.kinds.length
    · rw [if_pos h2] at h; cases h
    · refine ⟨?_, by omega⟩
      have hn : nameB d.name = true := by
        cases hb : nameB d.name with
        | true => rfl
        | false => exact absurd (Or.inl hb) h1
      have := nameL_len (l := d.name.data.toList) hn
      simpa using this
theorem sigO_short {A l : List Dec} (h : sigO A l = 0) : ∀ d ∈ l, Short d := by
  induction l generalizing A with
  | nil => intro d hd; cases hd
  | cons x l ih =>
    unfold sigO at h
    by_cases hx : declE A x = 0
    · rw [if_pos hx] at h
      intro d hd
      rcases List.mem_cons.1 hd with rfl | hd
      · exact declE_short hx
      · exact ih h d hd
    · rw [if_neg hx] at h; exact absurd h hx
theorem sigE_short {L : List Dec} (h : sigE L = 0) : L.length ≤ 32 ∧ ∀ d ∈ L, Short d := by
  unfold sigE at h
  by_cases h1 : 32 < L.length
  · rw [if_pos h1] at h; cases h
  · rw [if_neg h1] at h; exact ⟨by omega, sigO_short h⟩
theorem decT_len {d : Dec} (h : Short d) : (decT d).length ≤ 41 := by
  obtain ⟨h1, h2⟩ := h
  have := kindsT_len d.kinds
  have e : d.name.data.toList.length = d.name.size := by simp
  unfold decT
  simp only [List.length_append, List.length_cons, List.length_nil]
  omega
theorem sigT_len {l : List Dec} (h : ∀ d ∈ l, Short d) : (sigT l).length ≤ 41 * l.length := by
  induction l with
  | nil => simp [sigT]
  | cons x l ih =>
    have h1 := decT_len (h x (by simp))
    have h2 := ih (fun v hv => h v (by simp [hv]))
    simp only [sigT, List.length_append, List.length_cons]
    omega
theorem ret3 {s : ByteArray} {E n : Int} {l : List UInt8} (hs : (⟨l.toArray⟩ : ByteArray) = s) (h : E = n) : Ending.returned (.tuple #[.string s, .int .i64 n]) = .returned (.tuple #[.string ⟨l.toArray⟩, .int .i64 E]) := by rw [h, hs]

set_option maxRecDepth 100000 in
set_option maxHeartbeats 8000000 in
theorem psig_any (A : Value) (L : List Dec) (w : World) (hg : ErrT w) (hA : SigAt w A L) (lL : L.length ≤ 9223372036854775807) (lk : ∀ d ∈ L, d.kinds.length ≤ 9223372036854775807) :
    Calls Tryz.prog 13 #[A] w fun r w' => r = .returned (.tuple #[.string ⟨(psT L).toArray⟩, .int .i64 (sigE L)]) ∧ Below w.heap.size w w' := by
  have cS : Hid (Calls Tryz.prog 26 #[A] w fun e w' => e = .returned (errV (sigE L)) ∧ Below w.heap.size w w') := csig_any A L w hA lL lk
  obtain ⟨p, c, rfl, -, HX0⟩ := hA.form
  have HX : Hid (∀ i (hi : i < L.length), ∃ b off u, p = some ⟨b, off, none⟩ ∧ b < w.heap.size ∧ w.cell? ⟨b, off + i * 2, none⟩ = some (.string L[i].name) ∧ w.cell? ⟨b, off + i * 2 + 1, none⟩ = some u ∧ KAt w u L[i].kinds) := HX0
  have hq : Hid (psT L = if sigE L = 0 then sigT L else []) := rfl
  have hsh : Hid (sigE L = 0 → L.length ≤ 32 ∧ ∀ d ∈ L, Short d) := sigE_short
  clear hA HX0 lk
  obtain ⟨m, em⟩ : ∃ m : Nat, Hid (L.length = m) := ⟨_, rfl⟩
  obtain ⟨E, eE⟩ : ∃ E : Int, Hid (sigE L = E) := ⟨_, rfl⟩
  obtain ⟨Q, eQ⟩ : ∃ Q : List UInt8, Hid (psT L = Q) := ⟨_, rfl⟩
  rw [eE.out, eQ.out] at hq
  rw [eE.out, em.out] at cS hsh
  rw [em.out] at lL
  rw [eE.out, eQ.out, em.out]
  go_enter Tryz.func13, Tryz.ntmps13
  by_cases hE : E = 0
  · have hQ : Hid (Q = sigT L) := by have h := hq.out; rwa [if_pos hE] at h
    obtain ⟨h32, hall⟩ := hsh.out hE
    have HS : Hid (∀ d ∈ L, Short d) := hall
    have eE0 : Hid (E = 0) := hE
    clear hall hsh
    rw [hE, errV_0] at cS
    clear hE
    go_wp2_with fail
    refine cS.out.mono ?_
    rintro e w1 ⟨rfl, hB1⟩
    clear cS
    have HB1 : Hid (Bld w1.heap.size w1.heap.size [] (w1.alloc (.cells #[.pointer none, .slice none 0 0] 62))) := Lib.fresh_isBuilder _ _ w1
    go_wp2
    go_loopw [18] (fun i wr => ∃ k : Nat, k ≤ m ∧ i = .int .i64 k ∧ Hid (Bld w1.heap.size w1.heap.size (sigT (L.take k)) wr) ∧ Below w1.heap.size w1 wr ∧ w1.heap.size < wr.heap.size) (fun i _ => m - (intOf i).toNat)
    case atStart => exact ⟨0, Nat.zero_le _, rfl, HB1, by go_grown, by simp⟩
    case round =>
      obtain ⟨k, hk, rfl, hbl, hBw, hsz⟩ := hrel
      have lT : (sigT (L.take k)).length ≤ 41 * k := by
        have h := sigT_len (l := L.take k) (fun v hv => HS.out v (List.mem_of_mem_take hv))
        rw [List.length_take, Nat.min_eq_left (by have := em.out; omega)] at h
        exact h
      have hBww : Below w.heap.size w wr := hB1.trans (hBw.mono hB1.size)
      by_cases hlt : k < m
      · have kx : k < L.length := by have := em.out; omega
        obtain ⟨b, off, u, rfl, hb, r0, r1, r2⟩ := HX.out k kx
        have a0 := (hBww.cell (p := ⟨b, off + k * 2, none⟩) hb).trans r0
        have a1 := (hBww.cell (p := ⟨b, off + k * 2 + 1, none⟩) hb).trans r1
        have hbl2 : Hid (∀ W, Bld w1.heap.size w1.heap.size (sigT (L.take k) ++ decT L[k]) W → Bld w1.heap.size w1.heap.size (sigT (L.take (k + 1))) W) := fun W h => by
          rw [List.take_succ_eq_append_getElem kx, sigT_snoc]
          exact h
        obtain ⟨s1, s2⟩ := HS.out _ (List.getElem_mem kx)
        have hdec : Hid (decT L[k] = L[k].name.data.toList ++ kindsT L[k].kinds ++ [10]) := rfl
        obtain ⟨pu, cu, rfl, HK0⟩ := r2.form
        have HK : Hid (∀ i (hi : i < L[k].kinds.length), ∃ b off, pu = some ⟨b, off, none⟩ ∧ b < w.heap.size ∧ w.cell? ⟨b, off + i, none⟩ = some (.int .i64 L[k].kinds[i])) := HK0
        clear r0 r1 r2 HK0
        generalize decT L[k] = DT at hbl2 hdec
        generalize L[k].name = X at a0 s1 hdec
        generalize L[k].kinds = ks at a1 s2 hdec HK
        have HBL : Hid (Bld w1.heap.size w1.heap.size (sigT (L.take k)) wr) := hbl
        generalize sigT (L.take k) = G at HBL hbl2 lT
        obtain ⟨n, en⟩ : ∃ n : Nat, Hid (ks.length = n) := ⟨_, rfl⟩
        rw [en.out] at a1 s2
        clear hbl
        go_wp2_with fail
        refine (wsB w1.heap.size w1.heap.size G X _ (HBL.out.below (by go_grown)) (by omega) (by simp; omega)).mono ?_
        rintro e w2 ⟨rfl, hb2, hB2, hK2⟩
        have c1 : w2.cell? ⟨wr.heap.size, 1, none⟩ = some (.slice pu n cu) := by
          have hh := hK2 wr.heap.size #[.string X, .slice pu n cu] 40 (0, 0) (by simp) (by omega) (heap_allocX _ _) (by decide)
          rw [Lib.cell_of_heap (hh.trans (heap_allocX _ _))]
          rfl
        have K2 : Below w1.heap.size w1 w2 := hBw.trans (Below.trans (Below.mono (B := wr.heap.size) (by go_grown) hBw.size) hB2)
        have z2 : w1.heap.size < w2.heap.size := by have := hB2.size; simp at this; omega
        have HB2 : Hid (Bld w1.heap.size w1.heap.size (G ++ X.data.toList) w2) := hb2
        have lG : (G ++ X.data.toList).length ≤ 41 * k + 16 := by
          have e : X.data.toList.length = X.size := by simp
          rw [List.length_append]
          omega
        clear hb2 hB2 hK2 HBL a0 a1
        go_wp2
        go_loopw [28] (fun i wr => ∃ j : Nat, j ≤ n ∧ i = .int .i64 j ∧ Hid (Bld w1.heap.size w1.heap.size (G ++ X.data.toList ++ kindsT (ks.take j)) wr) ∧ Below w1.heap.size w1 wr ∧ w1.heap.size < wr.heap.size) (fun i _ => n - (intOf i).toNat)
        case atStart => exact ⟨0, Nat.zero_le _, rfl, by simpa [kindsT, Hid] using HB2.out, K2, z2⟩
        case round =>
          obtain ⟨j, hj, rfl, hbl, hBq, hzq⟩ := hrel
          have lK : (kindsT (ks.take j)).length ≤ 4 * j := by
            have h := kindsT_len (ks.take j)
            rw [List.length_take, Nat.min_eq_left (by have := en.out; omega)] at h
            exact h
          have lH : (G ++ X.data.toList ++ kindsT (ks.take j)).length ≤ 41 * k + 16 + 4 * j := by
            rw [List.length_append]
            omega
          have hBqq : Below w.heap.size w wr := hB1.trans (hBq.mono hB1.size)
          by_cases hlj : j < n
          · have jx : j < ks.length := by have := en.out; omega
            obtain ⟨b2, off2, rfl, hb2, q0⟩ := HK.out j jx
            have g0 := (hBqq.cell (p := ⟨b2, off2 + j, none⟩) hb2).trans q0
            have hbl3 : Hid (∀ W, Bld w1.heap.size w1.heap.size (G ++ X.data.toList ++ kindsT (ks.take j) ++ (32 :: kwL ks[j])) W → Bld w1.heap.size w1.heap.size (G ++ X.data.toList ++ kindsT (ks.take (j + 1))) W) := fun W h => by
              rw [List.take_succ_eq_append_getElem jx, kindsT_snoc, ← List.append_assoc]
              exact h
            clear q0
            generalize ks[j] = K at g0 hbl3
            have cK : Hid (∀ W : World, Calls Tryz.prog 30 #[.int .i64 K] W fun e w' => e = .returned (.string ⟨(kwL K).toArray⟩) ∧ w' = W) := fun W => kword_any K W
            have lw := kwL_len K
            obtain ⟨TX, eT⟩ : ∃ TX : ByteArray, Hid (⟨(kwL K).toArray⟩ = TX) := ⟨_, rfl⟩
            obtain ⟨S2, eS2⟩ : ∃ S2 : ByteArray, Hid (S2 = (⟨#[32]⟩ : ByteArray) ++ TX) := ⟨_, rfl⟩
            have sT : TX.size = (kwL K).length := by rw [← eT.out]; show (kwL K).toArray.size = _; simp
            have x2 : ∀ W : World, (Op.stringOp .add ⟨#[32]⟩ TX).run Tryz.prog W = .ok (.string S2) W := fun W => by
              rw [run_string_add_sum W _ _ (by have : (⟨#[32]⟩ : ByteArray).size = 1 := rfl
                                               omega), eS2.out]
            have sS2 : S2.size = 1 + (kwL K).length := by rw [eS2.out, ByteArray.size_append, sT]; rfl
            have lS2 : Hid (S2.data.toList = 32 :: kwL K) := by unfold Hid; rw [eS2.out, ← eT.out]; simp
            rw [eT.out] at cK
            have HBL : Hid (Bld w1.heap.size w1.heap.size (G ++ X.data.toList ++ kindsT (ks.take j)) wr) := hbl
            generalize G ++ X.data.toList ++ kindsT (ks.take j) = G2 at HBL hbl3 lH
            clear eT eS2 sT hbl
            go_wp2_with fail
            refine (cK.out _).mono ?_
            rintro e w3 ⟨rfl, rfl⟩
            clear cK
            go_wp2_with fail
            refine (wsB w1.heap.size w1.heap.size G2 S2 _ HBL.out (by omega) (by omega)).mono ?_
            rintro e w4 ⟨rfl, hb4, hB4, -⟩
            have K4 : Below w1.heap.size w1 w4 := hBq.trans hB4
            have z4 : w1.heap.size < w4.heap.size := Nat.lt_of_lt_of_le hzq hB4.size
            rw [lS2.out] at hb4
            have HB4 : Hid (Bld w1.heap.size w1.heap.size (G ++ X.data.toList ++ kindsT (ks.take (j + 1))) w4) := hbl3.out w4 hb4
            clear HBL hb4 hB4 x2 hbl3 g0
            go_wp2
            exact ⟨⟨j + 1, by omega, by go_num, HB4, K4, z4⟩, by simp [intOf]; omega⟩
          · have c2 : ¬ (j : Int) < n := by omega
            have hal : ks.take j = ks := List.take_of_length_le (by have := en.out; omega)
            rw [hal] at hbl lH
            have HBL : Hid (Bld w1.heap.size w1.heap.size (G ++ X.data.toList ++ kindsT ks) wr) := hbl
            clear hbl hal lK
            go_wp2_with fail
            refine (wbB w1.heap.size w1.heap.size _ 10 _ HBL.out (by omega) (by omega)).mono ?_
            rintro e w4 ⟨rfl, hb4, hB4⟩
            have K4 : Below w1.heap.size w1 w4 := hBq.trans hB4
            have z4 : w1.heap.size < w4.heap.size := Nat.lt_of_lt_of_le hzq hB4.size
            have HB4 : Hid (Bld w1.heap.size w1.heap.size (sigT (L.take (k + 1))) w4) := hbl2.out w4 (by rw [hdec.out, ← List.append_assoc, ← List.append_assoc]; exact hb4)
            clear HBL hb4 hB4 lH
            go_wp2
            exact ⟨⟨k + 1, by omega, by go_num, HB4, K4, z4⟩, by simp [intOf]; omega⟩
      · have c2 : ¬ (k : Int) < m := by omega
        have hall : L.take k = L := List.take_of_length_le (by have := em.out; omega)
        rw [hall] at hbl
        have cT : Hid (Calls Tryz.prog 32 #[.pointer (some ⟨w1.heap.size, 0, none⟩)] wr fun e w' => e = .returned (.string ⟨(sigT L).toArray⟩) ∧ Below w1.heap.size wr w') := Tryz.Builder_String_any w1.heap.size w1.heap.size _ wr hbl.out hBw.size
        clear hbl hall lT
        generalize sigT L = LT at cT hQ
        go_wp2_with fail
        refine cT.out.mono ?_
        rintro e w5 ⟨rfl, hb5⟩
        have K5 : Below w.heap.size w w5 := hBww.trans (hb5.mono hB1.size)
        clear cT hb5
        go_wp2
        go_ret2
        exact ⟨ret3 (by rw [hQ.out]) eE0.out, K5⟩
  · have hQ : Hid (Q = []) := by have h := hq.out; rwa [if_neg hE] at h
    have hd : Hid (errV E = .iface 92 (.agg #[.int .i64 E])) := errV_ne hE
    have cn : Hid (∀ W : World, ErrT W → Calls Tryz.prog 24 #[errV E] W fun r w' => r = .returned (.int .i64 E) ∧ Below W.heap.size W w') := fun W hW => tnumber_any E W hW
    rw [hd.out] at cS cn
    clear hE
    go_wp2_with fail
    refine cS.out.mono ?_
    rintro e w1 ⟨rfl, hB1⟩
    clear cS
    go_wp2_with fail
    refine (cn.out _ (hg.below hB1)).mono ?_
    rintro e w2 ⟨rfl, hw2⟩
    have K : Below w.heap.size w w2 := hB1.trans (hw2.mono hB1.size)
    clear cn hw2
    go_wp2
    go_ret2
    exact ⟨ret3 (by rw [hQ.out]) rfl, K⟩

end Go.Proofs.YtgmmhgbodddadaaGreatDoor

namespace Go.Proofs.YtgmmhgbodddadaaGreatDoor
open Go.RowKit LX Go.Shelf
set_option linter.unusedVariables false

def kwords : List (List UInt8) := [[], [105, 110, 116], [114, 97, 116], [115, 116, 114]]
set_option maxRecDepth 100000 in
theorem kinds_any (w : World) :
    Calls Tryz.prog 33 #[] w fun e w' => e = .returned (.slice (some ⟨w.heap.size, 0, none⟩) 4 4) ∧ Below w.heap.size w w' ∧ StrAt w' (.slice (some ⟨w.heap.size, 0, none⟩) 4 4) kwords := by
  go_enter Tryz.func33, Tryz.ntmps33
  go_wp2
  go_ret
  refine ⟨rfl, by go_grown, w.heap.size, 4, rfl, by simp, fun i hi => ?_⟩
  rw [World.cell?_alloc_at _ _ _ _ rfl]
  match i, hi with
  | 0, _ => rfl
  | 1, _ => rfl
  | 2, _ => rfl
  | 3, _ => rfl
  | n + 4, h => exact absurd h (by unfold kwords; simp)
theorem kwords_kw {K : Int} (h : 1 ≤ K ∧ K ≤ 3) (w : World) {b : Nat} (hc : ∀ i (h : i < kwords.length), w.cell? ⟨b, i, none⟩ = some (.string ⟨kwords[i].toArray⟩)) : w.cell? ⟨b, K.toNat, none⟩ = some (.string ⟨(kwL K).toArray⟩) := by
  have : K = 1 ∨ K = 2 ∨ K = 3 := by omega
  rcases this with rfl | rfl | rfl
  · exact hc 1 (by decide)
  · exact hc 2 (by decide)
  · exact hc 3 (by decide)
theorem kindsE_all {ks : List Int} (h : kindsE ks = 0) : ∀ k ∈ ks, 1 ≤ k ∧ k ≤ 3 := by
  induction ks with
  | nil => intro k hk; cases hk
  | cons x l ih =>
    unfold kindsE at h
    by_cases hx : 1 ≤ x ∧ x ≤ 3
    · rw [if_pos hx] at h
      intro k hk
      rcases List.mem_cons.1 hk with rfl | hk
      · exact hx
      · exact ih h k hk
    · rw [if_neg hx] at h; cases h
theorem declE_kinds {A : List Dec} {d : Dec} (h : declE A d = 0) : kindsE d.kinds = 0 := by
  unfold declE at h
  by_cases h1 : nameB d.name = false ∨ 0 ≤ findI d.name A 0
  · rw [if_pos h1] at h; cases h
  · rw [if_neg h1] at h
    by_cases h2 : 6 < d.kinds.length
    · rw [if_pos h2] at h; cases h
    · rw [if_neg h2] at h; exact h
theorem sigO_kinds {A l : List Dec} (h : sigO A l = 0) : ∀ d ∈ l, kindsE d.kinds = 0 := by
  induction l generalizing A with
  | nil => intro d hd; cases hd
  | cons x l ih =>
    unfold sigO at h
    by_cases hx : declE A x = 0
    · rw [if_pos hx] at h
      intro d hd
      rcases List.mem_cons.1 hd with rfl | hd
      · exact declE_kinds hx
      · exact ih h d hd
    · rw [if_neg hx] at h; exact absurd h hx
theorem sigE_kinds {L : List Dec} (h : sigE L = 0) : ∀ d ∈ L, kindsE d.kinds = 0 := by
  unfold sigE at h
  by_cases h1 : 32 < L.length
  · rw [if_pos h1] at h; cases h
  · rw [if_neg h1] at h; exact sigO_kinds h
theorem run_add (a b : List UInt8) (h : a.length + b.length ≤ 1000000) (W : World) : (Op.stringOp .add ⟨a.toArray⟩ ⟨b.toArray⟩).run Tryz.prog W = .ok (.string ⟨(a ++ b).toArray⟩) W := by
  have sa : (⟨a.toArray⟩ : ByteArray).size = a.length := by show a.toArray.size = _; simp
  have sb : (⟨b.toArray⟩ : ByteArray).size = b.length := by show b.toArray.size = _; simp
  rw [run_string_add_sum W _ _ (by omega)]
  have e : (⟨a.toArray⟩ : ByteArray) ++ ⟨b.toArray⟩ = ⟨(a ++ b).toArray⟩ := by
    apply ByteArray.ext
    simp
  rw [e]

set_option maxRecDepth 100000 in
set_option maxHeartbeats 2000000 in
theorem rpsig_any (A : Value) (L : List Dec) (w : World) (hA : SigAt w A L) (lL : L.length ≤ 9223372036854775807) (lk : ∀ d ∈ L, d.kinds.length ≤ 9223372036854775807) :
    Calls Tryz.prog 14 #[A] w fun r w' => r = .returned (.tuple #[.string ⟨(psT L).toArray⟩, .int .i64 (sigE L)]) ∧ Below w.heap.size w w' := by
  have cS : Hid (Calls Tryz.prog 12 #[A] w fun e w' => e = .returned (.int .i64 (sigE L)) ∧ Below w.heap.size w w') := rcsig_any A L w hA lL lk
  obtain ⟨p, c, rfl, -, HX0⟩ := hA.form
  have HX : Hid (∀ i (hi : i < L.length), ∃ b off u, p = some ⟨b, off, none⟩ ∧ b < w.heap.size ∧ w.cell? ⟨b, off + i * 2, none⟩ = some (.string L[i].name) ∧ w.cell? ⟨b, off + i * 2 + 1, none⟩ = some u ∧ KAt w u L[i].kinds) := HX0
  have hq : Hid (psT L = if sigE L = 0 then sigT L else []) := rfl
  have hsh : Hid (sigE L = 0 → L.length ≤ 32 ∧ ∀ d ∈ L, Short d) := sigE_short
  have hkd : Hid (sigE L = 0 → ∀ d ∈ L, kindsE d.kinds = 0) := sigE_kinds
  clear hA HX0 lk
  obtain ⟨m, em⟩ : ∃ m : Nat, Hid (L.length = m) := ⟨_, rfl⟩
  obtain ⟨E, eE⟩ : ∃ E : Int, Hid (sigE L = E) := ⟨_, rfl⟩
  obtain ⟨Q, eQ⟩ : ∃ Q : List UInt8, Hid (psT L = Q) := ⟨_, rfl⟩
  rw [eE.out, eQ.out] at hq
  rw [eE.out, em.out] at cS hsh
  rw [eE.out] at hkd
  rw [em.out] at lL
  rw [eE.out, eQ.out, em.out]
  go_enter Tryz.func14, Tryz.ntmps14
  go_wp2_with fail
  refine cS.out.mono ?_
  rintro e w1 ⟨rfl, hB1⟩
  clear cS
  by_cases hE : E = 0
  · have hQ : Hid (Q = sigT L) := by have h := hq.out; rwa [if_pos hE] at h
    obtain ⟨h32, hall⟩ := hsh.out hE
    have HS : Hid (∀ d ∈ L, Short d) := hall
    have HD : Hid (∀ d ∈ L, kindsE d.kinds = 0) := hkd.out hE
    have eE0 : Hid (E = 0) := hE
    have cK : Hid (∀ W : World, Calls Tryz.prog 33 #[] W fun e w' => e = .returned (.slice (some ⟨W.heap.size, 0, none⟩) 4 4) ∧ Below W.heap.size W w' ∧ StrAt w' (.slice (some ⟨W.heap.size, 0, none⟩) 4 4) kwords) := fun W => kinds_any W
    subst hE
    clear hall hsh hkd
    go_wp2_with fail
    refine (cK.out _).mono ?_
    rintro e w2 ⟨rfl, hB2, b2, c2, e2, hb2, hw2⟩
    obtain rfl : b2 = w1.heap.size := by
      injection e2 with e2 _ _
      injection e2 with e2
      injection e2 with e2 _ _
      exact e2.symm
    clear e2
    have HW : Hid (∀ i (h : i < kwords.length), w2.cell? ⟨w1.heap.size, i, none⟩ = some (.string ⟨kwords[i].toArray⟩)) := hw2
    have K2 : Below w.heap.size w w2 := hB1.trans (hB2.mono hB1.size)
    clear cK hw2 hB2
    go_wp2
    go_loop [6, 7] (fun v6 v7 => ∃ k : Nat, k ≤ m ∧ v7 = .int .i64 k ∧ v6 = .string ⟨(sigT (L.take k)).toArray⟩) (fun _ v7 => m - (intOf v7).toNat)
    case atStart => exact ⟨0, Nat.zero_le _, rfl, rfl⟩
    case round =>
      obtain ⟨k, hk, rfl, rfl⟩ := hrel
      have lT : (sigT (L.take k)).length ≤ 41 * k := by
        have h := sigT_len (l := L.take k) (fun v hv => HS.out v (List.mem_of_mem_take hv))
        rw [List.length_take, Nat.min_eq_left (by have := em.out; omega)] at h
        exact h
      by_cases hlt : k < m
      · have kx : k < L.length := by have := em.out; omega
        obtain ⟨b, off, u, rfl, hb, r0, r1, r2⟩ := HX.out k kx
        have a0 := (K2.cell (p := ⟨b, off + k * 2, none⟩) hb).trans r0
        have a1 := (K2.cell (p := ⟨b, off + k * 2 + 1, none⟩) hb).trans r1
        have hlt' : (k : Int) < m := by omega
        obtain ⟨s1, s2⟩ := HS.out _ (List.getElem_mem kx)
        have hdk := kindsE_all (HD.out _ (List.getElem_mem kx))
        have hsn : Hid (sigT (L.take (k + 1)) = sigT (L.take k) ++ (L[k].name.data.toList ++ kindsT L[k].kinds ++ [10])) := by
          unfold Hid
          rw [List.take_succ_eq_append_getElem kx, sigT_snoc]
          rfl
        obtain ⟨pu, cu, rfl, HK0⟩ := r2.form
        have HK : Hid (∀ i (hi : i < L[k].kinds.length), ∃ b off, pu = some ⟨b, off, none⟩ ∧ b < w.heap.size ∧ w.cell? ⟨b, off + i, none⟩ = some (.int .i64 L[k].kinds[i])) := HK0
        have HKD : Hid (∀ x ∈ L[k].kinds, 1 ≤ x ∧ x ≤ 3) := hdk
        clear r0 r1 r2 HK0 hdk
        obtain ⟨SN, ESN⟩ : ∃ SN : List UInt8, Hid (sigT (L.take (k + 1)) = SN) := ⟨_, rfl⟩
        rw [ESN.out] at hsn
        generalize sigT (L.take k) = G at lT hsn
        generalize L[k].kinds = ks at a1 s2 hsn HK HKD
        obtain ⟨X, eX⟩ : ∃ X : List UInt8, Hid (L[k].name = ⟨X.toArray⟩) := ⟨L[k].name.data.toList, (show L[k].name = ⟨L[k].name.data.toList.toArray⟩ by simp)⟩
        rw [eX.out] at a0 hsn s1
        have sX : X.length ≤ 16 := by have h : X.toArray.size ≤ 16 := s1; simpa using h
        obtain ⟨n, en⟩ : ∃ n : Nat, Hid (ks.length = n) := ⟨_, rfl⟩
        rw [en.out] at a1 s2
        have x1 := run_add G X (by omega)
        clear s1
        go_wp2
        go_loop [6, 8] (fun v6 v8 => ∃ j : Nat, j ≤ n ∧ v8 = .int .i64 j ∧ v6 = .string ⟨(G ++ X ++ kindsT (ks.take j)).toArray⟩) (fun _ v8 => n - (intOf v8).toNat)
        case atStart => exact ⟨0, Nat.zero_le _, rfl, by simp [kindsT]⟩
        case round =>
          obtain ⟨j, hj, rfl, rfl⟩ := hrel
          have lK : (kindsT (ks.take j)).length ≤ 4 * j := by
            have h := kindsT_len (ks.take j)
            rw [List.length_take, Nat.min_eq_left (by have := en.out; omega)] at h
            exact h
          have lH : (G ++ X ++ kindsT (ks.take j)).length ≤ 41 * k + 16 + 4 * j := by
            rw [List.length_append, List.length_append]
            omega
          by_cases hlj : j < n
          · have jx : j < ks.length := by have := en.out; omega
            obtain ⟨b9, off9, rfl, hb9, q0⟩ := HK.out j jx
            have g0 := (K2.cell (p := ⟨b9, off9 + j, none⟩) hb9).trans q0
            have hKj := HKD.out _ (List.getElem_mem jx)
            have hlj' : (j : Int) < n := by omega
            have hks : Hid (G ++ X ++ kindsT (ks.take (j + 1)) = (G ++ X ++ kindsT (ks.take j) ++ [32]) ++ kwL ks[j]) := by
              unfold Hid
              rw [List.take_succ_eq_append_getElem jx, kindsT_snoc]
              simp
            clear q0
            generalize ks[j] = Kj at g0 hKj hks
            have t0 := kwords_kw hKj w2 HW.out
            have lw := kwL_len Kj
            obtain ⟨jj, hjj⟩ : ∃ jj : Nat, Kj = jj := ⟨Kj.toNat, by omega⟩
            subst hjj
            rw [Int.toNat_natCast] at t0
            have y1 : (0 : Int) ≤ jj := by omega
            have y2 : (jj : Int) < 4 := by omega
            obtain ⟨GN, eGN⟩ : ∃ GN : List UInt8, Hid (G ++ X ++ kindsT (ks.take (j + 1)) = GN) := ⟨_, rfl⟩
            rw [eGN.out] at hks
            generalize G ++ X ++ kindsT (ks.take j) = G2 at lH hks
            have x2 := run_add G2 [32] (by simp; omega)
            have x3 := run_add (G2 ++ [32]) (kwL jj) (by simp; omega)
            rw [← hks.out] at x3
            generalize (⟨(kwL (jj : Int)).toArray⟩ : ByteArray) = KW at t0 x3
            generalize (⟨(G2 ++ [32]).toArray⟩ : ByteArray) = G3 at x2 x3
            generalize (⟨G2.toArray⟩ : ByteArray) = G4 at x2 ⊢
            generalize hGN : (⟨GN.toArray⟩ : ByteArray) = G5 at x3
            have HG5 : Hid (G5 = ⟨GN.toArray⟩) := hGN.symm
            clear hGN hKj
            go_wp2
            exact ⟨⟨j + 1, by omega, by go_num, by rw [HG5.out, eGN.out]⟩, by simp [intOf]; omega⟩
          · have c9 : ¬ (j : Int) < n := by omega
            have hal : ks.take j = ks := List.take_of_length_le (by have := en.out; omega)
            rw [hal] at lH ⊢
            have x4 := run_add (G ++ X ++ kindsT ks) [10] (by simp at lH ⊢; omega)
            have hfin : Hid ((⟨(G ++ X ++ kindsT ks ++ [10]).toArray⟩ : ByteArray) = ⟨SN.toArray⟩) := by
              unfold Hid
              rw [hsn.out]
              simp
            rw [hfin.out] at x4
            generalize (⟨(G ++ X ++ kindsT ks).toArray⟩ : ByteArray) = G6 at x4 ⊢
            clear hal lK x1
            go_wp2
            exact ⟨⟨k + 1, by omega, by go_num, by rw [ESN.out]⟩, by simp [intOf]; omega⟩
      · have c9 : ¬ (k : Int) < m := by omega
        have hal : L.take k = L := List.take_of_length_le (by have := em.out; omega)
        rw [hal]
        generalize hG : (⟨(sigT L).toArray⟩ : ByteArray) = GG
        have HGG : Hid ((⟨Q.toArray⟩ : ByteArray) = GG) := by rw [hQ.out]; exact hG
        clear hG lT hal
        go_wp2
        go_ret2
        exact ⟨by rw [HGG.out]; try rfl, K2⟩
  · have hQ : Hid (Q = []) := by have h := hq.out; rwa [if_neg hE] at h
    have hE' : (E == 0) = false := by simpa using hE
    go_wp2
    go_ret2
    exact ⟨ret3 (by rw [hQ.out]) rfl, hB1⟩

end Go.Proofs.YtgmmhgbodddadaaGreatDoor



namespace Go.Proofs.YtgmmhgbodddadaaGreatDoor
open Go.RowKit Go.Shelf
set_option linter.unusedVariables false

/-- A digit to the base 16, capital or not; 16: it is none. -/
def hexv (c : UInt8) : Nat := if 48 ≤ c.toNat ∧ c.toNat ≤ 57 then c.toNat - 48 else if 97 ≤ c.toNat ∧ c.toNat ≤ 102 then c.toNat - 87 else if 65 ≤ c.toNat ∧ c.toNat ≤ 70 then c.toNat - 55 else 16
/-- A byte made small. -/
def low8 (c : UInt8) : Int := bits .or .u8 c.toNat 32
theorem low_all : ∀ n : Fin 256, 0 ≤ bits .or .u8 (n.1 : Int) 32 ∧ bits .or .u8 (n.1 : Int) 32 ≤ 255 ∧ (if 48 ≤ n.1 ∧ n.1 ≤ 57 then True else if 97 ≤ bits .or .u8 (n.1 : Int) 32 ∧ bits .or .u8 (n.1 : Int) 32 ≤ 122 then (if bits .or .u8 (n.1 : Int) 32 ≤ 102 then ((hexv (UInt8.ofNat n.1) : Nat) : Int) = bits .or .u8 (n.1 : Int) 32 - 87 else hexv (UInt8.ofNat n.1) = 16) else hexv (UInt8.ofNat n.1) = 16) := by decide +kernel

/-- What class a byte is of. -/
inductive Cls (c : UInt8) : Prop where
  | dig (h1 : 48 ≤ (c.toNat : Int)) (h2 : (c.toNat : Int) ≤ 57) (h3 : ((hexv c : Nat) : Int) = c.toNat - 48) (h9 : ((c.toNat : Int) == 95) = false)
  | hex (h1 : ¬ (48 ≤ (c.toNat : Int) ∧ (c.toNat : Int) ≤ 57)) (h2 : 97 ≤ low8 c) (h3 : low8 c ≤ 102) (h4 : ((hexv c : Nat) : Int) = low8 c - 87) (h9 : ((c.toNat : Int) == 95) = false)
  | let (h1 : ¬ (48 ≤ (c.toNat : Int) ∧ (c.toNat : Int) ≤ 57)) (h2 : 102 < low8 c) (h3 : low8 c ≤ 122) (h4 : hexv c = 16) (h9 : ((c.toNat : Int) == 95) = false)
  | lss (h1 : ¬ (48 ≤ (c.toNat : Int) ∧ (c.toNat : Int) ≤ 57)) (h2 : low8 c < 97) (h3 : 0 ≤ low8 c) (h4 : hexv c = 16) (h9 : ((c.toNat : Int) == 95) = false)
  | gtr (h1 : ¬ (48 ≤ (c.toNat : Int) ∧ (c.toNat : Int) ≤ 57)) (h2 : 122 < low8 c) (h3 : low8 c ≤ 255) (h4 : hexv c = 16)
theorem cls (c : UInt8) : Cls c := by
  have hc : c.toNat < 256 := c.toNat_lt
  obtain ⟨a1, a2, a3⟩ := low_all ⟨c.toNat, hc⟩
  rw [show (⟨c.toNat, hc⟩ : Fin 256).1 = c.toNat from rfl, UInt8.ofNat_toNat] at a3
  have a4 : c.toNat = 95 → bits .or .u8 (c.toNat : Int) 32 = 127 := by intro h; rw [h]; decide
  by_cases h : 48 ≤ c.toNat ∧ c.toNat ≤ 57
  · exact .dig (by omega) (by omega) (by unfold hexv; rw [if_pos h]; omega) (by simp; omega)
  · rw [if_neg h] at a3
    by_cases g : 97 ≤ bits .or .u8 (c.toNat : Int) 32 ∧ bits .or .u8 (c.toNat : Int) 32 ≤ 122
    · rw [if_pos g] at a3
      by_cases f : bits .or .u8 (c.toNat : Int) 32 ≤ 102
      · rw [if_pos f] at a3
        exact .hex (by omega) g.1 f a3 (by simp; omega)
      · rw [if_neg f] at a3
        exact .let (by omega) (by unfold low8; omega) g.2 a3 (by simp; omega)
    · rw [if_neg g] at a3
      by_cases f : bits .or .u8 (c.toNat : Int) 32 < 97
      · exact .lss (by omega) f a1 a3 (by simp; omega)
      · exact .gtr (by omega) (by unfold low8; omega) a2 a3

set_option maxRecDepth 100000 in
set_option maxHeartbeats 4000000 in
theorem pu_let (a b : UInt8) (w : World) (h0 : ¬ (48 ≤ (a.toNat : Int) ∧ (a.toNat : Int) ≤ 57)) (h2 : 102 < low8 a) (h3 : low8 a ≤ 122) (h9 : ((a.toNat : Int) == 95) = false) :
    Calls Tryz.prog 174 #[.string ⟨#[a, b]⟩, .int .i64 16, .int .i64 8] w fun e w' => e = .returned (.tuple #[.int .u64 0, .iface 244 (.int .i64 2)]) ∧ Below w.heap.size w w' := by
  have hcv := Lib.run_convert_string_bytes (P := Tryz.prog) w 9 60 5 ⟨#[a, b]⟩ Tryz.underlying9 Tryz.underlying60 Tryz.underlying5
  have hB0 : (Lib.bytesWorld w 5 ⟨#[a, b]⟩).cell? ⟨w.heap.size, 0, none⟩ = some (.int .u8 a.toNat) := Lib.bytesWorld_cell w 5 ⟨#[a, b]⟩ 0 (by show 0 < 2; decide)
  have hB1 : (Lib.bytesWorld w 5 ⟨#[a, b]⟩).cell? ⟨w.heap.size, 1, none⟩ = some (.int .u8 b.toNat) := Lib.bytesWorld_cell w 5 ⟨#[a, b]⟩ 1 (by show 1 < 2; decide)
  have hbb := Lib.bytesWorld_below w 5 ⟨#[a, b]⟩
  have ua : a.toNat < 256 := a.toNat_lt
  have ub : b.toNat < 256 := b.toNat_lt
  have LA : Hid (∀ W : World, Calls Tryz.prog 180 #[.int .u8 a.toNat] W fun e w' => e = .returned (.int .u8 (low8 a)) ∧ w' = W) := fun W => Tryz.internal_strconv_lower a.toNat W
  have LB : Hid (∀ W : World, Calls Tryz.prog 180 #[.int .u8 b.toNat] W fun e w' => e = .returned (.int .u8 (low8 b)) ∧ w' = W) := fun W => Tryz.internal_strconv_lower b.toNat W
  generalize Lib.bytesWorld w 5 ⟨#[a, b]⟩ = W1 at *
  have hn : (48 ≤ (a.toNat : Int)) = False ∨ ((48 ≤ (a.toNat : Int)) = True ∧ ((a.toNat : Int) ≤ 57) = False) := by
    by_cases q : 48 ≤ (a.toNat : Int)
    · right; refine ⟨by simpa using q, by simp; omega⟩
    · left; simpa using q

  rcases hn with hx | ⟨hx, hy⟩
  all_goals clear h0
  all_goals
    go_enter Tryz.func174, Tryz.ntmps174
    go_wp2
    refine wp_loop_rounds 4 ?_
    rw [rounds_succ]
    go_wp2_with (first | (go_at_call_of 180 (Value.int IntKind.u8 a.toNat); refine (LA.out _).mono ?_; rintro e w' ⟨rfl, rfl⟩) | (go_at_call_of 180 (Value.int IntKind.u8 b.toNat); refine (LB.out _).mono ?_; rintro e w' ⟨rfl, rfl⟩))
    go_ret2
    exact ⟨rfl, hbb⟩

set_option maxRecDepth 100000 in
set_option maxHeartbeats 4000000 in
theorem pu_lss (a b : UInt8) (w : World) (h0 : ¬ (48 ≤ (a.toNat : Int) ∧ (a.toNat : Int) ≤ 57)) (h2 : low8 a < 97) (h3 : 0 ≤ low8 a) (h9 : ((a.toNat : Int) == 95) = false) :
    Calls Tryz.prog 174 #[.string ⟨#[a, b]⟩, .int .i64 16, .int .i64 8] w fun e w' => e = .returned (.tuple #[.int .u64 0, .iface 244 (.int .i64 2)]) ∧ Below w.heap.size w w' := by
  have hcv := Lib.run_convert_string_bytes (P := Tryz.prog) w 9 60 5 ⟨#[a, b]⟩ Tryz.underlying9 Tryz.underlying60 Tryz.underlying5
  have hB0 : (Lib.bytesWorld w 5 ⟨#[a, b]⟩).cell? ⟨w.heap.size, 0, none⟩ = some (.int .u8 a.toNat) := Lib.bytesWorld_cell w 5 ⟨#[a, b]⟩ 0 (by show 0 < 2; decide)
  have hB1 : (Lib.bytesWorld w 5 ⟨#[a, b]⟩).cell? ⟨w.heap.size, 1, none⟩ = some (.int .u8 b.toNat) := Lib.bytesWorld_cell w 5 ⟨#[a, b]⟩ 1 (by show 1 < 2; decide)
  have hbb := Lib.bytesWorld_below w 5 ⟨#[a, b]⟩
  have ua : a.toNat < 256 := a.toNat_lt
  have ub : b.toNat < 256 := b.toNat_lt
  have LA : Hid (∀ W : World, Calls Tryz.prog 180 #[.int .u8 a.toNat] W fun e w' => e = .returned (.int .u8 (low8 a)) ∧ w' = W) := fun W => Tryz.internal_strconv_lower a.toNat W
  have LB : Hid (∀ W : World, Calls Tryz.prog 180 #[.int .u8 b.toNat] W fun e w' => e = .returned (.int .u8 (low8 b)) ∧ w' = W) := fun W => Tryz.internal_strconv_lower b.toNat W
  generalize Lib.bytesWorld w 5 ⟨#[a, b]⟩ = W1 at *
  have hn : (48 ≤ (a.toNat : Int)) = False ∨ ((48 ≤ (a.toNat : Int)) = True ∧ ((a.toNat : Int) ≤ 57) = False) := by
    by_cases q : 48 ≤ (a.toNat : Int)
    · right; refine ⟨by simpa using q, by simp; omega⟩
    · left; simpa using q

  rcases hn with hx | ⟨hx, hy⟩
  all_goals clear h0
  all_goals
    go_enter Tryz.func174, Tryz.ntmps174
    go_wp2
    refine wp_loop_rounds 4 ?_
    rw [rounds_succ]
    go_wp2_with (first | (go_at_call_of 180 (Value.int IntKind.u8 a.toNat); refine (LA.out _).mono ?_; rintro e w' ⟨rfl, rfl⟩) | (go_at_call_of 180 (Value.int IntKind.u8 b.toNat); refine (LB.out _).mono ?_; rintro e w' ⟨rfl, rfl⟩))
    go_ret2
    exact ⟨rfl, hbb⟩

set_option maxRecDepth 100000 in
set_option maxHeartbeats 4000000 in
theorem pu_gtr (a b : UInt8) (w : World) (h0 : ¬ (48 ≤ (a.toNat : Int) ∧ (a.toNat : Int) ≤ 57)) (h2 : 122 < low8 a) (h3 : low8 a ≤ 255) :
    Calls Tryz.prog 174 #[.string ⟨#[a, b]⟩, .int .i64 16, .int .i64 8] w fun e w' => e = .returned (.tuple #[.int .u64 0, .iface 244 (.int .i64 2)]) ∧ Below w.heap.size w w' := by
  have hcv := Lib.run_convert_string_bytes (P := Tryz.prog) w 9 60 5 ⟨#[a, b]⟩ Tryz.underlying9 Tryz.underlying60 Tryz.underlying5
  have hB0 : (Lib.bytesWorld w 5 ⟨#[a, b]⟩).cell? ⟨w.heap.size, 0, none⟩ = some (.int .u8 a.toNat) := Lib.bytesWorld_cell w 5 ⟨#[a, b]⟩ 0 (by show 0 < 2; decide)
  have hB1 : (Lib.bytesWorld w 5 ⟨#[a, b]⟩).cell? ⟨w.heap.size, 1, none⟩ = some (.int .u8 b.toNat) := Lib.bytesWorld_cell w 5 ⟨#[a, b]⟩ 1 (by show 1 < 2; decide)
  have hbb := Lib.bytesWorld_below w 5 ⟨#[a, b]⟩
  have ua : a.toNat < 256 := a.toNat_lt
  have ub : b.toNat < 256 := b.toNat_lt
  have LA : Hid (∀ W : World, Calls Tryz.prog 180 #[.int .u8 a.toNat] W fun e w' => e = .returned (.int .u8 (low8 a)) ∧ w' = W) := fun W => Tryz.internal_strconv_lower a.toNat W
  have LB : Hid (∀ W : World, Calls Tryz.prog 180 #[.int .u8 b.toNat] W fun e w' => e = .returned (.int .u8 (low8 b)) ∧ w' = W) := fun W => Tryz.internal_strconv_lower b.toNat W
  generalize Lib.bytesWorld w 5 ⟨#[a, b]⟩ = W1 at *
  have hm : ((a.toNat : Int) == 95) = false ∨ ((a.toNat : Int) == 95) = true := by cases ((a.toNat : Int) == 95) <;> simp
  have hn : (48 ≤ (a.toNat : Int)) = False ∨ ((48 ≤ (a.toNat : Int)) = True ∧ ((a.toNat : Int) ≤ 57) = False) := by
    by_cases q : 48 ≤ (a.toNat : Int)
    · right; refine ⟨by simpa using q, by simp; omega⟩
    · left; simpa using q

  rcases hm with h9 | h9 <;> rcases hn with hx | ⟨hx, hy⟩
  all_goals clear h0
  all_goals
    go_enter Tryz.func174, Tryz.ntmps174
    go_wp2
    refine wp_loop_rounds 4 ?_
    rw [rounds_succ]
    go_wp2_with (first | (go_at_call_of 180 (Value.int IntKind.u8 a.toNat); refine (LA.out _).mono ?_; rintro e w' ⟨rfl, rfl⟩) | (go_at_call_of 180 (Value.int IntKind.u8 b.toNat); refine (LB.out _).mono ?_; rintro e w' ⟨rfl, rfl⟩))
    go_ret2
    exact ⟨rfl, hbb⟩

set_option maxRecDepth 100000 in
set_option maxHeartbeats 4000000 in
theorem pu_dig_dig (a b : UInt8) (w : World) (h1 : 48 ≤ (a.toNat : Int)) (h2 : (a.toNat : Int) ≤ 57) (h9 : ((a.toNat : Int) == 95) = false) (g1 : 48 ≤ (b.toNat : Int)) (g2 : (b.toNat : Int) ≤ 57) (g9 : ((b.toNat : Int) == 95) = false) :
    Calls Tryz.prog 174 #[.string ⟨#[a, b]⟩, .int .i64 16, .int .i64 8] w fun e w' => e = .returned (.tuple #[.int .u64 ((a.toNat - 48 : Int) * 16 + (b.toNat - 48 : Int)), .nilIface]) ∧ Below w.heap.size w w' := by
  have hcv := Lib.run_convert_string_bytes (P := Tryz.prog) w 9 60 5 ⟨#[a, b]⟩ Tryz.underlying9 Tryz.underlying60 Tryz.underlying5
  have hB0 : (Lib.bytesWorld w 5 ⟨#[a, b]⟩).cell? ⟨w.heap.size, 0, none⟩ = some (.int .u8 a.toNat) := Lib.bytesWorld_cell w 5 ⟨#[a, b]⟩ 0 (by show 0 < 2; decide)
  have hB1 : (Lib.bytesWorld w 5 ⟨#[a, b]⟩).cell? ⟨w.heap.size, 1, none⟩ = some (.int .u8 b.toNat) := Lib.bytesWorld_cell w 5 ⟨#[a, b]⟩ 1 (by show 1 < 2; decide)
  have hbb := Lib.bytesWorld_below w 5 ⟨#[a, b]⟩
  have ua : a.toNat < 256 := a.toNat_lt
  have ub : b.toNat < 256 := b.toNat_lt
  have LA : Hid (∀ W : World, Calls Tryz.prog 180 #[.int .u8 a.toNat] W fun e w' => e = .returned (.int .u8 (low8 a)) ∧ w' = W) := fun W => Tryz.internal_strconv_lower a.toNat W
  have LB : Hid (∀ W : World, Calls Tryz.prog 180 #[.int .u8 b.toNat] W fun e w' => e = .returned (.int .u8 (low8 b)) ∧ w' = W) := fun W => Tryz.internal_strconv_lower b.toNat W
  generalize Lib.bytesWorld w 5 ⟨#[a, b]⟩ = W1 at *

  go_enter Tryz.func174, Tryz.ntmps174
  go_wp2
  refine wp_loop_rounds 4 ?_
  rw [rounds_succ]
  go_wp2_with (first | (go_at_call_of 180 (Value.int IntKind.u8 a.toNat); refine (LA.out _).mono ?_; rintro e w' ⟨rfl, rfl⟩) | (go_at_call_of 180 (Value.int IntKind.u8 b.toNat); refine (LB.out _).mono ?_; rintro e w' ⟨rfl, rfl⟩))
  rw [rounds_succ]
  go_wp2_with (first | (go_at_call_of 180 (Value.int IntKind.u8 a.toNat); refine (LA.out _).mono ?_; rintro e w' ⟨rfl, rfl⟩) | (go_at_call_of 180 (Value.int IntKind.u8 b.toNat); refine (LB.out _).mono ?_; rintro e w' ⟨rfl, rfl⟩))
  rw [rounds_succ]
  go_wp2
  go_ret2
  exact ⟨rfl, hbb⟩

set_option maxRecDepth 100000 in
set_option maxHeartbeats 4000000 in
theorem pu_dig_hex (a b : UInt8) (w : World) (h1 : 48 ≤ (a.toNat : Int)) (h2 : (a.toNat : Int) ≤ 57) (h9 : ((a.toNat : Int) == 95) = false) (g0 : ¬ (48 ≤ (b.toNat : Int) ∧ (b.toNat : Int) ≤ 57)) (g2 : 97 ≤ low8 b) (g3 : low8 b ≤ 102) (g9 : ((b.toNat : Int) == 95) = false) :
    Calls Tryz.prog 174 #[.string ⟨#[a, b]⟩, .int .i64 16, .int .i64 8] w fun e w' => e = .returned (.tuple #[.int .u64 ((a.toNat - 48 : Int) * 16 + (low8 b - 97 + 10)), .nilIface]) ∧ Below w.heap.size w w' := by
  have hcv := Lib.run_convert_string_bytes (P := Tryz.prog) w 9 60 5 ⟨#[a, b]⟩ Tryz.underlying9 Tryz.underlying60 Tryz.underlying5
  have hB0 : (Lib.bytesWorld w 5 ⟨#[a, b]⟩).cell? ⟨w.heap.size, 0, none⟩ = some (.int .u8 a.toNat) := Lib.bytesWorld_cell w 5 ⟨#[a, b]⟩ 0 (by show 0 < 2; decide)
  have hB1 : (Lib.bytesWorld w 5 ⟨#[a, b]⟩).cell? ⟨w.heap.size, 1, none⟩ = some (.int .u8 b.toNat) := Lib.bytesWorld_cell w 5 ⟨#[a, b]⟩ 1 (by show 1 < 2; decide)
  have hbb := Lib.bytesWorld_below w 5 ⟨#[a, b]⟩
  have ua : a.toNat < 256 := a.toNat_lt
  have ub : b.toNat < 256 := b.toNat_lt
  have LA : Hid (∀ W : World, Calls Tryz.prog 180 #[.int .u8 a.toNat] W fun e w' => e = .returned (.int .u8 (low8 a)) ∧ w' = W) := fun W => Tryz.internal_strconv_lower a.toNat W
  have LB : Hid (∀ W : World, Calls Tryz.prog 180 #[.int .u8 b.toNat] W fun e w' => e = .returned (.int .u8 (low8 b)) ∧ w' = W) := fun W => Tryz.internal_strconv_lower b.toNat W
  generalize Lib.bytesWorld w 5 ⟨#[a, b]⟩ = W1 at *
  have gn : (48 ≤ (b.toNat : Int)) = False ∨ ((48 ≤ (b.toNat : Int)) = True ∧ ((b.toNat : Int) ≤ 57) = False) := by
    by_cases q : 48 ≤ (b.toNat : Int)
    · right; refine ⟨by simpa using q, by simp; omega⟩
    · left; simpa using q

  rcases gn with gx | ⟨gx, gy⟩
  all_goals clear g0
  all_goals
    go_enter Tryz.func174, Tryz.ntmps174
    go_wp2
    refine wp_loop_rounds 4 ?_
    rw [rounds_succ]
    go_wp2_with (first | (go_at_call_of 180 (Value.int IntKind.u8 a.toNat); refine (LA.out _).mono ?_; rintro e w' ⟨rfl, rfl⟩) | (go_at_call_of 180 (Value.int IntKind.u8 b.toNat); refine (LB.out _).mono ?_; rintro e w' ⟨rfl, rfl⟩))
    rw [rounds_succ]
    go_wp2_with (first | (go_at_call_of 180 (Value.int IntKind.u8 a.toNat); refine (LA.out _).mono ?_; rintro e w' ⟨rfl, rfl⟩) | (go_at_call_of 180 (Value.int IntKind.u8 b.toNat); refine (LB.out _).mono ?_; rintro e w' ⟨rfl, rfl⟩))
    rw [rounds_succ]
    go_wp2
    go_ret2
    exact ⟨rfl, hbb⟩

set_option maxRecDepth 100000 in
set_option maxHeartbeats 4000000 in
theorem pu_dig_let (a b : UInt8) (w : World) (h1 : 48 ≤ (a.toNat : Int)) (h2 : (a.toNat : Int) ≤ 57) (h9 : ((a.toNat : Int) == 95) = false) (g0 : ¬ (48 ≤ (b.toNat : Int) ∧ (b.toNat : Int) ≤ 57)) (g2 : 102 < low8 b) (g3 : low8 b ≤ 122) (g9 : ((b.toNat : Int) == 95) = false) :
    Calls Tryz.prog 174 #[.string ⟨#[a, b]⟩, .int .i64 16, .int .i64 8] w fun e w' => e = .returned (.tuple #[.int .u64 0, .iface 244 (.int .i64 2)]) ∧ Below w.heap.size w w' := by
  have hcv := Lib.run_convert_string_bytes (P := Tryz.prog) w 9 60 5 ⟨#[a, b]⟩ Tryz.underlying9 Tryz.underlying60 Tryz.underlying5
  have hB0 : (Lib.bytesWorld w 5 ⟨#[a, b]⟩).cell? ⟨w.heap.size, 0, none⟩ = some (.int .u8 a.toNat) := Lib.bytesWorld_cell w 5 ⟨#[a, b]⟩ 0 (by show 0 < 2; decide)
  have hB1 : (Lib.bytesWorld w 5 ⟨#[a, b]⟩).cell? ⟨w.heap.size, 1, none⟩ = some (.int .u8 b.toNat) := Lib.bytesWorld_cell w 5 ⟨#[a, b]⟩ 1 (by show 1 < 2; decide)
  have hbb := Lib.bytesWorld_below w 5 ⟨#[a, b]⟩
  have ua : a.toNat < 256 := a.toNat_lt
  have ub : b.toNat < 256 := b.toNat_lt
  have LA : Hid (∀ W : World, Calls Tryz.prog 180 #[.int .u8 a.toNat] W fun e w' => e = .returned (.int .u8 (low8 a)) ∧ w' = W) := fun W => Tryz.internal_strconv_lower a.toNat W
  have LB : Hid (∀ W : World, Calls Tryz.prog 180 #[.int .u8 b.toNat] W fun e w' => e = .returned (.int .u8 (low8 b)) ∧ w' = W) := fun W => Tryz.internal_strconv_lower b.toNat W
  generalize Lib.bytesWorld w 5 ⟨#[a, b]⟩ = W1 at *
  have gn : (48 ≤ (b.toNat : Int)) = False ∨ ((48 ≤ (b.toNat : Int)) = True ∧ ((b.toNat : Int) ≤ 57) = False) := by
    by_cases q : 48 ≤ (b.toNat : Int)
    · right; refine ⟨by simpa using q, by simp; omega⟩
    · left; simpa using q

  rcases gn with gx | ⟨gx, gy⟩
  all_goals clear g0
  all_goals
    go_enter Tryz.func174, Tryz.ntmps174
    go_wp2
    refine wp_loop_rounds 4 ?_
    rw [rounds_succ]
    go_wp2_with (first | (go_at_call_of 180 (Value.int IntKind.u8 a.toNat); refine (LA.out _).mono ?_; rintro e w' ⟨rfl, rfl⟩) | (go_at_call_of 180 (Value.int IntKind.u8 b.toNat); refine (LB.out _).mono ?_; rintro e w' ⟨rfl, rfl⟩))
    rw [rounds_succ]
    go_wp2_with (first | (go_at_call_of 180 (Value.int IntKind.u8 a.toNat); refine (LA.out _).mono ?_; rintro e w' ⟨rfl, rfl⟩) | (go_at_call_of 180 (Value.int IntKind.u8 b.toNat); refine (LB.out _).mono ?_; rintro e w' ⟨rfl, rfl⟩))
    go_ret2
    exact ⟨rfl, hbb⟩

set_option maxRecDepth 100000 in
set_option maxHeartbeats 4000000 in
theorem pu_dig_lss (a b : UInt8) (w : World) (h1 : 48 ≤ (a.toNat : Int)) (h2 : (a.toNat : Int) ≤ 57) (h9 : ((a.toNat : Int) == 95) = false) (g0 : ¬ (48 ≤ (b.toNat : Int) ∧ (b.toNat : Int) ≤ 57)) (g2 : low8 b < 97) (g3 : 0 ≤ low8 b) (g9 : ((b.toNat : Int) == 95) = false) :
    Calls Tryz.prog 174 #[.string ⟨#[a, b]⟩, .int .i64 16, .int .i64 8] w fun e w' => e = .returned (.tuple #[.int .u64 0, .iface 244 (.int .i64 2)]) ∧ Below w.heap.size w w' := by
  have hcv := Lib.run_convert_string_bytes (P := Tryz.prog) w 9 60 5 ⟨#[a, b]⟩ Tryz.underlying9 Tryz.underlying60 Tryz.underlying5
  have hB0 : (Lib.bytesWorld w 5 ⟨#[a, b]⟩).cell? ⟨w.heap.size, 0, none⟩ = some (.int .u8 a.toNat) := Lib.bytesWorld_cell w 5 ⟨#[a, b]⟩ 0 (by show 0 < 2; decide)
  have hB1 : (Lib.bytesWorld w 5 ⟨#[a, b]⟩).cell? ⟨w.heap.size, 1, none⟩ = some (.int .u8 b.toNat) := Lib.bytesWorld_cell w 5 ⟨#[a, b]⟩ 1 (by show 1 < 2; decide)
  have hbb := Lib.bytesWorld_below w 5 ⟨#[a, b]⟩
  have ua : a.toNat < 256 := a.toNat_lt
  have ub : b.toNat < 256 := b.toNat_lt
  have LA : Hid (∀ W : World, Calls Tryz.prog 180 #[.int .u8 a.toNat] W fun e w' => e = .returned (.int .u8 (low8 a)) ∧ w' = W) := fun W => Tryz.internal_strconv_lower a.toNat W
  have LB : Hid (∀ W : World, Calls Tryz.prog 180 #[.int .u8 b.toNat] W fun e w' => e = .returned (.int .u8 (low8 b)) ∧ w' = W) := fun W => Tryz.internal_strconv_lower b.toNat W
  generalize Lib.bytesWorld w 5 ⟨#[a, b]⟩ = W1 at *
  have gn : (48 ≤ (b.toNat : Int)) = False ∨ ((48 ≤ (b.toNat : Int)) = True ∧ ((b.toNat : Int) ≤ 57) = False) := by
    by_cases q : 48 ≤ (b.toNat : Int)
    · right; refine ⟨by simpa using q, by simp; omega⟩
    · left; simpa using q

  rcases gn with gx | ⟨gx, gy⟩
  all_goals clear g0
  all_goals
    go_enter Tryz.func174, Tryz.ntmps174
    go_wp2
    refine wp_loop_rounds 4 ?_
    rw [rounds_succ]
    go_wp2_with (first | (go_at_call_of 180 (Value.int IntKind.u8 a.toNat); refine (LA.out _).mono ?_; rintro e w' ⟨rfl, rfl⟩) | (go_at_call_of 180 (Value.int IntKind.u8 b.toNat); refine (LB.out _).mono ?_; rintro e w' ⟨rfl, rfl⟩))
    rw [rounds_succ]
    go_wp2_with (first | (go_at_call_of 180 (Value.int IntKind.u8 a.toNat); refine (LA.out _).mono ?_; rintro e w' ⟨rfl, rfl⟩) | (go_at_call_of 180 (Value.int IntKind.u8 b.toNat); refine (LB.out _).mono ?_; rintro e w' ⟨rfl, rfl⟩))
    go_ret2
    exact ⟨rfl, hbb⟩

set_option maxRecDepth 100000 in
set_option maxHeartbeats 4000000 in
theorem pu_dig_gtr (a b : UInt8) (w : World) (h1 : 48 ≤ (a.toNat : Int)) (h2 : (a.toNat : Int) ≤ 57) (h9 : ((a.toNat : Int) == 95) = false) (g0 : ¬ (48 ≤ (b.toNat : Int) ∧ (b.toNat : Int) ≤ 57)) (g2 : 122 < low8 b) (g3 : low8 b ≤ 255) :
    Calls Tryz.prog 174 #[.string ⟨#[a, b]⟩, .int .i64 16, .int .i64 8] w fun e w' => e = .returned (.tuple #[.int .u64 0, .iface 244 (.int .i64 2)]) ∧ Below w.heap.size w w' := by
  have hcv := Lib.run_convert_string_bytes (P := Tryz.prog) w 9 60 5 ⟨#[a, b]⟩ Tryz.underlying9 Tryz.underlying60 Tryz.underlying5
  have hB0 : (Lib.bytesWorld w 5 ⟨#[a, b]⟩).cell? ⟨w.heap.size, 0, none⟩ = some (.int .u8 a.toNat) := Lib.bytesWorld_cell w 5 ⟨#[a, b]⟩ 0 (by show 0 < 2; decide)
  have hB1 : (Lib.bytesWorld w 5 ⟨#[a, b]⟩).cell? ⟨w.heap.size, 1, none⟩ = some (.int .u8 b.toNat) := Lib.bytesWorld_cell w 5 ⟨#[a, b]⟩ 1 (by show 1 < 2; decide)
  have hbb := Lib.bytesWorld_below w 5 ⟨#[a, b]⟩
  have ua : a.toNat < 256 := a.toNat_lt
  have ub : b.toNat < 256 := b.toNat_lt
  have LA : Hid (∀ W : World, Calls Tryz.prog 180 #[.int .u8 a.toNat] W fun e w' => e = .returned (.int .u8 (low8 a)) ∧ w' = W) := fun W => Tryz.internal_strconv_lower a.toNat W
  have LB : Hid (∀ W : World, Calls Tryz.prog 180 #[.int .u8 b.toNat] W fun e w' => e = .returned (.int .u8 (low8 b)) ∧ w' = W) := fun W => Tryz.internal_strconv_lower b.toNat W
  generalize Lib.bytesWorld w 5 ⟨#[a, b]⟩ = W1 at *
  have gm : ((b.toNat : Int) == 95) = false ∨ ((b.toNat : Int) == 95) = true := by cases ((b.toNat : Int) == 95) <;> simp
  have gn : (48 ≤ (b.toNat : Int)) = False ∨ ((48 ≤ (b.toNat : Int)) = True ∧ ((b.toNat : Int) ≤ 57) = False) := by
    by_cases q : 48 ≤ (b.toNat : Int)
    · right; refine ⟨by simpa using q, by simp; omega⟩
    · left; simpa using q

  rcases gm with g9 | g9 <;> rcases gn with gx | ⟨gx, gy⟩
  all_goals clear g0
  all_goals
    go_enter Tryz.func174, Tryz.ntmps174
    go_wp2
    refine wp_loop_rounds 4 ?_
    rw [rounds_succ]
    go_wp2_with (first | (go_at_call_of 180 (Value.int IntKind.u8 a.toNat); refine (LA.out _).mono ?_; rintro e w' ⟨rfl, rfl⟩) | (go_at_call_of 180 (Value.int IntKind.u8 b.toNat); refine (LB.out _).mono ?_; rintro e w' ⟨rfl, rfl⟩))
    rw [rounds_succ]
    go_wp2_with (first | (go_at_call_of 180 (Value.int IntKind.u8 a.toNat); refine (LA.out _).mono ?_; rintro e w' ⟨rfl, rfl⟩) | (go_at_call_of 180 (Value.int IntKind.u8 b.toNat); refine (LB.out _).mono ?_; rintro e w' ⟨rfl, rfl⟩))
    go_ret2
    exact ⟨rfl, hbb⟩

set_option maxRecDepth 100000 in
set_option maxHeartbeats 4000000 in
theorem pu_hex_dig (a b : UInt8) (w : World) (h0 : ¬ (48 ≤ (a.toNat : Int) ∧ (a.toNat : Int) ≤ 57)) (h2 : 97 ≤ low8 a) (h3 : low8 a ≤ 102) (h9 : ((a.toNat : Int) == 95) = false) (g1 : 48 ≤ (b.toNat : Int)) (g2 : (b.toNat : Int) ≤ 57) (g9 : ((b.toNat : Int) == 95) = false) :
    Calls Tryz.prog 174 #[.string ⟨#[a, b]⟩, .int .i64 16, .int .i64 8] w fun e w' => e = .returned (.tuple #[.int .u64 ((low8 a - 97 + 10) * 16 + (b.toNat - 48 : Int)), .nilIface]) ∧ Below w.heap.size w w' := by
  have hcv := Lib.run_convert_string_bytes (P := Tryz.prog) w 9 60 5 ⟨#[a, b]⟩ Tryz.underlying9 Tryz.underlying60 Tryz.underlying5
  have hB0 : (Lib.bytesWorld w 5 ⟨#[a, b]⟩).cell? ⟨w.heap.size, 0, none⟩ = some (.int .u8 a.toNat) := Lib.bytesWorld_cell w 5 ⟨#[a, b]⟩ 0 (by show 0 < 2; decide)
  have hB1 : (Lib.bytesWorld w 5 ⟨#[a, b]⟩).cell? ⟨w.heap.size, 1, none⟩ = some (.int .u8 b.toNat) := Lib.bytesWorld_cell w 5 ⟨#[a, b]⟩ 1 (by show 1 < 2; decide)
  have hbb := Lib.bytesWorld_below w 5 ⟨#[a, b]⟩
  have ua : a.toNat < 256 := a.toNat_lt
  have ub : b.toNat < 256 := b.toNat_lt
  have LA : Hid (∀ W : World, Calls Tryz.prog 180 #[.int .u8 a.toNat] W fun e w' => e = .returned (.int .u8 (low8 a)) ∧ w' = W) := fun W => Tryz.internal_strconv_lower a.toNat W
  have LB : Hid (∀ W : World, Calls Tryz.prog 180 #[.int .u8 b.toNat] W fun e w' => e = .returned (.int .u8 (low8 b)) ∧ w' = W) := fun W => Tryz.internal_strconv_lower b.toNat W
  generalize Lib.bytesWorld w 5 ⟨#[a, b]⟩ = W1 at *
  have hn : (48 ≤ (a.toNat : Int)) = False ∨ ((48 ≤ (a.toNat : Int)) = True ∧ ((a.toNat : Int) ≤ 57) = False) := by
    by_cases q : 48 ≤ (a.toNat : Int)
    · right; refine ⟨by simpa using q, by simp; omega⟩
    · left; simpa using q

  rcases hn with hx | ⟨hx, hy⟩
  all_goals clear h0
  all_goals
    go_enter Tryz.func174, Tryz.ntmps174
    go_wp2
    refine wp_loop_rounds 4 ?_
    rw [rounds_succ]
    go_wp2_with (first | (go_at_call_of 180 (Value.int IntKind.u8 a.toNat); refine (LA.out _).mono ?_; rintro e w' ⟨rfl, rfl⟩) | (go_at_call_of 180 (Value.int IntKind.u8 b.toNat); refine (LB.out _).mono ?_; rintro e w' ⟨rfl, rfl⟩))
    rw [rounds_succ]
    go_wp2_with (first | (go_at_call_of 180 (Value.int IntKind.u8 a.toNat); refine (LA.out _).mono ?_; rintro e w' ⟨rfl, rfl⟩) | (go_at_call_of 180 (Value.int IntKind.u8 b.toNat); refine (LB.out _).mono ?_; rintro e w' ⟨rfl, rfl⟩))
    rw [rounds_succ]
    go_wp2
    go_ret2
    exact ⟨rfl, hbb⟩

set_option maxRecDepth 100000 in
set_option maxHeartbeats 4000000 in
theorem pu_hex_hex (a b : UInt8) (w : World) (h0 : ¬ (48 ≤ (a.toNat : Int) ∧ (a.toNat : Int) ≤ 57)) (h2 : 97 ≤ low8 a) (h3 : low8 a ≤ 102) (h9 : ((a.toNat : Int) == 95) = false) (g0 : ¬ (48 ≤ (b.toNat : Int) ∧ (b.toNat : Int) ≤ 57)) (g2 : 97 ≤ low8 b) (g3 : low8 b ≤ 102) (g9 : ((b.toNat : Int) == 95) = false) :
    Calls Tryz.prog 174 #[.string ⟨#[a, b]⟩, .int .i64 16, .int .i64 8] w fun e w' => e = .returned (.tuple #[.int .u64 ((low8 a - 97 + 10) * 16 + (low8 b - 97 + 10)), .nilIface]) ∧ Below w.heap.size w w' := by
  have hcv := Lib.run_convert_string_bytes (P := Tryz.prog) w 9 60 5 ⟨#[a, b]⟩ Tryz.underlying9 Tryz.underlying60 Tryz.underlying5
  have hB0 : (Lib.bytesWorld w 5 ⟨#[a, b]⟩).cell? ⟨w.heap.size, 0, none⟩ = some (.int .u8 a.toNat) := Lib.bytesWorld_cell w 5 ⟨#[a, b]⟩ 0 (by show 0 < 2; decide)
  have hB1 : (Lib.bytesWorld w 5 ⟨#[a, b]⟩).cell? ⟨w.heap.size, 1, none⟩ = some (.int .u8 b.toNat) := Lib.bytesWorld_cell w 5 ⟨#[a, b]⟩ 1 (by show 1 < 2; decide)
  have hbb := Lib.bytesWorld_below w 5 ⟨#[a, b]⟩
  have ua : a.toNat < 256 := a.toNat_lt
  have ub : b.toNat < 256 := b.toNat_lt
  have LA : Hid (∀ W : World, Calls Tryz.prog 180 #[.int .u8 a.toNat] W fun e w' => e = .returned (.int .u8 (low8 a)) ∧ w' = W) := fun W => Tryz.internal_strconv_lower a.toNat W
  have LB : Hid (∀ W : World, Calls Tryz.prog 180 #[.int .u8 b.toNat] W fun e w' => e = .returned (.int .u8 (low8 b)) ∧ w' = W) := fun W => Tryz.internal_strconv_lower b.toNat W
  generalize Lib.bytesWorld w 5 ⟨#[a, b]⟩ = W1 at *
  have hn : (48 ≤ (a.toNat : Int)) = False ∨ ((48 ≤ (a.toNat : Int)) = True ∧ ((a.toNat : Int) ≤ 57) = False) := by
    by_cases q : 48 ≤ (a.toNat : Int)
    · right; refine ⟨by simpa using q, by simp; omega⟩
    · left; simpa using q
  have gn : (48 ≤ (b.toNat : Int)) = False ∨ ((48 ≤ (b.toNat : Int)) = True ∧ ((b.toNat : Int) ≤ 57) = False) := by
    by_cases q : 48 ≤ (b.toNat : Int)
    · right; refine ⟨by simpa using q, by simp; omega⟩
    · left; simpa using q

  rcases hn with hx | ⟨hx, hy⟩ <;> rcases gn with gx | ⟨gx, gy⟩
  all_goals clear h0
  all_goals clear g0
  all_goals
    go_enter Tryz.func174, Tryz.ntmps174
    go_wp2
    refine wp_loop_rounds 4 ?_
    rw [rounds_succ]
    go_wp2_with (first | (go_at_call_of 180 (Value.int IntKind.u8 a.toNat); refine (LA.out _).mono ?_; rintro e w' ⟨rfl, rfl⟩) | (go_at_call_of 180 (Value.int IntKind.u8 b.toNat); refine (LB.out _).mono ?_; rintro e w' ⟨rfl, rfl⟩))
    rw [rounds_succ]
    go_wp2_with (first | (go_at_call_of 180 (Value.int IntKind.u8 a.toNat); refine (LA.out _).mono ?_; rintro e w' ⟨rfl, rfl⟩) | (go_at_call_of 180 (Value.int IntKind.u8 b.toNat); refine (LB.out _).mono ?_; rintro e w' ⟨rfl, rfl⟩))
    rw [rounds_succ]
    go_wp2
    go_ret2
    exact ⟨rfl, hbb⟩

set_option maxRecDepth 100000 in
set_option maxHeartbeats 4000000 in
theorem pu_hex_let (a b : UInt8) (w : World) (h0 : ¬ (48 ≤ (a.toNat : Int) ∧ (a.toNat : Int) ≤ 57)) (h2 : 97 ≤ low8 a) (h3 : low8 a ≤ 102) (h9 : ((a.toNat : Int) == 95) = false) (g0 : ¬ (48 ≤ (b.toNat : Int) ∧ (b.toNat : Int) ≤ 57)) (g2 : 102 < low8 b) (g3 : low8 b ≤ 122) (g9 : ((b.toNat : Int) == 95) = false) :
    Calls Tryz.prog 174 #[.string ⟨#[a, b]⟩, .int .i64 16, .int .i64 8] w fun e w' => e = .returned (.tuple #[.int .u64 0, .iface 244 (.int .i64 2)]) ∧ Below w.heap.size w w' := by
  have hcv := Lib.run_convert_string_bytes (P := Tryz.prog) w 9 60 5 ⟨#[a, b]⟩ Tryz.underlying9 Tryz.underlying60 Tryz.underlying5
  have hB0 : (Lib.bytesWorld w 5 ⟨#[a, b]⟩).cell? ⟨w.heap.size, 0, none⟩ = some (.int .u8 a.toNat) := Lib.bytesWorld_cell w 5 ⟨#[a, b]⟩ 0 (by show 0 < 2; decide)
  have hB1 : (Lib.bytesWorld w 5 ⟨#[a, b]⟩).cell? ⟨w.heap.size, 1, none⟩ = some (.int .u8 b.toNat) := Lib.bytesWorld_cell w 5 ⟨#[a, b]⟩ 1 (by show 1 < 2; decide)
  have hbb := Lib.bytesWorld_below w 5 ⟨#[a, b]⟩
  have ua : a.toNat < 256 := a.toNat_lt
  have ub : b.toNat < 256 := b.toNat_lt
  have LA : Hid (∀ W : World, Calls Tryz.prog 180 #[.int .u8 a.toNat] W fun e w' => e = .returned (.int .u8 (low8 a)) ∧ w' = W) := fun W => Tryz.internal_strconv_lower a.toNat W
  have LB : Hid (∀ W : World, Calls Tryz.prog 180 #[.int .u8 b.toNat] W fun e w' => e = .returned (.int .u8 (low8 b)) ∧ w' = W) := fun W => Tryz.internal_strconv_lower b.toNat W
  generalize Lib.bytesWorld w 5 ⟨#[a, b]⟩ = W1 at *
  have hn : (48 ≤ (a.toNat : Int)) = False ∨ ((48 ≤ (a.toNat : Int)) = True ∧ ((a.toNat : Int) ≤ 57) = False) := by
    by_cases q : 48 ≤ (a.toNat : Int)
    · right; refine ⟨by simpa using q, by simp; omega⟩
    · left; simpa using q
  have gn : (48 ≤ (b.toNat : Int)) = False ∨ ((48 ≤ (b.toNat : Int)) = True ∧ ((b.toNat : Int) ≤ 57) = False) := by
    by_cases q : 48 ≤ (b.toNat : Int)
    · right; refine ⟨by simpa using q, by simp; omega⟩
    · left; simpa using q

  rcases hn with hx | ⟨hx, hy⟩ <;> rcases gn with gx | ⟨gx, gy⟩
  all_goals clear h0
  all_goals clear g0
  all_goals
    go_enter Tryz.func174, Tryz.ntmps174
    go_wp2
    refine wp_loop_rounds 4 ?_
    rw [rounds_succ]
    go_wp2_with (first | (go_at_call_of 180 (Value.int IntKind.u8 a.toNat); refine (LA.out _).mono ?_; rintro e w' ⟨rfl, rfl⟩) | (go_at_call_of 180 (Value.int IntKind.u8 b.toNat); refine (LB.out _).mono ?_; rintro e w' ⟨rfl, rfl⟩))
    rw [rounds_succ]
    go_wp2_with (first | (go_at_call_of 180 (Value.int IntKind.u8 a.toNat); refine (LA.out _).mono ?_; rintro e w' ⟨rfl, rfl⟩) | (go_at_call_of 180 (Value.int IntKind.u8 b.toNat); refine (LB.out _).mono ?_; rintro e w' ⟨rfl, rfl⟩))
    go_ret2
    exact ⟨rfl, hbb⟩

set_option maxRecDepth 100000 in
set_option maxHeartbeats 4000000 in
theorem pu_hex_lss (a b : UInt8) (w : World) (h0 : ¬ (48 ≤ (a.toNat : Int) ∧ (a.toNat : Int) ≤ 57)) (h2 : 97 ≤ low8 a) (h3 : low8 a ≤ 102) (h9 : ((a.toNat : Int) == 95) = false) (g0 : ¬ (48 ≤ (b.toNat : Int) ∧ (b.toNat : Int) ≤ 57)) (g2 : low8 b < 97) (g3 : 0 ≤ low8 b) (g9 : ((b.toNat : Int) == 95) = false) :
    Calls Tryz.prog 174 #[.string ⟨#[a, b]⟩, .int .i64 16, .int .i64 8] w fun e w' => e = .returned (.tuple #[.int .u64 0, .iface 244 (.int .i64 2)]) ∧ Below w.heap.size w w' := by
  have hcv := Lib.run_convert_string_bytes (P := Tryz.prog) w 9 60 5 ⟨#[a, b]⟩ Tryz.underlying9 Tryz.underlying60 Tryz.underlying5
  have hB0 : (Lib.bytesWorld w 5 ⟨#[a, b]⟩).cell? ⟨w.heap.size, 0, none⟩ = some (.int .u8 a.toNat) := Lib.bytesWorld_cell w 5 ⟨#[a, b]⟩ 0 (by show 0 < 2; decide)
  have hB1 : (Lib.bytesWorld w 5 ⟨#[a, b]⟩).cell? ⟨w.heap.size, 1, none⟩ = some (.int .u8 b.toNat) := Lib.bytesWorld_cell w 5 ⟨#[a, b]⟩ 1 (by show 1 < 2; decide)
  have hbb := Lib.bytesWorld_below w 5 ⟨#[a, b]⟩
  have ua : a.toNat < 256 := a.toNat_lt
  have ub : b.toNat < 256 := b.toNat_lt
  have LA : Hid (∀ W : World, Calls Tryz.prog 180 #[.int .u8 a.toNat] W fun e w' => e = .returned (.int .u8 (low8 a)) ∧ w' = W) := fun W => Tryz.internal_strconv_lower a.toNat W
  have LB : Hid (∀ W : World, Calls Tryz.prog 180 #[.int .u8 b.toNat] W fun e w' => e = .returned (.int .u8 (low8 b)) ∧ w' = W) := fun W => Tryz.internal_strconv_lower b.toNat W
  generalize Lib.bytesWorld w 5 ⟨#[a, b]⟩ = W1 at *
  have hn : (48 ≤ (a.toNat : Int)) = False ∨ ((48 ≤ (a.toNat : Int)) = True ∧ ((a.toNat : Int) ≤ 57) = False) := by
    by_cases q : 48 ≤ (a.toNat : Int)
    · right; refine ⟨by simpa using q, by simp; omega⟩
    · left; simpa using q
  have gn : (48 ≤ (b.toNat : Int)) = False ∨ ((48 ≤ (b.toNat : Int)) = True ∧ ((b.toNat : Int) ≤ 57) = False) := by
    by_cases q : 48 ≤ (b.toNat : Int)
    · right; refine ⟨by simpa using q, by simp; omega⟩
    · left; simpa using q

  rcases hn with hx | ⟨hx, hy⟩ <;> rcases gn with gx | ⟨gx, gy⟩
  all_goals clear h0
  all_goals clear g0
  all_goals
    go_enter Tryz.func174, Tryz.ntmps174
    go_wp2
    refine wp_loop_rounds 4 ?_
    rw [rounds_succ]
    go_wp2_with (first | (go_at_call_of 180 (Value.int IntKind.u8 a.toNat); refine (LA.out _).mono ?_; rintro e w' ⟨rfl, rfl⟩) | (go_at_call_of 180 (Value.int IntKind.u8 b.toNat); refine (LB.out _).mono ?_; rintro e w' ⟨rfl, rfl⟩))
    rw [rounds_succ]
    go_wp2_with (first | (go_at_call_of 180 (Value.int IntKind.u8 a.toNat); refine (LA.out _).mono ?_; rintro e w' ⟨rfl, rfl⟩) | (go_at_call_of 180 (Value.int IntKind.u8 b.toNat); refine (LB.out _).mono ?_; rintro e w' ⟨rfl, rfl⟩))
    go_ret2
    exact ⟨rfl, hbb⟩

set_option maxRecDepth 100000 in
set_option maxHeartbeats 4000000 in
theorem pu_hex_gtr (a b : UInt8) (w : World) (h0 : ¬ (48 ≤ (a.toNat : Int) ∧ (a.toNat : Int) ≤ 57)) (h2 : 97 ≤ low8 a) (h3 : low8 a ≤ 102) (h9 : ((a.toNat : Int) == 95) = false) (g0 : ¬ (48 ≤ (b.toNat : Int) ∧ (b.toNat : Int) ≤ 57)) (g2 : 122 < low8 b) (g3 : low8 b ≤ 255) :
    Calls Tryz.prog 174 #[.string ⟨#[a, b]⟩, .int .i64 16, .int .i64 8] w fun e w' => e = .returned (.tuple #[.int .u64 0, .iface 244 (.int .i64 2)]) ∧ Below w.heap.size w w' := by
  have hcv := Lib.run_convert_string_bytes (P := Tryz.prog) w 9 60 5 ⟨#[a, b]⟩ Tryz.underlying9 Tryz.underlying60 Tryz.underlying5
  have hB0 : (Lib.bytesWorld w 5 ⟨#[a, b]⟩).cell? ⟨w.heap.size, 0, none⟩ = some (.int .u8 a.toNat) := Lib.bytesWorld_cell w 5 ⟨#[a, b]⟩ 0 (by show 0 < 2; decide)
  have hB1 : (Lib.bytesWorld w 5 ⟨#[a, b]⟩).cell? ⟨w.heap.size, 1, none⟩ = some (.int .u8 b.toNat) := Lib.bytesWorld_cell w 5 ⟨#[a, b]⟩ 1 (by show 1 < 2; decide)
  have hbb := Lib.bytesWorld_below w 5 ⟨#[a, b]⟩
  have ua : a.toNat < 256 := a.toNat_lt
  have ub : b.toNat < 256 := b.toNat_lt
  have LA : Hid (∀ W : World, Calls Tryz.prog 180 #[.int .u8 a.toNat] W fun e w' => e = .returned (.int .u8 (low8 a)) ∧ w' = W) := fun W => Tryz.internal_strconv_lower a.toNat W
  have LB : Hid (∀ W : World, Calls Tryz.prog 180 #[.int .u8 b.toNat] W fun e w' => e = .returned (.int .u8 (low8 b)) ∧ w' = W) := fun W => Tryz.internal_strconv_lower b.toNat W
  generalize Lib.bytesWorld w 5 ⟨#[a, b]⟩ = W1 at *
  have hn : (48 ≤ (a.toNat : Int)) = False ∨ ((48 ≤ (a.toNat : Int)) = True ∧ ((a.toNat : Int) ≤ 57) = False) := by
    by_cases q : 48 ≤ (a.toNat : Int)
    · right; refine ⟨by simpa using q, by simp; omega⟩
    · left; simpa using q
  have gm : ((b.toNat : Int) == 95) = false ∨ ((b.toNat : Int) == 95) = true := by cases ((b.toNat : Int) == 95) <;> simp
  have gn : (48 ≤ (b.toNat : Int)) = False ∨ ((48 ≤ (b.toNat : Int)) = True ∧ ((b.toNat : Int) ≤ 57) = False) := by
    by_cases q : 48 ≤ (b.toNat : Int)
    · right; refine ⟨by simpa using q, by simp; omega⟩
    · left; simpa using q

  rcases gm with g9 | g9 <;> rcases hn with hx | ⟨hx, hy⟩ <;> rcases gn with gx | ⟨gx, gy⟩
  all_goals clear h0
  all_goals clear g0
  all_goals
    go_enter Tryz.func174, Tryz.ntmps174
    go_wp2
    refine wp_loop_rounds 4 ?_
    rw [rounds_succ]
    go_wp2_with (first | (go_at_call_of 180 (Value.int IntKind.u8 a.toNat); refine (LA.out _).mono ?_; rintro e w' ⟨rfl, rfl⟩) | (go_at_call_of 180 (Value.int IntKind.u8 b.toNat); refine (LB.out _).mono ?_; rintro e w' ⟨rfl, rfl⟩))
    rw [rounds_succ]
    go_wp2_with (first | (go_at_call_of 180 (Value.int IntKind.u8 a.toNat); refine (LA.out _).mono ?_; rintro e w' ⟨rfl, rfl⟩) | (go_at_call_of 180 (Value.int IntKind.u8 b.toNat); refine (LB.out _).mono ?_; rintro e w' ⟨rfl, rfl⟩))
    go_ret2
    exact ⟨rfl, hbb⟩

end Go.Proofs.YtgmmhgbodddadaaGreatDoor

namespace Go.Proofs.YtgmmhgbodddadaaGreatDoor
open Go.RowKit Go.Shelf
set_option linter.unusedVariables false

/-- What two bytes say to the base 16. -/
def hex2 (a b : UInt8) : Option UInt8 := if hexv a < 16 ∧ hexv b < 16 then some (UInt8.ofNat (16 * hexv a + hexv b)) else none


/-- Internal ParseUint of two bytes. -/
theorem ipu_yes (a b : UInt8) (w : World) (hh : (hexv a < 16 ∧ hexv b < 16)) :
    Calls Tryz.prog 174 #[.string ⟨#[a, b]⟩, .int .i64 16, .int .i64 8] w fun e w' => e = .returned (.tuple #[.int .u64 ((16 * hexv a + hexv b : Nat) : Int), .nilIface]) ∧ Below w.heap.size w w' := by
  rcases cls a with ⟨h1, h2, h3, h9⟩ | ⟨h1, h2, h3, h4, h9⟩ | ⟨h1, h2, h3, h4, h9⟩ | ⟨h1, h2, h3, h4, h9⟩ | ⟨h1, h2, h3, h4⟩
  · rcases cls b with ⟨g1, g2, g3, g9⟩ | ⟨g1, g2, g3, g4, g9⟩ | ⟨g1, g2, g3, g4, g9⟩ | ⟨g1, g2, g3, g4, g9⟩ | ⟨g1, g2, g3, g4⟩
    · have h := pu_dig_dig a b w h1 h2 h9 g1 g2 g9
      rw [show (a.toNat - 48 : Int) * 16 + (b.toNat - 48 : Int) = ((16 * hexv a + hexv b : Nat) : Int) by omega] at h
      exact h
    · have h := pu_dig_hex a b w h1 h2 h9 g1 g2 g3 g9
      rw [show (a.toNat - 48 : Int) * 16 + (low8 b - 97 + 10) = ((16 * hexv a + hexv b : Nat) : Int) by omega] at h
      exact h
    · exfalso; omega
    · exfalso; omega
    · exfalso; omega
  · rcases cls b with ⟨g1, g2, g3, g9⟩ | ⟨g1, g2, g3, g4, g9⟩ | ⟨g1, g2, g3, g4, g9⟩ | ⟨g1, g2, g3, g4, g9⟩ | ⟨g1, g2, g3, g4⟩
    · have h := pu_hex_dig a b w h1 h2 h3 h9 g1 g2 g9
      rw [show (low8 a - 97 + 10) * 16 + (b.toNat - 48 : Int) = ((16 * hexv a + hexv b : Nat) : Int) by omega] at h
      exact h
    · have h := pu_hex_hex a b w h1 h2 h3 h9 g1 g2 g3 g9
      rw [show (low8 a - 97 + 10) * 16 + (low8 b - 97 + 10) = ((16 * hexv a + hexv b : Nat) : Int) by omega] at h
      exact h
    · exfalso; omega
    · exfalso; omega
    · exfalso; omega
  · exfalso; omega
  · exfalso; omega
  · exfalso; omega
/-- Internal ParseUint of two bytes. -/
theorem ipu_no (a b : UInt8) (w : World) (hh : ¬ (hexv a < 16 ∧ hexv b < 16)) :
    Calls Tryz.prog 174 #[.string ⟨#[a, b]⟩, .int .i64 16, .int .i64 8] w fun e w' => e = .returned (.tuple #[.int .u64 0, .iface 244 (.int .i64 2)]) ∧ Below w.heap.size w w' := by
  rcases cls a with ⟨h1, h2, h3, h9⟩ | ⟨h1, h2, h3, h4, h9⟩ | ⟨h1, h2, h3, h4, h9⟩ | ⟨h1, h2, h3, h4, h9⟩ | ⟨h1, h2, h3, h4⟩
  · rcases cls b with ⟨g1, g2, g3, g9⟩ | ⟨g1, g2, g3, g4, g9⟩ | ⟨g1, g2, g3, g4, g9⟩ | ⟨g1, g2, g3, g4, g9⟩ | ⟨g1, g2, g3, g4⟩
    · exact absurd ⟨by omega, by omega⟩ hh
    · exact absurd ⟨by omega, by omega⟩ hh
    · exact pu_dig_let a b w h1 h2 h9 g1 g2 g3 g9
    · exact pu_dig_lss a b w h1 h2 h9 g1 g2 g3 g9
    · exact pu_dig_gtr a b w h1 h2 h9 g1 g2 g3
  · rcases cls b with ⟨g1, g2, g3, g9⟩ | ⟨g1, g2, g3, g4, g9⟩ | ⟨g1, g2, g3, g4, g9⟩ | ⟨g1, g2, g3, g4, g9⟩ | ⟨g1, g2, g3, g4⟩
    · exact absurd ⟨by omega, by omega⟩ hh
    · exact absurd ⟨by omega, by omega⟩ hh
    · exact pu_hex_let a b w h1 h2 h3 h9 g1 g2 g3 g9
    · exact pu_hex_lss a b w h1 h2 h3 h9 g1 g2 g3 g9
    · exact pu_hex_gtr a b w h1 h2 h3 h9 g1 g2 g3
  · exact pu_let a b w h1 h2 h3 h9
  · exact pu_lss a b w h1 h2 h3 h9
  · exact pu_gtr a b w h1 h2 h3

/-- The two errors of strconv lie as interface values. -/
structure Errs (w : World) : Prop where
  syn : ∃ ev, w.cell? ⟨7, 0, none⟩ = some ev ∧ (ev = .nilIface ∨ ∃ te pe, ev = .iface te pe)
  rng : ∃ ev, w.cell? ⟨8, 0, none⟩ = some ev ∧ (ev = .nilIface ∨ ∃ te pe, ev = .iface te pe)
theorem Errs.below {w W : World} (h : Errs w) (hb : Below w.heap.size w W) (hs : 9 ≤ w.heap.size) : Errs W := by
  obtain ⟨⟨e1, c1, d1⟩, ⟨e2, c2, d2⟩⟩ := h
  exact ⟨⟨e1, (hb.cell (p := ⟨_, 0, none⟩) (by show 7 < w.heap.size; omega)).trans c1, d1⟩, ⟨e2, (hb.cell (p := ⟨_, 0, none⟩) (by show 8 < w.heap.size; omega)).trans c2, d2⟩⟩

set_option maxRecDepth 100000 in
set_option maxHeartbeats 2000000 in
theorem pu_yes (a b : UInt8) (w : World) (h : hexv a < 16 ∧ hexv b < 16) :
    Calls Tryz.prog 173 #[.string ⟨#[a, b]⟩, .int .i64 16, .int .i64 8] w fun e w' => e = .returned (.tuple #[.int .u64 ((16 * hexv a + hexv b : Nat) : Int), .nilIface]) ∧ Below w.heap.size w w' := by
  obtain ⟨v, ev⟩ : ∃ v : Int, Hid (((16 * hexv a + hexv b : Nat) : Int) = v) := ⟨_, rfl⟩
  have H : Hid (∀ W : World, Calls Tryz.prog 174 #[.string ⟨#[a, b]⟩, .int .i64 16, .int .i64 8] W fun e w' => e = .returned (.tuple #[.int .u64 v, .nilIface]) ∧ Below W.heap.size W w') := fun W => by
    have q := ipu_yes a b W h
    rw [ev.out] at q
    exact q
  rw [ev.out]
  clear h ev
  go_enter Tryz.func173, Tryz.ntmps173
  go_wp2_with fail
  refine (H.out _).mono ?_
  rintro e w1 ⟨rfl, hb⟩
  go_wp2
  go_ret2
  exact ⟨rfl, hb⟩

set_option maxRecDepth 100000 in
set_option maxHeartbeats 2000000 in
theorem pu_no (a b : UInt8) (w : World) (h : ¬ (hexv a < 16 ∧ hexv b < 16)) (he : Errs w) (hs : 9 ≤ w.heap.size) :
    Calls Tryz.prog 173 #[.string ⟨#[a, b]⟩, .int .i64 16, .int .i64 8] w fun e w' => ∃ p, e = .returned (.tuple #[.int .u64 0, .iface 245 p]) ∧ Below w.heap.size w w' := by
  have H : Hid (∀ W : World, Calls Tryz.prog 174 #[.string ⟨#[a, b]⟩, .int .i64 16, .int .i64 8] W fun e w' => e = .returned (.tuple #[.int .u64 0, .iface 244 (.int .i64 2)]) ∧ Below W.heap.size W w') := fun W => by
    exact ipu_no a b W h
  clear h
  go_enter Tryz.func173, Tryz.ntmps173
  go_wp2_with fail
  refine (H.out _).mono ?_
  rintro e w1 ⟨rfl, hb⟩
  obtain ⟨⟨ev, hv, hev⟩, -⟩ := he.below hb hs
  have hsz : (⟨#[a, b]⟩ : ByteArray).size ≤ 281474976710656 := by show 2 ≤ _; decide
  go_wp2_with fail
  refine (Tryz.strconv_toError_syntax _ _ 16 8 ev _ hsz hv hev).mono ?_
  rintro e w2 ⟨N, rfl, -, -, hb2⟩
  go_wp2
  go_ret2
  exact ⟨_, rfl, hb.trans (hb2.mono hb.size)⟩

end Go.Proofs.YtgmmhgbodddadaaGreatDoor

namespace Go.Proofs.YtgmmhgbodddadaaGreatDoor
open Go.RowKit Go.Shelf
set_option linter.unusedVariables false

/-- What stands behind a backslash: the byte, and how many bytes say so. -/
def une : List UInt8 → Option (UInt8 × Nat)
  | [] => none
  | c :: r => if c.toNat = 120 then (match r with
      | a :: b :: _ => (hex2 a b).map fun x => (x, 3)
      | _ => none) else some (c, 1)
/-- What a text between quotes says. -/
def unq (l : List UInt8) : Option (List UInt8) :=
  match l with
  | [] => some []
  | c :: r => if c.toNat = 92 then (match une r with
      | none => none
      | some (x, k) => (unq (r.drop k)).map fun y => x :: y) else (unq r).map fun y => c :: y
termination_by l.length
decreasing_by all_goals simp; try omega

theorem unq_nil : unq [] = some [] := by rw [unq]
theorem unq_plain {c : UInt8} (r : List UInt8) (h : c.toNat ≠ 92) : unq (c :: r) = (unq r).map fun y => c :: y := by rw [unq]; simp [h]
theorem unq_esc {c : UInt8} (r : List UInt8) (h : c.toNat = 92) : unq (c :: r) = (match une r with
      | none => none
      | some (x, k) => (unq (r.drop k)).map fun y => x :: y) := by rw [unq]; simp [h]
theorem une_len {l : List UInt8} {x : UInt8} {k : Nat} (h : une l = some (x, k)) : k ≤ l.length ∧ k ≤ 3 := by
  unfold une at h
  split at h
  · cases h
  · split at h
    · split at h
      · simp only [Option.map_eq_some_iff, Prod.mk.injEq] at h
        obtain ⟨y, _, _, rfl⟩ := h
        simp
      · cases h
    · simp only [Option.some.injEq, Prod.mk.injEq] at h
      simp [← h.2]
set_option maxRecDepth 100000 in
set_option maxHeartbeats 2000000 in
theorem unesc_nil (w : World) :
    Calls Tryz.prog 169 #[.string ⟨#[]⟩] w fun e w' => e = .returned (.tuple #[.int .u8 0, .int .i64 0, .bool false]) ∧ Below w.heap.size w w' := by
  go_enter Tryz.func169, Tryz.ntmps169
  go_wp2
  refine bodyPost_ret (by simp [results, Tryz.results169, go_sem]; try rfl) rfl ?_
  exact ⟨rfl, Below.refl _ _⟩

set_option maxRecDepth 100000 in
set_option maxHeartbeats 2000000 in
theorem unesc_one (u : ByteArray) (c : UInt8) (w : World) (h0 : 0 < u.size) (hc : u[0] = c) (h1 : ((c.toNat : Int) != 120) = true) (hne : (u.toList == []) = false) :
    Calls Tryz.prog 169 #[.string u] w fun e w' => e = .returned (.tuple #[.int .u8 c.toNat, .int .i64 1, .bool true]) ∧ Below w.heap.size w w' := by
  have h0' : (0 : Int) < u.size := by omega
  have hb : ByteArray.toList u ≠ [] := by simpa using hne
  go_enter Tryz.func169, Tryz.ntmps169
  go_wp2
  refine bodyPost_ret (by simp [results, Tryz.results169, go_sem]; try rfl) rfl ?_
  exact ⟨rfl, Below.refl _ _⟩

set_option maxRecDepth 100000 in
set_option maxHeartbeats 2000000 in
theorem unesc_short (u : ByteArray) (c : UInt8) (w : World) (h0 : 0 < u.size) (hc : u[0] = c) (h1 : ((c.toNat : Int) != 120) = false) (hne : (u.toList == []) = false) (h3 : u.size < 3) :
    Calls Tryz.prog 169 #[.string u] w fun e w' => e = .returned (.tuple #[.int .u8 0, .int .i64 0, .bool false]) ∧ Below w.heap.size w w' := by
  have h0' : (0 : Int) < u.size := by omega
  have h3' : (u.size : Int) < 3 := by omega
  have hb : ByteArray.toList u ≠ [] := by simpa using hne
  go_enter Tryz.func169, Tryz.ntmps169
  go_wp2
  refine bodyPost_ret (by simp [results, Tryz.results169, go_sem]; try rfl) rfl ?_
  exact ⟨rfl, Below.refl _ _⟩

set_option maxRecDepth 100000 in
set_option maxHeartbeats 2000000 in
theorem unesc_yes (u : ByteArray) (c a b : UInt8) (w : World) (h0 : 0 < u.size) (hc : u[0] = c) (h1 : ((c.toNat : Int) != 120) = false) (hne : (u.toList == []) = false) (h3 : 3 ≤ u.size) (hx : u.extract 1 3 = ⟨#[a, b]⟩) (hh : hexv a < 16 ∧ hexv b < 16) :
    Calls Tryz.prog 169 #[.string u] w fun e w' => e = .returned (.tuple #[.int .u8 ((16 * hexv a + hexv b : Nat) : Int), .int .i64 3, .bool true]) ∧ Below w.heap.size w w' := by
  obtain ⟨v, ev⟩ : ∃ v : Nat, Hid (16 * hexv a + hexv b = v) := ⟨_, rfl⟩
  have hv : v < 256 := by have := ev.out; omega
  have H : Hid (∀ W : World, Calls Tryz.prog 173 #[.string ⟨#[a, b]⟩, .int .i64 16, .int .i64 8] W fun e w' => e = .returned (.tuple #[.int .u64 (v : Int), .nilIface]) ∧ Below W.heap.size W w') := fun W => by
    have q := pu_yes a b W hh
    rw [ev.out] at q
    exact q
  have hw : IntKind.u8.wrap (v : Int) = (v : Int) := by simp [IntKind.wrap, IntKind.bits, IntKind.signed]; omega
  rw [ev.out]
  clear ev hh
  have h0' : (0 : Int) < u.size := by omega
  have h3' : (3 : Int) ≤ u.size := by omega
  have hb : ByteArray.toList u ≠ [] := by simpa using hne
  go_enter Tryz.func169, Tryz.ntmps169
  go_wp2_with fail
  refine (H.out _).mono ?_
  rintro e w1 ⟨rfl, hb1⟩
  go_wp2
  go_region
  go_wp2
  refine bodyPost_ret (by simp [results, Tryz.results169, go_sem]; try rfl) rfl ?_
  exact ⟨rfl, hb1.drew⟩

set_option maxRecDepth 100000 in
set_option maxHeartbeats 2000000 in
theorem unesc_no (u : ByteArray) (c a b : UInt8) (w : World) (h0 : 0 < u.size) (hc : u[0] = c) (h1 : ((c.toNat : Int) != 120) = false) (hne : (u.toList == []) = false) (h3 : 3 ≤ u.size) (hx : u.extract 1 3 = ⟨#[a, b]⟩) (hh : ¬ (hexv a < 16 ∧ hexv b < 16)) (he : Errs w) (h8 : 9 ≤ w.heap.size) :
    Calls Tryz.prog 169 #[.string u] w fun e w' => e = .returned (.tuple #[.int .u8 0, .int .i64 3, .bool false]) ∧ Below w.heap.size w w' := by
  have H : Hid (∀ W : World, Errs W → 9 ≤ W.heap.size → Calls Tryz.prog 173 #[.string ⟨#[a, b]⟩, .int .i64 16, .int .i64 8] W fun e w' => ∃ p, e = .returned (.tuple #[.int .u64 0, .iface 245 p]) ∧ Below W.heap.size W w') := fun W h g => pu_no a b W hh h g
  clear hh
  have h0' : (0 : Int) < u.size := by omega
  have h3' : (3 : Int) ≤ u.size := by omega
  have hb : ByteArray.toList u ≠ [] := by simpa using hne
  go_enter Tryz.func169, Tryz.ntmps169
  go_wp2_with fail
  refine (H.out _ he h8).mono ?_
  rintro e w1 ⟨p, rfl, hb1⟩
  go_wp2
  go_region
  go_wp2
  refine bodyPost_ret (by simp [results, Tryz.results169, go_sem]; try rfl) rfl ?_
  exact ⟨rfl, hb1.drew⟩

/-- unescape at every text. -/
theorem unesc_any (u : ByteArray) (w : World) (he : Errs w) (h8 : 9 ≤ w.heap.size) :
    Calls Tryz.prog 169 #[.string u] w fun e w' => (match une u.data.toList with
      | some (x, k) => e = .returned (.tuple #[.int .u8 x.toNat, .int .i64 k, .bool true])
      | none => ∃ p q, e = .returned (.tuple #[.int .u8 p, .int .i64 q, .bool false])) ∧ Below w.heap.size w w' := by
  obtain ⟨⟨l⟩⟩ := u
  match l with
  | [] =>
    refine (unesc_nil w).mono ?_
    rintro e w' ⟨rfl, hb⟩
    exact ⟨⟨_, _, rfl⟩, hb⟩
  | c :: r =>
    have h0 : 0 < (⟨⟨c :: r⟩⟩ : ByteArray).size := by show 0 < (c :: r).length; simp
    have hc : (⟨⟨c :: r⟩⟩ : ByteArray)[0] = c := rfl
    have hne : ((⟨⟨c :: r⟩⟩ : ByteArray).toList == []) = false := by simp [ByteArray.toList_eq]
    have el : (⟨⟨c :: r⟩⟩ : ByteArray).data.toList = c :: r := rfl
    rw [el]
    by_cases h1 : c.toNat = 120
    · have h1' : ((c.toNat : Int) != 120) = false := by simp [h1]
      match r with
      | [] =>
        refine (unesc_short _ c w h0 hc h1' hne (by show 1 < 3; omega)).mono ?_
        rintro e w' ⟨rfl, hb⟩
        refine ⟨?_, hb⟩
        simp only [une, h1, if_true]
        exact ⟨_, _, rfl⟩
      | [a] =>
        refine (unesc_short _ c w h0 hc h1' hne (by show 2 < 3; omega)).mono ?_
        rintro e w' ⟨rfl, hb⟩
        refine ⟨?_, hb⟩
        simp only [une, h1, if_true]
        exact ⟨_, _, rfl⟩
      | a :: b :: r' =>
        have h3 : 3 ≤ (⟨⟨c :: a :: b :: r'⟩⟩ : ByteArray).size := by show 3 ≤ (c :: a :: b :: r').length; simp
        have hx : (⟨⟨c :: a :: b :: r'⟩⟩ : ByteArray).extract 1 3 = ⟨#[a, b]⟩ := by apply ByteArray.ext; simp [ByteArray.data_extract]
        by_cases hh : hexv a < 16 ∧ hexv b < 16
        · refine (unesc_yes _ c a b w h0 hc h1' hne h3 hx hh).mono ?_
          rintro e w' ⟨rfl, hb⟩
          refine ⟨?_, hb⟩
          have e1 : (UInt8.ofNat (16 * hexv a + hexv b)).toNat = 16 * hexv a + hexv b := by simp [UInt8.toNat_ofNat]; omega
          simp only [une, h1, if_true, hex2, if_pos hh, Option.map_some, e1]
          rfl
        · refine (unesc_no _ c a b w h0 hc h1' hne h3 hx hh he h8).mono ?_
          rintro e w' ⟨rfl, hb⟩
          refine ⟨?_, hb⟩
          simp only [une, h1, if_true, hex2, if_neg hh, Option.map_none]
          exact ⟨_, _, rfl⟩
    · have h1' : ((c.toNat : Int) != 120) = true := by simp; omega
      refine (unesc_one _ c w h0 hc h1' hne).mono ?_
      rintro e w' ⟨rfl, hb⟩
      refine ⟨?_, hb⟩
      simp only [une, if_neg h1]
      rfl

theorem unq_len : ∀ (n : Nat) (l x : List UInt8), l.length ≤ n → unq l = some x → x.length ≤ l.length
  | n, [], x, _, h => by rw [unq_nil] at h; cases h; simp
  | 0, c :: r, x, hn, h => by simp at hn
  | n + 1, c :: r, x, hn, h => by
    by_cases hc : c.toNat = 92
    · rw [unq_esc _ hc] at h
      split at h
      · cases h
      · rename_i y k hu
        simp only [Option.map_eq_some_iff] at h
        obtain ⟨z, hz, rfl⟩ := h
        have := unq_len n (r.drop k) z (by simp at hn ⊢; omega) hz
        simp at this ⊢
        omega
    · rw [unq_plain _ hc] at h
      simp only [Option.map_eq_some_iff] at h
      obtain ⟨z, hz, rfl⟩ := h
      have := unq_len n r z (by simp at hn; omega) hz
      simp
      omega

/-- What is told of what a text may say. -/
def outS (o : Option (List UInt8)) : ByteArray := ⟨(o.getD []).toArray⟩
def outB (o : Option (List UInt8)) : Bool := o.isSome
/-- What stands behind a first quote. -/
def unqS (l : List UInt8) : Option (List UInt8) := if Lib.hasSuffix l [34] then unq (Lib.trimSuffix l [34]) else none

theorem ext_from (s : ByteArray) (k : Nat) : (s.extract k s.size).data.toList = s.data.toList.drop k := by
  have e : s.data.size = s.size := rfl
  simp [ByteArray.data_extract, List.take_of_length_le, e]

set_option maxRecDepth 100000 in
set_option maxHeartbeats 4000000 in
theorem unquote_no (t : ByteArray) (w : World) (hs : t.size ≤ 9223372036854775807) (h : Lib.hasSuffix t.data.toList [34] = false) :
    Calls Tryz.prog 165 #[.string t] w fun e w' => e = .returned (.tuple #[.string ⟨#[]⟩, .bool false]) ∧ Below w.heap.size w w' := by
  have CS : Hid (∀ W : World, Calls Tryz.prog 168 #[.string t, .string ⟨#[34]⟩] W fun e w' => ∃ I, e = .returned (.tuple #[.string I, .bool false]) ∧ w' = W) := fun W => by
    have q := Tryz.strings_CutSuffix t ⟨#[34]⟩ W hs
    rw [show (⟨#[34]⟩ : ByteArray).data.toList = [34] from rfl, h] at q
    refine q.mono ?_
    rintro e w' ⟨rfl, rfl⟩
    exact ⟨_, rfl, rfl⟩
  clear h
  go_enter Tryz.func165, Tryz.ntmps165
  go_wp2_with fail
  refine (CS.out _).mono ?_
  rintro e w1 ⟨I, rfl, rfl⟩
  go_wp2
  go_ret2
  exact ⟨rfl, Below.refl _ _⟩

set_option maxRecDepth 100000 in
set_option maxHeartbeats 8000000 in
theorem unquote_yes (t I : ByteArray) (w : World) (hs : t.size ≤ 9223372036854775807) (h : Lib.hasSuffix t.data.toList [34] = true) (hI : (⟨(Lib.trimSuffix t.data.toList [34]).toArray⟩ : ByteArray) = I) (hz : I.size ≤ 140737488355000) (he : Errs w) (h8 : 9 ≤ w.heap.size) :
    Calls Tryz.prog 165 #[.string t] w fun e w' => e = .returned (.tuple #[.string (outS (unq I.data.toList)), .bool (outB (unq I.data.toList))]) ∧ Below w.heap.size w w' := by
  have CS : Hid (∀ W : World, Calls Tryz.prog 168 #[.string t, .string ⟨#[34]⟩] W fun e w' => e = .returned (.tuple #[.string I, .bool true]) ∧ w' = W) := fun W => by
    have q := Tryz.strings_CutSuffix t ⟨#[34]⟩ W hs
    rw [show (⟨#[34]⟩ : ByteArray).data.toList = [34] from rfl, h, hI] at q
    exact q
  clear h hI
  have HE : Hid (Errs w) := he
  clear he
  go_enter Tryz.func165, Tryz.ntmps165
  go_wp2_with fail
  refine (CS.out _).mono ?_
  rintro e w' ⟨rfl, rfl⟩
  go_wp2
  have h0 : Hid (Lib.IsBuilder 62 5 w'.heap.size w'.heap.size (Lib.byteCells []) (w'.alloc (.cells #[.pointer none, .slice none 0 0] 62))) := Lib.fresh_isBuilder _ _ w'
  have k0 : Below w'.heap.size w' (w'.alloc (.cells #[.pointer none, .slice none 0 0] 62)) := (Below.refl _ _).alloc (Nat.le_refl _) _
  generalize w'.alloc (.cells #[.pointer none, .slice none 0 0] 62) = W0 at *
  go_loopw [7] (fun i wr => ∃ (k : Nat) (acc : List UInt8), k ≤ I.size ∧ acc.length ≤ k ∧ i = .int .i64 k ∧ Hid (unq I.data.toList = (unq (I.data.toList.drop k)).map fun y => acc ++ y) ∧ Hid (Lib.IsBuilder 62 5 w'.heap.size w'.heap.size (Lib.byteCells acc) wr) ∧ Below w'.heap.size w' wr) (fun i _ => I.size - (intOf i).toNat)
  case atStart => exact ⟨0, [], by omega, by simp, rfl, (show unq I.data.toList = (unq (I.data.toList.drop 0)).map fun y => [] ++ y by simp), h0, k0⟩
  case round =>
    obtain ⟨k, acc, hk, ha, rfl, hU, hI, hB⟩ := hrel
    have hsz := hB.size
    by_cases hke : k = I.size
    · subst hke
      have e0 : Hid (unq I.data.toList = some acc) := by
        have q := hU.out
        rw [List.drop_of_length_le (by simp), unq_nil] at q
        exact q.trans (by simp)
      clear hU
      go_wp2_with fail
      refine (Tryz.Builder_String_any w'.heap.size w'.heap.size _ _ hI.out hsz).mono ?_
      rintro e w3 ⟨rfl, hb3⟩
      go_wp2
      go_ret2
      refine ⟨?_, hB.trans hb3⟩
      rw [e0.out]
      rfl
    · have hk' : (k : Int) < I.size := by omega
      have hkk : k < I.size := by omega
      have hd : I.data.toList.drop k = I[k] :: I.data.toList.drop (k + 1) := by
        rw [List.drop_eq_getElem_cons (by simpa using hkk)]
        rfl
      rw [hd] at hU
      have hu : I[k].toNat < 256 := I[k].toNat_lt
      clear hd
      obtain ⟨c, hc⟩ : ∃ c : UInt8, I[k] = c := ⟨_, rfl⟩
      rw [hc] at hu
      rw [hc] at hU
      by_cases a1 : c.toNat = 92
      · have a1' : ((c.toNat : Int) == 92) = true := by simp; omega
        have EB : Errs wr := HE.out.below hB h8
        have h8' : 9 ≤ wr.heap.size := by omega
        have UE : Hid (∀ W : World, Errs W → 9 ≤ W.heap.size → Calls Tryz.prog 169 #[.string (I.extract (k + 1) I.size)] W fun e w' => (match une (I.data.toList.drop (k + 1)) with
            | some (x, k) => e = .returned (.tuple #[.int .u8 x.toNat, .int .i64 k, .bool true])
            | none => ∃ p q, e = .returned (.tuple #[.int .u8 p, .int .i64 q, .bool false])) ∧ Below W.heap.size W w') := fun W g1 g2 => by
          have q := unesc_any (I.extract (k + 1) I.size) W g1 g2
          rw [ext_from] at q
          exact q
        have hU2 := hU.out
        rw [unq_esc _ a1] at hU2
        have hk1 : (k : Int) + 1 ≤ I.size := by omega
        cases hun : une (I.data.toList.drop (k + 1)) with
        | none =>
          rw [hun] at hU2 UE
          have e0 : Hid (unq I.data.toList = none) := hU2.trans (by simp)
          clear hU hU2 hun a1
          go_wp2_with fail
          refine (UE.out _ EB h8').mono ?_
          rintro e w2 ⟨⟨p, q, rfl⟩, hb2⟩
          go_wp2
          go_ret2
          refine ⟨?_, hB.trans (hb2.mono hB.size)⟩
          rw [e0.out]
          rfl
        | some y =>
          obtain ⟨x, j⟩ := y
          rw [hun] at hU2 UE
          obtain ⟨j1, j2⟩ := une_len hun
          have j3 : k + 1 + j ≤ I.size := by simp at j1; omega
          have e0 : Hid (unq I.data.toList = (unq (I.data.toList.drop (k + j + 1))).map fun y => (acc ++ [x]) ++ y) := by
            simp only [Option.map_map, List.drop_drop] at hU2
            rw [show k + j + 1 = k + 1 + j by omega]
            refine Eq.trans hU2 ?_
            congr 1
            funext y
            simp
          clear hU hU2 hun a1 j1
          go_wp2_with fail
          refine (UE.out _ EB h8').mono ?_
          rintro e w2 ⟨rfl, hb2⟩
          have h2' : Hid (Lib.IsBuilder 62 5 w'.heap.size w'.heap.size (Lib.byteCells acc) w2) := isB_below hI.out hb2
          have k2 : Below w'.heap.size w' w2 := hB.trans (hb2.mono hB.size)
          have hx : x.toNat < 256 := x.toNat_lt
          have hj : (j : Int) ≤ 3 := by omega
          clear hI hb2 UE
          go_wp2_with fail
          refine (wbyte w'.heap.size w'.heap.size _ _ _ h2'.out (by rw [Lib.byteCells_length]; omega) k2.size).mono ?_
          rintro e w3 ⟨rfl, h3, hb3⟩
          have h3' : Hid (Lib.IsBuilder 62 5 w'.heap.size w'.heap.size (Lib.byteCells (acc ++ [x])) w3) := by
            have := cells_snoc acc x
            rw [← this]
            exact Or.inr h3
          clear h3
          go_wp2
          exact ⟨⟨k + j + 1, acc ++ [x], by omega, by simp; omega, by simp, e0, h3', k2.trans hb3⟩, by simp [intOf]; omega⟩
      · have a1' : ((c.toNat : Int) == 92) = false := by simp; omega
        have e0 : Hid (unq I.data.toList = (unq (I.data.toList.drop (k + 1))).map fun y => (acc ++ [c]) ++ y) := by
          have q := hU.out
          rw [unq_plain _ a1, Option.map_map] at q
          refine Eq.trans q ?_
          congr 1
          funext y
          simp
        clear hU a1
        go_wp2_with fail
        refine (wbyte w'.heap.size w'.heap.size _ _ _ hI.out (by rw [Lib.byteCells_length]; omega) hsz).mono ?_
        rintro e w3 ⟨rfl, h3, hb3⟩
        have h3' : Hid (Lib.IsBuilder 62 5 w'.heap.size w'.heap.size (Lib.byteCells (acc ++ [c])) w3) := by
          have := cells_snoc acc c
          rw [← this]
          exact Or.inr h3
        clear h3
        go_wp2
        exact ⟨⟨k + 1, acc ++ [c], by omega, by simp; omega, by simp, e0, h3', hB.trans hb3⟩, by simp [intOf]; omega⟩

end Go.Proofs.YtgmmhgbodddadaaGreatDoor

namespace Go.Proofs.YtgmmhgbodddadaaGreatDoor
open Go.RowKit Go.Shelf
set_option linter.unusedVariables false

/-- A text cut at its first slash. -/
def cutL : List UInt8 → List UInt8 × List UInt8 × Bool
  | [] => ([], [], false)
  | c :: r => if c.toNat = 47 then ([], r, true) else (c :: (cutL r).1, (cutL r).2.1, (cutL r).2.2)
/-- What ParseInt tells: the number, and whether there is no error. -/
def pint (l : List UInt8) : Int × Bool := match Lib.parseIntB 64 l with
  | .ok v => (v, true)
  | .«syntax» => (0, false)
  | .range => (Lib.intSat 64 l, false)
theorem pint_fits (l : List UInt8) : -9223372036854775808 ≤ (pint l).1 ∧ (pint l).1 ≤ 9223372036854775807 := by
  unfold pint
  split
  · rename_i v h
    have p63 : (2 : Nat) ^ (64 - 1) = 9223372036854775808 := by decide
    unfold Lib.parseIntB at h
    split at h
    · cases h
    · simp only [] at h
      split at h
      · cases h
      · cases h
      · rw [p63] at h
        split at h
        · cases h
        · split at h
          · cases h
          · simp only [Lib.NumEnd.ok.injEq] at h
            rw [← h]
            split <;> simp only [] <;> omega
  · simp
  · unfold Lib.intSat
    have p63 : (2 : Nat) ^ (64 - 1) = 9223372036854775808 := by decide
    rw [p63]
    split <;> simp

theorem cutL_no : ∀ (l : List UInt8), (cutL l).2.2 = false → cutL l = (l, [], false) ∧ Lib.indexByte l 47 = -1
  | [], _ => ⟨rfl, rfl⟩
  | c :: r, h => by
    unfold cutL at h ⊢
    by_cases hc : c.toNat = 47
    · rw [if_pos hc] at h; cases h
    · rw [if_neg hc] at h ⊢
      obtain ⟨h1, h2⟩ := cutL_no r h
      have h3 : (c == 47) = false := by simp; intro e; exact hc (by rw [e]; rfl)
      refine ⟨by rw [h1], ?_⟩
      unfold Lib.indexByte
      rw [h3, h2]
      rfl
theorem cutL_yes : ∀ (l : List UInt8), (cutL l).2.2 = true → l = (cutL l).1 ++ 47 :: (cutL l).2.1 ∧ Lib.indexByte l 47 = ((cutL l).1.length : Int)
  | [], h => by cases h
  | c :: r, h => by
    unfold cutL at h ⊢
    by_cases hc : c.toNat = 47
    · rw [if_pos hc]
      have e : c = 47 := UInt8.toNat_inj.1 hc
      subst e
      exact ⟨rfl, rfl⟩
    · rw [if_neg hc] at h ⊢
      obtain ⟨h1, h2⟩ := cutL_yes r h
      have h3 : (c == 47) = false := by simp; intro e; exact hc (by rw [e]; rfl)
      refine ⟨by simp only [List.cons_append]; rw [← h1], ?_⟩
      unfold Lib.indexByte
      rw [h3, h2]
      have h4 : (((cutL r).1.length : Int) == -1) = false := by simp
      simp [h4]

theorem ext_take (s : ByteArray) (k : Nat) (h : k ≤ s.size) : (s.extract 0 k).data.toList = s.data.toList.take k := by
  simp [ByteArray.data_extract]
theorem ext_drop (s : ByteArray) (k : Nat) (h : k ≤ s.size) : (s.extract k s.size).data.toList = s.data.toList.drop k := by
  have e : s.data.size = s.size := rfl
  simp [ByteArray.data_extract, List.take_of_length_le, e]
theorem ba_eq {a : ByteArray} {l : List UInt8} (h : a.data.toList = l) : a = ⟨l.toArray⟩ := by
  apply ByteArray.ext
  rw [← h]

set_option maxRecDepth 100000 in
set_option maxHeartbeats 2000000 in
theorem cut_no (s : ByteArray) (w : World) (h : (cutL s.data.toList).2.2 = false) :
    Calls Tryz.prog 159 #[.string s, .string ⟨#[47]⟩] w fun e w' => e = .returned (.tuple #[.string s, .string ⟨#[]⟩, .bool false]) ∧ ∃ k, w' = w.drewN k := by
  have H : Hid (∀ W : World, Calls Tryz.prog 163 #[.string s, .string ⟨#[47]⟩] W fun e w' => e = .returned (.tuple #[.string s, .string ⟨#[]⟩, .bool false]) ∧ ∃ k, w' = W.drewN k) := fun W => by
    have I : Hid (∀ W : World, Calls Tryz.prog 117 #[.string s, .string ⟨#[47]⟩] W fun e w' => e = .returned (.int .i64 (-1)) ∧ w' = W) := fun W => by
      have q := Tryz.stringslite_Index_one s 47 W
      rw [(cutL_no _ h).2] at q
      exact q
    clear h
    go_enter Tryz.func163, Tryz.ntmps163
    go_wp2_with fail
    refine (I.out _).mono ?_
    rintro e w1 ⟨rfl, rfl⟩
    go_wp2
    refine bodyPost_ret (by simp [results, Tryz.results163, go_sem]; try rfl) rfl ?_
    exact ⟨rfl, 0, rfl⟩
  clear h
  go_enter Tryz.func159, Tryz.ntmps159
  go_wp2_with fail
  refine (H.out _).mono ?_
  rintro e w1 ⟨rfl, k, rfl⟩
  go_wp2
  refine bodyPost_ret (by simp [results, Tryz.results159, go_sem]; try rfl) rfl ?_
  exact ⟨rfl, k, rfl⟩

set_option maxRecDepth 100000 in
set_option maxHeartbeats 2000000 in
theorem cut_yes (s : ByteArray) (w : World) (h : (cutL s.data.toList).2.2 = true) (hs : s.size ≤ 140737488355328) :
    Calls Tryz.prog 159 #[.string s, .string ⟨#[47]⟩] w fun e w' => e = .returned (.tuple #[.string ⟨(cutL s.data.toList).1.toArray⟩, .string ⟨(cutL s.data.toList).2.1.toArray⟩, .bool true]) ∧ ∃ k, w' = w.drewN k := by
  obtain ⟨h1, h2⟩ := cutL_yes _ h
  obtain ⟨A, eA⟩ : ∃ A : ByteArray, Hid ((⟨(cutL s.data.toList).1.toArray⟩ : ByteArray) = A) := ⟨_, rfl⟩
  obtain ⟨B, eB⟩ : ∃ B : ByteArray, Hid ((⟨(cutL s.data.toList).2.1.toArray⟩ : ByteArray) = B) := ⟨_, rfl⟩
  obtain ⟨n, en⟩ : ∃ n : Nat, Hid ((cutL s.data.toList).1.length = n) := ⟨_, rfl⟩
  have hl : s.data.toList.length = n + 1 + (cutL s.data.toList).2.1.length := by
    have := congrArg List.length h1
    rw [List.length_append, List.length_cons, en.out] at this
    omega
  have hsz : s.data.toList.length = s.size := by simp
  have hn : n + 1 ≤ s.size := by omega
  have x1 : s.extract 0 n = A := by
    rw [← eA.out]
    refine ba_eq ?_
    rw [ext_take s n (by omega)]
    generalize cutL s.data.toList = c at h1 en
    rw [h1, ← en.out]
    simp
  have x2 : s.extract (n + 1) s.size = B := by
    rw [← eB.out]
    refine ba_eq ?_
    rw [ext_drop s (n + 1) hn]
    generalize cutL s.data.toList = c at h1 en
    rw [h1, ← en.out, List.drop_append]
    simp
  rw [eA.out, eB.out]
  have H : Hid (∀ W : World, Calls Tryz.prog 163 #[.string s, .string ⟨#[47]⟩] W fun e w' => e = .returned (.tuple #[.string A, .string B, .bool true]) ∧ ∃ k, w' = W.drewN k) := fun W => by
    have I : Hid (∀ W : World, Calls Tryz.prog 117 #[.string s, .string ⟨#[47]⟩] W fun e w' => e = .returned (.int .i64 n) ∧ w' = W) := fun W => by
      have q := Tryz.stringslite_Index_one s 47 W
      rw [h2, en.out] at q
      exact q
    clear h h1 h2 eA eB en hl hsz
    have z1 : (⟨#[47]⟩ : ByteArray).size = 1 := rfl
    have hn0 : (n : Int) ≤ s.size := by omega
    have hn1 : (n : Int) + 1 ≤ s.size := by omega
    go_enter Tryz.func163, Tryz.ntmps163
    go_wp2_with fail
    refine (I.out _).mono ?_
    rintro e w1 ⟨rfl, rfl⟩
    go_wp2
    go_quiet (fail)
    go_wp2
    refine bodyPost_ret (by simp [results, Tryz.results163, go_sem]; try rfl) rfl ?_
    exact ⟨rfl, nq, rfl⟩
  clear h h1 h2 eA eB en x1 x2 hl hsz
  go_enter Tryz.func159, Tryz.ntmps159
  go_wp2_with fail
  refine (H.out _).mono ?_
  rintro e w1 ⟨rfl, k, rfl⟩
  go_wp2
  refine bodyPost_ret (by simp [results, Tryz.results159, go_sem]; try rfl) rfl ?_
  exact ⟨rfl, k, rfl⟩

end Go.Proofs.YtgmmhgbodddadaaGreatDoor
