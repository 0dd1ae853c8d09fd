/- The law AstChecks at any formula. -/
import Derived.Test.YtfajjphfjilpnaaGreatZ10
import Derived.Deep.QuietTactic
import Derived.Deep.RegionHeld3
import Derived.Test.YtfajjphfjilpnaaGreatZ05
import Derived.Test.YtfajjphfjilpnaaGreatZ06

namespace Go.Proofs.YtfajjphfjilpnaaGreat
open Go.RowKit LX Go.Shelf
set_option linter.unusedVariables false

set_option maxRecDepth 100000 in
set_option maxHeartbeats 8000000 in
theorem rsameFs_step (A B : Value) (xs ys : List Fm) (w : World) (hA : FmsAt w A xs) (hB : FmsAt w B ys) (HC : ∀ i (hi : i < xs.length) (hi' : i < ys.length) (q q' : FQ) (W : World), QAt w (xs[i], q) → QAt w (ys[i], q') → Below w.heap.size w W → Calls Tryz.prog 10 #[.agg #[.int .i64 xs[i].k, .string xs[i].nm, .int .i64 xs[i].op, q.v, q.t, .int .i64 xs[i].lo, .int .i64 xs[i].hi, .bool xs[i].opn, q.s, q.r], .agg #[.int .i64 ys[i].k, .string ys[i].nm, .int .i64 ys[i].op, q'.v, q'.t, .int .i64 ys[i].lo, .int .i64 ys[i].hi, .bool ys[i].opn, q'.s, q'.r]] W fun e w' => e = .returned (.bool (sameF xs[i] ys[i])) ∧ Below W.heap.size W w') :
    Calls Tryz.prog 35 #[A, B] w fun e w' => e = .returned (.bool (sameFs xs ys)) ∧ Below w.heap.size w w' := by
  obtain ⟨p, c, rfl, lx, hc, HX0⟩ := hA.form
  obtain ⟨p', c', rfl, ly, hc', HY0⟩ := hB.form
  by_cases hl : xs.length = ys.length
  case neg =>
    have h2 : ((xs.length : Int) == ys.length) = false := by simp; omega
    have HS : Hid (sameFs xs ys = false) := sameFs_len hl
    clear HX0 HY0 hA hB HC
    generalize xs.length = n at *
    generalize ys.length = m at *
    go_enter Tryz.func35, Tryz.ntmps35
    go_wp2
    go_ret
    exact ⟨ret_bool HS.out.symm, by go_grown⟩
  have HX : Hid (∀ i (hi : i < xs.length), ∃ b off uv ut us ur, p = some ⟨b, off, none⟩ ∧ b < w.heap.size ∧ FmC w b (off + i * 10) xs[i] uv ut us ur ∧ NmsAt w uv xs[i].vars ∧ TmsAt w ut xs[i].terms ∧ FmsAt w us xs[i].subs ∧ RxsAt w ur xs[i].rgx) := HX0
  have HY : Hid (∀ i (hi : i < ys.length), ∃ b off uv ut us ur, p' = some ⟨b, off, none⟩ ∧ b < w.heap.size ∧ FmC w b (off + i * 10) ys[i] uv ut us ur ∧ NmsAt w uv ys[i].vars ∧ TmsAt w ut ys[i].terms ∧ FmsAt w us ys[i].subs ∧ RxsAt w ur ys[i].rgx) := HY0
  have HCC : Hid (∀ i (hi : i < xs.length) (hi' : i < ys.length) (q q' : FQ) (W : World), QAt w (xs[i], q) → QAt w (ys[i], q') → Below w.heap.size w W → Calls Tryz.prog 10 #[.agg #[.int .i64 xs[i].k, .string xs[i].nm, .int .i64 xs[i].op, q.v, q.t, .int .i64 xs[i].lo, .int .i64 xs[i].hi, .bool xs[i].opn, q.s, q.r], .agg #[.int .i64 ys[i].k, .string ys[i].nm, .int .i64 ys[i].op, q'.v, q'.t, .int .i64 ys[i].lo, .int .i64 ys[i].hi, .bool ys[i].opn, q'.s, q'.r]] W fun e w' => e = .returned (.bool (sameF xs[i] ys[i])) ∧ Below W.heap.size W w') := HC
  obtain ⟨n, en⟩ : ∃ n : Nat, Hid (xs.length = n) := ⟨_, rfl⟩
  have em : Hid (ys.length = n) := hl.symm.trans en.out
  rw [en.out] at lx hc ⊢
  rw [em.out] at hc' ⊢
  clear hA hB hl ly HX0 HY0 HC
  go_enter Tryz.func35, Tryz.ntmps35
  go_wp2
  go_loopw [5] (fun i wr => ∃ k : Nat, k ≤ n ∧ i = .int .i64 k ∧ Hid (sameFs xs ys = sameFs (xs.drop k) (ys.drop k)) ∧ Below w.heap.size w wr) (fun i _ => n - (intOf i).toNat)
  case atStart => exact ⟨0, Nat.zero_le _, rfl, (show sameFs xs ys = sameFs (xs.drop 0) (ys.drop 0) by simp), Below.refl _ _⟩
  case round =>
    obtain ⟨k, hk, rfl, hr, hB⟩ := hrel
    have hsz := hB.size
    by_cases hlt : k < n
    case neg =>
      have c2 : ¬ (k : Int) < n := by omega
      have hr3 : Hid (sameFs xs ys = true) := by
        have h := hr.out
        rw [List.drop_eq_nil_of_le (by have := en.out; omega), List.drop_eq_nil_of_le (by have := em.out; omega), sameFs_nil] at h
        exact h
      go_wp2
      go_ret
      exact ⟨ret_bool hr3.out.symm, hB⟩
    have hlt' : (k : Int) < n := by omega
    have kx : k < xs.length := by have := en.out; omega
    have ky : k < ys.length := by have := em.out; omega
    obtain ⟨b, off, uv, ut, us, ur, rfl, hb, TC, FV, FT, FS, FR⟩ := HX.out k kx
    obtain ⟨b', off', uv', ut', us', ur', rfl, hb', TC', FV', FT', FS', FR'⟩ := HY.out k ky
    obtain ⟨a0, a1, a2, a3, a4, a5, a6, a7, a8, a9⟩ := TC.below hB hb
    obtain ⟨b0, b1, b2, b3, b4, b5, b6, b7, b8, b9⟩ := TC'.below hB hb'
    have hbr : b < wr.heap.size := Nat.lt_of_lt_of_le hb hsz
    have hbr' : b' < wr.heap.size := Nat.lt_of_lt_of_le hb' hsz
    have hr2 : Hid (sameFs xs ys = (sameF xs[k] ys[k] && sameFs (xs.drop (k + 1)) (ys.drop (k + 1)))) := by
      have h := hr.out
      rw [List.drop_eq_getElem_cons kx, List.drop_eq_getElem_cons ky, sameFs_cons] at h
      exact h
    have cCT : Hid (∀ W : World, Below w.heap.size w W → Calls Tryz.prog 10 #[.agg #[.int .i64 xs[k].k, .string xs[k].nm, .int .i64 xs[k].op, uv, ut, .int .i64 xs[k].lo, .int .i64 xs[k].hi, .bool xs[k].opn, us, ur], .agg #[.int .i64 ys[k].k, .string ys[k].nm, .int .i64 ys[k].op, uv', ut', .int .i64 ys[k].lo, .int .i64 ys[k].hi, .bool ys[k].opn, us', ur']] W fun e w' => e = .returned (.bool (sameF xs[k] ys[k])) ∧ Below W.heap.size W w') := fun W hW => HCC.out k kx ky ⟨uv, ut, us, ur⟩ ⟨uv', ut', us', ur'⟩ W ⟨FV, FT, FS, FR⟩ ⟨FV', FT', FS', FR'⟩ hW
    clear hr TC TC'
    obtain ⟨-, pv, cv, rfl, -⟩ := FV
    obtain ⟨pt, ct, rfl, -⟩ := FT.form
    obtain ⟨ps, cs, rfl, -⟩ := FS.form
    obtain ⟨pr, cr, rfl, -⟩ := FR.form
    obtain ⟨-, pv', cv', rfl, -⟩ := FV'
    obtain ⟨pt', ct', rfl, -⟩ := FT'.form
    obtain ⟨ps', cs', rfl, -⟩ := FS'.form
    obtain ⟨pr', cr', rfl, -⟩ := FR'.form
    clear FT FS FR FT' FS' FR'
    generalize sameF xs[k] ys[k] = C at *
    generalize xs[k].k = xg_k at *
    generalize ys[k].k = yg_k at *
    generalize xs[k].nm = xg_nm at *
    generalize ys[k].nm = yg_nm at *
    generalize xs[k].op = xg_op at *
    generalize ys[k].op = yg_op at *
    generalize xs[k].lo = xg_lo at *
    generalize ys[k].lo = yg_lo at *
    generalize xs[k].hi = xg_hi at *
    generalize ys[k].hi = yg_hi at *
    generalize xs[k].opn = xg_opn at *
    generalize ys[k].opn = yg_opn at *
    generalize xs[k].vars.length = xg_varslength at *
    generalize ys[k].vars.length = yg_varslength at *
    generalize xs[k].terms.length = xg_termslength at *
    generalize ys[k].terms.length = yg_termslength at *
    generalize xs[k].subs.length = xg_subslength at *
    generalize ys[k].subs.length = yg_subslength at *
    generalize xs[k].rgx.length = xg_rgxlength at *
    generalize ys[k].rgx.length = yg_rgxlength at *
    go_upto_region 6 with fail
    have HS : Hid (wr.cell? ⟨b, off + k * 10, none⟩ = some (.int .i64 xg_k) ∧ wr.cell? ⟨b, off + k * 10 + 1, none⟩ = some (.string xg_nm) ∧ wr.cell? ⟨b, off + k * 10 + 2, none⟩ = some (.int .i64 xg_op) ∧ wr.cell? ⟨b, off + k * 10 + 3, none⟩ = some (.slice pv xg_varslength cv) ∧ wr.cell? ⟨b, off + k * 10 + 4, none⟩ = some (.slice pt xg_termslength ct) ∧ wr.cell? ⟨b, off + k * 10 + 5, none⟩ = some (.int .i64 xg_lo) ∧ wr.cell? ⟨b, off + k * 10 + 6, none⟩ = some (.int .i64 xg_hi) ∧ wr.cell? ⟨b, off + k * 10 + 7, none⟩ = some (.bool xg_opn) ∧ wr.cell? ⟨b, off + k * 10 + 8, none⟩ = some (.slice ps xg_subslength cs) ∧ wr.cell? ⟨b, off + k * 10 + 9, none⟩ = some (.slice pr xg_rgxlength cr) ∧ wr.cell? ⟨b', off' + k * 10, none⟩ = some (.int .i64 yg_k) ∧ wr.cell? ⟨b', off' + k * 10 + 1, none⟩ = some (.string yg_nm) ∧ wr.cell? ⟨b', off' + k * 10 + 2, none⟩ = some (.int .i64 yg_op) ∧ wr.cell? ⟨b', off' + k * 10 + 3, none⟩ = some (.slice pv' yg_varslength cv') ∧ wr.cell? ⟨b', off' + k * 10 + 4, none⟩ = some (.slice pt' yg_termslength ct') ∧ wr.cell? ⟨b', off' + k * 10 + 5, none⟩ = some (.int .i64 yg_lo) ∧ wr.cell? ⟨b', off' + k * 10 + 6, none⟩ = some (.int .i64 yg_hi) ∧ wr.cell? ⟨b', off' + k * 10 + 7, none⟩ = some (.bool yg_opn) ∧ wr.cell? ⟨b', off' + k * 10 + 8, none⟩ = some (.slice ps' yg_subslength cs') ∧ wr.cell? ⟨b', off' + k * 10 + 9, none⟩ = some (.slice pr' yg_rgxlength cr')) := ⟨a0, a1, a2, a3, a4, a5, a6, a7, a8, a9, b0, b1, b2, b3, b4, b5, b6, b7, b8, b9⟩
    go_region_held3 (fun W => W.cell? ⟨b, off + k * 10, none⟩ = some (.int .i64 xg_k) ∧ W.cell? ⟨b, off + k * 10 + 1, none⟩ = some (.string xg_nm) ∧ W.cell? ⟨b, off + k * 10 + 2, none⟩ = some (.int .i64 xg_op) ∧ W.cell? ⟨b, off + k * 10 + 3, none⟩ = some (.slice pv xg_varslength cv) ∧ W.cell? ⟨b, off + k * 10 + 4, none⟩ = some (.slice pt xg_termslength ct) ∧ W.cell? ⟨b, off + k * 10 + 5, none⟩ = some (.int .i64 xg_lo) ∧ W.cell? ⟨b, off + k * 10 + 6, none⟩ = some (.int .i64 xg_hi) ∧ W.cell? ⟨b, off + k * 10 + 7, none⟩ = some (.bool xg_opn) ∧ W.cell? ⟨b, off + k * 10 + 8, none⟩ = some (.slice ps xg_subslength cs) ∧ W.cell? ⟨b, off + k * 10 + 9, none⟩ = some (.slice pr xg_rgxlength cr) ∧ W.cell? ⟨b', off' + k * 10, none⟩ = some (.int .i64 yg_k) ∧ W.cell? ⟨b', off' + k * 10 + 1, none⟩ = some (.string yg_nm) ∧ W.cell? ⟨b', off' + k * 10 + 2, none⟩ = some (.int .i64 yg_op) ∧ W.cell? ⟨b', off' + k * 10 + 3, none⟩ = some (.slice pv' yg_varslength cv') ∧ W.cell? ⟨b', off' + k * 10 + 4, none⟩ = some (.slice pt' yg_termslength ct') ∧ W.cell? ⟨b', off' + k * 10 + 5, none⟩ = some (.int .i64 yg_lo) ∧ W.cell? ⟨b', off' + k * 10 + 6, none⟩ = some (.int .i64 yg_hi) ∧ W.cell? ⟨b', off' + k * 10 + 7, none⟩ = some (.bool yg_opn) ∧ W.cell? ⟨b', off' + k * 10 + 8, none⟩ = some (.slice ps' yg_subslength cs') ∧ W.cell? ⟨b', off' + k * 10 + 9, none⟩ = some (.slice pr' yg_rgxlength cr'))
      (exact keepc10 (by go_grown) hbr hbr' HS.out)
      (first
        | (go_at_call 10; refine (cCT.out _ (hB.trans (by go_grown))).mono ?_; rintro e v1 ⟨rfl, hb1⟩; obtain ⟨hX1, hn1⟩ := bgX (n := wr.heap.size) (W0 := wr) (by go_grown) (by go_size) hb1; clear hb1))
    have hB2 : Hid (Below w.heap.size w v1) := hB.trans (hX1.mono hsz)
    clear a0 a1 a2 a3 a4 a5 a6 a7 a8 a9 b0 b1 b2 b3 b4 b5 b6 b7 b8 b9 cCT hX1 hn1
    cases C with
    | true =>
      have hr3 : Hid (sameFs xs ys = sameFs (xs.drop (k + 1)) (ys.drop (k + 1))) := by have := hr2.out; rwa [Bool.true_and] at this
      go_wp2
      exact ⟨⟨k + 1, by omega, by go_num, hr3, hB2.out⟩, by simp [intOf]; omega⟩
    | false =>
      have hr3 : Hid (sameFs xs ys = false) := by have := hr2.out; rwa [Bool.false_and] at this
      go_wp2
      go_ret
      exact ⟨ret_bool hr3.out.symm, hB2.out⟩

theorem keepR {W0 W : World} {a a' : Addr} {u v : Value} (h : Below W0.heap.size W0 W) (hx : a.block < W0.heap.size) (hy : a'.block < W0.heap.size) (hs : W0.cell? a = some u ∧ W0.cell? a' = some v) : W.cell? a = some u ∧ W.cell? a' = some v := ⟨bclL h hs.1 hx, bclL h hs.2 hy⟩
set_option maxRecDepth 100000 in
set_option maxHeartbeats 8000000 in
theorem rsameRs_step (A B : Value) (xs ys : List Rx) (w : World) (hA : RxsAt w A xs) (hB : RxsAt w B ys) (HF : ∀ i (hi : i < xs.length) (hi' : i < ys.length) (u u' : Value) (W : World), FmsAt w u xs[i].test → FmsAt w u' ys[i].test → Below w.heap.size w W → Calls Tryz.prog 35 #[u, u'] W fun e w' => e = .returned (.bool (sameFs xs[i].test ys[i].test)) ∧ Below W.heap.size W w') (HR : ∀ i (hi : i < xs.length) (hi' : i < ys.length) (u u' : Value) (W : World), RxsAt w u xs[i].subs → RxsAt w u' ys[i].subs → Below w.heap.size w W → Calls Tryz.prog 34 #[u, u'] W fun e w' => e = .returned (.bool (sameRs xs[i].subs ys[i].subs)) ∧ Below W.heap.size W w') :
    Calls Tryz.prog 34 #[A, B] w fun e w' => e = .returned (.bool (sameRs xs ys)) ∧ Below w.heap.size w w' := by
  obtain ⟨p, c, rfl, lx, hc, HX0⟩ := hA.form
  obtain ⟨p', c', rfl, ly, hc', HY0⟩ := hB.form
  by_cases hl : xs.length = ys.length
  case neg =>
    have h2 : ((xs.length : Int) == ys.length) = false := by simp; omega
    have HS : Hid (sameRs xs ys = false) := sameRs_len hl
    clear HX0 HY0 hA hB HF HR
    generalize xs.length = n at *
    generalize ys.length = m at *
    go_enter Tryz.func34, Tryz.ntmps34
    go_wp2
    go_ret
    exact ⟨ret_bool HS.out.symm, by go_grown⟩
  have HX : Hid (∀ i (hi : i < xs.length), ∃ b off ut us, p = some ⟨b, off, none⟩ ∧ b < w.heap.size ∧ RxC w b (off + i * 3) xs[i] ut us ∧ FmsAt w ut xs[i].test ∧ RxsAt w us xs[i].subs) := HX0
  have HY : Hid (∀ i (hi : i < ys.length), ∃ b off ut us, p' = some ⟨b, off, none⟩ ∧ b < w.heap.size ∧ RxC w b (off + i * 3) ys[i] ut us ∧ FmsAt w ut ys[i].test ∧ RxsAt w us ys[i].subs) := HY0
  have HFF : Hid (∀ i (hi : i < xs.length) (hi' : i < ys.length) (u u' : Value) (W : World), FmsAt w u xs[i].test → FmsAt w u' ys[i].test → Below w.heap.size w W → Calls Tryz.prog 35 #[u, u'] W fun e w' => e = .returned (.bool (sameFs xs[i].test ys[i].test)) ∧ Below W.heap.size W w') := HF
  have HRR : Hid (∀ i (hi : i < xs.length) (hi' : i < ys.length) (u u' : Value) (W : World), RxsAt w u xs[i].subs → RxsAt w u' ys[i].subs → Below w.heap.size w W → Calls Tryz.prog 34 #[u, u'] W fun e w' => e = .returned (.bool (sameRs xs[i].subs ys[i].subs)) ∧ Below W.heap.size W w') := HR
  obtain ⟨n, en⟩ : ∃ n : Nat, Hid (xs.length = n) := ⟨_, rfl⟩
  have em : Hid (ys.length = n) := hl.symm.trans en.out
  rw [en.out] at lx hc ⊢
  rw [em.out] at hc' ⊢
  clear hA hB hl ly HX0 HY0 HF HR
  go_enter Tryz.func34, Tryz.ntmps34
  go_wp2
  go_loopw [5] (fun i wr => ∃ k : Nat, k ≤ n ∧ i = .int .i64 k ∧ Hid (sameRs xs ys = sameRs (xs.drop k) (ys.drop k)) ∧ Below w.heap.size w wr) (fun i _ => n - (intOf i).toNat)
  case atStart => exact ⟨0, Nat.zero_le _, rfl, (show sameRs xs ys = sameRs (xs.drop 0) (ys.drop 0) by simp), Below.refl _ _⟩
  case round =>
    obtain ⟨k, hk, rfl, hr, hB⟩ := hrel
    have hsz := hB.size
    by_cases hlt : k < n
    case neg =>
      have c2 : ¬ (k : Int) < n := by omega
      have hr3 : Hid (sameRs xs ys = true) := by
        have h := hr.out
        rw [List.drop_eq_nil_of_le (by have := en.out; omega), List.drop_eq_nil_of_le (by have := em.out; omega), sameRs_nil] at h
        exact h
      go_wp2
      go_ret
      exact ⟨ret_bool hr3.out.symm, hB⟩
    have hlt' : (k : Int) < n := by omega
    have kx : k < xs.length := by have := en.out; omega
    have ky : k < ys.length := by have := em.out; omega
    obtain ⟨b, off, ut, us, rfl, hb, TC, TT, TS⟩ := HX.out k kx
    obtain ⟨b', off', ut', us', rfl, hb', TC', TT', TS'⟩ := HY.out k ky
    obtain ⟨a0, a1, a2⟩ := TC.below hB hb
    obtain ⟨b0, b1, b2⟩ := TC'.below hB hb'
    have hbr : b < wr.heap.size := Nat.lt_of_lt_of_le hb hsz
    have hbr' : b' < wr.heap.size := Nat.lt_of_lt_of_le hb' hsz
    have hr2 : Hid (sameRs xs ys = (((xs[k].k == ys[k].k) && (sameFs xs[k].test ys[k].test && sameRs xs[k].subs ys[k].subs)) && sameRs (xs.drop (k + 1)) (ys.drop (k + 1)))) := by
      have h := hr.out
      rw [List.drop_eq_getElem_cons kx, List.drop_eq_getElem_cons ky, sameRs_cons, sameR_eq] at h
      exact h
    have cF : Hid (∀ W : World, Below w.heap.size w W → Calls Tryz.prog 35 #[ut, ut'] W fun e w' => e = .returned (.bool (sameFs xs[k].test ys[k].test)) ∧ Below W.heap.size W w') := fun W hW => HFF.out k kx ky ut ut' W TT TT' hW
    have cR : Hid (∀ W : World, Below w.heap.size w W → Calls Tryz.prog 34 #[us, us'] W fun e w' => e = .returned (.bool (sameRs xs[k].subs ys[k].subs)) ∧ Below W.heap.size W w') := fun W hW => HRR.out k kx ky us us' W TS TS' hW
    clear hr TC TC'
    obtain ⟨pt, ct, rfl, -⟩ := TT.form
    obtain ⟨ps, cs, rfl, -⟩ := TS.form
    obtain ⟨pt', ct', rfl, -⟩ := TT'.form
    obtain ⟨ps', cs', rfl, -⟩ := TS'.form
    clear TT TS TT' TS'
    generalize sameFs xs[k].test ys[k].test = C at *
    generalize sameRs xs[k].subs ys[k].subs = D at *
    generalize xs[k].k = xk at *
    generalize ys[k].k = yk at *
    generalize xs[k].test.length = nt at *
    generalize ys[k].test.length = nt' at *
    generalize xs[k].subs.length = ns at *
    generalize ys[k].subs.length = ns' at *
    go_upto_region 6 with fail
    have HS : Hid (wr.cell? ⟨b, off + k * 3 + 1, none⟩ = some (.slice pt nt ct) ∧ wr.cell? ⟨b', off' + k * 3 + 1, none⟩ = some (.slice pt' nt' ct')) := ⟨a1, b1⟩
    go_region_held3 (fun W => W.cell? ⟨b, off + k * 3 + 1, none⟩ = some (.slice pt nt ct) ∧ W.cell? ⟨b', off' + k * 3 + 1, none⟩ = some (.slice pt' nt' ct'))
      (exact keepR (by go_grown) hbr hbr' HS.out)
      (first
        | (go_at_call 35; refine (cF.out _ (hB.trans (by go_grown))).mono ?_; rintro e v1 ⟨rfl, hv1⟩; obtain ⟨hX1, hn1⟩ := bgX (n := wr.heap.size) (W0 := wr) (by go_grown) (by go_size) hv1; clear hv1))
    have hB1 : Below w.heap.size w v1 := hB.trans (hX1.mono hsz)
    have hsz1 := hB1.size
    have a0' : v1.cell? ⟨b, off + k * 3, none⟩ = some (.int .i64 xk) := bclL hX1 a0 hbr
    have b0' : v1.cell? ⟨b', off' + k * 3, none⟩ = some (.int .i64 yk) := bclL hX1 b0 hbr'
    have a2' : v1.cell? ⟨b, off + k * 3 + 2, none⟩ = some (.slice ps ns cs) := bclL hX1 a2 hbr
    have b2' : v1.cell? ⟨b', off' + k * 3 + 2, none⟩ = some (.slice ps' ns' cs') := bclL hX1 b2 hbr'
    have hb1 : b < v1.heap.size := by omega
    have hb1' : b' < v1.heap.size := by omega
    clear a0 a1 a2 b0 b1 b2 HS hX1 cF hB
    go_upto_region 7 with fail
    have HS : Hid (v1.cell? ⟨b, off + k * 3 + 2, none⟩ = some (.slice ps ns cs) ∧ v1.cell? ⟨b', off' + k * 3 + 2, none⟩ = some (.slice ps' ns' cs')) := ⟨a2', b2'⟩
    go_region_held3 (fun W => W.cell? ⟨b, off + k * 3 + 2, none⟩ = some (.slice ps ns cs) ∧ W.cell? ⟨b', off' + k * 3 + 2, none⟩ = some (.slice ps' ns' cs'))
      (exact keepR (by go_grown) hb1 hb1' HS.out)
      (first
        | (go_at_call 34; refine (cR.out _ (hB1.trans (by go_grown))).mono ?_; rintro e v2 ⟨rfl, hv2⟩; obtain ⟨hX2, hn2⟩ := bgX (n := v1.heap.size) (W0 := v1) (by go_grown) (by go_size) hv2; clear hv2))
    have hB2 : Below w.heap.size w v2 := hB1.trans (hX2.mono hsz1)
    have a0 : v2.cell? ⟨b, off + k * 3, none⟩ = some (.int .i64 xk) := bclL hX2 a0' hb1
    have b0 : v2.cell? ⟨b', off' + k * 3, none⟩ = some (.int .i64 yk) := bclL hX2 b0' hb1'
    clear a0' b0' a2' b2' HS hX2 cR hB1
    go_upto_region 8 with fail
    by_cases hk1 : (xk == yk) = true
    case neg =>
      have hk1' : (xk == yk) = false := by simpa using hk1
      have hne : (xk != yk) = true := by simp [bne, hk1']
      have hr3 : Hid (sameRs xs ys = false) := by have h := hr2.out; rw [hk1'] at h; simp at h; exact h
      clear hk1 hr2
      go_quiet (fail)
      go_wp2
      go_ret
      exact ⟨ret_bool hr3.out.symm, bdrewA _ hB2⟩
    have hne : (xk != yk) = false := by simp [bne, hk1]
    cases C with
    | false =>
      have hr3 : Hid (sameRs xs ys = false) := by have h := hr2.out; simp at h; exact h
      clear hr2
      go_quiet (fail)
      go_wp2
      go_ret
      exact ⟨ret_bool hr3.out.symm, bdrewA _ hB2⟩
    | true =>
      cases D with
      | false =>
        have hr3 : Hid (sameRs xs ys = false) := by have h := hr2.out; simp at h; exact h
        clear hr2
        go_quiet (fail)
        go_wp2
        go_ret
        exact ⟨ret_bool hr3.out.symm, bdrewA _ hB2⟩
      | true =>
        have hr3 : Hid (sameRs xs ys = sameRs (xs.drop (k + 1)) (ys.drop (k + 1))) := by have h := hr2.out; rw [hk1] at h; simp only [Bool.true_and] at h; exact h
        clear hr2
        go_quiet (fail)
        go_wp2
        exact ⟨⟨k + 1, by omega, by go_num, hr3, bdrewA _ hB2⟩, by simp [intOf]; omega⟩

set_option maxRecDepth 100000 in
set_option maxHeartbeats 8000000 in
theorem rsamef_step (x y : Fm) (q q' : FQ) (w : World) (hq : QAt w (x, q)) (hq' : QAt w (y, q')) (IF : ∀ W : World, Below w.heap.size w W → Calls Tryz.prog 35 #[q.s, q'.s] W fun e w' => e = .returned (.bool (sameFs x.subs y.subs)) ∧ Below W.heap.size W w') (IR : ∀ W : World, Below w.heap.size w W → Calls Tryz.prog 34 #[q.r, q'.r] W fun e w' => e = .returned (.bool (sameRs x.rgx y.rgx)) ∧ Below W.heap.size W w') :
    Calls Tryz.prog 10 #[.agg #[.int .i64 x.k, .string x.nm, .int .i64 x.op, q.v, q.t, .int .i64 x.lo, .int .i64 x.hi, .bool x.opn, q.s, q.r], .agg #[.int .i64 y.k, .string y.nm, .int .i64 y.op, q'.v, q'.t, .int .i64 y.lo, .int .i64 y.hi, .bool y.opn, q'.s, q'.r]] w fun e w' => e = .returned (.bool (sameF x y)) ∧ Below w.heap.size w w' := by
  have cV : Hid (∀ W : World, Below w.heap.size w W → Calls Tryz.prog 32 #[q.v, q'.v] W fun e w' => e = .returned (.bool (decide (x.vars = y.vars))) ∧ Below W.heap.size W w') := fun W hW => rnms_any _ _ _ _ W (hq.1.below hW) (hq'.1.below hW)
  have cT : Hid (∀ W : World, Below w.heap.size w W → Calls Tryz.prog 33 #[q.t, q'.t] W fun e w' => e = .returned (.bool (sameTs x.terms y.terms)) ∧ Below W.heap.size W w') := fun W hW => rsame_tms _ _ _ _ _ W (Nat.le_refl _) (hq.2.1.bel hW) (hq'.2.1.bel hW)
  have cR : Hid (∀ W : World, Below w.heap.size w W → Calls Tryz.prog 34 #[q.r, q'.r] W fun e w' => e = .returned (.bool (sameRs x.rgx y.rgx)) ∧ Below W.heap.size W w') := IR
  have cF : Hid (∀ W : World, Below w.heap.size w W → Calls Tryz.prog 35 #[q.s, q'.s] W fun e w' => e = .returned (.bool (sameFs x.subs y.subs)) ∧ Below W.heap.size W w') := IF
  have hE : Hid (sameF x y = ((x.k == y.k) && ((x.nm.toList == y.nm.toList) && ((x.op == y.op) && (((x.lo == y.lo) && ((x.hi == y.hi) && (x.opn == y.opn))) && (decide (x.vars = y.vars) && (sameTs x.terms y.terms && (sameRs x.rgx y.rgx && sameFs x.subs y.subs)))))))) := sameF_eq x y
  obtain ⟨uv, ut, us, ur⟩ := q
  obtain ⟨uv', ut', us', ur'⟩ := q'
  obtain ⟨h1, h2, h3, h4⟩ := hq
  obtain ⟨h1', h2', h3', h4'⟩ := hq'
  dsimp only at h1 h2 h3 h4 h1' h2' h3' h4' cV cT cR cF ⊢
  obtain ⟨-, pv, cv, rfl, -⟩ := h1
  obtain ⟨pt, ct, rfl, -⟩ := h2.form
  obtain ⟨ps, cs, rfl, -⟩ := h3.form
  obtain ⟨pr, cr, rfl, -⟩ := h4.form
  obtain ⟨-, pv', cv', rfl, -⟩ := h1'
  obtain ⟨pt', ct', rfl, -⟩ := h2'.form
  obtain ⟨ps', cs', rfl, -⟩ := h3'.form
  obtain ⟨pr', cr', rfl, -⟩ := h4'.form
  clear h2 h3 h4 h2' h3' h4' IF IR
  generalize sameF x y = R at *
  generalize sameFs x.subs y.subs = C4 at *
  generalize sameRs x.rgx y.rgx = C3 at *
  generalize sameTs x.terms y.terms = C2 at *
  generalize decide (x.vars = y.vars) = C1 at *
  generalize x.vars.length = nv at *
  generalize y.vars.length = nv' at *
  generalize x.terms.length = nt at *
  generalize y.terms.length = nt' at *
  generalize x.subs.length = ns at *
  generalize y.subs.length = ns' at *
  generalize x.rgx.length = nr at *
  generalize y.rgx.length = nr' at *
  generalize x.lo = lo at *
  generalize y.lo = lo' at *
  generalize x.hi = hi at *
  generalize y.hi = hi' at *
  generalize x.nm = nm at *
  generalize y.nm = nm' at *
  generalize x.opn = o at *
  generalize y.opn = o' at *
  generalize x.op = op at *
  generalize y.op = op' at *
  generalize x.k = k at *
  generalize y.k = k' at *
  by_cases h1 : (k == k') = true
  case neg =>
    have hf : (k == k') = false := by simpa using h1
    have hR : Hid (R = false) := by have h := hE.out; rw [hf] at h; simp at h; exact h
    have hne : (k != k') = true := by simp [bne, hf]
    clear h1
    go_enter Tryz.func10, Tryz.ntmps10
    go_wp2
    all_goals (go_ret; exact ⟨ret_bool hR.out.symm, by go_grown⟩)
  have n1 : (k != k') = false := by simp [bne, h1]
  by_cases h2 : (nm.toList == nm'.toList) = true
  case neg =>
    have hf : (nm.toList == nm'.toList) = false := by simpa using h2
    have hR : Hid (R = false) := by have h := hE.out; rw [hf] at h; simp at h; exact h
    have hne : (!nm.toList == nm'.toList) = true := by simp [hf]
    clear h2
    go_enter Tryz.func10, Tryz.ntmps10
    go_wp2
    all_goals (go_ret; exact ⟨ret_bool hR.out.symm, by go_grown⟩)
  have n2 : (!nm.toList == nm'.toList) = false := by simp [h2]
  by_cases h3 : (op == op') = true
  case neg =>
    have hf : (op == op') = false := by simpa using h3
    have hR : Hid (R = false) := by have h := hE.out; rw [hf] at h; simp at h; exact h
    have hne : (op != op') = true := by simp [bne, hf]
    clear h3
    go_enter Tryz.func10, Tryz.ntmps10
    go_wp2
    all_goals (go_ret; exact ⟨ret_bool hR.out.symm, by go_grown⟩)
  have n3 : (op != op') = false := by simp [bne, h3]
  by_cases h4l : lo = lo'
  case neg =>
    have hf : (lo == lo') = false := by simpa using h4l
    have hR : Hid (R = false) := by have h := hE.out; rw [hf] at h; simp at h; exact h
    go_enter Tryz.func10, Tryz.ntmps10
    go_wp2
    all_goals (go_ret; exact ⟨ret_bool hR.out.symm, by go_grown⟩)
  subst h4l
  by_cases h4h : hi = hi'
  case neg =>
    have hf : (hi == hi') = false := by simpa using h4h
    have hR : Hid (R = false) := by have h := hE.out; rw [hf] at h; simp at h; exact h
    go_enter Tryz.func10, Tryz.ntmps10
    go_wp2
    all_goals (go_ret; exact ⟨ret_bool hR.out.symm, by go_grown⟩)
  subst h4h
  by_cases h4o : o = o'
  case neg =>
    have hf : (o == o') = false := by simpa using h4o
    have hR : Hid (R = false) := by have h := hE.out; rw [hf] at h; simp at h; exact h
    go_enter Tryz.func10, Tryz.ntmps10
    go_wp2
    all_goals (go_ret; exact ⟨ret_bool hR.out.symm, by go_grown⟩)
  subst h4o
  have hR0 : Hid (R = (C1 && (C2 && (C3 && C4)))) := by have h := hE.out; rw [h1, h2, h3] at h; simp only [beq_self_eq_true, Bool.true_and] at h; exact h
  clear hE
  go_enter Tryz.func10, Tryz.ntmps10
  go_wp2_with fail
  refine (cV.out _ (by go_grown)).mono ?_
  rintro e w1 ⟨rfl, hw1⟩
  obtain ⟨hB1, hn1⟩ := bgX (n := w.heap.size) (W0 := w) (by go_grown) (by go_size) hw1
  have hz1 : w.heap.size + 1 < w1.heap.size := by have := hw1.size; simp at this; omega
  have e4 : w1.cell? ⟨w.heap.size, 4, none⟩ = some (.slice pt nt ct) := (hw1.cell (p := ⟨w.heap.size, 4, none⟩) (by first | (simp; done) | (simp; omega))).trans (by simp [go_sem])
  have g4 : w1.cell? ⟨w.heap.size + 1, 4, none⟩ = some (.slice pt' nt' ct') := (hw1.cell (p := ⟨w.heap.size + 1, 4, none⟩) (by first | (simp; done) | (simp; omega))).trans (by simp [go_sem])
  have e9 : w1.cell? ⟨w.heap.size, 9, none⟩ = some (.slice pr nr cr) := (hw1.cell (p := ⟨w.heap.size, 9, none⟩) (by first | (simp; done) | (simp; omega))).trans (by simp [go_sem])
  have g9 : w1.cell? ⟨w.heap.size + 1, 9, none⟩ = some (.slice pr' nr' cr') := (hw1.cell (p := ⟨w.heap.size + 1, 9, none⟩) (by first | (simp; done) | (simp; omega))).trans (by simp [go_sem])
  have e8 : w1.cell? ⟨w.heap.size, 8, none⟩ = some (.slice ps ns cs) := (hw1.cell (p := ⟨w.heap.size, 8, none⟩) (by first | (simp; done) | (simp; omega))).trans (by simp [go_sem])
  have g8 : w1.cell? ⟨w.heap.size + 1, 8, none⟩ = some (.slice ps' ns' cs') := (hw1.cell (p := ⟨w.heap.size + 1, 8, none⟩) (by first | (simp; done) | (simp; omega))).trans (by simp [go_sem])
  clear hw1 cV
  go_wp2_with fail
  refine (cT.out _ hB1).mono ?_
  rintro e w2 ⟨rfl, hw2⟩
  have hB2 : Below w.heap.size w w2 := hB1.trans (hw2.mono hn1)
  have hn2 : w.heap.size ≤ w2.heap.size := hB2.size
  have hz2 : w.heap.size + 1 < w2.heap.size := Nat.lt_of_lt_of_le hz1 hw2.size
  have e9 : w2.cell? ⟨w.heap.size, 9, none⟩ = some (.slice pr nr cr) := (hw2.cell (p := ⟨w.heap.size, 9, none⟩) (by show w.heap.size < _; omega)).trans (e9)
  have g9 : w2.cell? ⟨w.heap.size + 1, 9, none⟩ = some (.slice pr' nr' cr') := (hw2.cell (p := ⟨w.heap.size + 1, 9, none⟩) (by show w.heap.size + 1 < _; omega)).trans (g9)
  have e8 : w2.cell? ⟨w.heap.size, 8, none⟩ = some (.slice ps ns cs) := (hw2.cell (p := ⟨w.heap.size, 8, none⟩) (by show w.heap.size < _; omega)).trans (e8)
  have g8 : w2.cell? ⟨w.heap.size + 1, 8, none⟩ = some (.slice ps' ns' cs') := (hw2.cell (p := ⟨w.heap.size + 1, 8, none⟩) (by show w.heap.size + 1 < _; omega)).trans (g8)
  clear hw2 cT
  go_wp2_with fail
  refine (cR.out _ hB2).mono ?_
  rintro e w3 ⟨rfl, hw3⟩
  have hB3 : Below w.heap.size w w3 := hB2.trans (hw3.mono hn2)
  have hn3 : w.heap.size ≤ w3.heap.size := hB3.size
  have hz3 : w.heap.size + 1 < w3.heap.size := Nat.lt_of_lt_of_le hz2 hw3.size
  have e8 : w3.cell? ⟨w.heap.size, 8, none⟩ = some (.slice ps ns cs) := (hw3.cell (p := ⟨w.heap.size, 8, none⟩) (by show w.heap.size < _; omega)).trans (e8)
  have g8 : w3.cell? ⟨w.heap.size + 1, 8, none⟩ = some (.slice ps' ns' cs') := (hw3.cell (p := ⟨w.heap.size + 1, 8, none⟩) (by show w.heap.size + 1 < _; omega)).trans (g8)
  clear hw3 cR e4 g4 e9 g9
  cases C1 with
  | false =>
    have hR : Hid (R = false) := by have h := hR0.out; simp at h; exact h
    go_wp2
    go_ret
    exact ⟨ret_bool hR.out.symm, hB3⟩
  | true =>
  cases C2 with
  | false =>
    have hR : Hid (R = false) := by have h := hR0.out; simp at h; exact h
    go_wp2
    go_ret
    exact ⟨ret_bool hR.out.symm, hB3⟩
  | true =>
  cases C3 with
  | false =>
    have hR : Hid (R = false) := by have h := hR0.out; simp at h; exact h
    go_wp2
    go_ret
    exact ⟨ret_bool hR.out.symm, hB3⟩
  | true =>
    have hR : Hid (R = C4) := by have h := hR0.out; simp at h; exact h
    go_wp2_with fail
    refine (cF.out _ hB3).mono ?_
    rintro e w4 ⟨rfl, hw4⟩
    have hB4 : Below w.heap.size w w4 := hB3.trans (hw4.mono hn3)
    clear hw4 cF e8 g8
    cases C4 with
    | false =>
      go_wp2
      go_ret
      exact ⟨ret_bool hR.out.symm, hB4⟩
    | true =>
      go_wp2
      go_ret
      exact ⟨ret_bool hR.out.symm, hB4⟩

theorem both_rsame : ∀ m : Nat, (∀ (xs ys : List Fm) (A B : Value) (w : World), SizeOf.sizeOf xs ≤ m → FmsAt w A xs → FmsAt w B ys → Calls Tryz.prog 35 #[A, B] w fun e w' => e = .returned (.bool (sameFs xs ys)) ∧ Below w.heap.size w w') ∧ (∀ (xs ys : List Rx) (A B : Value) (w : World), SizeOf.sizeOf xs ≤ m → RxsAt w A xs → RxsAt w B ys → Calls Tryz.prog 34 #[A, B] w fun e w' => e = .returned (.bool (sameRs xs ys)) ∧ Below w.heap.size w w') := by
  intro m
  induction m with
  | zero => exact ⟨fun xs ys A B w hm => by cases xs <;> simp at hm, fun xs ys A B w hm => by cases xs <;> simp at hm⟩
  | succ m ih =>
    refine ⟨fun xs ys A B w hm hA hB => rsameFs_step A B xs ys w hA hB fun i hi hi' q q' W h1 h2 hW => ?_, fun xs ys A B w hm hA hB => rsameRs_step A B xs ys w hA hB (fun i hi hi' u u' W h1 h2 hW => ?_) (fun i hi hi' u u' W h1 h2 hW => ?_)⟩
    · have s := mem_lt i hi
      have k1 := h1.below hW
      have k2 := h2.below hW
      exact rsamef_step xs[i] ys[i] q q' W k1 k2 (fun W' hW' => ih.1 _ _ _ _ W' (by have := Fm.subs_lt xs[i]; omega) (k1.2.2.1.bel hW') (k2.2.2.1.bel hW')) (fun W' hW' => ih.2 _ _ _ _ W' (by have := Fm.rgx_lt xs[i]; omega) (k1.2.2.2.bel hW') (k2.2.2.2.bel hW'))
    · have s := mem_lt i hi
      exact ih.1 _ _ _ _ W (by have := Rx.test_lt xs[i]; omega) (h1.bel hW) (h2.bel hW)
    · have s := mem_lt i hi
      exact ih.2 _ _ _ _ W (by have := Rx.subs_lt xs[i]; omega) (h1.bel hW) (h2.bel hW)
/-- The document's Same, at any two formulas. -/
theorem rsame_fm (x y : Fm) (q q' : FQ) (w : World) (hq : QAt w (x, q)) (hq' : QAt w (y, q')) :
    Calls Tryz.prog 10 #[.agg #[.int .i64 x.k, .string x.nm, .int .i64 x.op, q.v, q.t, .int .i64 x.lo, .int .i64 x.hi, .bool x.opn, q.s, q.r], .agg #[.int .i64 y.k, .string y.nm, .int .i64 y.op, q'.v, q'.t, .int .i64 y.lo, .int .i64 y.hi, .bool y.opn, q'.s, q'.r]] w fun e w' => e = .returned (.bool (sameF x y)) ∧ Below w.heap.size w w' :=
  rsamef_step x y q q' w hq hq' (fun W hW => (both_rsame _).1 _ _ _ _ W (Nat.le_refl _) (hq.2.2.1.bel hW) (hq'.2.2.1.bel hW)) (fun W hW => (both_rsame _).2 _ _ _ _ W (Nat.le_refl _) (hq.2.2.2.bel hW) (hq'.2.2.2.bel hW))

end Go.Proofs.YtfajjphfjilpnaaGreat

namespace Go.Proofs.YtfajjphfjilpnaaGreat
open Go.RowKit LX Go.Shelf
set_option linter.unusedVariables false

theorem beqI (a b : Int) : (a == b) = (b == a) := by
  rw [Bool.eq_iff_iff, beq_iff_eq, beq_iff_eq]
  exact eq_comm
theorem beqL (a b : List UInt8) : (a == b) = (b == a) := by
  rw [Bool.eq_iff_iff, beq_iff_eq, beq_iff_eq]
  exact eq_comm
theorem beqB (a b : Bool) : (a == b) = (b == a) := by cases a <;> cases b <;> rfl
theorem same_val_comm (x y : Val) : x.same y = y.same x := by
  unfold Val.same sameB
  rw [beqI x.k, beqI x.n, beqI x.d, beqL x.s.toList]
theorem same_val_refl (x : Val) : x.same x = true := by
  unfold Val.same sameB
  simp
theorem tms_sym : ∀ (m : Nat) (xs ys : List Tm), SizeOf.sizeOf xs ≤ m → sameTs xs ys = sameTs ys xs ∧ sameTs xs xs = true := by
  intro m
  induction m with
  | zero => intro xs ys hm; cases xs <;> simp at hm
  | succ m ih =>
    intro xs ys hm
    cases xs with
    | nil => cases ys with
      | nil => exact ⟨rfl, sameTs_nil⟩
      | cons y ys => exact ⟨by rw [sameTs_len (by simp), sameTs_len (by simp)], sameTs_nil⟩
    | cons x xs =>
      have s1 : SizeOf.sizeOf xs ≤ m := by simp at hm; omega
      have s2 : SizeOf.sizeOf x.subs ≤ m := by have := Tm.subs_lt x; simp at hm; omega
      refine ⟨?_, ?_⟩
      · cases ys with
        | nil => rw [sameTs_len (by simp), sameTs_len (by simp)]
        | cons y ys =>
          rw [sameTs_cons, sameTs_cons, sameT_eq, sameT_eq, (ih xs ys s1).1, (ih x.subs y.subs s2).1, same_val_comm, beqI x.k, beqL x.nm.toList]
      · rw [sameTs_cons, sameT_eq, (ih xs xs s1).2, (ih x.subs x.subs s2).2, same_val_refl]
        simp
theorem both_sym : ∀ m : Nat, (∀ xs ys : List Fm, SizeOf.sizeOf xs ≤ m → sameFs xs ys = sameFs ys xs ∧ sameFs xs xs = true) ∧ (∀ xs ys : List Rx, SizeOf.sizeOf xs ≤ m → sameRs xs ys = sameRs ys xs ∧ sameRs xs xs = true) := by
  intro m
  induction m with
  | zero => exact ⟨fun xs ys hm => by cases xs <;> simp at hm, fun xs ys hm => by cases xs <;> simp at hm⟩
  | succ m ih =>
    constructor
    · intro xs ys hm
      cases xs with
      | nil => cases ys with
        | nil => exact ⟨rfl, sameFs_nil⟩
        | cons y ys => exact ⟨by rw [sameFs_len (by simp), sameFs_len (by simp)], sameFs_nil⟩
      | cons x xs =>
        have s1 : SizeOf.sizeOf xs ≤ m := by simp at hm; omega
        have s2 : SizeOf.sizeOf x.subs ≤ m := by have := Fm.subs_lt x; simp at hm; omega
        have s3 : SizeOf.sizeOf x.rgx ≤ m := by have := Fm.rgx_lt x; simp at hm; omega
        refine ⟨?_, ?_⟩
        · cases ys with
          | nil => rw [sameFs_len (by simp), sameFs_len (by simp)]
          | cons y ys =>
            rw [sameFs_cons, sameFs_cons, sameF_eq, sameF_eq, (ih.1 xs ys s1).1, (ih.1 x.subs y.subs s2).1, (ih.2 x.rgx y.rgx s3).1, (tms_sym _ x.terms y.terms (Nat.le_refl _)).1, beqI x.k, beqL x.nm.toList, beqI x.op, beqI x.lo, beqI x.hi, beqB x.opn]
            rw [show decide (x.vars = y.vars) = decide (y.vars = x.vars) by rw [decide_eq_decide]; exact eq_comm]
        · rw [sameFs_cons, sameF_eq, (ih.1 xs xs s1).2, (ih.1 x.subs x.subs s2).2, (ih.2 x.rgx x.rgx s3).2, (tms_sym _ x.terms x.terms (Nat.le_refl _)).2]
          simp
    · intro xs ys hm
      cases xs with
      | nil => cases ys with
        | nil => exact ⟨rfl, sameRs_nil⟩
        | cons y ys => exact ⟨by rw [sameRs_len (by simp), sameRs_len (by simp)], sameRs_nil⟩
      | cons x xs =>
        have s1 : SizeOf.sizeOf xs ≤ m := by simp at hm; omega
        have s2 : SizeOf.sizeOf x.subs ≤ m := by have := Rx.subs_lt x; simp at hm; omega
        have s3 : SizeOf.sizeOf x.test ≤ m := by have := Rx.test_lt x; simp at hm; omega
        refine ⟨?_, ?_⟩
        · cases ys with
          | nil => rw [sameRs_len (by simp), sameRs_len (by simp)]
          | cons y ys => rw [sameRs_cons, sameRs_cons, sameR_eq, sameR_eq, (ih.2 xs ys s1).1, (ih.2 x.subs y.subs s2).1, (ih.1 x.test y.test s3).1, beqI x.k]
        · rw [sameRs_cons, sameR_eq, (ih.2 xs xs s1).2, (ih.2 x.subs x.subs s2).2, (ih.1 x.test x.test s3).2]
          simp
theorem sameF_refl (x : Fm) : sameF x x = true := by
  rw [sameF_eq, ((both_sym _).1 x.subs x.subs (Nat.le_refl _)).2, ((both_sym _).2 x.rgx x.rgx (Nat.le_refl _)).2, (tms_sym _ x.terms x.terms (Nat.le_refl _)).2]
  simp

end Go.Proofs.YtfajjphfjilpnaaGreat

namespace Go.Proofs.YtfajjphfjilpnaaGreat
open Go.RowKit LX Go.Shelf
set_option linter.unusedVariables false

set_option maxRecDepth 100000 in
set_option maxHeartbeats 8000000 in
theorem achecks_any (f : Fm) (y : FQ) (w : World) (hQ : QAt w (f, y)) (hlg : lgF f) : Calls Tryz.prog 3 #[.agg #[.int .i64 f.k, .string f.nm, .int .i64 f.op, y.v, y.t, .int .i64 f.lo, .int .i64 f.hi, .bool f.opn, y.s, y.r]] w fun e w' => e = .returned (.bool true) ∧ Below w.heap.size w w' := by
  have cL : Hid (∀ W : World, Below w.heap.size w W → Calls Tryz.prog 7 #[.agg #[.int .i64 f.k, .string f.nm, .int .i64 f.op, y.v, y.t, .int .i64 f.lo, .int .i64 f.hi, .bool f.opn, y.s, y.r]] W (ClF W f)) := fun W hW => clone_fm f y W (hQ.below hW) hlg
  have c1 : Hid (∀ W : World, Below w.heap.size w W → Calls Tryz.prog 8 #[.agg #[.int .i64 f.k, .string f.nm, .int .i64 f.op, y.v, y.t, .int .i64 f.lo, .int .i64 f.hi, .bool f.opn, y.s, y.r]] W fun e w' => e = .returned (.int .i64 (chkF f)) ∧ Below W.heap.size W w') := fun W hW => check_fm f y W (hQ.below hW)
  have c2 : Hid (∀ W : World, Below w.heap.size w W → Calls Tryz.prog 9 #[.agg #[.int .i64 f.k, .string f.nm, .int .i64 f.op, y.v, y.t, .int .i64 f.lo, .int .i64 f.hi, .bool f.opn, y.s, y.r]] W fun e w' => e = .returned (.int .i64 (chkF f)) ∧ Below W.heap.size W w') := fun W hW => rcheck_fm f y W (hQ.below hW)
  have cS : Hid (∀ (W : World) (z : FQ), Below w.heap.size w W → QAt W (f, z) → Calls Tryz.prog 10 #[.agg #[.int .i64 f.k, .string f.nm, .int .i64 f.op, y.v, y.t, .int .i64 f.lo, .int .i64 f.hi, .bool f.opn, y.s, y.r], .agg #[.int .i64 f.k, .string f.nm, .int .i64 f.op, z.v, z.t, .int .i64 f.lo, .int .i64 f.hi, .bool f.opn, z.s, z.r]] W fun e w' => e = .returned (.bool true) ∧ Below W.heap.size W w') := fun W z hW hz => by
    have h := rsame_fm f f y z W (hQ.below hW) hz
    rw [sameF_refl] at h
    exact h
  generalize chkF f = CK at *
  obtain ⟨uv, ut, us, ur⟩ := y
  obtain ⟨h1, h2, h3, h4⟩ := hQ
  dsimp only at h1 h2 h3 h4 cL c1 c2 cS ⊢
  obtain ⟨-, pv, cv, rfl, -, -⟩ := h1
  obtain ⟨pt, ct, rfl, -⟩ := h2.form
  obtain ⟨ps, cs, rfl, -⟩ := h3.form
  obtain ⟨pr, cr, rfl, -⟩ := h4.form
  clear h2 h3 h4
  have hf : True := trivial
  go_enter Tryz.func3, Tryz.ntmps3
  go_wp2_with fail
  refine (cL.out _ ((Below.refl _ _).alloc (Nat.le_refl _) _)).mono ?_
  rintro e w1 ⟨z, rfl, hz, hb1⟩
  have X1 : Hid (w1.heap[w.heap.size]? = some (.cells #[.int .i64 f.k, .string f.nm, .int .i64 f.op, .slice pv f.vars.length cv, .slice pt f.terms.length ct, .int .i64 f.lo, .int .i64 f.hi, .bool f.opn, .slice ps f.subs.length cs, .slice pr f.rgx.length cr] 29 (0, 0))) := (hb1.block w.heap.size (by simp)).trans (heap_allocA w _)
  have B1 : Below w.heap.size w w1 := ((Below.refl _ _).alloc (Nat.le_refl _) _).trans (hb1.mono (by simp))
  have HZ : Hid (QAt w1 (f, z)) := hz.at
  obtain ⟨zv, zt, zs, zr⟩ := z
  obtain ⟨k1, k2, k3, k4⟩ := hz.at
  dsimp only at k1 k2 k3 k4
  obtain ⟨-, qv, dv, rfl, -⟩ := k1
  obtain ⟨qt, dt, rfl, -⟩ := k2.form
  obtain ⟨qs, ds, rfl, -⟩ := k3.form
  obtain ⟨qr, dr, rfl, -⟩ := k4.form
  clear hb1 cL hz k2 k3 k4
  go_upto_region 2 with fail
  refine wp_world ?_
  intro w2 hW2
  have B12 : Below w1.heap.size w1 w2 := by rw [hW2]; go_grown
  have G2 : Hid (BoxF w2 w1.heap.size f ⟨.slice qv f.vars.length dv, .slice qt f.terms.length dt, .slice qs f.subs.length ds, .slice qr f.rgx.length dr⟩) := by
    rw [hW2]
    exact heap_allocA w1 _
  have X2 : Hid (_) := blkB X1.out B12
  have HZ2 : Hid (QAt w2 (f, ⟨.slice qv f.vars.length dv, .slice qt f.terms.length dt, .slice qs f.subs.length ds, .slice qr f.rgx.length dr⟩)) := QAt.below HZ.out B12
  have B2 : Below w.heap.size w w2 := B1.trans (B12.mono B1.size)
  have hN : w1.heap.size < w2.heap.size := G2.out.lt
  clear hW2 X1 HZ B1 B12
  have G2c : Hid (w2.heap[w1.heap.size]? = some (.cells #[.int .i64 f.k, .string f.nm, .int .i64 f.op, .slice qv f.vars.length dv, .slice qt f.terms.length dt, .int .i64 f.lo, .int .i64 f.hi, .bool f.opn, .slice qs f.subs.length ds, .slice qr f.rgx.length dr] 29 (0, 0))) := G2.out
  clear G2
  generalize w1.heap.size = N1 at *
  have CS : Hid (∀ W : World, Below w.heap.size w W → Below w2.heap.size w2 W → Calls Tryz.prog 10 #[.agg #[.int .i64 f.k, .string f.nm, .int .i64 f.op, (.slice pv f.vars.length cv), (.slice pt f.terms.length ct), .int .i64 f.lo, .int .i64 f.hi, .bool f.opn, (.slice ps f.subs.length cs), (.slice pr f.rgx.length cr)], .agg #[.int .i64 f.k, .string f.nm, .int .i64 f.op, (.slice qv f.vars.length dv), (.slice qt f.terms.length dt), .int .i64 f.lo, .int .i64 f.hi, .bool f.opn, (.slice qs f.subs.length ds), (.slice qr f.rgx.length dr)]] W fun e w' => e = .returned (.bool true) ∧ Below W.heap.size W w') := fun W hW h2 => cS.out W ⟨.slice qv f.vars.length dv, .slice qt f.terms.length dt, .slice qs f.subs.length ds, .slice qr f.rgx.length dr⟩ hW (QAt.below HZ2.out h2)
  clear cS HZ2
  generalize f.vars.length = nv at *
  generalize f.terms.length = nt at *
  generalize f.subs.length = ns at *
  generalize f.rgx.length = nr at *
  generalize f.lo = lo at *
  generalize f.hi = fhi at *
  generalize f.nm = nm at *
  generalize f.opn = o at *
  generalize f.op = op at *
  generalize f.k = fk at *
  have G2 : Hid (_) := G2c.out
  clear G2c
  have K2 : Below w2.heap.size w2 w2 := Below.refl _ _
  have e0 : w2.cell? ⟨w.heap.size, 0, none⟩ = some (.int .i64 fk) := by rw [Lib.cell_of_heap X2.out]; rfl
  have e1 : w2.cell? ⟨w.heap.size, 1, none⟩ = some (.string nm) := by rw [Lib.cell_of_heap X2.out]; rfl
  have e2 : w2.cell? ⟨w.heap.size, 2, none⟩ = some (.int .i64 op) := by rw [Lib.cell_of_heap X2.out]; rfl
  have e3 : w2.cell? ⟨w.heap.size, 3, none⟩ = some (.slice pv nv cv) := by rw [Lib.cell_of_heap X2.out]; rfl
  have e4 : w2.cell? ⟨w.heap.size, 4, none⟩ = some (.slice pt nt ct) := by rw [Lib.cell_of_heap X2.out]; rfl
  have e5 : w2.cell? ⟨w.heap.size, 5, none⟩ = some (.int .i64 lo) := by rw [Lib.cell_of_heap X2.out]; rfl
  have e6 : w2.cell? ⟨w.heap.size, 6, none⟩ = some (.int .i64 fhi) := by rw [Lib.cell_of_heap X2.out]; rfl
  have e7 : w2.cell? ⟨w.heap.size, 7, none⟩ = some (.bool o) := by rw [Lib.cell_of_heap X2.out]; rfl
  have e8 : w2.cell? ⟨w.heap.size, 8, none⟩ = some (.slice ps ns cs) := by rw [Lib.cell_of_heap X2.out]; rfl
  have e9 : w2.cell? ⟨w.heap.size, 9, none⟩ = some (.slice pr nr cr) := by rw [Lib.cell_of_heap X2.out]; rfl
  go_wp2_with fail
  refine (c1.out _ B2).mono ?_
  rintro e w3 ⟨rfl, hb3⟩
  have X3 : Hid (_) := blkB X2.out hb3
  have G3 : Hid (_) := blkB G2.out hb3
  have B3 : Below w.heap.size w w3 := B2.trans (hb3.mono B2.size)
  have K3 : Below w2.heap.size w2 w3 := K2.trans (hb3.mono K2.size)
  clear hb3 X2 G2 e0 e1 e2 e3 e4 e5 e6 e7 e8 e9
  have e0 : w3.cell? ⟨w.heap.size, 0, none⟩ = some (.int .i64 fk) := by rw [Lib.cell_of_heap X3.out]; rfl
  have e1 : w3.cell? ⟨w.heap.size, 1, none⟩ = some (.string nm) := by rw [Lib.cell_of_heap X3.out]; rfl
  have e2 : w3.cell? ⟨w.heap.size, 2, none⟩ = some (.int .i64 op) := by rw [Lib.cell_of_heap X3.out]; rfl
  have e3 : w3.cell? ⟨w.heap.size, 3, none⟩ = some (.slice pv nv cv) := by rw [Lib.cell_of_heap X3.out]; rfl
  have e4 : w3.cell? ⟨w.heap.size, 4, none⟩ = some (.slice pt nt ct) := by rw [Lib.cell_of_heap X3.out]; rfl
  have e5 : w3.cell? ⟨w.heap.size, 5, none⟩ = some (.int .i64 lo) := by rw [Lib.cell_of_heap X3.out]; rfl
  have e6 : w3.cell? ⟨w.heap.size, 6, none⟩ = some (.int .i64 fhi) := by rw [Lib.cell_of_heap X3.out]; rfl
  have e7 : w3.cell? ⟨w.heap.size, 7, none⟩ = some (.bool o) := by rw [Lib.cell_of_heap X3.out]; rfl
  have e8 : w3.cell? ⟨w.heap.size, 8, none⟩ = some (.slice ps ns cs) := by rw [Lib.cell_of_heap X3.out]; rfl
  have e9 : w3.cell? ⟨w.heap.size, 9, none⟩ = some (.slice pr nr cr) := by rw [Lib.cell_of_heap X3.out]; rfl
  go_wp2_with fail
  refine (c2.out _ B3).mono ?_
  rintro e w4 ⟨rfl, hb4⟩
  have X4 : Hid (_) := blkB X3.out hb4
  have G4 : Hid (_) := blkB G3.out hb4
  have B4 : Below w.heap.size w w4 := B3.trans (hb4.mono B3.size)
  have K4 : Below w2.heap.size w2 w4 := K3.trans (hb4.mono K3.size)
  clear hb4 X3 G3 e0 e1 e2 e3 e4 e5 e6 e7 e8 e9
  have e0 : w4.cell? ⟨w.heap.size, 0, none⟩ = some (.int .i64 fk) := by rw [Lib.cell_of_heap X4.out]; rfl
  have e1 : w4.cell? ⟨w.heap.size, 1, none⟩ = some (.string nm) := by rw [Lib.cell_of_heap X4.out]; rfl
  have e2 : w4.cell? ⟨w.heap.size, 2, none⟩ = some (.int .i64 op) := by rw [Lib.cell_of_heap X4.out]; rfl
  have e3 : w4.cell? ⟨w.heap.size, 3, none⟩ = some (.slice pv nv cv) := by rw [Lib.cell_of_heap X4.out]; rfl
  have e4 : w4.cell? ⟨w.heap.size, 4, none⟩ = some (.slice pt nt ct) := by rw [Lib.cell_of_heap X4.out]; rfl
  have e5 : w4.cell? ⟨w.heap.size, 5, none⟩ = some (.int .i64 lo) := by rw [Lib.cell_of_heap X4.out]; rfl
  have e6 : w4.cell? ⟨w.heap.size, 6, none⟩ = some (.int .i64 fhi) := by rw [Lib.cell_of_heap X4.out]; rfl
  have e7 : w4.cell? ⟨w.heap.size, 7, none⟩ = some (.bool o) := by rw [Lib.cell_of_heap X4.out]; rfl
  have e8 : w4.cell? ⟨w.heap.size, 8, none⟩ = some (.slice ps ns cs) := by rw [Lib.cell_of_heap X4.out]; rfl
  have e9 : w4.cell? ⟨w.heap.size, 9, none⟩ = some (.slice pr nr cr) := by rw [Lib.cell_of_heap X4.out]; rfl
  have g0 : w4.cell? ⟨N1, 0, none⟩ = some (.int .i64 fk) := by rw [Lib.cell_of_heap G4.out]; rfl
  have g1 : w4.cell? ⟨N1, 1, none⟩ = some (.string nm) := by rw [Lib.cell_of_heap G4.out]; rfl
  have g2 : w4.cell? ⟨N1, 2, none⟩ = some (.int .i64 op) := by rw [Lib.cell_of_heap G4.out]; rfl
  have g3 : w4.cell? ⟨N1, 3, none⟩ = some (.slice qv nv dv) := by rw [Lib.cell_of_heap G4.out]; rfl
  have g4 : w4.cell? ⟨N1, 4, none⟩ = some (.slice qt nt dt) := by rw [Lib.cell_of_heap G4.out]; rfl
  have g5 : w4.cell? ⟨N1, 5, none⟩ = some (.int .i64 lo) := by rw [Lib.cell_of_heap G4.out]; rfl
  have g6 : w4.cell? ⟨N1, 6, none⟩ = some (.int .i64 fhi) := by rw [Lib.cell_of_heap G4.out]; rfl
  have g7 : w4.cell? ⟨N1, 7, none⟩ = some (.bool o) := by rw [Lib.cell_of_heap G4.out]; rfl
  have g8 : w4.cell? ⟨N1, 8, none⟩ = some (.slice qs ns ds) := by rw [Lib.cell_of_heap G4.out]; rfl
  have g9 : w4.cell? ⟨N1, 9, none⟩ = some (.slice qr nr dr) := by rw [Lib.cell_of_heap G4.out]; rfl
  go_wp2_with fail
  refine (CS.out _ B4 K4).mono ?_
  rintro e w5 ⟨rfl, hb5⟩
  have X5 : Hid (_) := blkB X4.out hb5
  have G5 : Hid (_) := blkB G4.out hb5
  have B5 : Below w.heap.size w w5 := B4.trans (hb5.mono B4.size)
  have K5 : Below w2.heap.size w2 w5 := K4.trans (hb5.mono K4.size)
  clear hb5 X4 G4 e0 e1 e2 e3 e4 e5 e6 e7 e8 e9 g0 g1 g2 g3 g4 g5 g6 g7 g8 g9
  go_wp2_with fail
  refine (live06_any _).mono ?_
  rintro e w6 ⟨rfl, hb6⟩
  have X6 : Hid (_) := blkB X5.out hb6
  have G6 : Hid (_) := blkB G5.out hb6
  have B6 : Below w.heap.size w w6 := B5.trans (hb6.mono B5.size)
  have K6 : Below w2.heap.size w2 w6 := K5.trans (hb6.mono K5.size)
  clear hb6 X5 G5
  go_wp2
  go_ret
  exact ⟨rfl, B6⟩
end Go.Proofs.YtfajjphfjilpnaaGreat
