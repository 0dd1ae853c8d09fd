/- The law AstParts at any formula and any path. -/
import Derived.Test.YtfajjphfjilpnaaGreatZ02
import Derived.Test.YtfajjphfjilpnaaGreatZ06
import Derived.Deep.QuietTactic
import Derived.Deep.RegionHeld3
import Derived.Test.YtfajjphfjilpnaaGreatZ05
import Derived.Test.YtfajjphfjilpnaaGreatZ07
import Derived.Test.YtfajjphfjilpnaaGreatZ10

namespace Go.Proofs.YtfajjphfjilpnaaGreat
open Go.RowKit LX Go.Shelf
set_option linter.unusedVariables false

theorem bytes_eq {x y : ByteArray} : (x.toList == y.toList) = decide (x = y) := by
  rw [ByteArray.toList_eq, ByteArray.toList_eq]
  by_cases h : x = y
  · subst h; simp
  · rw [decide_eq_false h]
    have : x.data.toList ≠ y.data.toList := fun e => h (by
      obtain ⟨⟨a⟩⟩ := x
      obtain ⟨⟨b⟩⟩ := y
      simp at e
      subst e
      rfl)
    simpa using this
theorem keepc7 {W0 W : World} {b b' o o' : Nat} {u0 u1 u2 u3 u4 u5 u6 v0 v1 v2 v3 v4 v5 v6 : Value} (h : Below W0.heap.size W0 W) (hx : b < W0.heap.size) (hy : b' < W0.heap.size) (hs : W0.cell? ⟨b, o, none⟩ = some u0 ∧ W0.cell? ⟨b, o + 1, none⟩ = some u1 ∧ W0.cell? ⟨b, o + 2, none⟩ = some u2 ∧ W0.cell? ⟨b, o + 3, none⟩ = some u3 ∧ W0.cell? ⟨b, o + 4, none⟩ = some u4 ∧ W0.cell? ⟨b, o + 5, none⟩ = some u5 ∧ W0.cell? ⟨b, o + 6, none⟩ = some u6 ∧ W0.cell? ⟨b', o', none⟩ = some v0 ∧ W0.cell? ⟨b', o' + 1, none⟩ = some v1 ∧ W0.cell? ⟨b', o' + 2, none⟩ = some v2 ∧ W0.cell? ⟨b', o' + 3, none⟩ = some v3 ∧ W0.cell? ⟨b', o' + 4, none⟩ = some v4 ∧ W0.cell? ⟨b', o' + 5, none⟩ = some v5 ∧ W0.cell? ⟨b', o' + 6, none⟩ = some v6) : W.cell? ⟨b, o, none⟩ = some u0 ∧ W.cell? ⟨b, o + 1, none⟩ = some u1 ∧ W.cell? ⟨b, o + 2, none⟩ = some u2 ∧ W.cell? ⟨b, o + 3, none⟩ = some u3 ∧ W.cell? ⟨b, o + 4, none⟩ = some u4 ∧ W.cell? ⟨b, o + 5, none⟩ = some u5 ∧ W.cell? ⟨b, o + 6, none⟩ = some u6 ∧ W.cell? ⟨b', o', none⟩ = some v0 ∧ W.cell? ⟨b', o' + 1, none⟩ = some v1 ∧ W.cell? ⟨b', o' + 2, none⟩ = some v2 ∧ W.cell? ⟨b', o' + 3, none⟩ = some v3 ∧ W.cell? ⟨b', o' + 4, none⟩ = some v4 ∧ W.cell? ⟨b', o' + 5, none⟩ = some v5 ∧ W.cell? ⟨b', o' + 6, none⟩ = some v6 := by
  obtain ⟨a0, a1, a2, a3, a4, a5, a6, a7, a8, a9, a10, a11, a12, a13⟩ := hs
  exact ⟨bclL h a0 hx, bclL h a1 hx, bclL h a2 hx, bclL h a3 hx, bclL h a4 hx, bclL h a5 hx, bclL h a6 hx, bclL h a7 hy, bclL h a8 hy, bclL h a9 hy, bclL h a10 hy, bclL h a11 hy, bclL h a12 hy, bclL h a13 hy⟩
theorem keepc10 {W0 W : World} {b b' o o' : Nat} {u0 u1 u2 u3 u4 u5 u6 u7 u8 u9 v0 v1 v2 v3 v4 v5 v6 v7 v8 v9 : Value} (h : Below W0.heap.size W0 W) (hx : b < W0.heap.size) (hy : b' < W0.heap.size) (hs : W0.cell? ⟨b, o, none⟩ = some u0 ∧ W0.cell? ⟨b, o + 1, none⟩ = some u1 ∧ W0.cell? ⟨b, o + 2, none⟩ = some u2 ∧ W0.cell? ⟨b, o + 3, none⟩ = some u3 ∧ W0.cell? ⟨b, o + 4, none⟩ = some u4 ∧ W0.cell? ⟨b, o + 5, none⟩ = some u5 ∧ W0.cell? ⟨b, o + 6, none⟩ = some u6 ∧ W0.cell? ⟨b, o + 7, none⟩ = some u7 ∧ W0.cell? ⟨b, o + 8, none⟩ = some u8 ∧ W0.cell? ⟨b, o + 9, none⟩ = some u9 ∧ W0.cell? ⟨b', o', none⟩ = some v0 ∧ W0.cell? ⟨b', o' + 1, none⟩ = some v1 ∧ W0.cell? ⟨b', o' + 2, none⟩ = some v2 ∧ W0.cell? ⟨b', o' + 3, none⟩ = some v3 ∧ W0.cell? ⟨b', o' + 4, none⟩ = some v4 ∧ W0.cell? ⟨b', o' + 5, none⟩ = some v5 ∧ W0.cell? ⟨b', o' + 6, none⟩ = some v6 ∧ W0.cell? ⟨b', o' + 7, none⟩ = some v7 ∧ W0.cell? ⟨b', o' + 8, none⟩ = some v8 ∧ W0.cell? ⟨b', o' + 9, none⟩ = some v9) : W.cell? ⟨b, o, none⟩ = some u0 ∧ W.cell? ⟨b, o + 1, none⟩ = some u1 ∧ W.cell? ⟨b, o + 2, none⟩ = some u2 ∧ W.cell? ⟨b, o + 3, none⟩ = some u3 ∧ W.cell? ⟨b, o + 4, none⟩ = some u4 ∧ W.cell? ⟨b, o + 5, none⟩ = some u5 ∧ W.cell? ⟨b, o + 6, none⟩ = some u6 ∧ W.cell? ⟨b, o + 7, none⟩ = some u7 ∧ W.cell? ⟨b, o + 8, none⟩ = some u8 ∧ W.cell? ⟨b, o + 9, none⟩ = some u9 ∧ W.cell? ⟨b', o', none⟩ = some v0 ∧ W.cell? ⟨b', o' + 1, none⟩ = some v1 ∧ W.cell? ⟨b', o' + 2, none⟩ = some v2 ∧ W.cell? ⟨b', o' + 3, none⟩ = some v3 ∧ W.cell? ⟨b', o' + 4, none⟩ = some v4 ∧ W.cell? ⟨b', o' + 5, none⟩ = some v5 ∧ W.cell? ⟨b', o' + 6, none⟩ = some v6 ∧ W.cell? ⟨b', o' + 7, none⟩ = some v7 ∧ W.cell? ⟨b', o' + 8, none⟩ = some v8 ∧ W.cell? ⟨b', o' + 9, none⟩ = some v9 := by
  obtain ⟨a0, a1, a2, a3, a4, a5, a6, a7, a8, a9, a10, a11, a12, a13, a14, a15, a16, a17, a18, a19⟩ := hs
  exact ⟨bclL h a0 hx, bclL h a1 hx, bclL h a2 hx, bclL h a3 hx, bclL h a4 hx, bclL h a5 hx, bclL h a6 hx, bclL h a7 hx, bclL h a8 hx, bclL h a9 hx, bclL h a10 hy, bclL h a11 hy, bclL h a12 hy, bclL h a13 hy, bclL h a14 hy, bclL h a15 hy, bclL h a16 hy, bclL h a17 hy, bclL h a18 hy, bclL h a19 hy⟩
/-- Name by name. -/
def nmS : List ByteArray → List ByteArray → Bool
  | [], [] => true
  | [], _ :: _ => false
  | _ :: _, [] => false
  | x :: l, y :: m => (x.toList == y.toList) && nmS l m
theorem nmS_eq : ∀ xs ys : List ByteArray, nmS xs ys = decide (xs = ys)
  | [], [] => rfl
  | [], _ :: _ => rfl
  | _ :: _, [] => rfl
  | x :: l, y :: m => by
    rw [nmS, bytes_eq, nmS_eq l m]
    by_cases h1 : x = y <;> by_cases h2 : l = m <;> simp [h1, h2]
theorem nmS_len {xs ys : List ByteArray} (h : xs.length ≠ ys.length) : nmS xs ys = false := by
  rw [nmS_eq]
  exact decide_eq_false (fun e => h (by rw [e]))

set_option maxRecDepth 100000 in
set_option maxHeartbeats 4000000 in
theorem rnms_any (A B : Value) (xs ys : List ByteArray) (w : World) (hA : NmsAt w A xs) (hB : NmsAt w B ys) : Calls Tryz.prog 32 #[A, B] w fun e w' => e = .returned (.bool (decide (xs = ys))) ∧ Below w.heap.size w w' := by
  rw [← nmS_eq]
  obtain ⟨p, c, rfl, lx, hc, HX0⟩ := hA.form
  obtain ⟨p', c', rfl, ly, hc', HY0⟩ := hB.form
  by_cases hl : xs.length = ys.length
  case neg =>
    have h2 : ((xs.length : Int) == ys.length) = false := by simp; omega
    have HS : Hid (nmS xs ys = false) := nmS_len hl
    clear HX0 HY0 hA hB
    generalize xs.length = n at *
    generalize ys.length = m at *
    go_enter Tryz.func32, Tryz.ntmps32
    go_wp2
    go_ret
    exact ⟨ret_bool HS.out.symm, by go_grown⟩
  have HX : Hid (∀ i (hi : i < xs.length), ∃ b off, p = some ⟨b, off, none⟩ ∧ b < w.heap.size ∧ w.cell? ⟨b, off + i, none⟩ = some (.string xs[i])) := HX0
  have HY : Hid (∀ i (hi : i < ys.length), ∃ b off, p' = some ⟨b, off, none⟩ ∧ b < w.heap.size ∧ w.cell? ⟨b, off + i, none⟩ = some (.string ys[i])) := HY0
  obtain ⟨n, en⟩ : ∃ n : Nat, Hid (xs.length = n) := ⟨_, rfl⟩
  have em : Hid (ys.length = n) := hl.symm.trans en.out
  rw [en.out] at lx hc ⊢
  rw [em.out] at hc' ⊢
  clear HX0 HY0 hA hB ly hl
  go_enter Tryz.func32, Tryz.ntmps32
  go_wp2
  go_loopw [5] (fun i wr => ∃ k : Nat, k ≤ n ∧ i = .int .i64 k ∧ Hid (nmS xs ys = nmS (xs.drop k) (ys.drop k)) ∧ Below w.heap.size w wr) (fun i _ => n - (intOf i).toNat)
  case atStart => exact ⟨0, Nat.zero_le _, rfl, (show nmS xs ys = nmS (xs.drop 0) (ys.drop 0) by simp), Below.refl _ _⟩
  case round =>
    obtain ⟨k, hk, rfl, hr, hB⟩ := hrel
    by_cases hlt : k < n
    case neg =>
      have c2 : ¬ (k : Int) < n := by omega
      have hr3 : Hid (nmS xs ys = true) := by
        have h := hr.out
        rw [List.drop_eq_nil_of_le (by have := en.out; omega), List.drop_eq_nil_of_le (by have := em.out; omega)] at h
        exact h
      go_wp2
      go_ret
      exact ⟨ret_bool hr3.out.symm, hB⟩
    have hlt' : (k : Int) < n := by omega
    have kx : k < xs.length := by have := en.out; omega
    have ky : k < ys.length := by have := em.out; omega
    obtain ⟨b, off, rfl, hb, a0⟩ := HX.out k kx
    obtain ⟨b', off', rfl, hb', b0⟩ := HY.out k ky
    have a1 := (hB.cell (p := ⟨b, off + k, none⟩) hb).trans a0
    have b1 := (hB.cell (p := ⟨b', off' + k, none⟩) hb').trans b0
    have hr2 : Hid (nmS xs ys = ((xs[k].toList == ys[k].toList) && nmS (xs.drop (k + 1)) (ys.drop (k + 1)))) := by
      have h := hr.out
      rw [List.drop_eq_getElem_cons kx, List.drop_eq_getElem_cons ky, nmS] at h
      exact h
    clear a0 b0 hr
    generalize xs[k] = X at *
    generalize ys[k] = Y at *
    by_cases he : (X.toList == Y.toList) = true
    · have hne : (!X.toList == Y.toList) = false := by simp [he]
      have hr3 : Hid (nmS xs ys = nmS (xs.drop (k + 1)) (ys.drop (k + 1))) := by have h := hr2.out; rw [he, Bool.true_and] at h; exact h
      clear hr2
      go_upto_region 6 with fail
      go_quiet (fail)
      go_wp2
      exact ⟨⟨k + 1, by omega, by go_num, hr3, bdrewA _ hB⟩, by simp [intOf]; omega⟩
    · have he' : (X.toList == Y.toList) = false := by simpa using he
      have hne : (!X.toList == Y.toList) = true := by simp [he']
      have hr3 : Hid (nmS xs ys = false) := by have h := hr2.out; rw [he', Bool.false_and] at h; exact h
      clear hr2 he
      go_upto_region 6 with fail
      go_quiet (fail)
      go_wp2
      go_ret
      exact ⟨ret_bool hr3.out.symm, bdrewA _ hB⟩

set_option maxRecDepth 100000 in
set_option maxHeartbeats 8000000 in
theorem rsamet_step (x y : Tm) (u v : Value) (w : World) (hu : TmsAt w u x.subs) (hv : TmsAt w v y.subs) (IH : ∀ W : World, Below w.heap.size w W → Calls Tryz.prog 33 #[u, v] W fun e w' => e = .returned (.bool (sameTs x.subs y.subs)) ∧ Below W.heap.size W w') :
    Calls Tryz.prog 60 #[.agg #[.int .i64 x.k, .string x.nm, .int .i64 x.v.k, .int .i64 x.v.n, .int .i64 x.v.d, .string x.v.s, u], .agg #[.int .i64 y.k, .string y.nm, .int .i64 y.v.k, .int .i64 y.v.n, .int .i64 y.v.d, .string y.v.s, v]] w fun e w' => e = .returned (.bool (sameT x y)) ∧ Below w.heap.size w w' := by
  have cV : Hid (∀ W : World, Calls Tryz.prog 84 #[.agg #[.int .i64 x.v.k, .int .i64 x.v.n, .int .i64 x.v.d, .string x.v.s], .agg #[.int .i64 y.v.k, .int .i64 y.v.n, .int .i64 y.v.d, .string y.v.s]] W fun e w' => e = .returned (.bool (x.v.same y.v)) ∧ Below W.heap.size W w') := fun W => rsame_any x.v.k x.v.n x.v.d x.v.s y.v.k y.v.n y.v.d y.v.s W
  have cI : Hid (∀ W : World, Below w.heap.size w W → Calls Tryz.prog 33 #[u, v] W fun e w' => e = .returned (.bool (sameTs x.subs y.subs)) ∧ Below W.heap.size W w') := IH
  have hE : Hid (sameT x y = ((x.k == y.k) && ((x.nm.toList == y.nm.toList) && (x.v.same y.v && sameTs x.subs y.subs)))) := sameT_eq x y
  obtain ⟨pu, cu, rfl, -⟩ := hu.form
  obtain ⟨pv, cv, rfl, -⟩ := hv.form
  clear hu hv IH
  generalize sameT x y = R at *
  generalize sameTs x.subs y.subs = D at *
  generalize x.v.same y.v = C at *
  generalize x.k = xg_k at *
  generalize y.k = yg_k at *
  generalize x.nm = xg_nm at *
  generalize y.nm = yg_nm at *
  generalize x.v.k = xg_vk at *
  generalize y.v.k = yg_vk at *
  generalize x.v.n = xg_vn at *
  generalize y.v.n = yg_vn at *
  generalize x.v.d = xg_vd at *
  generalize y.v.d = yg_vd at *
  generalize x.v.s = xg_vs at *
  generalize y.v.s = yg_vs at *
  generalize x.subs.length = xg_subslength at *
  generalize y.subs.length = yg_subslength at *
  go_enter Tryz.func60, Tryz.ntmps60
  go_wp2_with fail
  refine (cV.out _).mono ?_
  rintro e w1 ⟨rfl, hw1⟩
  obtain ⟨hB1, hn1⟩ := bgX (n := w.heap.size) (W0 := w) (by go_grown) (by go_size) hw1
  have e0 : w1.cell? ⟨w.heap.size, 0, none⟩ = some (.int .i64 xg_k) := (hw1.cell (p := ⟨w.heap.size, 0, none⟩) (by first | (simp; done) | (simp; omega))).trans (by simp [go_sem])
  have e1 : w1.cell? ⟨w.heap.size, 1, none⟩ = some (.string xg_nm) := (hw1.cell (p := ⟨w.heap.size, 1, none⟩) (by first | (simp; done) | (simp; omega))).trans (by simp [go_sem])
  have e6 : w1.cell? ⟨w.heap.size, 6, none⟩ = some (.slice pu xg_subslength cu) := (hw1.cell (p := ⟨w.heap.size, 6, none⟩) (by first | (simp; done) | (simp; omega))).trans (by simp [go_sem])
  have g0 : w1.cell? ⟨w.heap.size + 1, 0, none⟩ = some (.int .i64 yg_k) := (hw1.cell (p := ⟨w.heap.size + 1, 0, none⟩) (by first | (simp; done) | (simp; omega))).trans (by simp [go_sem])
  have g1 : w1.cell? ⟨w.heap.size + 1, 1, none⟩ = some (.string yg_nm) := (hw1.cell (p := ⟨w.heap.size + 1, 1, none⟩) (by first | (simp; done) | (simp; omega))).trans (by simp [go_sem])
  have g6 : w1.cell? ⟨w.heap.size + 1, 6, none⟩ = some (.slice pv yg_subslength cv) := (hw1.cell (p := ⟨w.heap.size + 1, 6, none⟩) (by first | (simp; done) | (simp; omega))).trans (by simp [go_sem])
  clear hw1 cV
  by_cases h1 : (xg_k == yg_k) = true
  case neg =>
    have h1' : (xg_k == yg_k) = false := by simpa using h1
    have hR : Hid (R = false) := by have h := hE.out; rw [h1'] at h; simp at h; exact h
    clear h1
    go_wp2
    go_ret
    exact ⟨ret_bool hR.out.symm, hB1⟩
  by_cases h2 : (xg_nm.toList == yg_nm.toList) = true
  case neg =>
    have h2' : (xg_nm.toList == yg_nm.toList) = false := by simpa using h2
    have hR : Hid (R = false) := by have h := hE.out; rw [h2'] at h; simp at h; exact h
    clear h2
    go_wp2
    go_ret
    exact ⟨ret_bool hR.out.symm, hB1⟩
  cases C with
  | false =>
    have hR : Hid (R = false) := by have h := hE.out; simp at h; exact h
    go_wp2
    go_ret
    exact ⟨ret_bool hR.out.symm, hB1⟩
  | true =>
    have hR : Hid (R = D) := by have h := hE.out; rw [h1, h2] at h; simp at h; exact h
    go_wp2_with fail
    refine (cI.out _ hB1).mono ?_
    rintro e w2 ⟨rfl, hw2⟩
    have hB2 : Below w.heap.size w w2 := hB1.trans (hw2.mono hn1)
    clear hw2 cI e0 e1 e6 g0 g1 g6
    cases D with
    | false =>
      go_wp2
      go_ret
      exact ⟨ret_bool hR.out.symm, hB2⟩
    | true =>
      go_wp2
      go_ret
      exact ⟨ret_bool hR.out.symm, hB2⟩

set_option maxRecDepth 100000 in
set_option maxHeartbeats 8000000 in
theorem rsameTs_step (A B : Value) (xs ys : List Tm) (w : World) (hA : TmsAt w A xs) (hB : TmsAt w B ys) (HC : ∀ i (hi : i < xs.length) (hi' : i < ys.length) (u u' : Value) (W : World), TmsAt w u xs[i].subs → TmsAt w u' ys[i].subs → Below w.heap.size w W → Calls Tryz.prog 60 #[.agg #[.int .i64 xs[i].k, .string xs[i].nm, .int .i64 xs[i].v.k, .int .i64 xs[i].v.n, .int .i64 xs[i].v.d, .string xs[i].v.s, u], .agg #[.int .i64 ys[i].k, .string ys[i].nm, .int .i64 ys[i].v.k, .int .i64 ys[i].v.n, .int .i64 ys[i].v.d, .string ys[i].v.s, u']] W fun e w' => e = .returned (.bool (sameT xs[i] ys[i])) ∧ Below W.heap.size W w') :
    Calls Tryz.prog 33 #[A, B] w fun e w' => e = .returned (.bool (sameTs xs ys)) ∧ Below w.heap.size w w' := by
  obtain ⟨p, c, rfl, lx, hc, HX0⟩ := hA.form
  obtain ⟨p', c', rfl, ly, hc', HY0⟩ := hB.form
  by_cases hl : xs.length = ys.length
  case neg =>
    have h2 : ((xs.length : Int) == ys.length) = false := by simp; omega
    have HS : Hid (sameTs xs ys = false) := sameTs_len hl
    clear HX0 HY0 hA hB HC
    generalize xs.length = n at *
    generalize ys.length = m at *
    go_enter Tryz.func33, Tryz.ntmps33
    go_wp2
    go_ret
    exact ⟨ret_bool HS.out.symm, by go_grown⟩
  have HX : Hid (∀ i (hi : i < xs.length), ∃ b off u, p = some ⟨b, off, none⟩ ∧ b < w.heap.size ∧ TmC w b (off + i * 7) xs[i] u ∧ TmsAt w u xs[i].subs ∧ xs[i].v.Fits) := HX0
  have HY : Hid (∀ i (hi : i < ys.length), ∃ b off u, p' = some ⟨b, off, none⟩ ∧ b < w.heap.size ∧ TmC w b (off + i * 7) ys[i] u ∧ TmsAt w u ys[i].subs ∧ ys[i].v.Fits) := HY0
  have HCC : Hid (∀ i (hi : i < xs.length) (hi' : i < ys.length) (u u' : Value) (W : World), TmsAt w u xs[i].subs → TmsAt w u' ys[i].subs → Below w.heap.size w W → Calls Tryz.prog 60 #[.agg #[.int .i64 xs[i].k, .string xs[i].nm, .int .i64 xs[i].v.k, .int .i64 xs[i].v.n, .int .i64 xs[i].v.d, .string xs[i].v.s, u], .agg #[.int .i64 ys[i].k, .string ys[i].nm, .int .i64 ys[i].v.k, .int .i64 ys[i].v.n, .int .i64 ys[i].v.d, .string ys[i].v.s, u']] W fun e w' => e = .returned (.bool (sameT xs[i] ys[i])) ∧ Below W.heap.size W w') := HC
  obtain ⟨n, en⟩ : ∃ n : Nat, Hid (xs.length = n) := ⟨_, rfl⟩
  have em : Hid (ys.length = n) := hl.symm.trans en.out
  rw [en.out] at lx hc ⊢
  rw [em.out] at hc' ⊢
  clear hA hB hl ly HX0 HY0 HC
  go_enter Tryz.func33, Tryz.ntmps33
  go_wp2
  go_loopw [5] (fun i wr => ∃ k : Nat, k ≤ n ∧ i = .int .i64 k ∧ Hid (sameTs xs ys = sameTs (xs.drop k) (ys.drop k)) ∧ Below w.heap.size w wr) (fun i _ => n - (intOf i).toNat)
  case atStart => exact ⟨0, Nat.zero_le _, rfl, (show sameTs xs ys = sameTs (xs.drop 0) (ys.drop 0) by simp), Below.refl _ _⟩
  case round =>
    obtain ⟨k, hk, rfl, hr, hB⟩ := hrel
    have hsz := hB.size
    by_cases hlt : k < n
    case neg =>
      have c2 : ¬ (k : Int) < n := by omega
      have hr3 : Hid (sameTs xs ys = true) := by
        have h := hr.out
        rw [List.drop_eq_nil_of_le (by have := en.out; omega), List.drop_eq_nil_of_le (by have := em.out; omega), sameTs_nil] at h
        exact h
      go_wp2
      go_ret
      exact ⟨ret_bool hr3.out.symm, hB⟩
    have hlt' : (k : Int) < n := by omega
    have kx : k < xs.length := by have := en.out; omega
    have ky : k < ys.length := by have := em.out; omega
    obtain ⟨b, off, u, rfl, hb, TC, TS, TF⟩ := HX.out k kx
    obtain ⟨b', off', u', rfl, hb', TC', TS', TF'⟩ := HY.out k ky
    obtain ⟨a0, a1, a2, a3, a4, a5, a6⟩ := TC.below hB hb
    obtain ⟨b0, b1, b2, b3, b4, b5, b6⟩ := TC'.below hB hb'
    have hbr : b < wr.heap.size := Nat.lt_of_lt_of_le hb hsz
    have hbr' : b' < wr.heap.size := Nat.lt_of_lt_of_le hb' hsz
    have hr2 : Hid (sameTs xs ys = (sameT xs[k] ys[k] && sameTs (xs.drop (k + 1)) (ys.drop (k + 1)))) := by
      have h := hr.out
      rw [List.drop_eq_getElem_cons kx, List.drop_eq_getElem_cons ky, sameTs_cons] at h
      exact h
    have cCT : Hid (∀ W : World, Below w.heap.size w W → Calls Tryz.prog 60 #[.agg #[.int .i64 xs[k].k, .string xs[k].nm, .int .i64 xs[k].v.k, .int .i64 xs[k].v.n, .int .i64 xs[k].v.d, .string xs[k].v.s, u], .agg #[.int .i64 ys[k].k, .string ys[k].nm, .int .i64 ys[k].v.k, .int .i64 ys[k].v.n, .int .i64 ys[k].v.d, .string ys[k].v.s, u']] W fun e w' => e = .returned (.bool (sameT xs[k] ys[k])) ∧ Below W.heap.size W w') := fun W hW => HCC.out k kx ky u u' W TS TS' hW
    clear hr TC TC'
    obtain ⟨pu, cu, rfl, -⟩ := TS.form
    obtain ⟨pu', cu', rfl, -⟩ := TS'.form
    clear TS TF TS' TF'
    generalize sameT xs[k] ys[k] = C at *
    generalize xs[k].k = xg_k at *
    generalize ys[k].k = yg_k at *
    generalize xs[k].nm = xg_nm at *
    generalize ys[k].nm = yg_nm at *
    generalize xs[k].v.k = xg_vk at *
    generalize ys[k].v.k = yg_vk at *
    generalize xs[k].v.n = xg_vn at *
    generalize ys[k].v.n = yg_vn at *
    generalize xs[k].v.d = xg_vd at *
    generalize ys[k].v.d = yg_vd at *
    generalize xs[k].v.s = xg_vs at *
    generalize ys[k].v.s = yg_vs at *
    generalize xs[k].subs.length = xg_subslength at *
    generalize ys[k].subs.length = yg_subslength at *
    go_upto_region 6 with fail
    have HS : Hid (wr.cell? ⟨b, off + k * 7, none⟩ = some (.int .i64 xg_k) ∧ wr.cell? ⟨b, off + k * 7 + 1, none⟩ = some (.string xg_nm) ∧ wr.cell? ⟨b, off + k * 7 + 2, none⟩ = some (.int .i64 xg_vk) ∧ wr.cell? ⟨b, off + k * 7 + 3, none⟩ = some (.int .i64 xg_vn) ∧ wr.cell? ⟨b, off + k * 7 + 4, none⟩ = some (.int .i64 xg_vd) ∧ wr.cell? ⟨b, off + k * 7 + 5, none⟩ = some (.string xg_vs) ∧ wr.cell? ⟨b, off + k * 7 + 6, none⟩ = some (.slice pu xg_subslength cu) ∧ wr.cell? ⟨b', off' + k * 7, none⟩ = some (.int .i64 yg_k) ∧ wr.cell? ⟨b', off' + k * 7 + 1, none⟩ = some (.string yg_nm) ∧ wr.cell? ⟨b', off' + k * 7 + 2, none⟩ = some (.int .i64 yg_vk) ∧ wr.cell? ⟨b', off' + k * 7 + 3, none⟩ = some (.int .i64 yg_vn) ∧ wr.cell? ⟨b', off' + k * 7 + 4, none⟩ = some (.int .i64 yg_vd) ∧ wr.cell? ⟨b', off' + k * 7 + 5, none⟩ = some (.string yg_vs) ∧ wr.cell? ⟨b', off' + k * 7 + 6, none⟩ = some (.slice pu' yg_subslength cu')) := ⟨a0, a1, a2, a3, a4, a5, a6, b0, b1, b2, b3, b4, b5, b6⟩
    go_region_held3 (fun W => W.cell? ⟨b, off + k * 7, none⟩ = some (.int .i64 xg_k) ∧ W.cell? ⟨b, off + k * 7 + 1, none⟩ = some (.string xg_nm) ∧ W.cell? ⟨b, off + k * 7 + 2, none⟩ = some (.int .i64 xg_vk) ∧ W.cell? ⟨b, off + k * 7 + 3, none⟩ = some (.int .i64 xg_vn) ∧ W.cell? ⟨b, off + k * 7 + 4, none⟩ = some (.int .i64 xg_vd) ∧ W.cell? ⟨b, off + k * 7 + 5, none⟩ = some (.string xg_vs) ∧ W.cell? ⟨b, off + k * 7 + 6, none⟩ = some (.slice pu xg_subslength cu) ∧ W.cell? ⟨b', off' + k * 7, none⟩ = some (.int .i64 yg_k) ∧ W.cell? ⟨b', off' + k * 7 + 1, none⟩ = some (.string yg_nm) ∧ W.cell? ⟨b', off' + k * 7 + 2, none⟩ = some (.int .i64 yg_vk) ∧ W.cell? ⟨b', off' + k * 7 + 3, none⟩ = some (.int .i64 yg_vn) ∧ W.cell? ⟨b', off' + k * 7 + 4, none⟩ = some (.int .i64 yg_vd) ∧ W.cell? ⟨b', off' + k * 7 + 5, none⟩ = some (.string yg_vs) ∧ W.cell? ⟨b', off' + k * 7 + 6, none⟩ = some (.slice pu' yg_subslength cu'))
      (exact keepc7 (by go_grown) hbr hbr' HS.out)
      (first
        | (go_at_call 60; refine (cCT.out _ (hB.trans (by go_grown))).mono ?_; rintro e v1 ⟨rfl, hb1⟩; obtain ⟨hX1, hn1⟩ := bgX (n := wr.heap.size) (W0 := wr) (by go_grown) (by go_size) hb1; clear hb1))
    have hB2 : Hid (Below w.heap.size w v1) := hB.trans (hX1.mono hsz)
    clear a0 a1 a2 a3 a4 a5 a6 b0 b1 b2 b3 b4 b5 b6 cCT hX1 hn1
    cases C with
    | true =>
      have hr3 : Hid (sameTs xs ys = sameTs (xs.drop (k + 1)) (ys.drop (k + 1))) := by have := hr2.out; rwa [Bool.true_and] at this
      go_wp2
      exact ⟨⟨k + 1, by omega, by go_num, hr3, hB2.out⟩, by simp [intOf]; omega⟩
    | false =>
      have hr3 : Hid (sameTs xs ys = false) := by have := hr2.out; rwa [Bool.false_and] at this
      go_wp2
      go_ret
      exact ⟨ret_bool hr3.out.symm, hB2.out⟩

theorem rsame_tms : ∀ (m : Nat) (xs ys : List Tm) (A B : Value) (w : World), SizeOf.sizeOf xs ≤ m → TmsAt w A xs → TmsAt w B ys → Calls Tryz.prog 33 #[A, B] w fun e w' => e = .returned (.bool (sameTs xs ys)) ∧ Below w.heap.size w w' := by
  intro m
  induction m with
  | zero => intro xs ys A B w hm; cases xs <;> simp at hm
  | succ m ih =>
    intro xs ys A B w hm hA hB
    exact rsameTs_step A B xs ys w hA hB fun i hi hi' u u' W h1 h2 hW => rsamet_step xs[i] ys[i] u u' W (h1.bel hW) (h2.bel hW) fun W' hW' => ih _ _ _ _ W' (by have := mem_lt i hi; have := Tm.subs_lt xs[i]; omega) ((h1.bel hW).bel hW') ((h2.bel hW).bel hW')

end Go.Proofs.YtfajjphfjilpnaaGreat

namespace Go.Proofs.YtfajjphfjilpnaaGreat
open Go.RowKit LX Go.Shelf
set_option linter.unusedVariables false

set_option maxRecDepth 100000 in
set_option maxHeartbeats 8000000 in
theorem rsameFs_step (A B : Value) (xs ys : List Fm) (w : World) (hA : FmsAt w A xs) (hB : FmsAt w B ys) (HC : ∀ i (hi : i < xs.length) (hi' : i < ys.length) (q q' : FQ) (W : World), QAt w (xs[i], q) → QAt w (ys[i], q') → Below w.heap.size w W → Calls Tryz.prog 10 #[.agg #[.int .i64 xs[i].k, .string xs[i].nm, .int .i64 xs[i].op, q.v, q.t, .int .i64 xs[i].lo, .int .i64 xs[i].hi, .bool xs[i].opn, q.s, q.r], .agg #[.int .i64 ys[i].k, .string ys[i].nm, .int .i64 ys[i].op, q'.v, q'.t, .int .i64 ys[i].lo, .int .i64 ys[i].hi, .bool ys[i].opn, q'.s, q'.r]] W fun e w' => e = .returned (.bool (sameF xs[i] ys[i])) ∧ Below W.heap.size W w') :
    Calls Tryz.prog 35 #[A, B] w fun e w' => e = .returned (.bool (sameFs xs ys)) ∧ Below w.heap.size w w' := by
  obtain ⟨p, c, rfl, lx, hc, HX0⟩ := hA.form
  obtain ⟨p', c', rfl, ly, hc', HY0⟩ := hB.form
  by_cases hl : xs.length = ys.length
  case neg =>
    have h2 : ((xs.length : Int) == ys.length) = false := by simp; omega
    have HS : Hid (sameFs xs ys = false) := sameFs_len hl
    clear HX0 HY0 hA hB HC
    generalize xs.length = n at *
    generalize ys.length = m at *
    go_enter Tryz.func35, Tryz.ntmps35
    go_wp2
    go_ret
    exact ⟨ret_bool HS.out.symm, by go_grown⟩
  have HX : Hid (∀ i (hi : i < xs.length), ∃ b off uv ut us ur, p = some ⟨b, off, none⟩ ∧ b < w.heap.size ∧ FmC w b (off + i * 10) xs[i] uv ut us ur ∧ NmsAt w uv xs[i].vars ∧ TmsAt w ut xs[i].terms ∧ FmsAt w us xs[i].subs ∧ RxsAt w ur xs[i].rgx) := HX0
  have HY : Hid (∀ i (hi : i < ys.length), ∃ b off uv ut us ur, p' = some ⟨b, off, none⟩ ∧ b < w.heap.size ∧ FmC w b (off + i * 10) ys[i] uv ut us ur ∧ NmsAt w uv ys[i].vars ∧ TmsAt w ut ys[i].terms ∧ FmsAt w us ys[i].subs ∧ RxsAt w ur ys[i].rgx) := HY0
  have HCC : Hid (∀ i (hi : i < xs.length) (hi' : i < ys.length) (q q' : FQ) (W : World), QAt w (xs[i], q) → QAt w (ys[i], q') → Below w.heap.size w W → Calls Tryz.prog 10 #[.agg #[.int .i64 xs[i].k, .string xs[i].nm, .int .i64 xs[i].op, q.v, q.t, .int .i64 xs[i].lo, .int .i64 xs[i].hi, .bool xs[i].opn, q.s, q.r], .agg #[.int .i64 ys[i].k, .string ys[i].nm, .int .i64 ys[i].op, q'.v, q'.t, .int .i64 ys[i].lo, .int .i64 ys[i].hi, .bool ys[i].opn, q'.s, q'.r]] W fun e w' => e = .returned (.bool (sameF xs[i] ys[i])) ∧ Below W.heap.size W w') := HC
  obtain ⟨n, en⟩ : ∃ n : Nat, Hid (xs.length = n) := ⟨_, rfl⟩
  have em : Hid (ys.length = n) := hl.symm.trans en.out
  rw [en.out] at lx hc ⊢
  rw [em.out] at hc' ⊢
  clear hA hB hl ly HX0 HY0 HC
  go_enter Tryz.func35, Tryz.ntmps35
  go_wp2
  go_loopw [5] (fun i wr => ∃ k : Nat, k ≤ n ∧ i = .int .i64 k ∧ Hid (sameFs xs ys = sameFs (xs.drop k) (ys.drop k)) ∧ Below w.heap.size w wr) (fun i _ => n - (intOf i).toNat)
  case atStart => exact ⟨0, Nat.zero_le _, rfl, (show sameFs xs ys = sameFs (xs.drop 0) (ys.drop 0) by simp), Below.refl _ _⟩
  case round =>
    obtain ⟨k, hk, rfl, hr, hB⟩ := hrel
    have hsz := hB.size
    by_cases hlt : k < n
    case neg =>
      have c2 : ¬ (k : Int) < n := by omega
      have hr3 : Hid (sameFs xs ys = true) := by
        have h := hr.out
        rw [List.drop_eq_nil_of_le (by have := en.out; omega), List.drop_eq_nil_of_le (by have := em.out; omega), sameFs_nil] at h
        exact h
      go_wp2
      go_ret
      exact ⟨ret_bool hr3.out.symm, hB⟩
    have hlt' : (k : Int) < n := by omega
    have kx : k < xs.length := by have := en.out; omega
    have ky : k < ys.length := by have := em.out; omega
    obtain ⟨b, off, uv, ut, us, ur, rfl, hb, TC, FV, FT, FS, FR⟩ := HX.out k kx
    obtain ⟨b', off', uv', ut', us', ur', rfl, hb', TC', FV', FT', FS', FR'⟩ := HY.out k ky
    obtain ⟨a0, a1, a2, a3, a4, a5, a6, a7, a8, a9⟩ := TC.below hB hb
    obtain ⟨b0, b1, b2, b3, b4, b5, b6, b7, b8, b9⟩ := TC'.below hB hb'
    have hbr : b < wr.heap.size := Nat.lt_of_lt_of_le hb hsz
    have hbr' : b' < wr.heap.size := Nat.lt_of_lt_of_le hb' hsz
    have hr2 : Hid (sameFs xs ys = (sameF xs[k] ys[k] && sameFs (xs.drop (k + 1)) (ys.drop (k + 1)))) := by
      have h := hr.out
      rw [List.drop_eq_getElem_cons kx, List.drop_eq_getElem_cons ky, sameFs_cons] at h
      exact h
    have cCT : Hid (∀ W : World, Below w.heap.size w W → Calls Tryz.prog 10 #[.agg #[.int .i64 xs[k].k, .string xs[k].nm, .int .i64 xs[k].op, uv, ut, .int .i64 xs[k].lo, .int .i64 xs[k].hi, .bool xs[k].opn, us, ur], .agg #[.int .i64 ys[k].k, .string ys[k].nm, .int .i64 ys[k].op, uv', ut', .int .i64 ys[k].lo, .int .i64 ys[k].hi, .bool ys[k].opn, us', ur']] W fun e w' => e = .returned (.bool (sameF xs[k] ys[k])) ∧ Below W.heap.size W w') := fun W hW => HCC.out k kx ky ⟨uv, ut, us, ur⟩ ⟨uv', ut', us', ur'⟩ W ⟨FV, FT, FS, FR⟩ ⟨FV', FT', FS', FR'⟩ hW
    clear hr TC TC'
    obtain ⟨-, pv, cv, rfl, -⟩ := FV
    obtain ⟨pt, ct, rfl, -⟩ := FT.form
    obtain ⟨ps, cs, rfl, -⟩ := FS.form
    obtain ⟨pr, cr, rfl, -⟩ := FR.form
    obtain ⟨-, pv', cv', rfl, -⟩ := FV'
    obtain ⟨pt', ct', rfl, -⟩ := FT'.form
    obtain ⟨ps', cs', rfl, -⟩ := FS'.form
    obtain ⟨pr', cr', rfl, -⟩ := FR'.form
    clear FT FS FR FT' FS' FR'
    generalize sameF xs[k] ys[k] = C at *
    generalize xs[k].k = xg_k at *
    generalize ys[k].k = yg_k at *
    generalize xs[k].nm = xg_nm at *
    generalize ys[k].nm = yg_nm at *
    generalize xs[k].op = xg_op at *
    generalize ys[k].op = yg_op at *
    generalize xs[k].lo = xg_lo at *
    generalize ys[k].lo = yg_lo at *
    generalize xs[k].hi = xg_hi at *
    generalize ys[k].hi = yg_hi at *
    generalize xs[k].opn = xg_opn at *
    generalize ys[k].opn = yg_opn at *
    generalize xs[k].vars.length = xg_varslength at *
    generalize ys[k].vars.length = yg_varslength at *
    generalize xs[k].terms.length = xg_termslength at *
    generalize ys[k].terms.length = yg_termslength at *
    generalize xs[k].subs.length = xg_subslength at *
    generalize ys[k].subs.length = yg_subslength at *
    generalize xs[k].rgx.length = xg_rgxlength at *
    generalize ys[k].rgx.length = yg_rgxlength at *
    go_upto_region 6 with fail
    have HS : Hid (wr.cell? ⟨b, off + k * 10, none⟩ = some (.int .i64 xg_k) ∧ wr.cell? ⟨b, off + k * 10 + 1, none⟩ = some (.string xg_nm) ∧ wr.cell? ⟨b, off + k * 10 + 2, none⟩ = some (.int .i64 xg_op) ∧ wr.cell? ⟨b, off + k * 10 + 3, none⟩ = some (.slice pv xg_varslength cv) ∧ wr.cell? ⟨b, off + k * 10 + 4, none⟩ = some (.slice pt xg_termslength ct) ∧ wr.cell? ⟨b, off + k * 10 + 5, none⟩ = some (.int .i64 xg_lo) ∧ wr.cell? ⟨b, off + k * 10 + 6, none⟩ = some (.int .i64 xg_hi) ∧ wr.cell? ⟨b, off + k * 10 + 7, none⟩ = some (.bool xg_opn) ∧ wr.cell? ⟨b, off + k * 10 + 8, none⟩ = some (.slice ps xg_subslength cs) ∧ wr.cell? ⟨b, off + k * 10 + 9, none⟩ = some (.slice pr xg_rgxlength cr) ∧ wr.cell? ⟨b', off' + k * 10, none⟩ = some (.int .i64 yg_k) ∧ wr.cell? ⟨b', off' + k * 10 + 1, none⟩ = some (.string yg_nm) ∧ wr.cell? ⟨b', off' + k * 10 + 2, none⟩ = some (.int .i64 yg_op) ∧ wr.cell? ⟨b', off' + k * 10 + 3, none⟩ = some (.slice pv' yg_varslength cv') ∧ wr.cell? ⟨b', off' + k * 10 + 4, none⟩ = some (.slice pt' yg_termslength ct') ∧ wr.cell? ⟨b', off' + k * 10 + 5, none⟩ = some (.int .i64 yg_lo) ∧ wr.cell? ⟨b', off' + k * 10 + 6, none⟩ = some (.int .i64 yg_hi) ∧ wr.cell? ⟨b', off' + k * 10 + 7, none⟩ = some (.bool yg_opn) ∧ wr.cell? ⟨b', off' + k * 10 + 8, none⟩ = some (.slice ps' yg_subslength cs') ∧ wr.cell? ⟨b', off' + k * 10 + 9, none⟩ = some (.slice pr' yg_rgxlength cr')) := ⟨a0, a1, a2, a3, a4, a5, a6, a7, a8, a9, b0, b1, b2, b3, b4, b5, b6, b7, b8, b9⟩
    go_region_held3 (fun W => W.cell? ⟨b, off + k * 10, none⟩ = some (.int .i64 xg_k) ∧ W.cell? ⟨b, off + k * 10 + 1, none⟩ = some (.string xg_nm) ∧ W.cell? ⟨b, off + k * 10 + 2, none⟩ = some (.int .i64 xg_op) ∧ W.cell? ⟨b, off + k * 10 + 3, none⟩ = some (.slice pv xg_varslength cv) ∧ W.cell? ⟨b, off + k * 10 + 4, none⟩ = some (.slice pt xg_termslength ct) ∧ W.cell? ⟨b, off + k * 10 + 5, none⟩ = some (.int .i64 xg_lo) ∧ W.cell? ⟨b, off + k * 10 + 6, none⟩ = some (.int .i64 xg_hi) ∧ W.cell? ⟨b, off + k * 10 + 7, none⟩ = some (.bool xg_opn) ∧ W.cell? ⟨b, off + k * 10 + 8, none⟩ = some (.slice ps xg_subslength cs) ∧ W.cell? ⟨b, off + k * 10 + 9, none⟩ = some (.slice pr xg_rgxlength cr) ∧ W.cell? ⟨b', off' + k * 10, none⟩ = some (.int .i64 yg_k) ∧ W.cell? ⟨b', off' + k * 10 + 1, none⟩ = some (.string yg_nm) ∧ W.cell? ⟨b', off' + k * 10 + 2, none⟩ = some (.int .i64 yg_op) ∧ W.cell? ⟨b', off' + k * 10 + 3, none⟩ = some (.slice pv' yg_varslength cv') ∧ W.cell? ⟨b', off' + k * 10 + 4, none⟩ = some (.slice pt' yg_termslength ct') ∧ W.cell? ⟨b', off' + k * 10 + 5, none⟩ = some (.int .i64 yg_lo) ∧ W.cell? ⟨b', off' + k * 10 + 6, none⟩ = some (.int .i64 yg_hi) ∧ W.cell? ⟨b', off' + k * 10 + 7, none⟩ = some (.bool yg_opn) ∧ W.cell? ⟨b', off' + k * 10 + 8, none⟩ = some (.slice ps' yg_subslength cs') ∧ W.cell? ⟨b', off' + k * 10 + 9, none⟩ = some (.slice pr' yg_rgxlength cr'))
      (exact keepc10 (by go_grown) hbr hbr' HS.out)
      (first
        | (go_at_call 10; refine (cCT.out _ (hB.trans (by go_grown))).mono ?_; rintro e v1 ⟨rfl, hb1⟩; obtain ⟨hX1, hn1⟩ := bgX (n := wr.heap.size) (W0 := wr) (by go_grown) (by go_size) hb1; clear hb1))
    have hB2 : Hid (Below w.heap.size w v1) := hB.trans (hX1.mono hsz)
    clear a0 a1 a2 a3 a4 a5 a6 a7 a8 a9 b0 b1 b2 b3 b4 b5 b6 b7 b8 b9 cCT hX1 hn1
    cases C with
    | true =>
      have hr3 : Hid (sameFs xs ys = sameFs (xs.drop (k + 1)) (ys.drop (k + 1))) := by have := hr2.out; rwa [Bool.true_and] at this
      go_wp2
      exact ⟨⟨k + 1, by omega, by go_num, hr3, hB2.out⟩, by simp [intOf]; omega⟩
    | false =>
      have hr3 : Hid (sameFs xs ys = false) := by have := hr2.out; rwa [Bool.false_and] at this
      go_wp2
      go_ret
      exact ⟨ret_bool hr3.out.symm, hB2.out⟩

theorem keepR {W0 W : World} {a a' : Addr} {u v : Value} (h : Below W0.heap.size W0 W) (hx : a.block < W0.heap.size) (hy : a'.block < W0.heap.size) (hs : W0.cell? a = some u ∧ W0.cell? a' = some v) : W.cell? a = some u ∧ W.cell? a' = some v := ⟨bclL h hs.1 hx, bclL h hs.2 hy⟩
set_option maxRecDepth 100000 in
set_option maxHeartbeats 8000000 in
theorem rsameRs_step (A B : Value) (xs ys : List Rx) (w : World) (hA : RxsAt w A xs) (hB : RxsAt w B ys) (HF : ∀ i (hi : i < xs.length) (hi' : i < ys.length) (u u' : Value) (W : World), FmsAt w u xs[i].test → FmsAt w u' ys[i].test → Below w.heap.size w W → Calls Tryz.prog 35 #[u, u'] W fun e w' => e = .returned (.bool (sameFs xs[i].test ys[i].test)) ∧ Below W.heap.size W w') (HR : ∀ i (hi : i < xs.length) (hi' : i < ys.length) (u u' : Value) (W : World), RxsAt w u xs[i].subs → RxsAt w u' ys[i].subs → Below w.heap.size w W → Calls Tryz.prog 34 #[u, u'] W fun e w' => e = .returned (.bool (sameRs xs[i].subs ys[i].subs)) ∧ Below W.heap.size W w') :
    Calls Tryz.prog 34 #[A, B] w fun e w' => e = .returned (.bool (sameRs xs ys)) ∧ Below w.heap.size w w' := by
  obtain ⟨p, c, rfl, lx, hc, HX0⟩ := hA.form
  obtain ⟨p', c', rfl, ly, hc', HY0⟩ := hB.form
  by_cases hl : xs.length = ys.length
  case neg =>
    have h2 : ((xs.length : Int) == ys.length) = false := by simp; omega
    have HS : Hid (sameRs xs ys = false) := sameRs_len hl
    clear HX0 HY0 hA hB HF HR
    generalize xs.length = n at *
    generalize ys.length = m at *
    go_enter Tryz.func34, Tryz.ntmps34
    go_wp2
    go_ret
    exact ⟨ret_bool HS.out.symm, by go_grown⟩
  have HX : Hid (∀ i (hi : i < xs.length), ∃ b off ut us, p = some ⟨b, off, none⟩ ∧ b < w.heap.size ∧ RxC w b (off + i * 3) xs[i] ut us ∧ FmsAt w ut xs[i].test ∧ RxsAt w us xs[i].subs) := HX0
  have HY : Hid (∀ i (hi : i < ys.length), ∃ b off ut us, p' = some ⟨b, off, none⟩ ∧ b < w.heap.size ∧ RxC w b (off + i * 3) ys[i] ut us ∧ FmsAt w ut ys[i].test ∧ RxsAt w us ys[i].subs) := HY0
  have HFF : Hid (∀ i (hi : i < xs.length) (hi' : i < ys.length) (u u' : Value) (W : World), FmsAt w u xs[i].test → FmsAt w u' ys[i].test → Below w.heap.size w W → Calls Tryz.prog 35 #[u, u'] W fun e w' => e = .returned (.bool (sameFs xs[i].test ys[i].test)) ∧ Below W.heap.size W w') := HF
  have HRR : Hid (∀ i (hi : i < xs.length) (hi' : i < ys.length) (u u' : Value) (W : World), RxsAt w u xs[i].subs → RxsAt w u' ys[i].subs → Below w.heap.size w W → Calls Tryz.prog 34 #[u, u'] W fun e w' => e = .returned (.bool (sameRs xs[i].subs ys[i].subs)) ∧ Below W.heap.size W w') := HR
  obtain ⟨n, en⟩ : ∃ n : Nat, Hid (xs.length = n) := ⟨_, rfl⟩
  have em : Hid (ys.length = n) := hl.symm.trans en.out
  rw [en.out] at lx hc ⊢
  rw [em.out] at hc' ⊢
  clear hA hB hl ly HX0 HY0 HF HR
  go_enter Tryz.func34, Tryz.ntmps34
  go_wp2
  go_loopw [5] (fun i wr => ∃ k : Nat, k ≤ n ∧ i = .int .i64 k ∧ Hid (sameRs xs ys = sameRs (xs.drop k) (ys.drop k)) ∧ Below w.heap.size w wr) (fun i _ => n - (intOf i).toNat)
  case atStart => exact ⟨0, Nat.zero_le _, rfl, (show sameRs xs ys = sameRs (xs.drop 0) (ys.drop 0) by simp), Below.refl _ _⟩
  case round =>
    obtain ⟨k, hk, rfl, hr, hB⟩ := hrel
    have hsz := hB.size
    by_cases hlt : k < n
    case neg =>
      have c2 : ¬ (k : Int) < n := by omega
      have hr3 : Hid (sameRs xs ys = true) := by
        have h := hr.out
        rw [List.drop_eq_nil_of_le (by have := en.out; omega), List.drop_eq_nil_of_le (by have := em.out; omega), sameRs_nil] at h
        exact h
      go_wp2
      go_ret
      exact ⟨ret_bool hr3.out.symm, hB⟩
    have hlt' : (k : Int) < n := by omega
    have kx : k < xs.length := by have := en.out; omega
    have ky : k < ys.length := by have := em.out; omega
    obtain ⟨b, off, ut, us, rfl, hb, TC, TT, TS⟩ := HX.out k kx
    obtain ⟨b', off', ut', us', rfl, hb', TC', TT', TS'⟩ := HY.out k ky
    obtain ⟨a0, a1, a2⟩ := TC.below hB hb
    obtain ⟨b0, b1, b2⟩ := TC'.below hB hb'
    have hbr : b < wr.heap.size := Nat.lt_of_lt_of_le hb hsz
    have hbr' : b' < wr.heap.size := Nat.lt_of_lt_of_le hb' hsz
    have hr2 : Hid (sameRs xs ys = (((xs[k].k == ys[k].k) && (sameFs xs[k].test ys[k].test && sameRs xs[k].subs ys[k].subs)) && sameRs (xs.drop (k + 1)) (ys.drop (k + 1)))) := by
      have h := hr.out
      rw [List.drop_eq_getElem_cons kx, List.drop_eq_getElem_cons ky, sameRs_cons, sameR_eq] at h
      exact h
    have cF : Hid (∀ W : World, Below w.heap.size w W → Calls Tryz.prog 35 #[ut, ut'] W fun e w' => e = .returned (.bool (sameFs xs[k].test ys[k].test)) ∧ Below W.heap.size W w') := fun W hW => HFF.out k kx ky ut ut' W TT TT' hW
    have cR : Hid (∀ W : World, Below w.heap.size w W → Calls Tryz.prog 34 #[us, us'] W fun e w' => e = .returned (.bool (sameRs xs[k].subs ys[k].subs)) ∧ Below W.heap.size W w') := fun W hW => HRR.out k kx ky us us' W TS TS' hW
    clear hr TC TC'
    obtain ⟨pt, ct, rfl, -⟩ := TT.form
    obtain ⟨ps, cs, rfl, -⟩ := TS.form
    obtain ⟨pt', ct', rfl, -⟩ := TT'.form
    obtain ⟨ps', cs', rfl, -⟩ := TS'.form
    clear TT TS TT' TS'
    generalize sameFs xs[k].test ys[k].test = C at *
    generalize sameRs xs[k].subs ys[k].subs = D at *
    generalize xs[k].k = xk at *
    generalize ys[k].k = yk at *
    generalize xs[k].test.length = nt at *
    generalize ys[k].test.length = nt' at *
    generalize xs[k].subs.length = ns at *
    generalize ys[k].subs.length = ns' at *
    go_upto_region 6 with fail
    have HS : Hid (wr.cell? ⟨b, off + k * 3 + 1, none⟩ = some (.slice pt nt ct) ∧ wr.cell? ⟨b', off' + k * 3 + 1, none⟩ = some (.slice pt' nt' ct')) := ⟨a1, b1⟩
    go_region_held3 (fun W => W.cell? ⟨b, off + k * 3 + 1, none⟩ = some (.slice pt nt ct) ∧ W.cell? ⟨b', off' + k * 3 + 1, none⟩ = some (.slice pt' nt' ct'))
      (exact keepR (by go_grown) hbr hbr' HS.out)
      (first
        | (go_at_call 35; refine (cF.out _ (hB.trans (by go_grown))).mono ?_; rintro e v1 ⟨rfl, hv1⟩; obtain ⟨hX1, hn1⟩ := bgX (n := wr.heap.size) (W0 := wr) (by go_grown) (by go_size) hv1; clear hv1))
    have hB1 : Below w.heap.size w v1 := hB.trans (hX1.mono hsz)
    have hsz1 := hB1.size
    have a0' : v1.cell? ⟨b, off + k * 3, none⟩ = some (.int .i64 xk) := bclL hX1 a0 hbr
    have b0' : v1.cell? ⟨b', off' + k * 3, none⟩ = some (.int .i64 yk) := bclL hX1 b0 hbr'
    have a2' : v1.cell? ⟨b, off + k * 3 + 2, none⟩ = some (.slice ps ns cs) := bclL hX1 a2 hbr
    have b2' : v1.cell? ⟨b', off' + k * 3 + 2, none⟩ = some (.slice ps' ns' cs') := bclL hX1 b2 hbr'
    have hb1 : b < v1.heap.size := by omega
    have hb1' : b' < v1.heap.size := by omega
    clear a0 a1 a2 b0 b1 b2 HS hX1 cF hB
    go_upto_region 7 with fail
    have HS : Hid (v1.cell? ⟨b, off + k * 3 + 2, none⟩ = some (.slice ps ns cs) ∧ v1.cell? ⟨b', off' + k * 3 + 2, none⟩ = some (.slice ps' ns' cs')) := ⟨a2', b2'⟩
    go_region_held3 (fun W => W.cell? ⟨b, off + k * 3 + 2, none⟩ = some (.slice ps ns cs) ∧ W.cell? ⟨b', off' + k * 3 + 2, none⟩ = some (.slice ps' ns' cs'))
      (exact keepR (by go_grown) hb1 hb1' HS.out)
      (first
        | (go_at_call 34; refine (cR.out _ (hB1.trans (by go_grown))).mono ?_; rintro e v2 ⟨rfl, hv2⟩; obtain ⟨hX2, hn2⟩ := bgX (n := v1.heap.size) (W0 := v1) (by go_grown) (by go_size) hv2; clear hv2))
    have hB2 : Below w.heap.size w v2 := hB1.trans (hX2.mono hsz1)
    have a0 : v2.cell? ⟨b, off + k * 3, none⟩ = some (.int .i64 xk) := bclL hX2 a0' hb1
    have b0 : v2.cell? ⟨b', off' + k * 3, none⟩ = some (.int .i64 yk) := bclL hX2 b0' hb1'
    clear a0' b0' a2' b2' HS hX2 cR hB1
    go_upto_region 8 with fail
    by_cases hk1 : (xk == yk) = true
    case neg =>
      have hk1' : (xk == yk) = false := by simpa using hk1
      have hne : (xk != yk) = true := by simp [bne, hk1']
      have hr3 : Hid (sameRs xs ys = false) := by have h := hr2.out; rw [hk1'] at h; simp at h; exact h
      clear hk1 hr2
      go_quiet (fail)
      go_wp2
      go_ret
      exact ⟨ret_bool hr3.out.symm, bdrewA _ hB2⟩
    have hne : (xk != yk) = false := by simp [bne, hk1]
    cases C with
    | false =>
      have hr3 : Hid (sameRs xs ys = false) := by have h := hr2.out; simp at h; exact h
      clear hr2
      go_quiet (fail)
      go_wp2
      go_ret
      exact ⟨ret_bool hr3.out.symm, bdrewA _ hB2⟩
    | true =>
      cases D with
      | false =>
        have hr3 : Hid (sameRs xs ys = false) := by have h := hr2.out; simp at h; exact h
        clear hr2
        go_quiet (fail)
        go_wp2
        go_ret
        exact ⟨ret_bool hr3.out.symm, bdrewA _ hB2⟩
      | true =>
        have hr3 : Hid (sameRs xs ys = sameRs (xs.drop (k + 1)) (ys.drop (k + 1))) := by have h := hr2.out; rw [hk1] at h; simp only [Bool.true_and] at h; exact h
        clear hr2
        go_quiet (fail)
        go_wp2
        exact ⟨⟨k + 1, by omega, by go_num, hr3, bdrewA _ hB2⟩, by simp [intOf]; omega⟩

set_option maxRecDepth 100000 in
set_option maxHeartbeats 8000000 in
theorem rsamef_step (x y : Fm) (q q' : FQ) (w : World) (hq : QAt w (x, q)) (hq' : QAt w (y, q')) (IF : ∀ W : World, Below w.heap.size w W → Calls Tryz.prog 35 #[q.s, q'.s] W fun e w' => e = .returned (.bool (sameFs x.subs y.subs)) ∧ Below W.heap.size W w') (IR : ∀ W : World, Below w.heap.size w W → Calls Tryz.prog 34 #[q.r, q'.r] W fun e w' => e = .returned (.bool (sameRs x.rgx y.rgx)) ∧ Below W.heap.size W w') :
    Calls Tryz.prog 10 #[.agg #[.int .i64 x.k, .string x.nm, .int .i64 x.op, q.v, q.t, .int .i64 x.lo, .int .i64 x.hi, .bool x.opn, q.s, q.r], .agg #[.int .i64 y.k, .string y.nm, .int .i64 y.op, q'.v, q'.t, .int .i64 y.lo, .int .i64 y.hi, .bool y.opn, q'.s, q'.r]] w fun e w' => e = .returned (.bool (sameF x y)) ∧ Below w.heap.size w w' := by
  have cV : Hid (∀ W : World, Below w.heap.size w W → Calls Tryz.prog 32 #[q.v, q'.v] W fun e w' => e = .returned (.bool (decide (x.vars = y.vars))) ∧ Below W.heap.size W w') := fun W hW => rnms_any _ _ _ _ W (hq.1.below hW) (hq'.1.below hW)
  have cT : Hid (∀ W : World, Below w.heap.size w W → Calls Tryz.prog 33 #[q.t, q'.t] W fun e w' => e = .returned (.bool (sameTs x.terms y.terms)) ∧ Below W.heap.size W w') := fun W hW => rsame_tms _ _ _ _ _ W (Nat.le_refl _) (hq.2.1.bel hW) (hq'.2.1.bel hW)
  have cR : Hid (∀ W : World, Below w.heap.size w W → Calls Tryz.prog 34 #[q.r, q'.r] W fun e w' => e = .returned (.bool (sameRs x.rgx y.rgx)) ∧ Below W.heap.size W w') := IR
  have cF : Hid (∀ W : World, Below w.heap.size w W → Calls Tryz.prog 35 #[q.s, q'.s] W fun e w' => e = .returned (.bool (sameFs x.subs y.subs)) ∧ Below W.heap.size W w') := IF
  have hE : Hid (sameF x y = ((x.k == y.k) && ((x.nm.toList == y.nm.toList) && ((x.op == y.op) && (((x.lo == y.lo) && ((x.hi == y.hi) && (x.opn == y.opn))) && (decide (x.vars = y.vars) && (sameTs x.terms y.terms && (sameRs x.rgx y.rgx && sameFs x.subs y.subs)))))))) := sameF_eq x y
  obtain ⟨uv, ut, us, ur⟩ := q
  obtain ⟨uv', ut', us', ur'⟩ := q'
  obtain ⟨h1, h2, h3, h4⟩ := hq
  obtain ⟨h1', h2', h3', h4'⟩ := hq'
  dsimp only at h1 h2 h3 h4 h1' h2' h3' h4' cV cT cR cF ⊢
  obtain ⟨-, pv, cv, rfl, -⟩ := h1
  obtain ⟨pt, ct, rfl, -⟩ := h2.form
  obtain ⟨ps, cs, rfl, -⟩ := h3.form
  obtain ⟨pr, cr, rfl, -⟩ := h4.form
  obtain ⟨-, pv', cv', rfl, -⟩ := h1'
  obtain ⟨pt', ct', rfl, -⟩ := h2'.form
  obtain ⟨ps', cs', rfl, -⟩ := h3'.form
  obtain ⟨pr', cr', rfl, -⟩ := h4'.form
  clear h2 h3 h4 h2' h3' h4' IF IR
  generalize sameF x y = R at *
  generalize sameFs x.subs y.subs = C4 at *
  generalize sameRs x.rgx y.rgx = C3 at *
  generalize sameTs x.terms y.terms = C2 at *
  generalize decide (x.vars = y.vars) = C1 at *
  generalize x.vars.length = nv at *
  generalize y.vars.length = nv' at *
  generalize x.terms.length = nt at *
  generalize y.terms.length = nt' at *
  generalize x.subs.length = ns at *
  generalize y.subs.length = ns' at *
  generalize x.rgx.length = nr at *
  generalize y.rgx.length = nr' at *
  generalize x.lo = lo at *
  generalize y.lo = lo' at *
  generalize x.hi = hi at *
  generalize y.hi = hi' at *
  generalize x.nm = nm at *
  generalize y.nm = nm' at *
  generalize x.opn = o at *
  generalize y.opn = o' at *
  generalize x.op = op at *
  generalize y.op = op' at *
  generalize x.k = k at *
  generalize y.k = k' at *
  by_cases h1 : (k == k') = true
  case neg =>
    have hf : (k == k') = false := by simpa using h1
    have hR : Hid (R = false) := by have h := hE.out; rw [hf] at h; simp at h; exact h
    have hne : (k != k') = true := by simp [bne, hf]
    clear h1
    go_enter Tryz.func10, Tryz.ntmps10
    go_wp2
    all_goals (go_ret; exact ⟨ret_bool hR.out.symm, by go_grown⟩)
  have n1 : (k != k') = false := by simp [bne, h1]
  by_cases h2 : (nm.toList == nm'.toList) = true
  case neg =>
    have hf : (nm.toList == nm'.toList) = false := by simpa using h2
    have hR : Hid (R = false) := by have h := hE.out; rw [hf] at h; simp at h; exact h
    have hne : (!nm.toList == nm'.toList) = true := by simp [hf]
    clear h2
    go_enter Tryz.func10, Tryz.ntmps10
    go_wp2
    all_goals (go_ret; exact ⟨ret_bool hR.out.symm, by go_grown⟩)
  have n2 : (!nm.toList == nm'.toList) = false := by simp [h2]
  by_cases h3 : (op == op') = true
  case neg =>
    have hf : (op == op') = false := by simpa using h3
    have hR : Hid (R = false) := by have h := hE.out; rw [hf] at h; simp at h; exact h
    have hne : (op != op') = true := by simp [bne, hf]
    clear h3
    go_enter Tryz.func10, Tryz.ntmps10
    go_wp2
    all_goals (go_ret; exact ⟨ret_bool hR.out.symm, by go_grown⟩)
  have n3 : (op != op') = false := by simp [bne, h3]
  by_cases h4l : lo = lo'
  case neg =>
    have hf : (lo == lo') = false := by simpa using h4l
    have hR : Hid (R = false) := by have h := hE.out; rw [hf] at h; simp at h; exact h
    go_enter Tryz.func10, Tryz.ntmps10
    go_wp2
    all_goals (go_ret; exact ⟨ret_bool hR.out.symm, by go_grown⟩)
  subst h4l
  by_cases h4h : hi = hi'
  case neg =>
    have hf : (hi == hi') = false := by simpa using h4h
    have hR : Hid (R = false) := by have h := hE.out; rw [hf] at h; simp at h; exact h
    go_enter Tryz.func10, Tryz.ntmps10
    go_wp2
    all_goals (go_ret; exact ⟨ret_bool hR.out.symm, by go_grown⟩)
  subst h4h
  by_cases h4o : o = o'
  case neg =>
    have hf : (o == o') = false := by simpa using h4o
    have hR : Hid (R = false) := by have h := hE.out; rw [hf] at h; simp at h; exact h
    go_enter Tryz.func10, Tryz.ntmps10
    go_wp2
    all_goals (go_ret; exact ⟨ret_bool hR.out.symm, by go_grown⟩)
  subst h4o
  have hR0 : Hid (R = (C1 && (C2 && (C3 && C4)))) := by have h := hE.out; rw [h1, h2, h3] at h; simp only [beq_self_eq_true, Bool.true_and] at h; exact h
  clear hE
  go_enter Tryz.func10, Tryz.ntmps10
  go_wp2_with fail
  refine (cV.out _ (by go_grown)).mono ?_
  rintro e w1 ⟨rfl, hw1⟩
  obtain ⟨hB1, hn1⟩ := bgX (n := w.heap.size) (W0 := w) (by go_grown) (by go_size) hw1
  have hz1 : w.heap.size + 1 < w1.heap.size := by have := hw1.size; simp at this; omega
  have e4 : w1.cell? ⟨w.heap.size, 4, none⟩ = some (.slice pt nt ct) := (hw1.cell (p := ⟨w.heap.size, 4, none⟩) (by first | (simp; done) | (simp; omega))).trans (by simp [go_sem])
  have g4 : w1.cell? ⟨w.heap.size + 1, 4, none⟩ = some (.slice pt' nt' ct') := (hw1.cell (p := ⟨w.heap.size + 1, 4, none⟩) (by first | (simp; done) | (simp; omega))).trans (by simp [go_sem])
  have e9 : w1.cell? ⟨w.heap.size, 9, none⟩ = some (.slice pr nr cr) := (hw1.cell (p := ⟨w.heap.size, 9, none⟩) (by first | (simp; done) | (simp; omega))).trans (by simp [go_sem])
  have g9 : w1.cell? ⟨w.heap.size + 1, 9, none⟩ = some (.slice pr' nr' cr') := (hw1.cell (p := ⟨w.heap.size + 1, 9, none⟩) (by first | (simp; done) | (simp; omega))).trans (by simp [go_sem])
  have e8 : w1.cell? ⟨w.heap.size, 8, none⟩ = some (.slice ps ns cs) := (hw1.cell (p := ⟨w.heap.size, 8, none⟩) (by first | (simp; done) | (simp; omega))).trans (by simp [go_sem])
  have g8 : w1.cell? ⟨w.heap.size + 1, 8, none⟩ = some (.slice ps' ns' cs') := (hw1.cell (p := ⟨w.heap.size + 1, 8, none⟩) (by first | (simp; done) | (simp; omega))).trans (by simp [go_sem])
  clear hw1 cV
  go_wp2_with fail
  refine (cT.out _ hB1).mono ?_
  rintro e w2 ⟨rfl, hw2⟩
  have hB2 : Below w.heap.size w w2 := hB1.trans (hw2.mono hn1)
  have hn2 : w.heap.size ≤ w2.heap.size := hB2.size
  have hz2 : w.heap.size + 1 < w2.heap.size := Nat.lt_of_lt_of_le hz1 hw2.size
  have e9 : w2.cell? ⟨w.heap.size, 9, none⟩ = some (.slice pr nr cr) := (hw2.cell (p := ⟨w.heap.size, 9, none⟩) (by show w.heap.size < _; omega)).trans (e9)
  have g9 : w2.cell? ⟨w.heap.size + 1, 9, none⟩ = some (.slice pr' nr' cr') := (hw2.cell (p := ⟨w.heap.size + 1, 9, none⟩) (by show w.heap.size + 1 < _; omega)).trans (g9)
  have e8 : w2.cell? ⟨w.heap.size, 8, none⟩ = some (.slice ps ns cs) := (hw2.cell (p := ⟨w.heap.size, 8, none⟩) (by show w.heap.size < _; omega)).trans (e8)
  have g8 : w2.cell? ⟨w.heap.size + 1, 8, none⟩ = some (.slice ps' ns' cs') := (hw2.cell (p := ⟨w.heap.size + 1, 8, none⟩) (by show w.heap.size + 1 < _; omega)).trans (g8)
  clear hw2 cT
  go_wp2_with fail
  refine (cR.out _ hB2).mono ?_
  rintro e w3 ⟨rfl, hw3⟩
  have hB3 : Below w.heap.size w w3 := hB2.trans (hw3.mono hn2)
  have hn3 : w.heap.size ≤ w3.heap.size := hB3.size
  have hz3 : w.heap.size + 1 < w3.heap.size := Nat.lt_of_lt_of_le hz2 hw3.size
  have e8 : w3.cell? ⟨w.heap.size, 8, none⟩ = some (.slice ps ns cs) := (hw3.cell (p := ⟨w.heap.size, 8, none⟩) (by show w.heap.size < _; omega)).trans (e8)
  have g8 : w3.cell? ⟨w.heap.size + 1, 8, none⟩ = some (.slice ps' ns' cs') := (hw3.cell (p := ⟨w.heap.size + 1, 8, none⟩) (by show w.heap.size + 1 < _; omega)).trans (g8)
  clear hw3 cR e4 g4 e9 g9
  cases C1 with
  | false =>
    have hR : Hid (R = false) := by have h := hR0.out; simp at h; exact h
    go_wp2
    go_ret
    exact ⟨ret_bool hR.out.symm, hB3⟩
  | true =>
  cases C2 with
  | false =>
    have hR : Hid (R = false) := by have h := hR0.out; simp at h; exact h
    go_wp2
    go_ret
    exact ⟨ret_bool hR.out.symm, hB3⟩
  | true =>
  cases C3 with
  | false =>
    have hR : Hid (R = false) := by have h := hR0.out; simp at h; exact h
    go_wp2
    go_ret
    exact ⟨ret_bool hR.out.symm, hB3⟩
  | true =>
    have hR : Hid (R = C4) := by have h := hR0.out; simp at h; exact h
    go_wp2_with fail
    refine (cF.out _ hB3).mono ?_
    rintro e w4 ⟨rfl, hw4⟩
    have hB4 : Below w.heap.size w w4 := hB3.trans (hw4.mono hn3)
    clear hw4 cF e8 g8
    cases C4 with
    | false =>
      go_wp2
      go_ret
      exact ⟨ret_bool hR.out.symm, hB4⟩
    | true =>
      go_wp2
      go_ret
      exact ⟨ret_bool hR.out.symm, hB4⟩

theorem both_rsame : ∀ m : Nat, (∀ (xs ys : List Fm) (A B : Value) (w : World), SizeOf.sizeOf xs ≤ m → FmsAt w A xs → FmsAt w B ys → Calls Tryz.prog 35 #[A, B] w fun e w' => e = .returned (.bool (sameFs xs ys)) ∧ Below w.heap.size w w') ∧ (∀ (xs ys : List Rx) (A B : Value) (w : World), SizeOf.sizeOf xs ≤ m → RxsAt w A xs → RxsAt w B ys → Calls Tryz.prog 34 #[A, B] w fun e w' => e = .returned (.bool (sameRs xs ys)) ∧ Below w.heap.size w w') := by
  intro m
  induction m with
  | zero => exact ⟨fun xs ys A B w hm => by cases xs <;> simp at hm, fun xs ys A B w hm => by cases xs <;> simp at hm⟩
  | succ m ih =>
    refine ⟨fun xs ys A B w hm hA hB => rsameFs_step A B xs ys w hA hB fun i hi hi' q q' W h1 h2 hW => ?_, fun xs ys A B w hm hA hB => rsameRs_step A B xs ys w hA hB (fun i hi hi' u u' W h1 h2 hW => ?_) (fun i hi hi' u u' W h1 h2 hW => ?_)⟩
    · have s := mem_lt i hi
      have k1 := h1.below hW
      have k2 := h2.below hW
      exact rsamef_step xs[i] ys[i] q q' W k1 k2 (fun W' hW' => ih.1 _ _ _ _ W' (by have := Fm.subs_lt xs[i]; omega) (k1.2.2.1.bel hW') (k2.2.2.1.bel hW')) (fun W' hW' => ih.2 _ _ _ _ W' (by have := Fm.rgx_lt xs[i]; omega) (k1.2.2.2.bel hW') (k2.2.2.2.bel hW'))
    · have s := mem_lt i hi
      exact ih.1 _ _ _ _ W (by have := Rx.test_lt xs[i]; omega) (h1.bel hW) (h2.bel hW)
    · have s := mem_lt i hi
      exact ih.2 _ _ _ _ W (by have := Rx.subs_lt xs[i]; omega) (h1.bel hW) (h2.bel hW)
/-- The document's Same, at any two formulas. -/
theorem rsame_fm (x y : Fm) (q q' : FQ) (w : World) (hq : QAt w (x, q)) (hq' : QAt w (y, q')) :
    Calls Tryz.prog 10 #[.agg #[.int .i64 x.k, .string x.nm, .int .i64 x.op, q.v, q.t, .int .i64 x.lo, .int .i64 x.hi, .bool x.opn, q.s, q.r], .agg #[.int .i64 y.k, .string y.nm, .int .i64 y.op, q'.v, q'.t, .int .i64 y.lo, .int .i64 y.hi, .bool y.opn, q'.s, q'.r]] w fun e w' => e = .returned (.bool (sameF x y)) ∧ Below w.heap.size w w' :=
  rsamef_step x y q q' w hq hq' (fun W hW => (both_rsame _).1 _ _ _ _ W (Nat.le_refl _) (hq.2.2.1.bel hW) (hq'.2.2.1.bel hW)) (fun W hW => (both_rsame _).2 _ _ _ _ W (Nat.le_refl _) (hq.2.2.2.bel hW) (hq'.2.2.2.bel hW))

end Go.Proofs.YtfajjphfjilpnaaGreat

namespace Go.Proofs.YtfajjphfjilpnaaGreat
open Go.RowKit LX Go.Shelf
set_option linter.unusedVariables false

theorem beqI (a b : Int) : (a == b) = (b == a) := by
  rw [Bool.eq_iff_iff, beq_iff_eq, beq_iff_eq]
  exact eq_comm
theorem beqL (a b : List UInt8) : (a == b) = (b == a) := by
  rw [Bool.eq_iff_iff, beq_iff_eq, beq_iff_eq]
  exact eq_comm
theorem beqB (a b : Bool) : (a == b) = (b == a) := by cases a <;> cases b <;> rfl
theorem same_val_comm (x y : Val) : x.same y = y.same x := by
  unfold Val.same sameB
  rw [beqI x.k, beqI x.n, beqI x.d, beqL x.s.toList]
theorem same_val_refl (x : Val) : x.same x = true := by
  unfold Val.same sameB
  simp
theorem tms_sym : ∀ (m : Nat) (xs ys : List Tm), SizeOf.sizeOf xs ≤ m → sameTs xs ys = sameTs ys xs ∧ sameTs xs xs = true := by
  intro m
  induction m with
  | zero => intro xs ys hm; cases xs <;> simp at hm
  | succ m ih =>
    intro xs ys hm
    cases xs with
    | nil => cases ys with
      | nil => exact ⟨rfl, sameTs_nil⟩
      | cons y ys => exact ⟨by rw [sameTs_len (by simp), sameTs_len (by simp)], sameTs_nil⟩
    | cons x xs =>
      have s1 : SizeOf.sizeOf xs ≤ m := by simp at hm; omega
      have s2 : SizeOf.sizeOf x.subs ≤ m := by have := Tm.subs_lt x; simp at hm; omega
      refine ⟨?_, ?_⟩
      · cases ys with
        | nil => rw [sameTs_len (by simp), sameTs_len (by simp)]
        | cons y ys =>
          rw [sameTs_cons, sameTs_cons, sameT_eq, sameT_eq, (ih xs ys s1).1, (ih x.subs y.subs s2).1, same_val_comm, beqI x.k, beqL x.nm.toList]
      · rw [sameTs_cons, sameT_eq, (ih xs xs s1).2, (ih x.subs x.subs s2).2, same_val_refl]
        simp
theorem both_sym : ∀ m : Nat, (∀ xs ys : List Fm, SizeOf.sizeOf xs ≤ m → sameFs xs ys = sameFs ys xs ∧ sameFs xs xs = true) ∧ (∀ xs ys : List Rx, SizeOf.sizeOf xs ≤ m → sameRs xs ys = sameRs ys xs ∧ sameRs xs xs = true) := by
  intro m
  induction m with
  | zero => exact ⟨fun xs ys hm => by cases xs <;> simp at hm, fun xs ys hm => by cases xs <;> simp at hm⟩
  | succ m ih =>
    constructor
    · intro xs ys hm
      cases xs with
      | nil => cases ys with
        | nil => exact ⟨rfl, sameFs_nil⟩
        | cons y ys => exact ⟨by rw [sameFs_len (by simp), sameFs_len (by simp)], sameFs_nil⟩
      | cons x xs =>
        have s1 : SizeOf.sizeOf xs ≤ m := by simp at hm; omega
        have s2 : SizeOf.sizeOf x.subs ≤ m := by have := Fm.subs_lt x; simp at hm; omega
        have s3 : SizeOf.sizeOf x.rgx ≤ m := by have := Fm.rgx_lt x; simp at hm; omega
        refine ⟨?_, ?_⟩
        · cases ys with
          | nil => rw [sameFs_len (by simp), sameFs_len (by simp)]
          | cons y ys =>
            rw [sameFs_cons, sameFs_cons, sameF_eq, sameF_eq, (ih.1 xs ys s1).1, (ih.1 x.subs y.subs s2).1, (ih.2 x.rgx y.rgx s3).1, (tms_sym _ x.terms y.terms (Nat.le_refl _)).1, beqI x.k, beqL x.nm.toList, beqI x.op, beqI x.lo, beqI x.hi, beqB x.opn]
            rw [show decide (x.vars = y.vars) = decide (y.vars = x.vars) by rw [decide_eq_decide]; exact eq_comm]
        · rw [sameFs_cons, sameF_eq, (ih.1 xs xs s1).2, (ih.1 x.subs x.subs s2).2, (ih.2 x.rgx x.rgx s3).2, (tms_sym _ x.terms x.terms (Nat.le_refl _)).2]
          simp
    · intro xs ys hm
      cases xs with
      | nil => cases ys with
        | nil => exact ⟨rfl, sameRs_nil⟩
        | cons y ys => exact ⟨by rw [sameRs_len (by simp), sameRs_len (by simp)], sameRs_nil⟩
      | cons x xs =>
        have s1 : SizeOf.sizeOf xs ≤ m := by simp at hm; omega
        have s2 : SizeOf.sizeOf x.subs ≤ m := by have := Rx.subs_lt x; simp at hm; omega
        have s3 : SizeOf.sizeOf x.test ≤ m := by have := Rx.test_lt x; simp at hm; omega
        refine ⟨?_, ?_⟩
        · cases ys with
          | nil => rw [sameRs_len (by simp), sameRs_len (by simp)]
          | cons y ys => rw [sameRs_cons, sameRs_cons, sameR_eq, sameR_eq, (ih.2 xs ys s1).1, (ih.2 x.subs y.subs s2).1, (ih.1 x.test y.test s3).1, beqI x.k]
        · rw [sameRs_cons, sameR_eq, (ih.2 xs xs s1).2, (ih.2 x.subs x.subs s2).2, (ih.1 x.test x.test s3).2]
          simp
theorem sameF_refl (x : Fm) : sameF x x = true := by
  rw [sameF_eq, ((both_sym _).1 x.subs x.subs (Nat.le_refl _)).2, ((both_sym _).2 x.rgx x.rgx (Nat.le_refl _)).2, (tms_sym _ x.terms x.terms (Nat.le_refl _)).2]
  simp

end Go.Proofs.YtfajjphfjilpnaaGreat

namespace Go.Proofs.YtfajjphfjilpnaaGreat
open Go.RowKit LX Go.Shelf
set_option linter.unusedVariables false

/-- What Part tells: the formula, the error. -/
def pG (f : Fm) (ns : List Int) : Fm := if chkF f = 0 then (partP f ns).getD fm0 else fm0
def pE (f : Fm) (ns : List Int) : Int := if chkF f = 0 then (if (partP f ns).isSome then 0 else 5) else chkF f
theorem partP_lg : ∀ (ns : List Int) (f g : Fm), partP f ns = some g → lgF f → lgF g
  | [], f, g, h, hl => by rw [partP] at h; injection h with h; subst h; exact hl
  | n :: l, f, g, h, hl => by
    by_cases h0 : n < 0
    · rw [partP_neg h0] at h; cases h
    · by_cases h1 : ((ptsF f).length : Int) ≤ n
      · rw [partP_far h0 h1] at h; cases h
      · obtain ⟨j, rfl⟩ : ∃ j : Nat, n = j := ⟨n.toNat, by omega⟩
        have jx : j < (ptsF f).length := by omega
        rw [partP_in jx] at h
        exact partP_lg l _ g h (lgFs_get _ j jx (pts_lg hl))
theorem lg_fm0 : lgF fm0 := by
  rw [lgF_eq]
  refine ⟨by decide, ⟨by decide, fun s hs => by cases hs⟩, ⟨by decide, ?_⟩, ⟨by decide, ?_⟩, ⟨by decide, ?_⟩⟩
  · show lgTs []; rw [lgTs]; trivial
  · show lgFs []; rw [lgFs]; trivial
  · show lgRs []; rw [lgRs]; trivial
theorem pG_lg (f : Fm) (ns : List Int) : lgF (pG f ns) := by
  unfold pG
  by_cases h : chkF f = 0
  · rw [if_pos h]
    cases hp : partP f ns with
    | none => exact lg_fm0
    | some g => exact partP_lg ns f g hp (chk_lg h)
  · rw [if_neg h]; exact lg_fm0
theorem own_fm0 (P : Nat → Prop) (w : World) : QOwn P w (fm0, fq0) := by
  have e : ∀ q, (Value.slice none 0 0).ownBlock = some q → P q := fun q hq => by cases hq
  exact ⟨⟨⟨rfl, Or.inl ⟨rfl, rfl⟩⟩, by decide, e⟩, .mk [] rfl (by decide) (fun x hx => by cases hx) ⟨rfl, Or.inl ⟨rfl, rfl⟩⟩ e (fun x hx => by cases hx), .mk [] rfl (by decide) ⟨rfl, Or.inl ⟨rfl, rfl⟩⟩ e (fun x hx => by cases hx) (fun x hx => by cases hx) (fun x hx => by cases hx) (fun x hx => by cases hx), .mk [] rfl (by decide) ⟨rfl, Or.inl ⟨rfl, rfl⟩⟩ e (fun x hx => by cases hx) (fun x hx => by cases hx)⟩
theorem part_all {w w' : World} {f : Fm} {ns : List Int} {r : Ending} (h : PartOut w f ns r w') : Below w.heap.size w w' ∧ ∃ z : FQ, r = .returned (.tuple #[.agg #[.int .i64 (pG f ns).k, .string (pG f ns).nm, .int .i64 (pG f ns).op, z.v, z.t, .int .i64 (pG f ns).lo, .int .i64 (pG f ns).hi, .bool (pG f ns).opn, z.s, z.r], .int .i64 (pE f ns)]) ∧ QOwn (fun b => w.heap.size ≤ b) w' (pG f ns, z) := by
  obtain ⟨hb, ⟨h1, h2⟩ | ⟨h1, h2, h3⟩ | ⟨h1, g, q, h2, h3, h4⟩⟩ := h
  · have e1 : pG f ns = fm0 := if_neg h1
    have e2 : pE f ns = chkF f := if_neg h1
    rw [e1, e2]
    exact ⟨hb, fq0, h2, own_fm0 _ _⟩
  · have e1 : pG f ns = fm0 := by unfold pG; rw [if_pos h1, h2]; rfl
    have e2 : pE f ns = 5 := by unfold pE; rw [if_pos h1, h2]; rfl
    rw [e1, e2]
    exact ⟨hb, fq0, h3, own_fm0 _ _⟩
  · have e1 : pG f ns = g := by unfold pG; rw [if_pos h1, h2]; rfl
    have e2 : pE f ns = 0 := by unfold pE; rw [if_pos h1, h2]; rfl
    rw [e1, e2]
    exact ⟨hb, q, h3, h4⟩
theorem rpart_all {wB w w' : World} {f : Fm} {ns : List Int} {r : Ending} (h : RPartOut wB w f ns r w') : Below w.heap.size w w' ∧ ∃ z : FQ, r = .returned (.tuple #[.agg #[.int .i64 (pG f ns).k, .string (pG f ns).nm, .int .i64 (pG f ns).op, z.v, z.t, .int .i64 (pG f ns).lo, .int .i64 (pG f ns).hi, .bool (pG f ns).opn, z.s, z.r], .int .i64 (pE f ns)]) ∧ QAt wB (pG f ns, z) := by
  obtain ⟨hb, ⟨h1, h2⟩ | ⟨h1, h2, h3⟩ | ⟨h1, g, q, h2, h3, h4⟩⟩ := h
  · have e1 : pG f ns = fm0 := if_neg h1
    have e2 : pE f ns = chkF f := if_neg h1
    rw [e1, e2]
    exact ⟨hb, fq0, h2, (own_fm0 (fun _ => True) wB).at⟩
  · have e1 : pG f ns = fm0 := by unfold pG; rw [if_pos h1, h2]; rfl
    have e2 : pE f ns = 5 := by unfold pE; rw [if_pos h1, h2]; rfl
    rw [e1, e2]
    exact ⟨hb, fq0, h3, (own_fm0 (fun _ => True) wB).at⟩
  · have e1 : pG f ns = g := by unfold pG; rw [if_pos h1, h2]; rfl
    have e2 : pE f ns = 0 := by unfold pE; rw [if_pos h1, h2]; rfl
    rw [e1, e2]
    exact ⟨hb, q, h3, h4⟩
theorem PthAt.belowP {w w' : World} {v : Value} {ns : List Int} (h : PthAt w v ns) (hb : Below w.heap.size w w') : PthAt w' v ns := by
  obtain ⟨h1, p, c, e, h2, h3⟩ := h
  refine ⟨h1, p, c, e, h2, fun i hi => ?_⟩
  obtain ⟨b, off, x1, x2, x3⟩ := h3 i hi
  exact ⟨b, off, x1, Nat.lt_of_lt_of_le x2 hb.size, (hb.cell (p := ⟨b, off + i, none⟩) x2).trans x3⟩
set_option maxRecDepth 100000 in
set_option maxHeartbeats 8000000 in
theorem aparts_any (f : Fm) (y : FQ) (V : Value) (ns : List Int) (w : World) (hQ : QAt w (f, y)) (hP : PthAt w V ns) : Calls Tryz.prog 5 #[.agg #[.int .i64 f.k, .string f.nm, .int .i64 f.op, y.v, y.t, .int .i64 f.lo, .int .i64 f.hi, .bool f.opn, y.s, y.r], V] w fun e w' => e = .returned (.bool true) ∧ Below w.heap.size w w' := by
  have c1 : Hid (∀ W : World, Below w.heap.size w W → Calls Tryz.prog 17 #[.agg #[.int .i64 f.k, .string f.nm, .int .i64 f.op, y.v, y.t, .int .i64 f.lo, .int .i64 f.hi, .bool f.opn, y.s, y.r], V] W fun r w' => Below W.heap.size W w' ∧ ∃ z : FQ, r = .returned (.tuple #[.agg #[.int .i64 (pG f ns).k, .string (pG f ns).nm, .int .i64 (pG f ns).op, z.v, z.t, .int .i64 (pG f ns).lo, .int .i64 (pG f ns).hi, .bool (pG f ns).opn, z.s, z.r], .int .i64 (pE f ns)]) ∧ QOwn (fun b => W.heap.size ≤ b) w' (pG f ns, z)) := fun W hW => (part_fm2 f y W (hQ.below hW) V ns (hP.belowP hW)).mono fun r w' h => part_all h
  have c2 : Hid (∀ W : World, Below w.heap.size w W → Calls Tryz.prog 18 #[.agg #[.int .i64 f.k, .string f.nm, .int .i64 f.op, y.v, y.t, .int .i64 f.lo, .int .i64 f.hi, .bool f.opn, y.s, y.r], V] W fun r w' => Below W.heap.size W w' ∧ ∃ z : FQ, r = .returned (.tuple #[.agg #[.int .i64 (pG f ns).k, .string (pG f ns).nm, .int .i64 (pG f ns).op, z.v, z.t, .int .i64 (pG f ns).lo, .int .i64 (pG f ns).hi, .bool (pG f ns).opn, z.s, z.r], .int .i64 (pE f ns)]) ∧ QAt w (pG f ns, z)) := fun W hW => (rpart_fm w f y W hW hQ V ns (hP.belowP hW)).mono fun r w' h => rpart_all h
  have c3 : Hid (∀ (W : World) (z : FQ), QAt W (pG f ns, z) → Calls Tryz.prog 7 #[.agg #[.int .i64 (pG f ns).k, .string (pG f ns).nm, .int .i64 (pG f ns).op, z.v, z.t, .int .i64 (pG f ns).lo, .int .i64 (pG f ns).hi, .bool (pG f ns).opn, z.s, z.r]] W (ClF W (pG f ns))) := fun W z hz => clone_fm _ z W hz (pG_lg f ns)
  have c4 : Hid (∀ (W : World) (z z' : FQ), QAt W (pG f ns, z) → QAt W (pG f ns, z') → Calls Tryz.prog 10 #[.agg #[.int .i64 (pG f ns).k, .string (pG f ns).nm, .int .i64 (pG f ns).op, z.v, z.t, .int .i64 (pG f ns).lo, .int .i64 (pG f ns).hi, .bool (pG f ns).opn, z.s, z.r], .agg #[.int .i64 (pG f ns).k, .string (pG f ns).nm, .int .i64 (pG f ns).op, z'.v, z'.t, .int .i64 (pG f ns).lo, .int .i64 (pG f ns).hi, .bool (pG f ns).opn, z'.s, z'.r]] W fun e w' => e = .returned (.bool true) ∧ Below W.heap.size W w') := fun W z z' h1 h2 => by
    have h := rsame_fm (pG f ns) (pG f ns) z z' W h1 h2
    rw [sameF_refl] at h
    exact h
  have c5 : Hid (∀ (B : Nat) (w1 W : World) (z : FQ), QOwn (fun b => B ≤ b) w1 (pG f ns, z) → Spt B w1 W → Calls Tryz.prog 19 #[.agg #[.int .i64 (pG f ns).k, .string (pG f ns).nm, .int .i64 (pG f ns).op, z.v, z.t, .int .i64 (pG f ns).lo, .int .i64 (pG f ns).hi, .bool (pG f ns).opn, z.s, z.r]] W (SpOut B w1 W)) := fun B w1 W z h1 h2 => spoil_any B w1 _ _ z W (Nat.le_refl _) h1 h2
  obtain ⟨pp, np, cp, rfl⟩ : ∃ p n c, V = .slice p n c := by obtain ⟨-, p, c, e, -⟩ := hP; exact ⟨p, _, c, e⟩
  clear hP
  generalize pE f ns = E at *
  generalize pG f ns = G at *
  obtain ⟨uv, ut, us, ur⟩ := y
  obtain ⟨h1, h2, h3, h4⟩ := hQ
  dsimp only at h1 h2 h3 h4 c1 c2 ⊢
  obtain ⟨-, pv, cv, rfl, -, -⟩ := h1
  obtain ⟨pt, ct, rfl, -⟩ := h2.form
  obtain ⟨ps, cs, rfl, -⟩ := h3.form
  obtain ⟨pr, cr, rfl, -⟩ := h4.form
  clear h2 h3 h4
  generalize f.vars.length = nv at *
  generalize f.terms.length = nt at *
  generalize f.subs.length = ns at *
  generalize f.rgx.length = nr at *
  generalize f.lo = lo at *
  generalize f.hi = fhi at *
  generalize f.nm = nm at *
  generalize f.opn = o at *
  generalize f.op = op at *
  generalize f.k = fk at *
  go_enter Tryz.func5, Tryz.ntmps5
  go_wp2_with fail
  refine (c1.out _ ((Below.refl _ _).alloc (Nat.le_refl _) _)).mono ?_
  rintro e w1 ⟨hb1, z1, rfl, q1⟩
  have X1 : Hid (w1.heap[w.heap.size]? = some (.cells #[.int .i64 fk, .string nm, .int .i64 op, .slice pv nv cv, .slice pt nt ct, .int .i64 lo, .int .i64 fhi, .bool o, .slice ps ns cs, .slice pr nr cr] 29 (0, 0))) := (hb1.block w.heap.size (by simp)).trans (heap_allocA w _)
  have B1 : Below w.heap.size w w1 := ((Below.refl _ _).alloc (Nat.le_refl _) _).trans (hb1.mono (by simp))
  have Q1 : Hid (QOwn (fun b => w.heap.size + 1 ≤ b) w1 (G, z1)) := by have h := q1; simp only [World.size_alloc] at h; exact h
  clear hb1 q1 c1
  obtain ⟨uv, ut, us, ur⟩ := z1
  obtain ⟨k1, k2, k3, k4⟩ := Q1.out.at
  dsimp only at k1 k2 k3 k4
  obtain ⟨-, qv, dv, rfl, -⟩ := k1
  obtain ⟨qt, dt, rfl, -⟩ := k2.form
  obtain ⟨qs, ds, rfl, -⟩ := k3.form
  obtain ⟨qr, dr, rfl, -⟩ := k4.form
  clear k2 k3 k4
  go_upto_region 2 with fail
  refine wp_world ?_
  intro w2 hW2
  have K2 : Below w1.heap.size w1 w2 := by rw [hW2]; go_grown
  have N1 : Hid (w2.heap[w1.heap.size]? = some (.cells #[.int .i64 G.k, .string G.nm, .int .i64 G.op, .slice qv G.vars.length dv, .slice qt G.terms.length dt, .int .i64 G.lo, .int .i64 G.hi, .bool G.opn, .slice qs G.subs.length ds, .slice qr G.rgx.length dr] 29 (0, 0))) := by rw [hW2]; exact heap_allocA w1 _
  have X2 : Hid (_) := blkB X1.out K2
  have B2 : Below w.heap.size w w2 := B1.trans (K2.mono B1.size)
  clear hW2 X1
  obtain ⟨e0, e1, e2, e3, e4, e5, e6, e7, e8, e9⟩ := box10 X2.out
  go_wp2_with fail
  refine (c2.out _ B2).mono ?_
  rintro e w3 ⟨hb3, z3, rfl, q3⟩
  have Q3 : Hid (QAt w (G, z3)) := q3
  have N13 : Hid (_) := blkB N1.out hb3
  have B3 : Below w.heap.size w w3 := B2.trans (hb3.mono B2.size)
  have K3 : Below w1.heap.size w1 w3 := K2.trans (hb3.mono K2.size)
  clear hb3 q3 c2 X2 N1 B2 K2 e0 e1 e2 e3 e4 e5 e6 e7 e8 e9
  obtain ⟨uv, ut, us, ur⟩ := z3
  obtain ⟨k1, k2, k3, k4⟩ := Q3.out
  dsimp only at k1 k2 k3 k4
  obtain ⟨-, mv, lv, rfl, -⟩ := k1
  obtain ⟨mt, lt, rfl, -⟩ := k2.form
  obtain ⟨ms, ls, rfl, -⟩ := k3.form
  obtain ⟨mr, lr, rfl, -⟩ := k4.form
  clear k2 k3 k4
  go_upto_region 3 with fail
  refine wp_world ?_
  intro w4 hW4
  have L4 : Below w3.heap.size w3 w4 := by rw [hW4]; go_grown
  have N2 : Hid (w4.heap[w3.heap.size]? = some (.cells #[.int .i64 G.k, .string G.nm, .int .i64 G.op, .slice mv G.vars.length lv, .slice mt G.terms.length lt, .int .i64 G.lo, .int .i64 G.hi, .bool G.opn, .slice ms G.subs.length ls, .slice mr G.rgx.length lr] 29 (0, 0))) := by rw [hW4]; exact heap_allocA w3 _
  have N14 : Hid (_) := blkB N13.out L4
  have B4 : Below w.heap.size w w4 := B3.trans (L4.mono B3.size)
  have K4 : Below w1.heap.size w1 w4 := K3.trans (L4.mono K3.size)
  have s34 : w1.heap.size ≤ w3.heap.size := K3.size
  clear hW4 N13
  generalize hn2 : w3.heap.size = n2 at *
  obtain ⟨h0, h1, h2, h3, h4, h5, h6, h7, h8, h9⟩ := box10 N2.out
  have C3 : Hid (_) := c3.out w4 (⟨.slice mv G.vars.length lv, .slice mt G.terms.length lt, .slice ms G.subs.length ls, .slice mr G.rgx.length lr⟩ : FQ) (QAt.below Q3.out B4)
  have C3' : Hid (Calls Tryz.prog 7 #[.agg #[.int .i64 G.k, .string G.nm, .int .i64 G.op, .slice mv G.vars.length lv, .slice mt G.terms.length lt, .int .i64 G.lo, .int .i64 G.hi, .bool G.opn, .slice ms G.subs.length ls, .slice mr G.rgx.length lr]] w4 (ClF w4 G)) := C3.out
  clear C3 c3 B3 K3 L4
  go_wp2_with fail
  refine C3'.out.mono ?_
  rintro e w5 ⟨z5, rfl, q5, hb5⟩
  have Q5 : Hid (QAt w5 (G, z5)) := q5.at
  have N15 : Hid (_) := blkB N14.out hb5
  have N25 : Hid (_) := blkB N2.out hb5
  have B5 : Below w.heap.size w w5 := B4.trans (hb5.mono B4.size)
  have K5 : Below w1.heap.size w1 w5 := K4.trans (hb5.mono K4.size)
  have s45 : w4.heap.size ≤ w5.heap.size := hb5.size
  have P5 : Hid (QOwn (fun b => w4.heap.size ≤ b) w5 (G, z5)) := q5
  have s24 : n2 < w4.heap.size := blkL N2.out
  clear hb5 q5 N14 N2 B4 K4 C3' h0 h1 h2 h3 h4 h5 h6 h7 h8 h9
  obtain ⟨uv, ut, us, ur⟩ := z5
  obtain ⟨k1, k2, k3, k4⟩ := Q5.out
  dsimp only at k1 k2 k3 k4
  obtain ⟨-, rv, sv, rfl, -⟩ := k1
  obtain ⟨rt, st, rfl, -⟩ := k2.form
  obtain ⟨rs, ss, rfl, -⟩ := k3.form
  obtain ⟨rr, sr, rfl, -⟩ := k4.form
  clear k2 k3 k4
  go_upto_region 4 with fail
  refine wp_world ?_
  intro w6 hW6
  have L6 : Below w5.heap.size w5 w6 := by rw [hW6]; go_grown
  have N3 : Hid (w6.heap[w5.heap.size]? = some (.cells #[.int .i64 G.k, .string G.nm, .int .i64 G.op, .slice rv G.vars.length sv, .slice rt G.terms.length st, .int .i64 G.lo, .int .i64 G.hi, .bool G.opn, .slice rs G.subs.length ss, .slice rr G.rgx.length sr] 29 (0, 0))) := by rw [hW6]; exact heap_allocA w5 _
  have N16 : Hid (_) := blkB N15.out L6
  have N26 : Hid (_) := blkB N25.out L6
  have B6 : Below w.heap.size w w6 := B5.trans (L6.mono B5.size)
  have K6 : Below w1.heap.size w1 w6 := K5.trans (L6.mono K5.size)
  have P6 : Hid (QOwn (fun b => w4.heap.size ≤ b) w6 (G, (⟨.slice rv G.vars.length sv, .slice rt G.terms.length st, .slice rs G.subs.length ss, .slice rr G.rgx.length sr⟩ : FQ))) := P5.out.keep (fun k _ hk => L6.block k hk)
  have s56 : w5.heap.size < w6.heap.size := blkL N3.out
  clear hW6 N15 N25 B5 K5 P5 Q5 L6
  generalize hn1 : w1.heap.size = n1 at *
  generalize hn3 : w5.heap.size = n3 at *
  obtain ⟨h0, h1, h2, h3, h4, h5, h6, h7, h8, h9⟩ := box10 N16.out
  obtain ⟨g0, g1, g2, g3, g4, g5, g6, g7, g8, g9⟩ := box10 N26.out
  have C4 : Hid (Calls Tryz.prog 10 #[.agg #[.int .i64 G.k, .string G.nm, .int .i64 G.op, .slice qv G.vars.length dv, .slice qt G.terms.length dt, .int .i64 G.lo, .int .i64 G.hi, .bool G.opn, .slice qs G.subs.length ds, .slice qr G.rgx.length dr], .agg #[.int .i64 G.k, .string G.nm, .int .i64 G.op, .slice mv G.vars.length lv, .slice mt G.terms.length lt, .int .i64 G.lo, .int .i64 G.hi, .bool G.opn, .slice ms G.subs.length ls, .slice mr G.rgx.length lr]] w6 fun e w' => e = .returned (.bool true) ∧ Below w6.heap.size w6 w') := c4.out w6 (⟨.slice qv G.vars.length dv, .slice qt G.terms.length dt, .slice qs G.subs.length ds, .slice qr G.rgx.length dr⟩ : FQ) (⟨.slice mv G.vars.length lv, .slice mt G.terms.length lt, .slice ms G.subs.length ls, .slice mr G.rgx.length lr⟩ : FQ) (QAt.below (w := w1) Q1.out.at (by rw [hn1]; exact K6)) (QAt.below Q3.out B6)
  go_wp2_with fail
  refine C4.out.mono ?_
  rintro e w7 ⟨rfl, hb7⟩
  have N17 : Hid (_) := blkB N16.out hb7
  have N27 : Hid (_) := blkB N26.out hb7
  have N37 : Hid (_) := blkB N3.out hb7
  have B7 : Below w.heap.size w w7 := B6.trans (hb7.mono B6.size)
  have K7 : Below n1 w1 w7 := K6.trans (hb7.mono (by rw [← hn1]; exact (show w1.heap.size ≤ _ from by rw [hn1]; exact K6.size |> fun h => by rw [hn1] at h; exact h)))
  have P7 : Hid (QOwn (fun b => w4.heap.size ≤ b) w7 (G, (⟨.slice rv G.vars.length sv, .slice rt G.terms.length st, .slice rs G.subs.length ss, .slice rr G.rgx.length sr⟩ : FQ))) := P6.out.keep (fun k _ hk => hb7.block k hk)
  have s67 : w6.heap.size ≤ w7.heap.size := hb7.size
  clear hb7 N16 N26 N3 B6 K6 P6 C4 h0 h1 h2 h3 h4 h5 h6 h7 h8 h9 g0 g1 g2 g3 g4 g5 g6 g7 g8 g9
  obtain ⟨i0, i1, i2, i3, i4, i5, i6, i7, i8, i9⟩ := box10 N17.out
  have S7 : Spt (w.heap.size + 1) w1 w7 := (Spt.refl _ w1).new (by rw [hn1]; exact K7)
  have C5 : Hid (Calls Tryz.prog 19 #[.agg #[.int .i64 G.k, .string G.nm, .int .i64 G.op, .slice qv G.vars.length dv, .slice qt G.terms.length dt, .int .i64 G.lo, .int .i64 G.hi, .bool G.opn, .slice qs G.subs.length ds, .slice qr G.rgx.length dr]] w7 (SpOut (w.heap.size + 1) w1 w7)) := c5.out (w.heap.size + 1) w1 w7 (⟨.slice qv G.vars.length dv, .slice qt G.terms.length dt, .slice qs G.subs.length ds, .slice qr G.rgx.length dr⟩ : FQ) Q1.out S7
  clear S7 K7
  go_wp2_with fail
  refine C5.out.mono ?_
  rintro e w8 ⟨⟨v8, rfl⟩, h8⟩
  have F8 : Hid (Fr (fun k => w.heap.size + 1 ≤ k ∧ k < w1.heap.size) w7 w8) := h8.out.2
  have N28 : Hid (_) := F8.out.heap N27.out (fun h => by omega)
  have N38 : Hid (_) := F8.out.heap N37.out (fun h => by omega)
  have B8 : Below w.heap.size w w8 := B7.trans (F8.out.below B7.size (fun k h => by omega))
  have P8 : Hid (QOwn (fun b => w4.heap.size ≤ b) w8 (G, (⟨.slice rv G.vars.length sv, .slice rt G.terms.length st, .slice rs G.subs.length ss, .slice rr G.rgx.length sr⟩ : FQ))) := P7.out.keep (fun k hk hlt => F8.out.block k hlt (fun h => by omega))
  clear h8 N17 N27 N37 F8 P7 C5 Q1 c5 i0 i1 i2 i3 i4 i5 i6 i7 i8 i9
  obtain ⟨h0, h1, h2, h3, h4, h5, h6, h7, h8, h9⟩ := box10 N28.out
  obtain ⟨g0, g1, g2, g3, g4, g5, g6, g7, g8, g9⟩ := box10 N38.out
  have C6 : Hid (Calls Tryz.prog 10 #[.agg #[.int .i64 G.k, .string G.nm, .int .i64 G.op, .slice mv G.vars.length lv, .slice mt G.terms.length lt, .int .i64 G.lo, .int .i64 G.hi, .bool G.opn, .slice ms G.subs.length ls, .slice mr G.rgx.length lr], .agg #[.int .i64 G.k, .string G.nm, .int .i64 G.op, .slice rv G.vars.length sv, .slice rt G.terms.length st, .int .i64 G.lo, .int .i64 G.hi, .bool G.opn, .slice rs G.subs.length ss, .slice rr G.rgx.length sr]] w8 fun e w' => e = .returned (.bool true) ∧ Below w8.heap.size w8 w') := c4.out w8 (⟨.slice mv G.vars.length lv, .slice mt G.terms.length lt, .slice ms G.subs.length ls, .slice mr G.rgx.length lr⟩ : FQ) (⟨.slice rv G.vars.length sv, .slice rt G.terms.length st, .slice rs G.subs.length ss, .slice rr G.rgx.length sr⟩ : FQ) (QAt.below Q3.out B8) P8.out.at
  go_wp2_with fail
  refine C6.out.mono ?_
  rintro e w9 ⟨rfl, hb9⟩
  have B9 : Below w.heap.size w w9 := B8.trans (hb9.mono B8.size)
  clear hb9 C6 N28 N38 P8 c4 h0 h1 h2 h3 h4 h5 h6 h7 h8 h9 g0 g1 g2 g3 g4 g5 g6 g7 g8 g9
  go_wp2_with fail
  refine (live06_any _).mono ?_
  rintro e w10 ⟨rfl, hb10⟩
  have B10 : Below w.heap.size w w10 := B9.trans (hb10.mono B9.size)
  clear hb10
  go_wp2
  go_ret
  exact ⟨rfl, B10⟩
end Go.Proofs.YtfajjphfjilpnaaGreat
