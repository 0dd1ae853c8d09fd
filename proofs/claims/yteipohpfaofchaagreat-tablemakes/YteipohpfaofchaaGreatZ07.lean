/- The document's side: are two tables the same; is a row one of a table's? -/
import Derived.Test.YteipohpfaofchaaGreatZ06

namespace Go.Proofs.YteipohpfaofchaaGreat
open Go.RowKit Go.Shelf Go.Sort
set_option linter.unusedVariables false

set_option maxRecDepth 100000 in
set_option maxHeartbeats 2000000 in
theorem dsame_short (V U : Value) (vs us : List ByteArray) (p p' : Option Addr) (n c n' c' : Nat) (hn : n ≠ n' ∨ (n = 0 ∧ n' = 0)) (w : World) (hV : StrsAt w V vs) (hU : StrsAt w U us) (lv : vs.length ≤ 9223372036854775807) (lu : us.length ≤ 9223372036854775807) (ln : n ≤ 9223372036854775807) (ln' : n' ≤ 9223372036854775807) :
    Calls Tryz.prog 14 #[.agg #[V, .slice p n c], .agg #[U, .slice p' n' c']] w fun e w' => e = .returned (.bool (decide (vs = us) && decide (n = n'))) ∧ Below w.heap.size w w' := by
  obtain ⟨L, eL⟩ : ∃ L : Bool, Hid (decide (vs = us) = L) := ⟨_, rfl⟩
  have ct : Hid (∀ W : World, Below w.heap.size w W → Calls Tryz.prog 41 #[V, U] W fun e w' => e = .returned (.bool L) ∧ Below W.heap.size W w') := fun W hB => by
    have h := svars_any V U vs us W (hV.below hB) (hU.below hB) lv lu
    rw [eL.out] at h
    exact h
  rw [eL.out]
  obtain ⟨p1, k1, rfl⟩ := hV.form
  obtain ⟨p2, k2, rfl⟩ := hU.form
  generalize vs.length = m1 at *
  generalize us.length = m2 at *
  clear hV hU eL
  go_enter Tryz.func14, Tryz.ntmps14
  go_wp2_with fail
  refine (ct.out _ (by go_grown)).mono ?_
  rintro e w1 ⟨rfl, hb1⟩
  have b0 : w1.cell? ⟨w.heap.size, 1, none⟩ = some (.slice p n c) := (hb1.cell (p := ⟨w.heap.size, 1, none⟩) (by simp; omega)).trans (by simp (maxDischargeDepth := 8) [go_sem])
  have b1 : w1.cell? ⟨w.heap.size + 1, 1, none⟩ = some (.slice p' n' c') := (hb1.cell (p := ⟨w.heap.size + 1, 1, none⟩) (by simp)).trans (by simp (maxDischargeDepth := 8) [go_sem])
  have hB1 : Below w.heap.size w w1 := by
    obtain ⟨hw1, -⟩ := bg0 (n := w.heap.size) (W0 := w) (by go_grown) (by go_size) hb1
    exact hw1
  have hs0 : w.heap.size < w1.heap.size := by have := hb1.size; simp at this; omega
  clear hb1 ct
  cases L with
  | false =>
    go_wp2
    go_ret
    exact ⟨ret_bool (by simp), hB1⟩
  | true =>
    rcases hn with hn | ⟨rfl, rfl⟩
    · have h2 : ((n : Int) == n') = false := by simp; omega
      have HN : Hid (decide (n = n') = false) := by show _ = _; simpa using hn
      clear hn
      go_wp2
      go_ret
      exact ⟨ret_bool (by rw [HN.out]; rfl), hB1⟩
    · go_wp2
      go_loopw [6] (fun i wr => i = .int .i64 0 ∧ Below w1.heap.size w1 wr) (fun _ _ => 0)
      case atStart => exact ⟨rfl, Below.refl _ _⟩
      case round =>
        obtain ⟨rfl, hB⟩ := hrel
        have c0 : wr.cell? ⟨w.heap.size, 1, none⟩ = some (.slice p 0 c) := (hB.cell (p := ⟨w.heap.size, 1, none⟩) hs0).trans b0
        go_wp2
        go_ret
        exact ⟨ret_bool (by simp), hB1.trans (hB.mono hB1.size)⟩

/-- The document's Same at any two tables. -/
theorem dsame_any {V R U Q : Value} {vs us : List ByteArray} {xs ys : List (List Val)} {w : World} (hV : StrsAt w V vs) (hU : StrsAt w U us) (hA : TabRows w R xs) (hB : TabRows w Q ys) (lv : vs.length ≤ 9223372036854775807) (lu : us.length ≤ 9223372036854775807)
    (fx : ∀ r ∈ xs, ∀ v ∈ r, v.Fits) (fy : ∀ r ∈ ys, ∀ v ∈ r, v.Fits) (lx : ∀ r ∈ xs, r.length ≤ 9223372036854775807) (ln : xs.length ≤ 9223372036854775807) (ln' : ys.length ≤ 9223372036854775807) :
    Calls Tryz.prog 14 #[.agg #[V, R], .agg #[U, Q]] w fun e w' => e = .returned (.bool (decide (vs = us) && rowsS xs ys)) ∧ Below w.heap.size w w' := by
  obtain ⟨p, c, rfl, h1⟩ := hA
  obtain ⟨p', c', rfl, h2⟩ := hB
  by_cases hl : xs.length = ys.length
  · by_cases h0 : xs = []
    · subst h0
      have e0 : ys = [] := List.eq_nil_of_length_eq_zero (by simpa using hl.symm)
      subst e0
      have h := dsame_short V U vs us p p' 0 c 0 c' (Or.inr ⟨rfl, rfl⟩) w hV hU lv lu (by omega) (by omega)
      exact h
    · rcases h1 with h1 | ⟨b, off, rfl, hb, hr⟩
      · exact absurd h1 h0
      · rcases h2 with h2 | ⟨b', off', rfl, hb', hr'⟩
        · subst h2
          exact absurd (List.eq_nil_of_length_eq_zero (by simpa using hl)) h0
        · exact tsame_core V U vs us b off c b' off' c' xs ys w hV hU lv lu fx fy lx hb hb' hr hr' ln hl
  · have h := dsame_short V U vs us p p' xs.length c ys.length c' (Or.inl hl) w hV hU lv lu ln ln'
    rw [rowsS_len hl]
    rwa [show decide (xs.length = ys.length) = false by simpa using hl] at h

theorem rowS_comm (x y : List Val) : rowS x y = rowS y x := by
  rw [Bool.eq_iff_iff, rowS_iff, rowS_iff]
  exact eq_comm

set_option maxRecDepth 100000 in
set_option maxHeartbeats 2000000 in
theorem dhas_any {V R Y : Value} {p : Option Addr} {n0 c0 : Nat} (hV : V = .slice p n0 c0) {rs : List (List Val)} {ys : List Val} {w : World} (hA : TabRows w R rs) (hY : RowAt w Y ys) (fx : ∀ r ∈ rs, ∀ v ∈ r, v.Fits) (fy : ∀ v ∈ ys, v.Fits) (lr : rs.length ≤ 9223372036854775807) (ls : ∀ r ∈ rs, r.length ≤ 9223372036854775807) :
    Calls Tryz.prog 19 #[.agg #[V, R], Y] w fun e w' => e = .returned (.bool (anyS ys rs)) ∧ Below w.heap.size w w' := by
  subst hV
  obtain ⟨q, c, rfl, HX0⟩ := hA.form
  have HX : Hid (∀ k (hk : k < rs.length), ∃ b off u, q = some ⟨b, off, none⟩ ∧ b < w.heap.size ∧ w.cell? ⟨b, off + k, none⟩ = some u ∧ RowAt w u rs[k]) := HX0
  have HY : Hid (RowAt w Y ys) := hY
  have SX : Hid (∀ r ∈ rs, r.length ≤ 9223372036854775807) := ls
  have FX : Hid (∀ r ∈ rs, ∀ v ∈ r, v.Fits) := fx
  have FY : Hid (∀ v ∈ ys, v.Fits) := fy
  obtain ⟨py, cy, rfl⟩ := hY.form
  obtain ⟨n, en⟩ : ∃ n : Nat, Hid (rs.length = n) := ⟨_, rfl⟩
  rw [en.out] at lr ⊢
  clear hA hY HX0 ls fx fy
  generalize ys.length = ny at *
  go_enter Tryz.func19, Tryz.ntmps19
  go_upto_region 1 with fail
  refine wp_world ?_
  intro W0 hW0
  have B0 : Hid (W0.cell? ⟨w.heap.size, 1, none⟩ = some (.slice q n c)) := by rw [hW0]; show _ = _; simp (maxDischargeDepth := 8) [go_sem]
  have K0 : Below w.heap.size w W0 := by rw [hW0]; go_grown
  have z0 : w.heap.size < W0.heap.size := by rw [hW0]; simp
  clear hW0
  go_wp2
  go_loopw [5] (fun i wr => ∃ k : Nat, k ≤ n ∧ i = .int .i64 k ∧ Hid (anyS ys rs = anyS ys (rs.drop k)) ∧ Below W0.heap.size W0 wr) (fun i _ => n - (intOf i).toNat)
  case atStart => exact ⟨0, Nat.zero_le _, rfl, (show anyS ys rs = anyS ys (rs.drop 0) by simp), Below.refl _ _⟩
  case round =>
    obtain ⟨k, hk, rfl, hr, hBw⟩ := hrel
    have KW : Below w.heap.size w wr := K0.trans (hBw.mono K0.size)
    have b0 : wr.cell? ⟨w.heap.size, 1, none⟩ = some (.slice q n c) := (hBw.cell (p := ⟨w.heap.size, 1, none⟩) z0).trans B0.out
    by_cases hlt : k < n
    · have kx : k < rs.length := by have := en.out; omega
      obtain ⟨b, off, U, rfl, hb, r0, r1⟩ := HX.out k kx
      have a0 := (KW.cell (p := ⟨b, off + k, none⟩) hb).trans r0
      have hr2 : Hid (anyS ys rs = (rowS rs[k] ys || anyS ys (rs.drop (k + 1)))) := by
        have h := hr.out
        rw [List.drop_eq_getElem_cons kx] at h
        show _ = _
        rw [h, rowS_comm]
        rfl
      have ct : Hid (Calls Tryz.prog 42 #[U, .slice py ny cy] wr fun e w' => e = .returned (.bool (rowS rs[k] ys)) ∧ Below wr.heap.size wr w') := srow_any U _ _ ys wr (FX.out _ (List.getElem_mem kx)) FY.out (r1.below KW) (HY.out.below KW) (SX.out _ (List.getElem_mem kx))
      obtain ⟨pu, cu, rfl⟩ := r1.form
      clear r0 hr r1
      generalize rs[k] = X at a0 hr2 ct
      generalize rowS X ys = C at hr2 ct
      generalize X.length = nx at a0 ct
      go_wp2_with fail
      refine ct.out.mono ?_
      rintro e w1 ⟨rfl, hw1⟩
      have hB2 : Below W0.heap.size W0 w1 := hBw.trans (hw1.mono hBw.size)
      clear a0 b0 ct hw1
      cases C with
      | true =>
        have hr3 : Hid (anyS ys rs = true) := by have := hr2.out; rwa [Bool.true_or] at this
        go_wp2
        go_ret
        exact ⟨ret_bool hr3.out.symm, K0.trans (hB2.mono K0.size)⟩
      | false =>
        have hr3 : Hid (anyS ys rs = anyS ys (rs.drop (k + 1))) := by have := hr2.out; rwa [Bool.false_or] at this
        go_wp2
        exact ⟨⟨k + 1, by omega, by go_num, hr3, hB2⟩, by simp [intOf]; omega⟩
    · have c2 : ¬ (k : Int) < n := by omega
      have hr3 : Hid (anyS ys rs = false) := by
        have h := hr.out
        rw [List.drop_eq_nil_of_le (by have := en.out; omega)] at h
        exact h
      go_wp2
      go_ret
      exact ⟨ret_bool hr3.out.symm, KW⟩

end Go.Proofs.YteipohpfaofchaaGreat
