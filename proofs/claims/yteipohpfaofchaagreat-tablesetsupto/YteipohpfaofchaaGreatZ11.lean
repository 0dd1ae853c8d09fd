/- How much a table that came in may hold, by the bulk of what is read. -/
import Derived.Test.YteipohpfaofchaaGreatZ10
import Derived.Test.YteipohpfaofchaaGreatZ08
import Derived.Test.YteipohpfaofchaaGreatZ09
import Derived.Test.YteipohpfaofchaaGreatRows
import Derived.Test.YteipohpfaofchaaGreatZ07

namespace Go.Proofs.YteipohpfaofchaaGreat
open Go.RowKit Go.Shelf Go.Sort
set_option linter.unusedVariables false

theorem weak1 {w : World} {B e size n : Nat} {v : Value} {xs : List Value} (h : w.ownsRow B e size v n xs) (g o : Nat) (u : Value) : ∃ ys, (w.setCell ⟨g, o, none⟩ u).ownsRow B e size v n ys := by
  rcases h with ⟨h0, ⟨rfl, rfl⟩ | ⟨g', cap, cur, rfl, h1⟩⟩
  · exact ⟨[], by simp, Or.inl ⟨rfl, rfl⟩⟩
  · have h' : w.ownsRow B e size (.slice (some ⟨g', 0, none⟩) n cap) n xs := ⟨h0, Or.inr ⟨g', cap, cur, rfl, h1⟩⟩
    by_cases hg : g' = g
    · subst hg
      exact ⟨_, (h'.stored o u).1⟩
    · exact ⟨xs, World.ownsRow.kept h' (grownBy_setCell w g o u) (Or.inr (fun e => hg (by injection e)))⟩
/-- A table that may be written over, in a variable. -/
def Sp (B T : Nat) (A b : Value) (us : List Value) (ls : List Nat) (nv : Nat) (w : World) : Prop :=
  w.heap[T]? = some (.cells #[A, b] 25 (0, 0)) ∧ w.ownsRow B 37 1 b us.length us ∧ us.length = ls.length ∧ (∀ i (h : i < us.length) (g : i < ls.length), ∃ ys, w.ownsRow B 47 4 us[i] ls[i] ys) ∧ ∃ zs, w.ownsRow B 9 1 A nv zs
theorem Sp.set {B T : Nat} {A b : Value} {us : List Value} {ls : List Nat} {nv : Nat} {w : World} (h : Sp B T A b us ls nv w) {g : Nat} {cur : Array Value} {e' : Nat} (hg : w.heap[g]? = some (.cells cur e' (0, 0))) (n1 : 25 ≠ e') (n2 : 37 ≠ e') (o : Nat) (u : Value) : Sp B T A b us ls nv (w.setCell ⟨g, o, none⟩ u) ∧ ∃ cur', (w.setCell ⟨g, o, none⟩ u).heap[g]? = some (.cells cur' e' (0, 0)) := by
  obtain ⟨h1, h2, h3, h4, zs, h5⟩ := h
  have hgb := grownBy_setCell w g o u
  refine ⟨⟨?_, World.ownsRow.kept h2 hgb (Or.inr (own_ne h2 hg n2)), h3, fun i a c => ?_, weak1 h5 g o u⟩, ?_⟩
  · have hne : T ≠ g := by
      intro e
      subst e
      rw [h1] at hg
      injection hg with hg
      injection hg with _ hg _
      exact n1 hg
    exact (hgb.block T (Array.getElem?_eq_some_iff.1 h1).1 (fun e => hne (by injection e with e; first | done | exact e | exact e.symm))).trans h1
  · obtain ⟨ys, hy⟩ := h4 i a c
    exact weak1 hy g o u
  · rw [setCell_eq]
    show ∃ cur', (w.heap.modify _ _)[_]? = _
    rw [Array.getElem?_modify, if_pos rfl, hg]
    exact ⟨_, rfl⟩
theorem Sp.below {B T : Nat} {A b : Value} {us : List Value} {ls : List Nat} {nv : Nat} {w w' : World} (h : Sp B T A b us ls nv w) (hb : Below w.heap.size w w') : Sp B T A b us ls nv w' := by
  obtain ⟨h1, h2, h3, h4, zs, h5⟩ := h
  exact ⟨(hb.block T (Array.getElem?_eq_some_iff.1 h1).1).trans h1, own_below h2 hb, h3, fun i a c => (h4 i a c).imp fun _ h => own_below h hb, zs, own_below h5 hb⟩

theorem Sp.set4 {B T : Nat} {A b : Value} {us : List Value} {ls : List Nat} {nv : Nat} {w : World} (h : Sp B T A b us ls nv w) {g : Nat} {cur : Array Value} {e' : Nat} (hg : w.heap[g]? = some (.cells cur e' (0, 0))) (n1 : 25 ≠ e') (n2 : 37 ≠ e') (o1 o2 o3 o4 : Nat) (u1 u2 u3 u4 : Value) : Sp B T A b us ls nv ((((w.setCell ⟨g, o1, none⟩ u1).setCell ⟨g, o2, none⟩ u2).setCell ⟨g, o3, none⟩ u3).setCell ⟨g, o4, none⟩ u4) := by
  obtain ⟨h1, c1, e1⟩ := h.set hg n1 n2 o1 u1
  obtain ⟨h2, c2, e2⟩ := h1.set e1 n1 n2 o2 u2
  obtain ⟨h3, c3, e3⟩ := h2.set e2 n1 n2 o3 u3
  exact (h3.set e3 n1 n2 o4 u4).1
theorem below_set1 {B : Nat} {w w' : World} (h : Below B w w') (hB : B ≤ w.heap.size) {g : Nat} (hg : B ≤ g) (o : Nat) (u : Value) : Below B w (w'.setCell ⟨g, o, none⟩ u) :=
  h.grown (grownBy_setCell w' g o u) (Nat.le_trans hB h.size) (fun q hq => by injection hq with hq; omega)

set_option maxRecDepth 100000 in
set_option maxHeartbeats 8000000 in
theorem spoil_any {B : Nat} {t : Value} {vs : List ByteArray} {L : List (List Val)} {w : World} (hT : OwnT B t vs L w) (hB0 : B ≤ w.heap.size) (lv : vs.length ≤ 9223372036854775807) (ll : L.length ≤ 9223372036854775807) (lr : ∀ r ∈ L, r.length ≤ 9223372036854775807) :
    Calls Tryz.prog 48 #[t] w fun e w' => (∃ v, e = .returned v) ∧ Below B w w' := by
  obtain ⟨A, b, us, rfl, hA, hb, hr⟩ := hT
  have S0 : Hid (Sp B w.heap.size A b us (L.map (·.length)) vs.length (w.alloc (.cells #[A, b] 25))) := by
    refine ⟨heap_alloc _ _, World.ownsRow.alloc hb _, by simpa using hr.1, fun i h g => ?_, ⟨_, World.ownsRow.alloc hA _⟩⟩
    rw [List.getElem_map]
    exact ⟨_, World.ownsRow.alloc (hr.2 i h (by simpa using g)) _⟩
  have hul := hr.1
  obtain ⟨pA, nA, cA, rfl⟩ := slice_of hA
  obtain ⟨pb, nb, cb, rfl⟩ := slice_of hb
  have LN : Hid (∀ i (g : i < (L.map (·.length)).length), (L.map (·.length))[i] ≤ 9223372036854775807) := fun i g => by
    rw [List.getElem_map]
    exact lr _ (List.getElem_mem _)
  generalize L.map (·.length) = ls at S0 LN
  obtain ⟨n, en⟩ : ∃ n : Nat, Hid (us.length = n) := ⟨_, rfl⟩
  have en1 : nb = n := by
    have h := own_form hb
    obtain ⟨p, c, e, -⟩ := h
    injection e with _ e _
    rw [e, en.out]
  have em : nA = vs.length := by
    obtain ⟨p, c, e⟩ := (OwnS.strs hA).form
    injection e
  subst en1 em
  rw [← hul, en.out] at ll
  obtain ⟨m, em⟩ : ∃ m : Nat, Hid (vs.length = m) := ⟨_, rfl⟩
  rw [em.out] at S0 lv ⊢
  have B0 : Below B w (w.alloc (.cells #[.slice pA m cA, .slice pb nb cb] 25)) := (Below.refl _ _).alloc hB0 _
  clear hA hb hr hul lr
  go_enter Tryz.func48, Tryz.ntmps48
  go_wp2
  generalize w.alloc (.cells #[.slice pA m cA, .slice pb nb cb] 25) = W0 at S0 B0 ⊢
  go_loopw [2] (fun v wr => ∃ i : Nat, i ≤ nb ∧ v = .int .i64 i ∧ Hid (Sp B w.heap.size (.slice pA m cA) (.slice pb nb cb) us ls m wr) ∧ Below B w wr) (fun v _ => nb - (intOf v).toNat)
  case atStart => exact ⟨0, Nat.zero_le _, rfl, S0, B0⟩
  case round =>
    obtain ⟨i, hi, rfl, hS, hB⟩ := hrel
    have t1 := cell_of_heap hS.out.1 1 rfl
    by_cases hlt : i < nb
    · have kx : i < us.length := by have := en.out; omega
      have ky : i < ls.length := by have := hS.out.2.2.1; omega
      obtain ⟨ro, hro⟩ : ∃ ro : Nat, Hid (ls[i] = ro) := ⟨ls[i], (rfl : ls[i] = ls[i])⟩
      have lro : ro ≤ 9223372036854775807 := by have := LN.out i ky; rw [hro.out] at this; exact this
      clear t1
      obtain ⟨U, eU⟩ : ∃ U, Hid (us[i] = U) := ⟨us[i], (rfl : us[i] = us[i])⟩
      obtain ⟨ys0, hy0⟩ := hS.out.2.2.2.1 i kx ky
      obtain ⟨pu, nu, cu, hf⟩ := slice_of hy0
      rw [eU.out] at hf
      subst hf
      have enu : nu = ro := by
        rw [eU.out, hro.out] at hy0
        rcases hy0 with ⟨-, ⟨e, h⟩ | ⟨_, _, _, e, -⟩⟩
        · injection e with _ e _; omega
        · injection e
      subst enu
      have j0 : (0 : Int) ≤ (i : Int) := by omega
      have j1 : (i : Int) < (nb : Int) := by omega
      have OUT : Hid (∀ W, Sp B w.heap.size (.slice pA m cA) (.slice pb nb cb) us ls m W → ∃ gb, pb = some ⟨gb, 0, none⟩ ∧ gb < W.heap.size ∧ W.cell? ⟨gb, i, none⟩ = some (.slice pu nu cu)) := fun W h => by
        obtain ⟨p, c, e, h5⟩ := own_form h.2.1
        obtain ⟨g, h6, -, h7, h8⟩ := h5 i kx
        injection e with e1 e2 e3
        subst e1
        rw [eU.out] at h8
        exact ⟨g, h6, h7, h8⟩
      have ROW : Hid (∀ W, Sp B w.heap.size (.slice pA m cA) (.slice pb nb cb) us ls m W → ∃ ys, W.ownsRow B 47 4 (.slice pu nu cu) nu ys) := fun W h => by
        obtain ⟨ys, hy⟩ := h.2.2.2.1 i kx ky
        rw [eU.out, hro.out] at hy
        exact ⟨ys, hy⟩
      clear hy0
      obtain ⟨gb, rfl, -, -⟩ := OUT.out _ hS.out
      have t1 := cell_of_heap hS.out.1 1 rfl
      go_upto_region 4 with fail
      go_wp2
      go_loopw [3] (fun v wr => ∃ k : Nat, k ≤ nu ∧ v = .int .i64 k ∧ Hid (Sp B w.heap.size (.slice pA m cA) (.slice (some ⟨gb, 0, none⟩) nb cb) us ls m wr) ∧ Below B w wr) (fun v _ => nu - (intOf v).toNat)
      case atStart => exact ⟨0, Nat.zero_le _, rfl, hS, hB⟩
      case round =>
        clear t1 hS hB
        obtain ⟨k, hk, rfl, hS, hB⟩ := hrel
        have t1 := cell_of_heap hS.out.1 1 rfl
        obtain ⟨gb', e1, lgb, q1⟩ := OUT.out _ hS.out
        injection e1 with e1
        injection e1 with e1
        subst e1
        have hsB : B ≤ wr.heap.size := Nat.le_trans hB0 hB.size
        by_cases hlk : k < nu
        · obtain ⟨ys, hy⟩ := ROW.out _ hS.out
          rcases hy with ⟨-, ⟨-, h⟩ | ⟨gr, cap, cur, e, hBg, hcur, hnc, -, hsz, -⟩⟩
          · omega
          injection e with e1 _ e3
          subst e1 e3
          have HC : Hid (wr.heap[gr]? = some (.cells cur 47 (0, 0))) := hcur
          have z0 : k * 4 < cur.size := by rw [hsz]; omega
          have z1 : k * 4 + 1 < cur.size := by rw [hsz]; omega
          have z2 : k * 4 + 2 < cur.size := by rw [hsz]; omega
          have z3 : k * 4 + 3 < cur.size := by rw [hsz]; omega
          have grl : gr < wr.heap.size := (Array.getElem?_eq_some_iff.1 hcur).1
          have tl : w.heap.size < wr.heap.size := (Array.getElem?_eq_some_iff.1 hS.out.1).1
          have T1 : Hid (wr.heap[w.heap.size]? = some (.cells #[.slice pA m cA, .slice (some ⟨gb, 0, none⟩) nb cb] 25 (0, 0))) := hS.out.1
          have Q1 : Hid (wr.cell? ⟨gb, i, none⟩ = some (.slice (some ⟨gr, 0, none⟩) nu cu)) := q1
          have FACT : Hid (∀ W, Below wr.heap.size wr W → W.cell? ⟨w.heap.size, 1, none⟩ = some (.slice (some ⟨gb, 0, none⟩) nb cb) ∧ W.cell? ⟨gb, i, none⟩ = some (.slice (some ⟨gr, 0, none⟩) nu cu) ∧ W.cell? ⟨gr, k * 4, none⟩ = some cur[k * 4] ∧ W.cell? ⟨gr, k * 4 + 1, none⟩ = some cur[k * 4 + 1] ∧ W.cell? ⟨gr, k * 4 + 2, none⟩ = some cur[k * 4 + 2] ∧ W.cell? ⟨gr, k * 4 + 3, none⟩ = some cur[k * 4 + 3] ∧ W.frozen? ⟨gr, k * 4, none⟩ = false ∧ W.frozen? ⟨gr, k * 4 + 1, none⟩ = false ∧ W.frozen? ⟨gr, k * 4 + 2, none⟩ = false ∧ W.frozen? ⟨gr, k * 4 + 3, none⟩ = false) := fun W hW => by
            have h1 := (hW.block _ grl).trans HC.out
            have h2 := (hW.block _ tl).trans T1.out
            exact ⟨cell_of_heap h2 1 rfl, (hW.cell (p := ⟨gb, i, none⟩) lgb).trans Q1.out, cell_of_heap h1 _ (Array.getElem?_eq_getElem z0), cell_of_heap h1 _ (Array.getElem?_eq_getElem z1), cell_of_heap h1 _ (Array.getElem?_eq_getElem z2), cell_of_heap h1 _ (Array.getElem?_eq_getElem z3), frozen_of_heap h1 _, frozen_of_heap h1 _, frozen_of_heap h1 _, frozen_of_heap h1 _⟩
          generalize cur[k * 4] = o0 at FACT
          generalize cur[k * 4 + 1] = o1 at FACT
          generalize cur[k * 4 + 2] = o2 at FACT
          generalize cur[k * 4 + 3] = o3 at FACT
          have ONE : Hid (∀ W : World, Calls Tryz.prog 35 #[.int .i64 (-77)] W fun e w' => e = .returned (.agg #[.int .i64 1, .int .i64 (-77), .int .i64 0, .string ⟨#[]⟩]) ∧ Below W.heap.size W w') := fun W => one_any (-77) W
          have i1 : (0 : Int) ≤ (k : Int) := by omega
          have i2 : (k : Int) < (nu : Int) := by omega
          clear hcur
          go_upto_region 7 with fail
          go_region_with (go_at_call 35; refine (ONE.out _).mono ?_; rintro e v1 ⟨rfl, hv1⟩; obtain ⟨hw1, hn1⟩ := bg0 (n := wr.heap.size) (W0 := wr) (by go_grown) (by go_size) hv1; clear hv1; obtain ⟨x1, x2, x3, x4, x5, x6, x7, x8, x9, x10⟩ := FACT.out _ hw1)
          all_goals (
            have HS4 : Hid (Sp B w.heap.size (.slice pA m cA) (.slice (some ⟨gb, 0, none⟩) nb cb) us ls m ((((v1.setCell ⟨gr, k * 4, none⟩ (.int .i64 1)).setCell ⟨gr, k * 4 + 1, none⟩ (.int .i64 (-77))).setCell ⟨gr, k * 4 + 2, none⟩ (.int .i64 0)).setCell ⟨gr, k * 4 + 3, none⟩ (.string ⟨#[]⟩))) := Sp.set4 (hS.out.below hw1) ((hw1.block _ grl).trans HC.out) (by decide) (by decide) _ _ _ _ _ _ _ _
            have BB : Below B w v1 := hB.trans (hw1.mono hsB)
            have HB4 : Below B w ((((v1.setCell ⟨gr, k * 4, none⟩ (.int .i64 1)).setCell ⟨gr, k * 4 + 1, none⟩ (.int .i64 (-77))).setCell ⟨gr, k * 4 + 2, none⟩ (.int .i64 0)).setCell ⟨gr, k * 4 + 3, none⟩ (.string ⟨#[]⟩)) := below_set1 (below_set1 (below_set1 (below_set1 BB hB0 hBg _ _) hB0 hBg _ _) hB0 hBg _ _) hB0 hBg _ _
            clear x1 x2 x3 x4 x5 x6 x7 x8 x9 x10 hw1 hn1 FACT HC T1 Q1 hS BB
            go_wp2
            exact ⟨⟨k + 1, by omega, by go_num, HS4, HB4⟩, by simp [intOf]; omega⟩)
        · have c2 : ¬ (k : Int) < nu := by omega
          go_wp2
          exact ⟨⟨i + 1, by omega, by go_num, hS, hB⟩, by simp [intOf]; omega⟩
    · have c2 : ¬ (i : Int) < nb := by omega
      go_wp2
      clear t1
      go_loopw [4] (fun v wr => ∃ i : Nat, i ≤ m ∧ v = .int .i64 i ∧ Hid (Sp B w.heap.size (.slice pA m cA) (.slice pb nb cb) us ls m wr) ∧ Below B w wr) (fun v _ => m - (intOf v).toNat)
      case atStart => exact ⟨0, Nat.zero_le _, rfl, hS, hB⟩
      case round =>
        clear hS hB
        obtain ⟨k, hk, rfl, hS, hB⟩ := hrel
        have t0 := cell_of_heap hS.out.1 0 rfl
        by_cases hlk : k < m
        · obtain ⟨zs, hy⟩ := hS.out.2.2.2.2
          rcases hy with ⟨-, ⟨-, h⟩ | ⟨gr, cap, cur, e, hBg, hcur, hnc, -, hsz, -⟩⟩
          · omega
          injection e with e1 _ e3
          subst e1 e3
          have z0 : k < cur.size := by rw [hsz]; omega
          have x0 := cell_of_heap hcur k (Array.getElem?_eq_getElem z0)
          have f0 := frozen_of_heap hcur k
          have HS4 : Hid (Sp B w.heap.size (.slice (some ⟨gr, 0, none⟩) m cA) (.slice pb nb cb) us ls m (wr.setCell ⟨gr, k, none⟩ (.string ⟨#[64]⟩))) := (hS.out.set hcur (by decide) (by decide) k (.string ⟨#[64]⟩)).1
          have HB4 : Below B w (wr.setCell ⟨gr, k, none⟩ (.string ⟨#[64]⟩)) := below_set1 hB hB0 hBg _ _
          generalize cur[k] = o0 at x0
          have i1 : (0 : Int) ≤ (k : Int) := by omega
          have i2 : (k : Int) < (m : Int) := by omega
          clear hS hcur hsz
          go_wp2
          exact ⟨⟨k + 1, by omega, by go_num, HS4, HB4⟩, by simp [intOf]; omega⟩
        · have c3 : ¬ (k : Int) < m := by omega
          go_wp2
          go_end0
          exact ⟨⟨_, rfl⟩, hB⟩

end Go.Proofs.YteipohpfaofchaaGreat

namespace Go.Proofs.YteipohpfaofchaaGreat
open Go.RowKit Go.Shelf Go.Sort
set_option linter.unusedVariables false

theorem rowsS_comm : ∀ xs ys : List (List Val), rowsS xs ys = rowsS ys xs
  | [], [] => rfl
  | [], _ :: _ => rfl
  | _ :: _, [] => rfl
  | x :: xs, y :: ys => by simp only [rowsS]; rw [rowS_comm x y, rowsS_comm xs ys]
theorem rowsS_refl : ∀ xs : List (List Val), rowsS xs xs = true
  | [] => rfl
  | x :: xs => by simp only [rowsS]; rw [(rowS_iff).2 rfl, rowsS_refl xs]; rfl

set_option maxRecDepth 100000 in
set_option maxHeartbeats 4000000 in
theorem tasks_any {V R U Q Y : Value} {vs us : List ByteArray} {xs ys : List (List Val)} {zs : List Val} (w : World) (hV : StrsAt w V vs) (lv : vs.length ≤ 9223372036854775807) (hA : TabRows w R xs) (fx : ∀ r ∈ xs, ∀ v ∈ r, v.Fits) (sx : ∀ r ∈ xs, r.length ≤ 9223372036854775807) (lx : xs.length ≤ 9223372036854775807)
    (hU : StrsAt w U us) (lu : us.length ≤ 9223372036854775807) (hB : TabRows w Q ys) (fy : ∀ r ∈ ys, ∀ v ∈ r, v.Fits) (sy : ∀ r ∈ ys, r.length ≤ 9223372036854775807) (ly : ys.length ≤ 9223372036854775807) (hY : RowAt w Y zs) (fz : ∀ v ∈ zs, v.Fits) (lzz : zs.length ≤ 9223372036854775807) :
    Calls Tryz.prog 6 #[.agg #[V, R], .agg #[U, Q], Y] w fun e w' => e = .returned (.bool true) ∧ Below w.heap.size w w' := by
  obtain ⟨p1, k1, eV⟩ := hV.form
  obtain ⟨L, eL⟩ : ∃ L : Bool, Hid ((decide (vs = us) && rowsS xs ys) = L) := ⟨_, rfl⟩
  obtain ⟨K, eK⟩ : ∃ K : Bool, Hid (anyS zs xs = K) := ⟨_, rfl⟩
  have c1 : Hid (∀ W : World, Below w.heap.size w W → Calls Tryz.prog 14 #[.agg #[V, R], .agg #[U, Q]] W fun e w' => e = .returned (.bool L) ∧ Below W.heap.size W w') := fun W hW => by
    have h := dsame_any (hV.below hW) (hU.below hW) (hA.below hW) (hB.below hW) lv lu fx fy sx lx ly
    rwa [eL.out] at h
  have c2 : Hid (∀ W : World, Below w.heap.size w W → Calls Tryz.prog 19 #[.agg #[V, R], Y] W fun e w' => e = .returned (.bool K) ∧ Below W.heap.size W w') := fun W hW => by
    have h := dhas_any eV (hA.below hW) (hY.below hW) fx fz lx sx
    rwa [eK.out] at h
  have c3 : Hid (∀ W : World, Below w.heap.size w W → Calls Tryz.prog 20 #[.agg #[V, R], .agg #[U, Q]] W fun e w' => e = .returned (.bool L) ∧ Below W.heap.size W w') := fun W hW => by
    have h := tabsame_any V R U Q vs us xs ys W (hV.below hW) (hU.below hW) (hA.below hW) (hB.below hW) lv lu lx ly sx sy
    rwa [eL.out] at h
  have c4 : Hid (∀ W : World, Below w.heap.size w W → Calls Tryz.prog 21 #[.agg #[V, R], Y] W fun e w' => e = .returned (.bool K) ∧ Below W.heap.size W w') := fun W hW => by
    have h := tabhas_any V R Y _ _ _ eV xs zs W (hA.below hW) (hY.below hW) lx sx lzz
    rwa [eK.out] at h
  have c5 : Hid (∀ W : World, Below w.heap.size w W → Calls Tryz.prog 20 #[.agg #[U, Q], .agg #[V, R]] W fun e w' => e = .returned (.bool L) ∧ Below W.heap.size W w') := fun W hW => by
    have h := tabsame_any U Q V R us vs ys xs W (hU.below hW) (hV.below hW) (hB.below hW) (hA.below hW) lu lv ly lx sy sx
    rw [rowsS_comm, show decide (us = vs) = decide (vs = us) from decide_eq_decide.2 eq_comm] at h
    rwa [eL.out] at h
  have c6 : Hid (∀ W : World, Below w.heap.size w W → Calls Tryz.prog 20 #[.agg #[V, R], .agg #[V, R]] W fun e w' => e = .returned (.bool true) ∧ Below W.heap.size W w') := fun W hW => by
    have h := tabsame_any V R V R vs vs xs xs W (hV.below hW) (hV.below hW) (hA.below hW) (hA.below hW) lv lv lx lx sx sx
    rw [rowsS_refl, show decide (vs = vs) = true by simp] at h
    exact h
  obtain ⟨p2, k2, eU⟩ := hU.form
  obtain ⟨p3, k3, eR, -⟩ := hA.form
  obtain ⟨p4, k4, eQ, -⟩ := hB.form
  obtain ⟨p5, k5, eY⟩ := hY.form
  subst eV eU eR eQ eY
  generalize vs.length = m1 at *
  generalize us.length = m2 at *
  generalize xs.length = m3 at *
  generalize ys.length = m4 at *
  generalize zs.length = m5 at *
  clear hV hU hA hB hY fx fy fz sx sy eL eK
  go_enter Tryz.func6, Tryz.ntmps6
  go_wp2_with fail
  refine (c1.out _ (by go_grown)).mono ?_
  rintro e w1 ⟨rfl, hb1⟩
  have K1 : Below w.heap.size w w1 := by
    obtain ⟨hw1, -⟩ := bg0 (n := w.heap.size) (W0 := w) (by go_grown) (by go_size) hb1
    exact hw1
  have VA : Hid (Var w1 w.heap.size (.slice p1 m1 k1) (.slice p3 m3 k3)) := ((Var.made w _ _).below ((Below.refl _ _).alloc (Nat.le_refl _) _)).below hb1
  have VB : Hid (Var w1 (w.heap.size + 1) (.slice p2 m2 k2) (.slice p4 m4 k4)) := by
    have h := Var.made (w.alloc (.cells #[.slice p1 m1 k1, .slice p3 m3 k3] 25)) (.slice p2 m2 k2) (.slice p4 m4 k4)
    exact (at_size (P := fun g => Var _ g _ _) h (by simp)).below hb1
  clear c1 hb1
  have a0 := VA.out.c0
  have a1 := VA.out.c1
  have b0 := VB.out.c0
  have b1 := VB.out.c1
  go_wp2_with fail
  refine (c2.out _ (by exact K1)).mono ?_
  rintro e w2 ⟨rfl, hb2⟩
  have K2 : Below w.heap.size w w2 := K1.trans (hb2.mono K1.size)
  have VA2 : Hid (Var w2 w.heap.size (.slice p1 m1 k1) (.slice p3 m3 k3)) := VA.out.below hb2
  have VB2 : Hid (Var w2 (w.heap.size + 1) (.slice p2 m2 k2) (.slice p4 m4 k4)) := VB.out.below hb2
  clear a0 a1 b0 b1 hb2 VA VB c2
  have a0 := VA2.out.c0
  have a1 := VA2.out.c1
  have b0 := VB2.out.c0
  have b1 := VB2.out.c1
  go_wp2_with fail
  refine (tlive_any _).mono ?_
  rintro e w3 ⟨rfl, hb3⟩
  have K3 : Below w.heap.size w w3 := K2.trans (hb3.mono K2.size)
  have VA3 : Hid (Var w3 w.heap.size (.slice p1 m1 k1) (.slice p3 m3 k3)) := VA2.out.below hb3
  have VB3 : Hid (Var w3 (w.heap.size + 1) (.slice p2 m2 k2) (.slice p4 m4 k4)) := VB2.out.below hb3
  clear a0 a1 b0 b1 hb3 VA2 VB2
  have a0 := VA3.out.c0
  have a1 := VA3.out.c1
  have b0 := VB3.out.c0
  have b1 := VB3.out.c1
  go_wp2_with fail
  refine (c3.out _ (by exact K3)).mono ?_
  rintro e w4 ⟨rfl, hb4⟩
  have K4 : Below w.heap.size w w4 := K3.trans (hb4.mono K3.size)
  have VA4 : Hid (Var w4 w.heap.size (.slice p1 m1 k1) (.slice p3 m3 k3)) := VA3.out.below hb4
  have VB4 : Hid (Var w4 (w.heap.size + 1) (.slice p2 m2 k2) (.slice p4 m4 k4)) := VB3.out.below hb4
  clear a0 a1 b0 b1 hb4 VA3 VB3 c3
  have a0 := VA4.out.c0
  have a1 := VA4.out.c1
  have b0 := VB4.out.c0
  have b1 := VB4.out.c1
  go_wp2_with fail
  refine (c4.out _ (by exact K4)).mono ?_
  rintro e w5 ⟨rfl, hb5⟩
  have K5 : Below w.heap.size w w5 := K4.trans (hb5.mono K4.size)
  have VA5 : Hid (Var w5 w.heap.size (.slice p1 m1 k1) (.slice p3 m3 k3)) := VA4.out.below hb5
  have VB5 : Hid (Var w5 (w.heap.size + 1) (.slice p2 m2 k2) (.slice p4 m4 k4)) := VB4.out.below hb5
  clear a0 a1 b0 b1 hb5 VA4 VB4 c4
  have a0 := VA5.out.c0
  have a1 := VA5.out.c1
  have b0 := VB5.out.c0
  have b1 := VB5.out.c1
  go_wp2_with fail
  refine (c5.out _ (by exact K5)).mono ?_
  rintro e w6 ⟨rfl, hb6⟩
  have K6 : Below w.heap.size w w6 := K5.trans (hb6.mono K5.size)
  have VA6 : Hid (Var w6 w.heap.size (.slice p1 m1 k1) (.slice p3 m3 k3)) := VA5.out.below hb6
  have VB6 : Hid (Var w6 (w.heap.size + 1) (.slice p2 m2 k2) (.slice p4 m4 k4)) := VB5.out.below hb6
  clear a0 a1 b0 b1 hb6 VA5 VB5 c5
  have a0 := VA6.out.c0
  have a1 := VA6.out.c1
  have b0 := VB6.out.c0
  have b1 := VB6.out.c1
  go_wp2_with fail
  refine (c6.out _ (by exact K6)).mono ?_
  rintro e w7 ⟨rfl, hb7⟩
  have K7 : Below w.heap.size w w7 := K6.trans (hb7.mono K6.size)
  have VA7 : Hid (Var w7 w.heap.size (.slice p1 m1 k1) (.slice p3 m3 k3)) := VA6.out.below hb7
  have VB7 : Hid (Var w7 (w.heap.size + 1) (.slice p2 m2 k2) (.slice p4 m4 k4)) := VB6.out.below hb7
  clear a0 a1 b0 b1 hb7 VA6 VB6 c6
  have a0 := VA7.out.c0
  have a1 := VA7.out.c1
  have b0 := VB7.out.c0
  have b1 := VB7.out.c1
  go_wp2
  go_ret
  exact ⟨rfl, K7⟩

end Go.Proofs.YteipohpfaofchaaGreat

namespace Go.Proofs.YteipohpfaofchaaGreat
open Go.RowKit Go.Shelf Go.Sort
set_option linter.unusedVariables false

set_option maxRecDepth 100000 in
set_option maxHeartbeats 4000000 in
theorem is_any {B B' : Nat} {t u : Value} {vs : List ByteArray} {L : List (List Val)} {E : Int} {w : World} (hT : OwnT B t vs L w) (hU : OwnT B' u vs L w) (hB : B ≤ w.heap.size) (f : ∀ r ∈ L, ∀ v ∈ r, v.Fits) (lv : vs.length ≤ 9223372036854775807) (ll : L.length ≤ 9223372036854775807) (lr : ∀ r ∈ L, r.length ≤ 9223372036854775807) :
    Calls Tryz.prog 17 #[t, .int .i64 E, u, .int .i64 E] w fun e w' => e = .returned (.bool true) ∧ Below B w w' := by
  obtain ⟨pa, na, ca, pb, nb, cb, rfl⟩ := own_forms2 hT
  obtain ⟨qa, ma, da, qb, mb, db, rfl⟩ := own_forms2 hU
  have SAM : Hid (∀ W, Below w.heap.size w W → Calls Tryz.prog 14 #[.agg #[.slice pa na ca, .slice pb nb cb], .agg #[.slice qa ma da, .slice qb mb db]] W fun e w' => e = .returned (.bool true) ∧ Below W.heap.size W w') := fun W hW => by
    have h1 := own_two (hT.grown hW)
    have h2 := own_two (hU.grown hW)
    have h := dsame_any h1.1 h2.1 h1.2 h2.2 lv lv f f lr ll ll
    rw [rowsS_refl, show decide (vs = vs) = true by simp] at h
    exact h
  have SPO : Hid (∀ W, Below w.heap.size w W → Calls Tryz.prog 48 #[.agg #[.slice pa na ca, .slice pb nb cb]] W fun e w' => (∃ v, e = .returned v) ∧ Below B W w') := fun W hW => spoil_any (hT.grown hW) (Nat.le_trans hB hW.size) lv ll lr
  clear hT hU f lv ll lr
  go_enter Tryz.func17, Tryz.ntmps17
  go_wp2_with fail
  refine (SAM.out _ (by go_grown)).mono ?_
  rintro e w1 ⟨rfl, hb1⟩
  have K1 : Below w.heap.size w w1 := by
    obtain ⟨hw1, -⟩ := bg0 (n := w.heap.size) (W0 := w) (by go_grown) (by go_size) hb1
    exact hw1
  have a0 : w1.cell? ⟨w.heap.size, 0, none⟩ = some (.slice pa na ca) := (hb1.cell (p := ⟨w.heap.size, 0, none⟩) (by simp; omega)).trans (by simp (maxDischargeDepth := 8) [go_sem])
  have a1 : w1.cell? ⟨w.heap.size, 1, none⟩ = some (.slice pb nb cb) := (hb1.cell (p := ⟨w.heap.size, 1, none⟩) (by simp; omega)).trans (by simp (maxDischargeDepth := 8) [go_sem])
  clear hb1 SAM
  go_wp2_with fail
  refine (SPO.out _ K1).mono ?_
  rintro e w2 ⟨⟨v, rfl⟩, hb2⟩
  have K2 : Below B w w2 := (K1.mono hB).trans hb2
  clear a0 a1 hb2 SPO K1
  go_wp2
  go_ret
  exact ⟨rfl, K2⟩

end Go.Proofs.YteipohpfaofchaaGreat

namespace Go.Proofs.YteipohpfaofchaaGreat
open Go.RowKit Go.Shelf Go.Sort
set_option linter.unusedVariables false

/-- copied, in the form of the walks. -/
theorem copied_two {V R : Value} {vs : List ByteArray} {rs : List (List Val)} {w : World} (hV : StrsAt w V vs) (hA : TabRows w R rs) (bv : vs.length * 16 ≤ 140737488355328) (br : rs.length * 24 ≤ 140737488355328) (bs : ∀ r ∈ rs, r.length * 40 ≤ 140737488355328) :
    Calls Tryz.prog 11 #[.agg #[V, R]] w fun e w' => ∃ pa na ca pb nb cb, e = .returned (.agg #[.slice pa na ca, .slice pb nb cb]) ∧ OwnT w.heap.size (.agg #[.slice pa na ca, .slice pb nb cb]) vs rs w' ∧ Below w.heap.size w w' := by
  refine (copied_any hV hA bv br bs).mono ?_
  rintro e w' ⟨t, rfl, ht, hb⟩
  obtain ⟨p, c, p', c', rfl⟩ := own_forms ht
  exact ⟨_, _, _, _, _, _, rfl, ht, hb⟩

set_option maxRecDepth 100000 in
set_option maxHeartbeats 4000000 in
theorem tchecks_any {V R : Value} {vs : List ByteArray} {xs : List (List Val)} (w : World) (hV : StrsAt w V vs) (lv : vs.length ≤ 9223372036854775807) (hA : TabRows w R xs) (fx : ∀ r ∈ xs, ∀ v ∈ r, v.Fits) (sx : ∀ r ∈ xs, r.length ≤ 9223372036854775807) (lx : xs.length ≤ 9223372036854775807)
    (bv : vs.length * 16 ≤ 140737488355328) (bx : xs.length * 24 ≤ 140737488355328) (bs : ∀ r ∈ xs, r.length * 40 ≤ 140737488355328) :
    Calls Tryz.prog 4 #[.agg #[V, R]] w fun e w' => e = .returned (.bool true) ∧ Below w.heap.size w w' := by
  obtain ⟨E, eE⟩ : ∃ E : Int, Hid (tabChk vs xs = E) := ⟨_, rfl⟩
  have c1 : Hid (∀ W : World, Below w.heap.size w W → Calls Tryz.prog 11 #[.agg #[V, R]] W fun e w' => ∃ pa na ca pb nb cb, e = .returned (.agg #[.slice pa na ca, .slice pb nb cb]) ∧ OwnT W.heap.size (.agg #[.slice pa na ca, .slice pb nb cb]) vs xs w' ∧ Below W.heap.size W w') := fun W hW => copied_two (hV.below hW) (hA.below hW) bv bx bs
  have c2 : Hid (∀ W : World, Below w.heap.size w W → Calls Tryz.prog 12 #[.agg #[V, R]] W fun e w' => e = .returned (.int .i64 E) ∧ Below W.heap.size W w') := fun W hW => by
    have h := tcheck_any V R vs xs W (hV.below hW) lv fx sx (hA.below hW) lx
    rwa [eE.out] at h
  have c3 : Hid (∀ (W : World) (U Q : Value), StrsAt W U vs → TabRows W Q xs → Calls Tryz.prog 13 #[.agg #[U, Q]] W fun e w' => e = .returned (.int .i64 E) ∧ Below W.heap.size W w') := fun W U Q h1 h2 => by
    have h := dcheck_any h1 h2 lv fx lx sx
    rwa [eE.out] at h
  have c4 : Hid (∀ (W : World) (U Q : Value), Below w.heap.size w W → StrsAt W U vs → TabRows W Q xs → Calls Tryz.prog 14 #[.agg #[V, R], .agg #[U, Q]] W fun e w' => e = .returned (.bool true) ∧ Below W.heap.size W w') := fun W U Q hW h1 h2 => by
    have h := dsame_any (hV.below hW) h1 (hA.below hW) h2 lv lv fx fx sx lx lx
    rw [rowsS_refl, show decide (vs = vs) = true by simp] at h
    exact h
  obtain ⟨p1, k1, eV⟩ := hV.form
  obtain ⟨p3, k3, eR, -⟩ := hA.form
  subst eV eR
  obtain ⟨m1, em1⟩ : ∃ m1, Hid (vs.length = m1) := ⟨_, rfl⟩
  obtain ⟨m3, em3⟩ : ∃ m3, Hid (xs.length = m3) := ⟨_, rfl⟩
  rw [em1.out, em3.out] at c1 c2 c4 ⊢
  clear hV hA fx sx eE bv bx bs lv lx
  go_enter Tryz.func4, Tryz.ntmps4
  go_wp2_with fail
  refine (c1.out _ (by go_grown)).mono ?_
  rintro e w1 ⟨pa, na, ca, pb, nb, cb, rfl, ht, hb1⟩
  have VA : Hid (Var w1 w.heap.size (.slice p1 m1 k1) (.slice p3 m3 k3)) := (Var.made w _ _).below hb1
  have HC : Hid (StrsAt w1 (.slice pa na ca) vs ∧ TabRows w1 (.slice pb nb cb) xs) := own_two ht
  have K1 : Below w.heap.size w w1 := by
    obtain ⟨hw1, -⟩ := bg0 (n := w.heap.size) (W0 := w) (by go_grown) (by go_size) hb1
    exact hw1
  clear c1 hb1 ht
  go_upto_region 2 with fail
  refine wp_world ?_
  intro W1 hW1
  have H1 : Below w1.heap.size w1 W1 := by rw [hW1]; go_grown
  have VI1 : Hid (Var W1 w1.heap.size (.slice pa na ca) (.slice pb nb cb)) := by rw [hW1]; exact Var.made _ _ _
  clear hW1
  have VA1 : Hid (Var W1 w.heap.size (.slice p1 m1 k1) (.slice p3 m3 k3)) := VA.out.below H1
  have HC1 : Hid (StrsAt W1 (.slice pa na ca) vs ∧ TabRows W1 (.slice pb nb cb) xs) := ⟨HC.out.1.below H1, HC.out.2.below H1⟩
  have KK1 : Below w.heap.size w W1 := K1.trans (H1.mono K1.size)
  generalize w1.heap.size = g1 at VI1 ⊢
  clear VA HC K1 H1
  have a0 := VA1.out.c0
  have a1 := VA1.out.c1
  have b0 := VI1.out.c0
  have b1 := VI1.out.c1
  go_wp2_with fail
  refine (c2.out _ (by exact KK1)).mono ?_
  rintro e w2 ⟨rfl, hb2⟩
  have K2 : Below w.heap.size w w2 := KK1.trans (hb2.mono KK1.size)
  have VA2 : Hid (Var w2 w.heap.size (.slice p1 m1 k1) (.slice p3 m3 k3)) := VA1.out.below hb2
  have VI2 : Hid (Var w2 g1 (.slice pa na ca) (.slice pb nb cb)) := VI1.out.below hb2
  have HC2 : Hid (StrsAt w2 (.slice pa na ca) vs ∧ TabRows w2 (.slice pb nb cb) xs) := ⟨HC1.out.1.below hb2, HC1.out.2.below hb2⟩
  clear a0 a1 b0 b1 hb2 VA1 VI1 HC1 c2
  have a0 := VA2.out.c0
  have a1 := VA2.out.c1
  have b0 := VI2.out.c0
  have b1 := VI2.out.c1
  go_wp2_with fail
  refine (c3.out _ _ _ HC2.out.1 HC2.out.2).mono ?_
  rintro e w3 ⟨rfl, hb3⟩
  have K3 : Below w.heap.size w w3 := K2.trans (hb3.mono K2.size)
  have VA3 : Hid (Var w3 w.heap.size (.slice p1 m1 k1) (.slice p3 m3 k3)) := VA2.out.below hb3
  have VI3 : Hid (Var w3 g1 (.slice pa na ca) (.slice pb nb cb)) := VI2.out.below hb3
  have HC3 : Hid (StrsAt w3 (.slice pa na ca) vs ∧ TabRows w3 (.slice pb nb cb) xs) := ⟨HC2.out.1.below hb3, HC2.out.2.below hb3⟩
  clear a0 a1 b0 b1 hb3 VA2 VI2 HC2 c3
  have a0 := VA3.out.c0
  have a1 := VA3.out.c1
  have b0 := VI3.out.c0
  have b1 := VI3.out.c1
  go_wp2_with fail
  refine (c4.out _ _ _ K3 HC3.out.1 HC3.out.2).mono ?_
  rintro e w4 ⟨rfl, hb4⟩
  have K4 : Below w.heap.size w w4 := K3.trans (hb4.mono K3.size)
  have VA4 : Hid (Var w4 w.heap.size (.slice p1 m1 k1) (.slice p3 m3 k3)) := VA3.out.below hb4
  have VI4 : Hid (Var w4 g1 (.slice pa na ca) (.slice pb nb cb)) := VI3.out.below hb4
  have HC4 : Hid (StrsAt w4 (.slice pa na ca) vs ∧ TabRows w4 (.slice pb nb cb) xs) := ⟨HC3.out.1.below hb4, HC3.out.2.below hb4⟩
  clear a0 a1 b0 b1 hb4 VA3 VI3 HC3 c4
  have a0 := VA4.out.c0
  have a1 := VA4.out.c1
  have b0 := VI4.out.c0
  have b1 := VI4.out.c1
  go_wp2_with fail
  refine (tlive_any _).mono ?_
  rintro e w5 ⟨rfl, hb5⟩
  have K5 : Below w.heap.size w w5 := K4.trans (hb5.mono K4.size)
  have VA5 : Hid (Var w5 w.heap.size (.slice p1 m1 k1) (.slice p3 m3 k3)) := VA4.out.below hb5
  have VI5 : Hid (Var w5 g1 (.slice pa na ca) (.slice pb nb cb)) := VI4.out.below hb5
  have HC5 : Hid (StrsAt w5 (.slice pa na ca) vs ∧ TabRows w5 (.slice pb nb cb) xs) := ⟨HC4.out.1.below hb5, HC4.out.2.below hb5⟩
  clear a0 a1 b0 b1 hb5 VA4 VI4 HC4
  have a0 := VA5.out.c0
  have a1 := VA5.out.c1
  have b0 := VI5.out.c0
  have b1 := VI5.out.c1
  go_wp2
  go_ret
  exact ⟨rfl, K5⟩

end Go.Proofs.YteipohpfaofchaaGreat

namespace Go.Proofs.YteipohpfaofchaaGreat
open Go.RowKit Go.Shelf Go.Sort
set_option linter.unusedVariables false

theorem strs_litN (W : World) (l : List ByteArray) : StrsAt (W.alloc (.cells (l.map Value.string).toArray 9)) (.slice (some ⟨W.heap.size, 0, none⟩) l.length l.length) l := by
  refine ⟨_, l.length, rfl, Or.inr ⟨W.heap.size, 0, rfl, by simp, fun i hi => ?_⟩⟩
  rw [Nat.zero_add]
  exact cell_of_heap (heap_alloc W _) i (by simp [hi])

set_option maxRecDepth 100000 in
set_option maxHeartbeats 2000000 in
theorem empty_any {V : Value} {vs : List ByteArray} {w : World} (hV : StrsAt w V vs) (hc : ∀ p n c, V = .slice p n c → n ≤ c) (lv : vs.length ≤ 9223372036854775807) :
    Calls Tryz.prog 9 #[V] w fun e w' => ∃ pa na ca pb nb cb, e = .returned (.tuple #[.agg #[.slice pa na ca, .slice pb nb cb], .int .i64 (ofChk vs [])]) ∧ (ofChk vs [] = 0 → OwnT w.heap.size (.agg #[.slice pa na ca, .slice pb nb cb]) (madeS vs) (ofRows vs []) w') ∧ Below w.heap.size w w' := by
  have cO : Hid (∀ W, Below w.heap.size w W → Calls Tryz.prog 15 #[V, .slice none 0 0] W fun e w' => ∃ pa na ca pb nb cb, e = .returned (.tuple #[.agg #[.slice pa na ca, .slice pb nb cb], .int .i64 (ofChk vs [])]) ∧ (ofChk vs [] = 0 → OwnT W.heap.size (.agg #[.slice pa na ca, .slice pb nb cb]) (madeS vs) (ofRows vs []) w') ∧ Below W.heap.size W w') := fun W hW => by
    refine (tof_any V _ vs [] [] W (hV.below hW) hc (Or.inl ⟨0, rfl, rfl⟩) ⟨rfl, fun i h => absurd h (Nat.not_lt_zero _)⟩ (by simp) (by simp) lv (by decide)).mono ?_
    rintro e w' ⟨t, rfl, h1, h2, hb⟩
    by_cases hz : ofChk vs [] = 0
    · have ht := (h1 hz).spec (ofChk_nodup hz) (by simp)
      obtain ⟨p, c, p', c', rfl⟩ := own_forms ht
      exact ⟨_, _, _, _, _, _, rfl, fun _ => ht, hb⟩
    · have ht := h2 hz
      subst ht
      exact ⟨_, _, _, _, _, _, rfl, fun h => absurd h hz, hb⟩
  obtain ⟨p, c, rfl⟩ := hV.form
  obtain ⟨n, en⟩ : ∃ n, Hid (vs.length = n) := ⟨_, rfl⟩
  rw [en.out] at cO lv ⊢
  generalize ofChk vs [] = E at *
  clear hV hc
  go_enter Tryz.func9, Tryz.ntmps9
  go_wp2_with fail
  refine (cO.out _ (by go_grown)).mono ?_
  rintro e w1 ⟨pa, na, ca, pb, nb, cb, rfl, ht, hb1⟩
  have hR : w1.heap[w.heap.size]? = some (.cells #[.slice none 0 0, .slice none 0 0] 25 (0, 0)) := (hb1.block w.heap.size (by simp)).trans (heap_alloc _ _)
  have HT : Hid (E = 0 → OwnT (w.heap.size + 1) (.agg #[.slice pa na ca, .slice pb nb cb]) (madeS vs) (ofRows vs []) w1) := fun h => by
    have h2 := ht h
    rwa [show (w.alloc (.cells #[.slice none 0 0, .slice none 0 0] 25)).heap.size = w.heap.size + 1 by simp] at h2
  have K1 : Below w.heap.size w w1 := by
    obtain ⟨hw1, -⟩ := bg0 (n := w.heap.size) (W0 := w) (by go_grown) (by go_size) hb1
    exact hw1
  have r0 := cell_of_heap hR 0 rfl
  have r1 := cell_of_heap hR 1 rfl
  have f0 := frozen_of_heap hR 0
  have f1 := frozen_of_heap hR 1
  have x0 : (w1.setCell ⟨w.heap.size, 0, none⟩ (.slice pa na ca)).cell? ⟨w.heap.size, 0, none⟩ = some (.slice pa na ca) := set_same r0
  have x1 : ((w1.setCell ⟨w.heap.size, 0, none⟩ (.slice pa na ca)).setCell ⟨w.heap.size, 1, none⟩ (.slice pb nb cb)).cell? ⟨w.heap.size, 1, none⟩ = some (.slice pb nb cb) := set_same ((set_other (by simp)).trans r1)
  have HSET : Hid (Below w.heap.size w ((w1.setCell ⟨w.heap.size, 0, none⟩ (.slice pa na ca)).setCell ⟨w.heap.size, 1, none⟩ (.slice pb nb cb))) := by
    have b2 := K1.grown (grownBy_setCell w1 w.heap.size 0 (.slice pa na ca)) K1.size (fun q hq => by injection hq with hq; omega)
    exact b2.grown (grownBy_setCell _ w.heap.size 1 (.slice pb nb cb)) b2.size (fun q hq => by injection hq with hq; omega)
  clear cO ht hb1 hR
  go_wp2
  (try simp only [Exit.inBlock, Exit.then])
  refine bodyPost_ret (by simp [results, Tryz.results9, go_sem, x0, x1]; try rfl) rfl ?_
  exact ⟨_, _, _, _, _, _, rfl, fun h => (((HT.out h).set (by omega)).set (by omega)).base (by omega), HSET.out⟩

def n9 : List ByteArray := [⟨#[97]⟩, ⟨#[98]⟩, ⟨#[99]⟩, ⟨#[100]⟩, ⟨#[101]⟩, ⟨#[102]⟩, ⟨#[103]⟩, ⟨#[104]⟩, ⟨#[105]⟩]
def n8 : List ByteArray := [⟨#[104]⟩, ⟨#[103]⟩, ⟨#[102]⟩, ⟨#[101]⟩, ⟨#[100]⟩, ⟨#[99]⟩, ⟨#[98]⟩, ⟨#[97]⟩]
theorem k_n9 : ofChk n9 [] = 30 := by kernel_rfl
theorem k_n8 : ofChk n8 [] = 0 ∧ madeS n8 = [⟨#[97]⟩, ⟨#[98]⟩, ⟨#[99]⟩, ⟨#[100]⟩, ⟨#[101]⟩, ⟨#[102]⟩, ⟨#[103]⟩, ⟨#[104]⟩] := ⟨by kernel_rfl, by kernel_rfl⟩
theorem cap_lit {g k : Nat} : ∀ p n c, Value.slice (some ⟨g, 0, none⟩) k k = .slice p n c → n ≤ c := by
  intro p n c e
  injection e with _ e1 e2
  omega

set_option maxRecDepth 100000 in
set_option maxHeartbeats 4000000 in
theorem tnumbers_any (w : World) : Calls Tryz.prog 3 #[] w fun e w' => e = .returned (.bool true) ∧ Below w.heap.size w w' := by
  have C1 : Hid (∀ W : World, Calls Tryz.prog 9 #[.slice (some ⟨W.heap.size, 0, none⟩) 9 9] (W.alloc (.cells #[.string ⟨#[97]⟩, .string ⟨#[98]⟩, .string ⟨#[99]⟩, .string ⟨#[100]⟩, .string ⟨#[101]⟩, .string ⟨#[102]⟩, .string ⟨#[103]⟩, .string ⟨#[104]⟩, .string ⟨#[105]⟩] 9)) fun e w' => ∃ pa na ca pb nb cb, e = .returned (.tuple #[.agg #[.slice pa na ca, .slice pb nb cb], .int .i64 30]) ∧ Below W.heap.size W w') := fun W => by
    refine (empty_any (strs_litN W n9) cap_lit (by decide)).mono ?_
    rintro e w' ⟨pa, na, ca, pb, nb, cb, rfl, -, hb⟩
    have h0 : Below W.heap.size W (W.alloc (.cells (n9.map Value.string).toArray 9)) := (Below.refl _ _).alloc (Nat.le_refl _) _
    exact ⟨pa, na, ca, pb, nb, cb, by rw [k_n9], h0.trans (hb.mono h0.size)⟩
  have C2 : Hid (∀ W : World, Calls Tryz.prog 9 #[.slice (some ⟨W.heap.size, 0, none⟩) 8 8] (W.alloc (.cells #[.string ⟨#[104]⟩, .string ⟨#[103]⟩, .string ⟨#[102]⟩, .string ⟨#[101]⟩, .string ⟨#[100]⟩, .string ⟨#[99]⟩, .string ⟨#[98]⟩, .string ⟨#[97]⟩] 9)) fun e w' => ∃ g ca pb nb cb, e = .returned (.tuple #[.agg #[.slice (some ⟨g, 0, none⟩) 8 ca, .slice pb nb cb], .int .i64 0]) ∧ g < w'.heap.size ∧ w'.cell? ⟨g, 0, none⟩ = some (.string ⟨#[97]⟩) ∧ Below W.heap.size W w') := fun W => by
    refine (empty_any (strs_litN W n8) cap_lit (by decide)).mono ?_
    rintro e w' ⟨pa, na, ca, pb, nb, cb, rfl, h1, hb⟩
    have h0 : Below W.heap.size W (W.alloc (.cells (n8.map Value.string).toArray 9)) := (Below.refl _ _).alloc (Nat.le_refl _) _
    have ht := h1 k_n8.1
    rw [k_n8.2] at ht
    obtain ⟨a, b, us, e, o1, -⟩ := ht
    injection e with e
    have e1 : #[Value.slice pa na ca, Value.slice pb nb cb].toList = #[a, b].toList := by rw [e]
    injection e1 with e2 _
    subst e2
    obtain ⟨p, c, e3, hc⟩ := own_form o1
    obtain ⟨g, rfl, -, hg, hx⟩ := hc 0 (by decide)
    injection e3 with e4 e5 e6
    subst e4 e5 e6
    exact ⟨g, _, pb, nb, cb, by rw [k_n8.1]; rfl, hg, hx, h0.trans (hb.mono h0.size)⟩
  go_enter Tryz.func3, Tryz.ntmps3
  go_wp2_with fail
  refine (C1.out _).mono ?_
  rintro e w1 ⟨pa, na, ca, pb, nb, cb, rfl, hb1⟩
  clear C1
  go_upto_region 2 with fail
  refine wp_world ?_
  intro W1 hW1
  have K1 : Below w.heap.size w W1 := by
    have h : Below w1.heap.size w1 W1 := by rw [hW1]; go_grown
    exact hb1.trans (h.mono hb1.size)
  clear hW1 hb1
  generalize w1.heap.size = g1
  go_wp2_with fail
  refine (C2.out _).mono ?_
  rintro e w2 ⟨g, cg, pd, nd, cd, rfl, hg, hx, hb2⟩
  clear C2
  go_upto_region 3 with fail
  refine wp_world ?_
  intro W2 hW2
  have V2 : Hid (Var W2 w2.heap.size (.slice (some ⟨g, 0, none⟩) 8 cg) (.slice pd nd cd)) := by rw [hW2]; exact Var.made _ _ _
  have H2 : Below w2.heap.size w2 W2 := by rw [hW2]; go_grown
  have X2 : W2.cell? ⟨g, 0, none⟩ = some (.string ⟨#[97]⟩) := (H2.cell (p := ⟨g, 0, none⟩) hg).trans hx
  have G2 : g < W2.heap.size := Nat.lt_of_lt_of_le hg H2.size
  have K2 : Below w.heap.size w W2 := by
    have h := hb2.trans (H2.mono hb2.size)
    exact K1.trans (h.mono K1.size)
  generalize w2.heap.size = g3 at V2 ⊢
  clear hW2 hb2 H2 hx hg K1
  go_wp2_with fail
  refine (tlive_any _).mono ?_
  rintro e w3 ⟨rfl, hb3⟩
  have v0 := (V2.out.below hb3).c0
  have x3 : w3.cell? ⟨g, 0, none⟩ = some (.string ⟨#[97]⟩) := (hb3.cell (p := ⟨g, 0, none⟩) G2).trans X2
  have K3 : Below w.heap.size w w3 := K2.trans (hb3.mono K2.size)
  clear V2 X2 G2 hb3 K2
  go_wp2
  go_ret
  exact ⟨rfl, K3⟩

end Go.Proofs.YteipohpfaofchaaGreat

namespace Go.Proofs.YteipohpfaofchaaGreat
open Go.RowKit Go.Shelf Go.Sort
set_option linter.unusedVariables false

theorem own_cap {w : World} {B e size m : Nat} {v : Value} {xs : List Value} (h : w.ownsRow B e size v m xs) : ∀ p n c, v = .slice p n c → n ≤ c := by
  rcases h with ⟨-, ⟨rfl, -⟩ | ⟨g, cap, cur, rfl, -, -, hn, -⟩⟩
  · intro p n c e; injection e with _ e1 e2; omega
  · intro p n c e; injection e with _ e1 e2; omega
theorem tof_told {V R : Value} {vs : List ByteArray} {us : List Value} {rs : List (List Val)} {w : World} (hV : StrsAt w V vs) (hc : ∀ p n c, V = .slice p n c → n ≤ c) (hR : ValsAt w R us) (hrs : RowsOf w us rs) (fx : ∀ r ∈ rs, ∀ v ∈ r, v.Fits) (lr : ∀ r ∈ rs, r.length ≤ 9223372036854775807) (lv : vs.length ≤ 9223372036854775807) (lu : us.length ≤ 5864062014805) :
    Calls Tryz.prog 15 #[V, R] w (TellsT w.heap.size (ofChk vs rs) (madeS vs) (ofRows vs rs) w) := by
  refine (tof_any V R vs us rs w hV hc hR hrs fx lr lv lu).mono ?_
  rintro e w' ⟨t, rfl, h1, h2, hb⟩
  refine TellsT.of (fun h => (h1 h).spec (ofChk_nodup h) fun r hr => ?_) h2 hb
  unfold ofChk at h
  by_cases hc : vs.length ≤ 8 ∧ repB [] vs = false
  · rw [if_pos hc] at h
    obtain ⟨g1, g2⟩ := rowChk_ok (rowsE_ok h r hr)
    exact fun v hv => ⟨rowE_may g2 v hv, fx r hr v hv⟩
  · rw [if_neg hc] at h; cases h
set_option maxRecDepth 100000 in
set_option maxHeartbeats 2000000 in
theorem empty_told {V : Value} {vs : List ByteArray} {w : World} (hV : StrsAt w V vs) (hc : ∀ p n c, V = .slice p n c → n ≤ c) (lv : vs.length ≤ 9223372036854775807) :
    Calls Tryz.prog 9 #[V] w (TellsT w.heap.size (ofChk vs []) (madeS vs) (ofRows vs []) w) := by
  have cO : Hid (∀ W, Below w.heap.size w W → Calls Tryz.prog 15 #[V, .slice none 0 0] W (TellsT W.heap.size (ofChk vs []) (madeS vs) (ofRows vs []) W)) := fun W hW => tof_told (hV.below hW) hc (Or.inl ⟨0, rfl, rfl⟩) ⟨rfl, fun i h => absurd h (Nat.not_lt_zero _)⟩ (by simp) (by simp) lv (by decide)
  obtain ⟨p, c, rfl⟩ := hV.form
  obtain ⟨n, en⟩ : ∃ n, Hid (vs.length = n) := ⟨_, rfl⟩
  rw [en.out] at cO lv ⊢
  generalize ofChk vs [] = E at *
  clear hV hc
  go_enter Tryz.func9, Tryz.ntmps9
  go_wp2_with fail
  refine (cO.out _ (by go_grown)).mono ?_
  rintro e w1 ⟨pa, na, ca, pb, nb, cb, rfl, ht, hb1⟩
  have hR : w1.heap[w.heap.size]? = some (.cells #[.slice none 0 0, .slice none 0 0] 25 (0, 0)) := (hb1.block w.heap.size (by simp)).trans (heap_alloc _ _)
  have HT : Hid (TabO (w.heap.size + 1) E (madeS vs) (ofRows vs []) (.agg #[.slice pa na ca, .slice pb nb cb]) w1) := by
    rwa [show (w.alloc (.cells #[.slice none 0 0, .slice none 0 0] 25)).heap.size = w.heap.size + 1 by simp] at ht
  have K1 : Below w.heap.size w w1 := by
    obtain ⟨hw1, -⟩ := bg0 (n := w.heap.size) (W0 := w) (by go_grown) (by go_size) hb1
    exact hw1
  have r0 := cell_of_heap hR 0 rfl
  have r1 := cell_of_heap hR 1 rfl
  have f0 := frozen_of_heap hR 0
  have f1 := frozen_of_heap hR 1
  have x0 : (w1.setCell ⟨w.heap.size, 0, none⟩ (.slice pa na ca)).cell? ⟨w.heap.size, 0, none⟩ = some (.slice pa na ca) := set_same r0
  have x1 : ((w1.setCell ⟨w.heap.size, 0, none⟩ (.slice pa na ca)).setCell ⟨w.heap.size, 1, none⟩ (.slice pb nb cb)).cell? ⟨w.heap.size, 1, none⟩ = some (.slice pb nb cb) := set_same ((set_other (by simp)).trans r1)
  have HSET : Hid (Below w.heap.size w ((w1.setCell ⟨w.heap.size, 0, none⟩ (.slice pa na ca)).setCell ⟨w.heap.size, 1, none⟩ (.slice pb nb cb))) := by
    have b2 := K1.grown (grownBy_setCell w1 w.heap.size 0 (.slice pa na ca)) K1.size (fun q hq => by injection hq with hq; omega)
    exact b2.grown (grownBy_setCell _ w.heap.size 1 (.slice pb nb cb)) b2.size (fun q hq => by injection hq with hq; omega)
  clear cO ht hb1 hR
  go_wp2
  (try simp only [Exit.inBlock, Exit.then])
  refine bodyPost_ret (by simp [results, Tryz.results9, go_sem, x0, x1]; try rfl) rfl ?_
  exact ⟨_, _, _, _, _, _, rfl, OwnT.base (OwnT.set (OwnT.set HT.out (by omega)) (by omega)) (by omega), HSET.out⟩

/-- What a table and an error are that were told, in plain words. -/
theorem told_bounds {vs : List ByteArray} {rs : List (List Val)} {E : Int} (he : E = ofChk vs rs) (fx : ∀ r ∈ rs, ∀ v ∈ r, v.Fits) (lu : rs.length ≤ 5864062014805) :
    (∀ r ∈ (if E = 0 then ofRows vs rs else []), ∀ v ∈ r, v.Fits) ∧ (if E = 0 then madeS vs else []).length ≤ 9223372036854775807 ∧ (if E = 0 then ofRows vs rs else []).length ≤ 9223372036854775807 ∧ ∀ r ∈ (if E = 0 then ofRows vs rs else []), r.length ≤ 9223372036854775807 := by
  by_cases h : E = 0
  · rw [if_pos h, if_pos h]
    have h8 : vs.length ≤ 8 ∧ ∀ r ∈ rs, okR r := by
      rw [he] at h
      unfold ofChk at h
      by_cases hc : vs.length ≤ 8 ∧ repB [] vs = false
      · rw [if_pos hc] at h
        exact ⟨hc.1, fun r hr => by
          obtain ⟨g1, g2⟩ := rowChk_ok (rowsE_ok h r hr)
          exact fun v hv => ⟨rowE_may g2 v hv, fx r hr v hv⟩⟩
      · rw [if_neg hc] at h; cases h
    have hm : ∀ r ∈ ofRows vs rs, ∃ x ∈ rs, r = picks x (colsAt vs (madeS vs)) := fun r hr => by
      have := (mem_madeR (fun y hy => by
        obtain ⟨z, hz, rfl⟩ := List.mem_map.1 hy
        exact (h8.2 z hz).picks _) r).1 hr
      obtain ⟨x, hx, e⟩ := List.mem_map.1 this
      exact ⟨x, hx, e.symm⟩
    refine ⟨fun r hr v hv => ?_, by rw [madeS_len]; omega, ?_, fun r hr => ?_⟩
    · obtain ⟨x, hx, rfl⟩ := hm r hr
      exact (((h8.2 x hx).picks _) v hv).2
    · have h1 := madeR_len (rs.map fun r => picks r (colsAt vs (madeS vs)))
      rw [List.length_map] at h1
      show (madeR _).length ≤ _
      omega
    · obtain ⟨x, hx, rfl⟩ := hm r hr
      have h3 : (picks x (colsAt vs (madeS vs))).length ≤ (colsAt vs (madeS vs)).length := List.length_filterMap_le _ _
      have h4 : (colsAt vs (madeS vs)).length = vs.length := by unfold colsAt; rw [List.length_map, madeS_len]
      omega
  · rw [if_neg h, if_neg h]
    simp

set_option maxRecDepth 100000 in
set_option maxHeartbeats 8000000 in
theorem tmakes_any {V R : Value} {vs : List ByteArray} {us : List Value} {xs : List (List Val)} (w : World) (hV : StrsAt w V vs) (hc : ∀ p n c, V = .slice p n c → n ≤ c) (lv : vs.length ≤ 9223372036854775807) (hR : ValsAt w R us) (hrs : RowsOf w us xs) (fx : ∀ r ∈ xs, ∀ v ∈ r, v.Fits) (sx : ∀ r ∈ xs, r.length ≤ 9223372036854775807)
    (bv : vs.length * 16 ≤ 140737488355328) (bx : xs.length * 24 ≤ 140737488355328) (bs : ∀ r ∈ xs, r.length * 40 ≤ 140737488355328) :
    Calls Tryz.prog 5 #[V, R] w fun e w' => e = .returned (.bool true) ∧ Below w.heap.size w w' := by
  have hA : TabRows w R xs := tab_of_vals hR hrs
  have lu : us.length ≤ 5864062014805 := by have := hrs.1; omega
  have lx : xs.length ≤ 5864062014805 := by omega
  obtain ⟨E, eE⟩ : ∃ E : Int, Hid (ofChk vs xs = E) := ⟨_, rfl⟩
  obtain ⟨D, eD⟩ : ∃ D : Int, Hid (ofChk vs [] = D) := ⟨_, rfl⟩
  have c1 : Hid (∀ W : World, Below w.heap.size w W → Calls Tryz.prog 11 #[.agg #[V, R]] W fun e w' => ∃ pa na ca pb nb cb, e = .returned (.agg #[.slice pa na ca, .slice pb nb cb]) ∧ OwnT W.heap.size (.agg #[.slice pa na ca, .slice pb nb cb]) vs xs w' ∧ Below W.heap.size W w') := fun W hW => copied_two (hV.below hW) (hA.below hW) bv bx bs
  have c2 : Hid (∀ W : World, Below w.heap.size w W → Calls Tryz.prog 15 #[V, R] W (TellsT W.heap.size E (madeS vs) (ofRows vs xs) W)) := fun W hW => by
    have h := tof_told (hV.below hW) hc (hR.below hW) (hrs.below hW) fx sx lv lu
    rwa [eE.out] at h
  have c3 : Hid (∀ (W : World) (U Q : Value), OwnT w.heap.size (.agg #[U, Q]) vs xs W → Calls Tryz.prog 16 #[U, Q] W (TellsT W.heap.size E (madeS vs) (ofRows vs xs) W)) := fun W U Q h1 => by
    obtain ⟨g1, g2⟩ := own_two h1
    obtain ⟨a, b, zs, e, h2, -, -⟩ := h1
    injection e with e
    injection e with e
    simp only [List.cons.injEq, and_true] at e
    obtain ⟨rfl, rfl⟩ := e
    have h := dof_told g1 (own_cap h2) g2 fx sx lv lx
    rwa [eE.out] at h
  have c4 : Hid (∀ (W : World) (B B' : Nat) (t u : Value), TabO B E (madeS vs) (ofRows vs xs) t W → TabO B' E (madeS vs) (ofRows vs xs) u W → B ≤ W.heap.size → Calls Tryz.prog 17 #[t, .int .i64 E, u, .int .i64 E] W fun e w' => e = .returned (.bool true) ∧ Below B W w') := fun W B B' t u h1 h2 hB => by
    obtain ⟨g1, g2, g3, g4⟩ := told_bounds eE.out.symm fx lx
    exact is_any h1 h2 hB g1 g2 g3 g4
  have c5 : Hid (∀ (W : World) (U Q : Value), Below w.heap.size w W → StrsAt W U vs → TabRows W Q xs → Calls Tryz.prog 14 #[.agg #[V, R], .agg #[U, Q]] W fun e w' => e = .returned (.bool true) ∧ Below W.heap.size W w') := fun W U Q hW h1 h2 => by
    have h := dsame_any (hV.below hW) h1 (hA.below hW) h2 lv lv fx fx sx (by omega) (by omega)
    rw [rowsS_refl, show decide (vs = vs) = true by simp] at h
    exact h
  have c6 : Hid (∀ W : World, Below w.heap.size w W → Calls Tryz.prog 9 #[V] W (TellsT W.heap.size D (madeS vs) (ofRows vs []) W)) := fun W hW => by
    have h := empty_told (hV.below hW) hc lv
    rwa [eD.out] at h
  have c7 : Hid (∀ (W : World) (U : Value), OwnS w.heap.size U vs W → Calls Tryz.prog 18 #[U] W (TellsT W.heap.size D (madeS vs) (ofRows vs []) W)) := fun W U h1 => by
    have h := dempty_any (OwnS.strs h1) (own_cap h1) lv
    rwa [eD.out] at h
  have c8 : Hid (∀ (W : World) (B B' : Nat) (t u : Value), TabO B D (madeS vs) (ofRows vs []) t W → TabO B' D (madeS vs) (ofRows vs []) u W → B ≤ W.heap.size → Calls Tryz.prog 17 #[t, .int .i64 D, u, .int .i64 D] W fun e w' => e = .returned (.bool true) ∧ Below B W w') := fun W B B' t u h1 h2 hB => by
    obtain ⟨g1, g2, g3, g4⟩ := told_bounds eD.out.symm (rs := []) (by simp) (by decide)
    exact is_any h1 h2 hB g1 g2 g3 g4
  obtain ⟨p1, k1, eV⟩ := hV.form
  obtain ⟨p3, k3, eR, -⟩ := hA.form
  subst eV eR
  obtain ⟨m1, em1⟩ : ∃ m1, Hid (vs.length = m1) := ⟨_, rfl⟩
  obtain ⟨m3, em3⟩ : ∃ m3, Hid (xs.length = m3) := ⟨_, rfl⟩
  rw [em1.out] at c1 c2 c5 c6 ⊢
  rw [em3.out] at c1 c2 c5 ⊢
  clear hV hA hR hrs fx sx eE eD bv bx bs lv lx lu hc
  go_enter Tryz.func5, Tryz.ntmps5
  go_wp2_with fail
  refine (c1.out _ (by go_grown)).mono ?_
  rintro e w1 ⟨pa, na, ca, pb, nb, cb, rfl, ht, K1⟩
  have HC : Hid (OwnT w.heap.size (.agg #[.slice pa na ca, .slice pb nb cb]) vs xs w1) := ht
  clear c1 ht
  go_upto_region 2 with fail
  refine wp_world ?_
  intro W1 hW1
  have H1 : Below w1.heap.size w1 W1 := by rw [hW1]; go_grown
  have VI1 : Hid (Var W1 w1.heap.size (.slice pa na ca) (.slice pb nb cb)) := by rw [hW1]; exact Var.made _ _ _
  clear hW1
  have HC1 : Hid (OwnT w.heap.size (.agg #[.slice pa na ca, .slice pb nb cb]) vs xs W1) := HC.out.grown H1
  have KK1 : Below w.heap.size w W1 := K1.trans (H1.mono K1.size)
  obtain ⟨g1, eg1⟩ : ∃ g1, Hid (w1.heap.size = g1) := ⟨_, rfl⟩
  have hg1 : g1 < W1.heap.size := by rw [← eg1.out]; exact (Array.getElem?_eq_some_iff.1 VI1.out).1
  rw [eg1.out] at VI1 ⊢
  clear HC H1 K1
  go_wp2_with fail
  refine (c2.out _ (by exact KK1)).mono ?_
  rintro e w2 ⟨qa, ja, da, qb, jb, db, rfl, ht, hb2⟩
  have HT : Hid (TabO W1.heap.size E (madeS vs) (ofRows vs xs) (.agg #[.slice qa ja da, .slice qb jb db]) w2) := ht
  clear ht c2
  go_upto_region 3 with fail
  refine wp_world ?_
  intro W2 hW2
  have H2 : Below w2.heap.size w2 W2 := by rw [hW2]; go_grown
  have VT2 : Hid (Var W2 w2.heap.size (.slice qa ja da) (.slice qb jb db)) := by rw [hW2]; exact Var.made _ _ _
  clear hW2
  have L2 : Below W1.heap.size W1 W2 := hb2.trans (H2.mono hb2.size)
  have HT2 : Hid (TabO W1.heap.size E (madeS vs) (ofRows vs xs) (.agg #[.slice qa ja da, .slice qb jb db]) W2) := HT.out.grown H2
  obtain ⟨g2, eg2⟩ : ∃ g2, Hid (w2.heap.size = g2) := ⟨_, rfl⟩
  rw [eg2.out] at VT2 ⊢
  have VI2 : Hid (Var W2 g1 (.slice pa na ca) (.slice pb nb cb)) := VI1.out.below L2
  have HC2 : Hid (OwnT w.heap.size (.agg #[.slice pa na ca, .slice pb nb cb]) vs xs W2) := HC1.out.grown L2
  clear HT H2 hb2
  have b0 := VI2.out.c0
  have b1 := VI2.out.c1
  go_wp2_with fail
  refine (c3.out _ _ _ HC2.out).mono ?_
  rintro e w3 ⟨sa, ia, fa, sb, ib, fb, rfl, ht, hb3⟩
  have HW : Hid (TabO W2.heap.size E (madeS vs) (ofRows vs xs) (.agg #[.slice sa ia fa, .slice sb ib fb]) w3) := ht
  clear ht c3 b0 b1
  go_upto_region 4 with fail
  refine wp_world ?_
  intro W3 hW3
  have H3 : Below w3.heap.size w3 W3 := by rw [hW3]; go_grown
  have VW3 : Hid (Var W3 w3.heap.size (.slice sa ia fa) (.slice sb ib fb)) := by rw [hW3]; exact Var.made _ _ _
  clear hW3
  have L3 : Below W2.heap.size W2 W3 := hb3.trans (H3.mono hb3.size)
  have HW3 : Hid (TabO W2.heap.size E (madeS vs) (ofRows vs xs) (.agg #[.slice sa ia fa, .slice sb ib fb]) W3) := HW.out.grown H3
  obtain ⟨g3, eg3⟩ : ∃ g3, Hid (w3.heap.size = g3) := ⟨_, rfl⟩
  rw [eg3.out] at VW3 ⊢
  have VT3 : Hid (Var W3 g2 (.slice qa ja da) (.slice qb jb db)) := VT2.out.below L3
  have HT3 : Hid (TabO W1.heap.size E (madeS vs) (ofRows vs xs) (.agg #[.slice qa ja da, .slice qb jb db]) W3) := HT2.out.grown L3
  have M3 : Below W1.heap.size W1 W3 := L2.trans (L3.mono L2.size)
  clear HW H3 hb3 HT2 VT2 VI2 HC2 L2 L3
  have t0 := VT3.out.c0
  have t1 := VT3.out.c1
  have u0 := VW3.out.c0
  have u1 := VW3.out.c1
  go_wp2_with fail
  refine (c4.out _ _ _ _ _ HT3.out HW3.out M3.size).mono ?_
  rintro e w4 ⟨rfl, hb4⟩
  have M4 : Below W1.heap.size W1 w4 := M3.trans hb4
  have K4 : Below w.heap.size w w4 := KK1.trans (M4.mono KK1.size)
  have VI4 : Hid (Var w4 g1 (.slice pa na ca) (.slice pb nb cb)) := VI1.out.below M4
  have HC4 : Hid (OwnT w.heap.size (.agg #[.slice pa na ca, .slice pb nb cb]) vs xs w4) := HC1.out.grown M4
  clear t0 t1 u0 u1 hb4 M3 HT3 HW3 VT3 VW3 VI1 HC1 KK1 c4 M4 hg1
  have b0 := VI4.out.c0
  have b1 := VI4.out.c1
  go_wp2_with fail
  refine (c5.out _ _ _ K4 (own_two HC4.out).1 (own_two HC4.out).2).mono ?_
  rintro e w5 ⟨rfl, hb5⟩
  have K5 : Below w.heap.size w w5 := K4.trans (hb5.mono K4.size)
  have VI5 : Hid (Var w5 g1 (.slice pa na ca) (.slice pb nb cb)) := VI4.out.below hb5
  have HC5 : Hid (OwnT w.heap.size (.agg #[.slice pa na ca, .slice pb nb cb]) vs xs w5) := HC4.out.grown hb5
  clear b0 b1 hb5 VI4 HC4 c5 K4
  go_wp2_with fail
  refine (c6.out _ (by exact K5)).mono ?_
  rintro e w6 ⟨xa, ya, za, xb, yb, zb, rfl, ht, hb6⟩
  have HE : Hid (TabO w5.heap.size D (madeS vs) (ofRows vs []) (.agg #[.slice xa ya za, .slice xb yb zb]) w6) := ht
  clear ht c6
  go_upto_region 7 with fail
  refine wp_world ?_
  intro W6 hW6
  have H6 : Below w6.heap.size w6 W6 := by rw [hW6]; go_grown
  have VE6 : Hid (Var W6 w6.heap.size (.slice xa ya za) (.slice xb yb zb)) := by rw [hW6]; exact Var.made _ _ _
  clear hW6
  have L6 : Below w5.heap.size w5 W6 := hb6.trans (H6.mono hb6.size)
  have HE6 : Hid (TabO w5.heap.size D (madeS vs) (ofRows vs []) (.agg #[.slice xa ya za, .slice xb yb zb]) W6) := HE.out.grown H6
  obtain ⟨g6, eg6⟩ : ∃ g6, Hid (w6.heap.size = g6) := ⟨_, rfl⟩
  rw [eg6.out] at VE6 ⊢
  have VI6 : Hid (Var W6 g1 (.slice pa na ca) (.slice pb nb cb)) := VI5.out.below L6
  have HC6 : Hid (OwnS w.heap.size (.slice pa na ca) vs W6) := by
    obtain ⟨a, b, zs, e, h2, -, -⟩ := HC5.out.grown L6
    injection e with e
    injection e with e
    simp only [List.cons.injEq, and_true] at e
    rw [e.1]
    exact h2
  have K6 : Below w.heap.size w W6 := K5.trans (L6.mono K5.size)
  have sz6 : w5.heap.size ≤ W6.heap.size := L6.size
  have sz5 : w.heap.size ≤ w5.heap.size := K5.size
  clear HE H6 hb6 L6 VI5 HC5 K5
  have b0 := VI6.out.c0
  go_wp2_with fail
  refine (c7.out _ _ HC6.out).mono ?_
  rintro e w7 ⟨oa, ra, la, ob, rb, lb, rfl, ht, hb7⟩
  have HN : Hid (TabO W6.heap.size D (madeS vs) (ofRows vs []) (.agg #[.slice oa ra la, .slice ob rb lb]) w7) := ht
  clear ht c7 b0
  go_upto_region 8 with fail
  refine wp_world ?_
  intro W7 hW7
  have H7 : Below w7.heap.size w7 W7 := by rw [hW7]; go_grown
  have VN7 : Hid (Var W7 w7.heap.size (.slice oa ra la) (.slice ob rb lb)) := by rw [hW7]; exact Var.made _ _ _
  clear hW7
  have L7 : Below W6.heap.size W6 W7 := hb7.trans (H7.mono hb7.size)
  have HN7 : Hid (TabO W6.heap.size D (madeS vs) (ofRows vs []) (.agg #[.slice oa ra la, .slice ob rb lb]) W7) := HN.out.grown H7
  obtain ⟨g7, eg7⟩ : ∃ g7, Hid (w7.heap.size = g7) := ⟨_, rfl⟩
  rw [eg7.out] at VN7 ⊢
  have VE7 : Hid (Var W7 g6 (.slice xa ya za) (.slice xb yb zb)) := VE6.out.below L7
  have HE7 : Hid (TabO w5.heap.size D (madeS vs) (ofRows vs []) (.agg #[.slice xa ya za, .slice xb yb zb]) W7) := HE6.out.grown L7
  have K7 : Below w.heap.size w W7 := K6.trans (L7.mono K6.size)
  have sz7 : w5.heap.size ≤ W7.heap.size := Nat.le_trans sz6 L7.size
  clear HN H7 hb7 L7 VE6 HE6 K6 VI6 HC6
  go_wp2_with fail
  refine (tlive_any _).mono ?_
  rintro e w8 ⟨rfl, hb8⟩
  have K8 : Below w.heap.size w w8 := K7.trans (hb8.mono K7.size)
  have VE8 : Hid (Var w8 g6 (.slice xa ya za) (.slice xb yb zb)) := VE7.out.below hb8
  have VN8 : Hid (Var w8 g7 (.slice oa ra la) (.slice ob rb lb)) := VN7.out.below hb8
  have HE8 : Hid (TabO w5.heap.size D (madeS vs) (ofRows vs []) (.agg #[.slice xa ya za, .slice xb yb zb]) w8) := HE7.out.grown hb8
  have HN8 : Hid (TabO W6.heap.size D (madeS vs) (ofRows vs []) (.agg #[.slice oa ra la, .slice ob rb lb]) w8) := HN7.out.grown hb8
  have sz8 : w5.heap.size ≤ w8.heap.size := Nat.le_trans sz7 hb8.size
  clear hb8 VE7 VN7 HE7 HN7 K7
  have t0 := VE8.out.c0
  have t1 := VE8.out.c1
  have u0 := VN8.out.c0
  have u1 := VN8.out.c1
  go_wp2_with fail
  refine (c8.out _ _ _ _ _ HE8.out HN8.out sz8).mono ?_
  rintro e w9 ⟨rfl, hb9⟩
  have K9 : Below w.heap.size w w9 := K8.trans (hb9.mono sz5)
  clear hb9 K8 HE8 HN8 VE8 VN8 t0 t1 u0 u1 c8
  go_wp2
  go_ret
  exact ⟨rfl, K9⟩

end Go.Proofs.YteipohpfaofchaaGreat

namespace Go.Proofs.YteipohpfaofchaaGreat
open Go.RowKit Go.Shelf Go.Sort
set_option linter.unusedVariables false

set_option maxRecDepth 100000 in
set_option maxHeartbeats 8000000 in
theorem twoUnion_any {Va Ra Vb Rb : Value} {vs vs' us : List ByteArray} {rs qs L : List (List Val)} {E : Int} (w : World) (ha : DTab w Va Ra vs rs) (hb : DTab w Vb Rb vs' qs)
    (bv : vs.length * 16 ≤ 140737488355328) (bs : ∀ r ∈ rs, r.length * 40 ≤ 140737488355328) (bv' : vs'.length * 16 ≤ 140737488355328) (bs' : ∀ r ∈ qs, r.length * 40 ≤ 140737488355328)
    (cG : ∀ W, Below w.heap.size w W → Calls Tryz.prog 23 #[.agg #[Va, Ra], .agg #[Vb, Rb]] W (TellsT W.heap.size E us L W))
    (cH : ∀ W Xa Ya Xb Yb, OwnT w.heap.size (.agg #[Xa, Ya]) vs rs W → OwnT w.heap.size (.agg #[Xb, Yb]) vs' qs W → Calls Tryz.prog 24 #[.agg #[Xa, Ya], .agg #[Xb, Yb]] W (TellsT W.heap.size E us L W))
    (bL : (∀ r ∈ (if E = 0 then L else []), ∀ v ∈ r, v.Fits) ∧ (if E = 0 then us else []).length ≤ 9223372036854775807 ∧ (if E = 0 then L else []).length ≤ 9223372036854775807 ∧ ∀ r ∈ (if E = 0 then L else []), r.length ≤ 9223372036854775807) :
    Calls Tryz.prog 22 #[.agg #[Va, Ra], .agg #[Vb, Rb], .func (.func 23) #[] #[], .func (.func 24) #[] #[]] w fun e w' => e = .returned (.bool true) ∧ Below w.heap.size w w' := by
  have c1 : Hid (∀ W : World, Below w.heap.size w W → Calls Tryz.prog 11 #[.agg #[Va, Ra]] W fun e w' => ∃ pa na ca pb nb cb, e = .returned (.agg #[.slice pa na ca, .slice pb nb cb]) ∧ OwnT W.heap.size (.agg #[.slice pa na ca, .slice pb nb cb]) vs rs w' ∧ Below W.heap.size W w') := fun W hW => copied_two (ha.vars.below hW) (ha.rows.below hW) bv (by have := ha.many; omega) bs
  have c2 : Hid (∀ W : World, Below w.heap.size w W → Calls Tryz.prog 11 #[.agg #[Vb, Rb]] W fun e w' => ∃ pa na ca pb nb cb, e = .returned (.agg #[.slice pa na ca, .slice pb nb cb]) ∧ OwnT W.heap.size (.agg #[.slice pa na ca, .slice pb nb cb]) vs' qs w' ∧ Below W.heap.size W w') := fun W hW => copied_two (hb.vars.below hW) (hb.rows.below hW) bv' (by have := hb.many; omega) bs'
  have c3 : Hid (∀ W, Below w.heap.size w W → Calls Tryz.prog 23 #[.agg #[Va, Ra], .agg #[Vb, Rb]] W (TellsT W.heap.size E us L W)) := cG
  have c4 : Hid (∀ W Xa Ya Xb Yb, OwnT w.heap.size (.agg #[Xa, Ya]) vs rs W → OwnT w.heap.size (.agg #[Xb, Yb]) vs' qs W → Calls Tryz.prog 24 #[.agg #[Xa, Ya], .agg #[Xb, Yb]] W (TellsT W.heap.size E us L W)) := cH
  have c5 : Hid (∀ (W : World) (B B' : Nat) (t u : Value), TabO B E us L t W → TabO B' E us L u W → B ≤ W.heap.size → Calls Tryz.prog 17 #[t, .int .i64 E, u, .int .i64 E] W fun e w' => e = .returned (.bool true) ∧ Below B W w') := fun W B B' t u h1 h2 hB => is_any h1 h2 hB bL.1 bL.2.1 bL.2.2.1 bL.2.2.2
  have c6 : Hid (∀ (W : World) (U Q : Value), Below w.heap.size w W → OwnT w.heap.size (.agg #[U, Q]) vs rs W → Calls Tryz.prog 14 #[.agg #[Va, Ra], .agg #[U, Q]] W fun e w' => e = .returned (.bool true) ∧ Below W.heap.size W w') := fun W U Q hW h1 => by
    have h := dsame_any (ha.vars.below hW) (own_two h1).1 (ha.rows.below hW) (own_two h1).2 ha.names ha.names ha.fits ha.fits ha.long (by have := ha.many; omega) (by have := ha.many; omega)
    rw [rowsS_refl, show decide (vs = vs) = true by simp] at h
    exact h
  have c7 : Hid (∀ (W : World) (U Q : Value), Below w.heap.size w W → OwnT w.heap.size (.agg #[U, Q]) vs' qs W → Calls Tryz.prog 14 #[.agg #[Vb, Rb], .agg #[U, Q]] W fun e w' => e = .returned (.bool true) ∧ Below W.heap.size W w') := fun W U Q hW h1 => by
    have h := dsame_any (hb.vars.below hW) (own_two h1).1 (hb.rows.below hW) (own_two h1).2 hb.names hb.names hb.fits hb.fits hb.long (by have := hb.many; omega) (by have := hb.many; omega)
    rw [rowsS_refl, show decide (vs' = vs') = true by simp] at h
    exact h
  obtain ⟨p1, k1, p2, k2, eV, eR⟩ := ha.forms
  obtain ⟨p3, k3, p4, k4, eV', eR'⟩ := hb.forms
  subst eV eR eV' eR'
  generalize vs.length = n1 at *
  generalize rs.length = n2 at *
  generalize vs'.length = n3 at *
  generalize qs.length = n4 at *
  clear ha hb bv bs bv' bs' cG cH bL
  go_enter Tryz.func22, Tryz.ntmps22
  go_upto_region 1 with fail
  refine wp_world ?_
  intro W0 hW0
  have K0 : Below w.heap.size w W0 := by rw [hW0]; go_grown
  have VA0 : Hid (Var W0 w.heap.size (.slice p1 n1 k1) (.slice p2 n2 k2)) := by
    rw [hW0]
    exact (Var.made w _ _).below ((Below.refl _ _).alloc (Nat.le_refl _) _)
  have VB0 : Hid (Var W0 (w.heap.size + 1) (.slice p3 n3 k3) (.slice p4 n4 k4)) := by
    rw [hW0]
    have h := Var.made (w.alloc (.cells #[.slice p1 n1 k1, .slice p2 n2 k2] 25)) (.slice p3 n3 k3) (.slice p4 n4 k4)
    exact at_size (P := fun g => Var _ g _ _) h (by simp)
  clear hW0
  have a0 := VA0.out.c0
  have a1 := VA0.out.c1
  go_wp2_with fail
  refine (c1.out _ K0).mono ?_
  rintro e w1 ⟨xa, ja, da, xb, jb, db, rfl, ht, hb1⟩
  have HX : Hid (OwnT w.heap.size (.agg #[.slice xa ja da, .slice xb jb db]) vs rs w1) := ht.base K0.size
  clear ht c1 a0 a1
  go_upto_region 2 with fail
  refine wp_world ?_
  intro W1 hW1
  have H1 : Below w1.heap.size w1 W1 := by rw [hW1]; go_grown
  have VX1 : Hid (Var W1 w1.heap.size (.slice xa ja da) (.slice xb jb db)) := by rw [hW1]; exact Var.made _ _ _
  clear hW1
  have L1 : Below W0.heap.size W0 W1 := hb1.trans (H1.mono hb1.size)
  have K1 : Below w.heap.size w W1 := K0.trans (L1.mono K0.size)
  have VA1 : Hid (Var W1 w.heap.size (.slice p1 n1 k1) (.slice p2 n2 k2)) := VA0.out.below L1
  have VB1 : Hid (Var W1 (w.heap.size + 1) (.slice p3 n3 k3) (.slice p4 n4 k4)) := VB0.out.below L1
  have HX1 : Hid (OwnT w.heap.size (.agg #[.slice xa ja da, .slice xb jb db]) vs rs W1) := HX.out.grown H1
  obtain ⟨gx, egx⟩ : ∃ gx, Hid (w1.heap.size = gx) := ⟨_, rfl⟩
  rw [egx.out] at VX1 ⊢
  clear HX H1 L1 hb1 K0 VA0 VB0
  have b0 := VB1.out.c0
  have b1 := VB1.out.c1
  go_wp2_with fail
  refine (c2.out _ (by exact K1)).mono ?_
  rintro e w2 ⟨ya, ia, fa, yb, ib, fb, rfl, ht, hb2⟩
  have HY : Hid (OwnT w.heap.size (.agg #[.slice ya ia fa, .slice yb ib fb]) vs' qs w2) := ht.base K1.size
  clear ht c2 b0 b1
  go_upto_region 3 with fail
  refine wp_world ?_
  intro W2 hW2
  have H2 : Below w2.heap.size w2 W2 := by rw [hW2]; go_grown
  have VY2 : Hid (Var W2 w2.heap.size (.slice ya ia fa) (.slice yb ib fb)) := by rw [hW2]; exact Var.made _ _ _
  clear hW2
  have L2 : Below W1.heap.size W1 W2 := hb2.trans (H2.mono hb2.size)
  have K2 : Below w.heap.size w W2 := K1.trans (L2.mono K1.size)
  have VA2 : Hid (Var W2 w.heap.size (.slice p1 n1 k1) (.slice p2 n2 k2)) := VA1.out.below L2
  have VB2 : Hid (Var W2 (w.heap.size + 1) (.slice p3 n3 k3) (.slice p4 n4 k4)) := VB1.out.below L2
  have VX2 : Hid (Var W2 gx (.slice xa ja da) (.slice xb jb db)) := VX1.out.below L2
  have HX2 : Hid (OwnT w.heap.size (.agg #[.slice xa ja da, .slice xb jb db]) vs rs W2) := HX1.out.grown L2
  have HY2 : Hid (OwnT w.heap.size (.agg #[.slice ya ia fa, .slice yb ib fb]) vs' qs W2) := HY.out.grown H2
  obtain ⟨gy, egy⟩ : ∃ gy, Hid (w2.heap.size = gy) := ⟨_, rfl⟩
  rw [egy.out] at VY2 ⊢
  clear HY H2 L2 hb2 K1 VA1 VB1 VX1 HX1
  have a0 := VA2.out.c0
  have a1 := VA2.out.c1
  have b0 := VB2.out.c0
  have b1 := VB2.out.c1
  go_wp2_with fail
  refine (c3.out _ (by exact K2)).mono ?_
  rintro e w3 ⟨ta, ra, la, tb, rb, lb, rfl, ht, hb3⟩
  have HT : Hid (TabO W2.heap.size E us L (.agg #[.slice ta ra la, .slice tb rb lb]) w3) := ht
  clear ht c3 a0 a1 b0 b1
  go_upto_region 4 with fail
  refine wp_world ?_
  intro W3 hW3
  have H3 : Below w3.heap.size w3 W3 := by rw [hW3]; go_grown
  have VT3 : Hid (Var W3 w3.heap.size (.slice ta ra la) (.slice tb rb lb)) := by rw [hW3]; exact Var.made _ _ _
  clear hW3
  have L3 : Below W2.heap.size W2 W3 := hb3.trans (H3.mono hb3.size)
  have HT3 : Hid (TabO W2.heap.size E us L (.agg #[.slice ta ra la, .slice tb rb lb]) W3) := HT.out.grown H3
  have VX3 : Hid (Var W3 gx (.slice xa ja da) (.slice xb jb db)) := VX2.out.below L3
  have VY3 : Hid (Var W3 gy (.slice ya ia fa) (.slice yb ib fb)) := VY2.out.below L3
  have HX3 : Hid (OwnT w.heap.size (.agg #[.slice xa ja da, .slice xb jb db]) vs rs W3) := HX2.out.grown L3
  have HY3 : Hid (OwnT w.heap.size (.agg #[.slice ya ia fa, .slice yb ib fb]) vs' qs W3) := HY2.out.grown L3
  obtain ⟨gt, egt⟩ : ∃ gt, Hid (w3.heap.size = gt) := ⟨_, rfl⟩
  rw [egt.out] at VT3 ⊢
  clear HT H3 hb3
  have a0 := VX3.out.c0
  have a1 := VX3.out.c1
  have b0 := VY3.out.c0
  have b1 := VY3.out.c1
  go_wp2_with fail
  refine (c4.out _ _ _ _ _ HX3.out HY3.out).mono ?_
  rintro e w4 ⟨oa, sa, qa, ob, sb, qb, rfl, ht, hb4⟩
  have HU : Hid (TabO W3.heap.size E us L (.agg #[.slice oa sa qa, .slice ob sb qb]) w4) := ht
  clear ht c4 a0 a1 b0 b1
  go_upto_region 5 with fail
  refine wp_world ?_
  intro W4 hW4
  have H4 : Below w4.heap.size w4 W4 := by rw [hW4]; go_grown
  have VU4 : Hid (Var W4 w4.heap.size (.slice oa sa qa) (.slice ob sb qb)) := by rw [hW4]; exact Var.made _ _ _
  clear hW4
  have L4 : Below W3.heap.size W3 W4 := hb4.trans (H4.mono hb4.size)
  have HU4 : Hid (TabO W3.heap.size E us L (.agg #[.slice oa sa qa, .slice ob sb qb]) W4) := HU.out.grown H4
  have VT4 : Hid (Var W4 gt (.slice ta ra la) (.slice tb rb lb)) := VT3.out.below L4
  have HT4 : Hid (TabO W2.heap.size E us L (.agg #[.slice ta ra la, .slice tb rb lb]) W4) := HT3.out.grown L4
  obtain ⟨gu, egu⟩ : ∃ gu, Hid (w4.heap.size = gu) := ⟨_, rfl⟩
  rw [egu.out] at VU4 ⊢
  have M4 : Below W2.heap.size W2 W4 := L3.trans (L4.mono L3.size)
  clear HU H4 hb4 L3 L4 HT3 VT3 VX3 VY3 HX3 HY3
  have a0 := VT4.out.c0
  have a1 := VT4.out.c1
  have b0 := VU4.out.c0
  have b1 := VU4.out.c1
  go_wp2_with fail
  refine (c5.out _ _ _ _ _ HT4.out HU4.out M4.size).mono ?_
  rintro e w5 ⟨rfl, hb5⟩
  have M5 : Below W2.heap.size W2 w5 := M4.trans hb5
  have K5 : Below w.heap.size w w5 := K2.trans (M5.mono K2.size)
  have VA5 : Hid (Var w5 w.heap.size (.slice p1 n1 k1) (.slice p2 n2 k2)) := VA2.out.below M5
  have VB5 : Hid (Var w5 (w.heap.size + 1) (.slice p3 n3 k3) (.slice p4 n4 k4)) := VB2.out.below M5
  have VX5 : Hid (Var w5 gx (.slice xa ja da) (.slice xb jb db)) := VX2.out.below M5
  have VY5 : Hid (Var w5 gy (.slice ya ia fa) (.slice yb ib fb)) := VY2.out.below M5
  have HX5 : Hid (OwnT w.heap.size (.agg #[.slice xa ja da, .slice xb jb db]) vs rs w5) := HX2.out.grown M5
  have HY5 : Hid (OwnT w.heap.size (.agg #[.slice ya ia fa, .slice yb ib fb]) vs' qs w5) := HY2.out.grown M5
  clear a0 a1 b0 b1 c5 hb5 M4 M5 HT4 HU4 VT4 VU4 VA2 VB2 VX2 VY2 HX2 HY2 K2
  have a0 := VA5.out.c0
  have a1 := VA5.out.c1
  have b0 := VX5.out.c0
  have b1 := VX5.out.c1
  go_wp2_with fail
  refine (c6.out _ _ _ (by exact K5) HX5.out).mono ?_
  rintro e w6 ⟨rfl, hb6⟩
  have K6 : Below w.heap.size w w6 := K5.trans (hb6.mono K5.size)
  have VB6 : Hid (Var w6 (w.heap.size + 1) (.slice p3 n3 k3) (.slice p4 n4 k4)) := VB5.out.below hb6
  have VY6 : Hid (Var w6 gy (.slice ya ia fa) (.slice yb ib fb)) := VY5.out.below hb6
  have HY6 : Hid (OwnT w.heap.size (.agg #[.slice ya ia fa, .slice yb ib fb]) vs' qs w6) := HY5.out.grown hb6
  clear a0 a1 b0 b1 c6 hb6 VA5 VB5 VX5 VY5 HX5 HY5 K5
  have a0 := VB6.out.c0
  have a1 := VB6.out.c1
  have b0 := VY6.out.c0
  have b1 := VY6.out.c1
  go_wp2_with fail
  refine (c7.out _ _ _ (by exact K6) HY6.out).mono ?_
  rintro e w7 ⟨rfl, hb7⟩
  have K7 : Below w.heap.size w w7 := K6.trans (hb7.mono K6.size)
  clear a0 a1 b0 b1 c7 hb7 VB6 VY6 HY6 K6
  go_wp2
  go_ret
  exact ⟨rfl, K7⟩

end Go.Proofs.YteipohpfaofchaaGreat

namespace Go.Proofs.YteipohpfaofchaaGreat
open Go.RowKit Go.Shelf Go.Sort
set_option linter.unusedVariables false

set_option maxRecDepth 100000 in
set_option maxHeartbeats 8000000 in
theorem twoMinus_any {Va Ra Vb Rb : Value} {vs vs' us : List ByteArray} {rs qs L : List (List Val)} {E : Int} (w : World) (ha : DTab w Va Ra vs rs) (hb : DTab w Vb Rb vs' qs)
    (bv : vs.length * 16 ≤ 140737488355328) (bs : ∀ r ∈ rs, r.length * 40 ≤ 140737488355328) (bv' : vs'.length * 16 ≤ 140737488355328) (bs' : ∀ r ∈ qs, r.length * 40 ≤ 140737488355328)
    (cG : ∀ W, Below w.heap.size w W → Calls Tryz.prog 25 #[.agg #[Va, Ra], .agg #[Vb, Rb]] W (TellsT W.heap.size E us L W))
    (cH : ∀ W Xa Ya Xb Yb, OwnT w.heap.size (.agg #[Xa, Ya]) vs rs W → OwnT w.heap.size (.agg #[Xb, Yb]) vs' qs W → Calls Tryz.prog 26 #[.agg #[Xa, Ya], .agg #[Xb, Yb]] W (TellsT W.heap.size E us L W))
    (bL : (∀ r ∈ (if E = 0 then L else []), ∀ v ∈ r, v.Fits) ∧ (if E = 0 then us else []).length ≤ 9223372036854775807 ∧ (if E = 0 then L else []).length ≤ 9223372036854775807 ∧ ∀ r ∈ (if E = 0 then L else []), r.length ≤ 9223372036854775807) :
    Calls Tryz.prog 22 #[.agg #[Va, Ra], .agg #[Vb, Rb], .func (.func 25) #[] #[], .func (.func 26) #[] #[]] w fun e w' => e = .returned (.bool true) ∧ Below w.heap.size w w' := by
  have c1 : Hid (∀ W : World, Below w.heap.size w W → Calls Tryz.prog 11 #[.agg #[Va, Ra]] W fun e w' => ∃ pa na ca pb nb cb, e = .returned (.agg #[.slice pa na ca, .slice pb nb cb]) ∧ OwnT W.heap.size (.agg #[.slice pa na ca, .slice pb nb cb]) vs rs w' ∧ Below W.heap.size W w') := fun W hW => copied_two (ha.vars.below hW) (ha.rows.below hW) bv (by have := ha.many; omega) bs
  have c2 : Hid (∀ W : World, Below w.heap.size w W → Calls Tryz.prog 11 #[.agg #[Vb, Rb]] W fun e w' => ∃ pa na ca pb nb cb, e = .returned (.agg #[.slice pa na ca, .slice pb nb cb]) ∧ OwnT W.heap.size (.agg #[.slice pa na ca, .slice pb nb cb]) vs' qs w' ∧ Below W.heap.size W w') := fun W hW => copied_two (hb.vars.below hW) (hb.rows.below hW) bv' (by have := hb.many; omega) bs'
  have c3 : Hid (∀ W, Below w.heap.size w W → Calls Tryz.prog 25 #[.agg #[Va, Ra], .agg #[Vb, Rb]] W (TellsT W.heap.size E us L W)) := cG
  have c4 : Hid (∀ W Xa Ya Xb Yb, OwnT w.heap.size (.agg #[Xa, Ya]) vs rs W → OwnT w.heap.size (.agg #[Xb, Yb]) vs' qs W → Calls Tryz.prog 26 #[.agg #[Xa, Ya], .agg #[Xb, Yb]] W (TellsT W.heap.size E us L W)) := cH
  have c5 : Hid (∀ (W : World) (B B' : Nat) (t u : Value), TabO B E us L t W → TabO B' E us L u W → B ≤ W.heap.size → Calls Tryz.prog 17 #[t, .int .i64 E, u, .int .i64 E] W fun e w' => e = .returned (.bool true) ∧ Below B W w') := fun W B B' t u h1 h2 hB => is_any h1 h2 hB bL.1 bL.2.1 bL.2.2.1 bL.2.2.2
  have c6 : Hid (∀ (W : World) (U Q : Value), Below w.heap.size w W → OwnT w.heap.size (.agg #[U, Q]) vs rs W → Calls Tryz.prog 14 #[.agg #[Va, Ra], .agg #[U, Q]] W fun e w' => e = .returned (.bool true) ∧ Below W.heap.size W w') := fun W U Q hW h1 => by
    have h := dsame_any (ha.vars.below hW) (own_two h1).1 (ha.rows.below hW) (own_two h1).2 ha.names ha.names ha.fits ha.fits ha.long (by have := ha.many; omega) (by have := ha.many; omega)
    rw [rowsS_refl, show decide (vs = vs) = true by simp] at h
    exact h
  have c7 : Hid (∀ (W : World) (U Q : Value), Below w.heap.size w W → OwnT w.heap.size (.agg #[U, Q]) vs' qs W → Calls Tryz.prog 14 #[.agg #[Vb, Rb], .agg #[U, Q]] W fun e w' => e = .returned (.bool true) ∧ Below W.heap.size W w') := fun W U Q hW h1 => by
    have h := dsame_any (hb.vars.below hW) (own_two h1).1 (hb.rows.below hW) (own_two h1).2 hb.names hb.names hb.fits hb.fits hb.long (by have := hb.many; omega) (by have := hb.many; omega)
    rw [rowsS_refl, show decide (vs' = vs') = true by simp] at h
    exact h
  obtain ⟨p1, k1, p2, k2, eV, eR⟩ := ha.forms
  obtain ⟨p3, k3, p4, k4, eV', eR'⟩ := hb.forms
  subst eV eR eV' eR'
  generalize vs.length = n1 at *
  generalize rs.length = n2 at *
  generalize vs'.length = n3 at *
  generalize qs.length = n4 at *
  clear ha hb bv bs bv' bs' cG cH bL
  go_enter Tryz.func22, Tryz.ntmps22
  go_upto_region 1 with fail
  refine wp_world ?_
  intro W0 hW0
  have K0 : Below w.heap.size w W0 := by rw [hW0]; go_grown
  have VA0 : Hid (Var W0 w.heap.size (.slice p1 n1 k1) (.slice p2 n2 k2)) := by
    rw [hW0]
    exact (Var.made w _ _).below ((Below.refl _ _).alloc (Nat.le_refl _) _)
  have VB0 : Hid (Var W0 (w.heap.size + 1) (.slice p3 n3 k3) (.slice p4 n4 k4)) := by
    rw [hW0]
    have h := Var.made (w.alloc (.cells #[.slice p1 n1 k1, .slice p2 n2 k2] 25)) (.slice p3 n3 k3) (.slice p4 n4 k4)
    exact at_size (P := fun g => Var _ g _ _) h (by simp)
  clear hW0
  have a0 := VA0.out.c0
  have a1 := VA0.out.c1
  go_wp2_with fail
  refine (c1.out _ K0).mono ?_
  rintro e w1 ⟨xa, ja, da, xb, jb, db, rfl, ht, hb1⟩
  have HX : Hid (OwnT w.heap.size (.agg #[.slice xa ja da, .slice xb jb db]) vs rs w1) := ht.base K0.size
  clear ht c1 a0 a1
  go_upto_region 2 with fail
  refine wp_world ?_
  intro W1 hW1
  have H1 : Below w1.heap.size w1 W1 := by rw [hW1]; go_grown
  have VX1 : Hid (Var W1 w1.heap.size (.slice xa ja da) (.slice xb jb db)) := by rw [hW1]; exact Var.made _ _ _
  clear hW1
  have L1 : Below W0.heap.size W0 W1 := hb1.trans (H1.mono hb1.size)
  have K1 : Below w.heap.size w W1 := K0.trans (L1.mono K0.size)
  have VA1 : Hid (Var W1 w.heap.size (.slice p1 n1 k1) (.slice p2 n2 k2)) := VA0.out.below L1
  have VB1 : Hid (Var W1 (w.heap.size + 1) (.slice p3 n3 k3) (.slice p4 n4 k4)) := VB0.out.below L1
  have HX1 : Hid (OwnT w.heap.size (.agg #[.slice xa ja da, .slice xb jb db]) vs rs W1) := HX.out.grown H1
  obtain ⟨gx, egx⟩ : ∃ gx, Hid (w1.heap.size = gx) := ⟨_, rfl⟩
  rw [egx.out] at VX1 ⊢
  clear HX H1 L1 hb1 K0 VA0 VB0
  have b0 := VB1.out.c0
  have b1 := VB1.out.c1
  go_wp2_with fail
  refine (c2.out _ (by exact K1)).mono ?_
  rintro e w2 ⟨ya, ia, fa, yb, ib, fb, rfl, ht, hb2⟩
  have HY : Hid (OwnT w.heap.size (.agg #[.slice ya ia fa, .slice yb ib fb]) vs' qs w2) := ht.base K1.size
  clear ht c2 b0 b1
  go_upto_region 3 with fail
  refine wp_world ?_
  intro W2 hW2
  have H2 : Below w2.heap.size w2 W2 := by rw [hW2]; go_grown
  have VY2 : Hid (Var W2 w2.heap.size (.slice ya ia fa) (.slice yb ib fb)) := by rw [hW2]; exact Var.made _ _ _
  clear hW2
  have L2 : Below W1.heap.size W1 W2 := hb2.trans (H2.mono hb2.size)
  have K2 : Below w.heap.size w W2 := K1.trans (L2.mono K1.size)
  have VA2 : Hid (Var W2 w.heap.size (.slice p1 n1 k1) (.slice p2 n2 k2)) := VA1.out.below L2
  have VB2 : Hid (Var W2 (w.heap.size + 1) (.slice p3 n3 k3) (.slice p4 n4 k4)) := VB1.out.below L2
  have VX2 : Hid (Var W2 gx (.slice xa ja da) (.slice xb jb db)) := VX1.out.below L2
  have HX2 : Hid (OwnT w.heap.size (.agg #[.slice xa ja da, .slice xb jb db]) vs rs W2) := HX1.out.grown L2
  have HY2 : Hid (OwnT w.heap.size (.agg #[.slice ya ia fa, .slice yb ib fb]) vs' qs W2) := HY.out.grown H2
  obtain ⟨gy, egy⟩ : ∃ gy, Hid (w2.heap.size = gy) := ⟨_, rfl⟩
  rw [egy.out] at VY2 ⊢
  clear HY H2 L2 hb2 K1 VA1 VB1 VX1 HX1
  have a0 := VA2.out.c0
  have a1 := VA2.out.c1
  have b0 := VB2.out.c0
  have b1 := VB2.out.c1
  go_wp2_with fail
  refine (c3.out _ (by exact K2)).mono ?_
  rintro e w3 ⟨ta, ra, la, tb, rb, lb, rfl, ht, hb3⟩
  have HT : Hid (TabO W2.heap.size E us L (.agg #[.slice ta ra la, .slice tb rb lb]) w3) := ht
  clear ht c3 a0 a1 b0 b1
  go_upto_region 4 with fail
  refine wp_world ?_
  intro W3 hW3
  have H3 : Below w3.heap.size w3 W3 := by rw [hW3]; go_grown
  have VT3 : Hid (Var W3 w3.heap.size (.slice ta ra la) (.slice tb rb lb)) := by rw [hW3]; exact Var.made _ _ _
  clear hW3
  have L3 : Below W2.heap.size W2 W3 := hb3.trans (H3.mono hb3.size)
  have HT3 : Hid (TabO W2.heap.size E us L (.agg #[.slice ta ra la, .slice tb rb lb]) W3) := HT.out.grown H3
  have VX3 : Hid (Var W3 gx (.slice xa ja da) (.slice xb jb db)) := VX2.out.below L3
  have VY3 : Hid (Var W3 gy (.slice ya ia fa) (.slice yb ib fb)) := VY2.out.below L3
  have HX3 : Hid (OwnT w.heap.size (.agg #[.slice xa ja da, .slice xb jb db]) vs rs W3) := HX2.out.grown L3
  have HY3 : Hid (OwnT w.heap.size (.agg #[.slice ya ia fa, .slice yb ib fb]) vs' qs W3) := HY2.out.grown L3
  obtain ⟨gt, egt⟩ : ∃ gt, Hid (w3.heap.size = gt) := ⟨_, rfl⟩
  rw [egt.out] at VT3 ⊢
  clear HT H3 hb3
  have a0 := VX3.out.c0
  have a1 := VX3.out.c1
  have b0 := VY3.out.c0
  have b1 := VY3.out.c1
  go_wp2_with fail
  refine (c4.out _ _ _ _ _ HX3.out HY3.out).mono ?_
  rintro e w4 ⟨oa, sa, qa, ob, sb, qb, rfl, ht, hb4⟩
  have HU : Hid (TabO W3.heap.size E us L (.agg #[.slice oa sa qa, .slice ob sb qb]) w4) := ht
  clear ht c4 a0 a1 b0 b1
  go_upto_region 5 with fail
  refine wp_world ?_
  intro W4 hW4
  have H4 : Below w4.heap.size w4 W4 := by rw [hW4]; go_grown
  have VU4 : Hid (Var W4 w4.heap.size (.slice oa sa qa) (.slice ob sb qb)) := by rw [hW4]; exact Var.made _ _ _
  clear hW4
  have L4 : Below W3.heap.size W3 W4 := hb4.trans (H4.mono hb4.size)
  have HU4 : Hid (TabO W3.heap.size E us L (.agg #[.slice oa sa qa, .slice ob sb qb]) W4) := HU.out.grown H4
  have VT4 : Hid (Var W4 gt (.slice ta ra la) (.slice tb rb lb)) := VT3.out.below L4
  have HT4 : Hid (TabO W2.heap.size E us L (.agg #[.slice ta ra la, .slice tb rb lb]) W4) := HT3.out.grown L4
  obtain ⟨gu, egu⟩ : ∃ gu, Hid (w4.heap.size = gu) := ⟨_, rfl⟩
  rw [egu.out] at VU4 ⊢
  have M4 : Below W2.heap.size W2 W4 := L3.trans (L4.mono L3.size)
  clear HU H4 hb4 L3 L4 HT3 VT3 VX3 VY3 HX3 HY3
  have a0 := VT4.out.c0
  have a1 := VT4.out.c1
  have b0 := VU4.out.c0
  have b1 := VU4.out.c1
  go_wp2_with fail
  refine (c5.out _ _ _ _ _ HT4.out HU4.out M4.size).mono ?_
  rintro e w5 ⟨rfl, hb5⟩
  have M5 : Below W2.heap.size W2 w5 := M4.trans hb5
  have K5 : Below w.heap.size w w5 := K2.trans (M5.mono K2.size)
  have VA5 : Hid (Var w5 w.heap.size (.slice p1 n1 k1) (.slice p2 n2 k2)) := VA2.out.below M5
  have VB5 : Hid (Var w5 (w.heap.size + 1) (.slice p3 n3 k3) (.slice p4 n4 k4)) := VB2.out.below M5
  have VX5 : Hid (Var w5 gx (.slice xa ja da) (.slice xb jb db)) := VX2.out.below M5
  have VY5 : Hid (Var w5 gy (.slice ya ia fa) (.slice yb ib fb)) := VY2.out.below M5
  have HX5 : Hid (OwnT w.heap.size (.agg #[.slice xa ja da, .slice xb jb db]) vs rs w5) := HX2.out.grown M5
  have HY5 : Hid (OwnT w.heap.size (.agg #[.slice ya ia fa, .slice yb ib fb]) vs' qs w5) := HY2.out.grown M5
  clear a0 a1 b0 b1 c5 hb5 M4 M5 HT4 HU4 VT4 VU4 VA2 VB2 VX2 VY2 HX2 HY2 K2
  have a0 := VA5.out.c0
  have a1 := VA5.out.c1
  have b0 := VX5.out.c0
  have b1 := VX5.out.c1
  go_wp2_with fail
  refine (c6.out _ _ _ (by exact K5) HX5.out).mono ?_
  rintro e w6 ⟨rfl, hb6⟩
  have K6 : Below w.heap.size w w6 := K5.trans (hb6.mono K5.size)
  have VB6 : Hid (Var w6 (w.heap.size + 1) (.slice p3 n3 k3) (.slice p4 n4 k4)) := VB5.out.below hb6
  have VY6 : Hid (Var w6 gy (.slice ya ia fa) (.slice yb ib fb)) := VY5.out.below hb6
  have HY6 : Hid (OwnT w.heap.size (.agg #[.slice ya ia fa, .slice yb ib fb]) vs' qs w6) := HY5.out.grown hb6
  clear a0 a1 b0 b1 c6 hb6 VA5 VB5 VX5 VY5 HX5 HY5 K5
  have a0 := VB6.out.c0
  have a1 := VB6.out.c1
  have b0 := VY6.out.c0
  have b1 := VY6.out.c1
  go_wp2_with fail
  refine (c7.out _ _ _ (by exact K6) HY6.out).mono ?_
  rintro e w7 ⟨rfl, hb7⟩
  have K7 : Below w.heap.size w w7 := K6.trans (hb7.mono K6.size)
  clear a0 a1 b0 b1 c7 hb7 VB6 VY6 HY6 K6
  go_wp2
  go_ret
  exact ⟨rfl, K7⟩

end Go.Proofs.YteipohpfaofchaaGreat

namespace Go.Proofs.YteipohpfaofchaaGreat
open Go.RowKit Go.Shelf Go.Sort
set_option linter.unusedVariables false

theorem TabAt.dtab {w : World} {V R : Value} {vs : List ByteArray} {us : List Value} {rs : List (List Val)} (h : TabAt w V R vs us rs) : DTab w V R vs rs := ⟨h.vars, tab_of_vals h.vals h.rows, h.fits, h.long, h.names, by have := h.many; have := h.rows.1; omega⟩
theorem OwnT.dtab {B : Nat} {w : World} {V R V' R' : Value} {vs : List ByteArray} {rs : List (List Val)} (h : OwnT B (.agg #[V, R]) vs rs w) {w' : World} (g : DTab w' V' R' vs rs) : DTab w V R vs rs := ⟨(own_two h).1, (own_two h).2, g.fits, g.long, g.names, g.many⟩
theorem okT_bounds {vs : List ByteArray} {rs L : List (List Val)} {E : Int} (h : E = 0 → vs.length ≤ 8 ∧ (∀ r ∈ L, okR r ∧ r.length ≤ 8) ∧ L.length ≤ 9223372036854775807) :
    (∀ r ∈ (if E = 0 then L else []), ∀ v ∈ r, v.Fits) ∧ (if E = 0 then vs else []).length ≤ 9223372036854775807 ∧ (if E = 0 then L else []).length ≤ 9223372036854775807 ∧ ∀ r ∈ (if E = 0 then L else []), r.length ≤ 9223372036854775807 := by
  by_cases hE : E = 0
  · obtain ⟨h1, h2, h3⟩ := h hE
    rw [if_pos hE, if_pos hE]
    exact ⟨fun r hr v hv => ((h2 r hr).1 v hv).2, by omega, h3, fun r hr => by have := (h2 r hr).2; omega⟩
  · rw [if_neg hE, if_neg hE]
    simp

set_option maxRecDepth 100000 in
set_option maxHeartbeats 4000000 in
theorem tsets_any {Va Ra Vb Rb : Value} {vs vs' : List ByteArray} {us us' : List Value} {rs qs : List (List Val)} (w : World) (ha : TabAt w Va Ra vs us rs) (hb : TabAt w Vb Rb vs' us' qs) (capA : ∀ p n c, Ra = .slice p n c → n ≤ c) (capB : ∀ p n c, Rb = .slice p n c → n ≤ c)
    (bv : vs.length ≤ 1048576) (br : rs.length ≤ 1048576) (bs : ∀ r ∈ rs, r.length ≤ 1048576) (bv' : vs'.length ≤ 1048576) (br' : qs.length ≤ 1048576) (bs' : ∀ r ∈ qs, r.length ≤ 1048576) :
    Calls Tryz.prog 7 #[.agg #[Va, Ra], .agg #[Vb, Rb]] w fun e w' => e = .returned (.bool true) ∧ Below w.heap.size w w' := by
  have ok : alikeE vs rs vs' qs = 0 → OkT vs rs ∧ OkT vs' qs ∧ vs = vs' := fun h => ⟨tabChk_ok (alikeE_ok h).1 ha.fits, tabChk_ok (alikeE_ok h).2.1 hb.fits, (alikeE_ok h).2.2⟩
  have c1 : Hid (∀ W : World, Below w.heap.size w W → Calls Tryz.prog 22 #[.agg #[Va, Ra], .agg #[Vb, Rb], .func (.func 23) #[] #[], .func (.func 24) #[] #[]] W fun e w' => e = .returned (.bool true) ∧ Below W.heap.size W w') := fun W hW => by
    refine twoUnion_any (E := alikeE vs rs vs' qs) (us := vs) (L := mergeL rs qs) W (ha.below hW).dtab (hb.below hW).dtab (by omega) (fun r hr => by have := bs r hr; omega) (by omega) (fun r hr => by have := bs' r hr; omega) (fun W1 h1 => ?_) (fun W1 Xa Ya Xb Yb h1 h2 => ?_) (okT_bounds (rs := rs) fun h => ?_)
    · refine (union_any ((ha.below hW).below h1) ((hb.below hW).below h1) capA capB (by omega)).mono ?_
      rintro e w' ⟨t, rfl, g1, g2, g3⟩
      exact TellsT.of g1 g2 g3
    · exact dunion_any (h1.dtab ha.dtab) (h2.dtab hb.dtab) (by omega)
    · obtain ⟨o1, o2, -⟩ := ok h
      refine ⟨o1.few, fun r hr => ?_, ?_⟩
      · rcases (mem_mergeL _ rs qs (Nat.le_refl _) (fun r hr => (o1.rows r hr).2) (fun r hr => (o2.rows r hr).2) r).1 hr with hr | hr
        · exact ⟨(o1.rows r hr).2, by rw [(o1.rows r hr).1]; exact o1.few⟩
        · exact ⟨(o2.rows r hr).2, by rw [(o2.rows r hr).1]; exact o2.few⟩
      · have := mergeL_len _ rs qs (Nat.le_refl _)
        omega
  have c2 : Hid (∀ W : World, Below w.heap.size w W → Calls Tryz.prog 22 #[.agg #[Va, Ra], .agg #[Vb, Rb], .func (.func 25) #[] #[], .func (.func 26) #[] #[]] W fun e w' => e = .returned (.bool true) ∧ Below W.heap.size W w') := fun W hW => by
    refine twoMinus_any (E := alikeE vs rs vs' qs) (us := vs) (L := antiL vs vs' rs qs) W (ha.below hW).dtab (hb.below hW).dtab (by omega) (fun r hr => by have := bs r hr; omega) (by omega) (fun r hr => by have := bs' r hr; omega) (fun W1 h1 => ?_) (fun W1 Xa Ya Xb Yb h1 h2 => ?_) (okT_bounds (rs := rs) fun h => ?_)
    · refine (tabminus_any ((ha.below hW).below h1) ((hb.below hW).below h1)).mono ?_
      rintro e w' ⟨t, rfl, g1, g2, g3⟩
      exact TellsT.of g1 g2 g3
    · exact dminus_any (h1.dtab ha.dtab) (h2.dtab hb.dtab)
    · obtain ⟨o1, o2, -⟩ := ok h
      refine ⟨o1.few, fun r hr => ?_, ?_⟩
      · have hr := (List.mem_filter.1 hr).1
        exact ⟨(o1.rows r hr).2, by rw [(o1.rows r hr).1]; exact o1.few⟩
      · have h5 : (antiL vs vs' rs qs).length ≤ rs.length := List.length_filter_le _ _
        omega
  obtain ⟨p1, k1, p2, k2, eV, eR⟩ := ha.forms
  obtain ⟨p3, k3, p4, k4, eV', eR'⟩ := hb.forms
  subst eV eR eV' eR'
  generalize vs.length = n1 at *
  generalize us.length = n2 at *
  generalize vs'.length = n3 at *
  generalize us'.length = n4 at *
  clear ha hb capA capB bv br bs bv' br' bs' ok
  go_enter Tryz.func7, Tryz.ntmps7
  go_upto_region 1 with fail
  refine wp_world ?_
  intro W0 hW0
  have K0 : Below w.heap.size w W0 := by rw [hW0]; go_grown
  have VA0 : Hid (Var W0 w.heap.size (.slice p1 n1 k1) (.slice p2 n2 k2)) := by
    rw [hW0]
    exact (Var.made w _ _).below ((Below.refl _ _).alloc (Nat.le_refl _) _)
  have VB0 : Hid (Var W0 (w.heap.size + 1) (.slice p3 n3 k3) (.slice p4 n4 k4)) := by
    rw [hW0]
    have h := Var.made (w.alloc (.cells #[.slice p1 n1 k1, .slice p2 n2 k2] 25)) (.slice p3 n3 k3) (.slice p4 n4 k4)
    exact at_size (P := fun g => Var _ g _ _) h (by simp)
  clear hW0
  have a0 := VA0.out.c0
  have a1 := VA0.out.c1
  have b0 := VB0.out.c0
  have b1 := VB0.out.c1
  go_wp2_with fail
  refine (c1.out _ K0).mono ?_
  rintro e w1 ⟨rfl, hb1⟩
  have K1 : Below w.heap.size w w1 := K0.trans (hb1.mono K0.size)
  have VA1 : Hid (Var w1 w.heap.size (.slice p1 n1 k1) (.slice p2 n2 k2)) := VA0.out.below hb1
  have VB1 : Hid (Var w1 (w.heap.size + 1) (.slice p3 n3 k3) (.slice p4 n4 k4)) := VB0.out.below hb1
  clear a0 a1 b0 b1 VA0 VB0 hb1 K0 c1
  have a0 := VA1.out.c0
  have a1 := VA1.out.c1
  have b0 := VB1.out.c0
  have b1 := VB1.out.c1
  go_wp2_with fail
  refine (c2.out _ K1).mono ?_
  rintro e w2 ⟨rfl, hb2⟩
  have K2 : Below w.heap.size w w2 := K1.trans (hb2.mono K1.size)
  clear a0 a1 b0 b1 VA1 VB1 hb2 K1 c2
  go_wp2_with fail
  refine (tlive_any _).mono ?_
  rintro e w3 ⟨rfl, hb3⟩
  have K3 : Below w.heap.size w w3 := K2.trans (hb3.mono K2.size)
  clear hb3 K2
  go_wp2
  go_ret
  exact ⟨rfl, K3⟩

end Go.Proofs.YteipohpfaofchaaGreat

namespace Go.Proofs.YteipohpfaofchaaGreat
open Go.Joins Go.ChangeShapes Go.WideShapes Go.ChangeAt Go.RowKit Go.Deep
set_option linter.unusedVariables false
set_option maxRecDepth 100000

theorem bulk_one {H : Type} (d : DataW H) : 1 ≤ Rows.uptoBulk d := by
  cases d with
  | lit l => cases l <;> simp [Rows.uptoBulk]
  | _ => simp [Rows.uptoBulk]
theorem bulk_part {H : Type} {d : DataW H} : ∀ {l : List (DataW H)}, d ∈ l → Rows.uptoBulk d ≤ Rows.uptoBulkAll l
  | [], h => by cases h
  | x :: l, h => by
    rw [Rows.uptoBulkAll]
    rcases List.mem_cons.1 h with rfl | h
    · omega
    · have := bulk_part h
      omega
theorem bulk_len {H : Type} : ∀ l : List (DataW H), l.length ≤ Rows.uptoBulkAll l
  | [] => by simp
  | x :: l => by
    rw [Rows.uptoBulkAll, List.length_cons]
    have := bulk_len l
    have := bulk_one x
    omega
theorem bulk_elems {H : Type} (elems spare : List (DataW H)) : Rows.uptoBulkAll elems + 1 ≤ Rows.uptoBulk (.slice elems spare) := by
  rw [Rows.uptoBulk]
  omega
/-- A slice that came in is no longer than the bulk. -/
theorem bulk_slice {H : Type} {enc : TypeId × Value → H} {w : World} {sp : Nat → Bool} {held : Bool} {n : Nat} {t e : TypeId} (ht : Tryz.prog.underlying t = some (.slice e)) {v : Value} {x : DataW H × List MemPlace} (h : DataW.trod enc Tryz.prog w 0 sp held n t [v] = some x) : ∀ p m c, v = .slice p m c → m ≤ Rows.uptoBulk x.1 := by
  rcases open_slice ht h with ⟨hcs, hx⟩ | ⟨a, len, cap, m, n', D, Pl, hcs, hb, hl, hm, em, hx, he⟩
  · injection hcs with hcs
    subst hcs
    intro p m c e
    injection e with _ e _
    omega
  · injection hcs with hcs
    subst hcs hx
    intro p k c e
    injection e with _ e _
    have h1 := bulk_elems ((List.range len).map D) ((List.range (m - len)).map fun j => D (len + j))
    have h2 := bulk_len ((List.range len).map D)
    rw [List.length_map, List.length_range] at h2
    show k ≤ Rows.uptoBulk (.slice _ _)
    omega
theorem bulk_rows {H : Type} {enc : TypeId × Value → H} {w : World} {sp : Nat → Bool} {held : Bool} {n : Nat} {v : Value} {x : DataW H × List MemPlace} (h : DataW.trod enc Tryz.prog w 0 sp held n 23 [v] = some x) {rs : List (List Val)} (hT : TabRows w v rs) : rs.length ≤ Rows.uptoBulk x.1 ∧ ∀ r ∈ rs, r.length ≤ Rows.uptoBulk x.1 := by
  obtain ⟨p, c, ev, hr⟩ := hT
  refine ⟨bulk_slice Tryz.underlying23 h _ _ _ ev, fun r hm => ?_⟩
  rcases hr with hr | ⟨b, off, rfl, hb, hr⟩
  · subst hr; cases hm
  obtain ⟨i, hi, rfl⟩ := List.getElem_of_mem hm
  rcases open_slice1 Tryz.underlying23 (by kernel_rfl) h with ⟨hcs, hx⟩ | ⟨a, len, cap, m, n', V, D, Pl, hcs, hb2, hl, hm2, em, hx, he⟩
  · injection hcs with hcs
    rw [hcs] at ev
    injection ev with _ e _
    omega
  · injection hcs with hcs
    rw [hcs] at ev
    injection ev with e1 e2 e3
    injection e1 with e1
    subst hx e1 e2
    have hlm : rs.length ≤ m := by rw [em]; split <;> omega
    obtain ⟨u, g1, g2⟩ := hr i hi
    obtain ⟨h1, h2⟩ := he i (by omega)
    rw [add_plain, g1] at h1
    injection h1 with h1
    subst h1
    obtain ⟨pu, cu, eu⟩ := g2.form
    have h3 := bulk_slice Tryz.underlying37 h2 _ _ _ eu
    have h4 := bulk_part (l := (List.range rs.length).map D) (d := D i) (List.mem_map.2 ⟨i, by simpa using hi, rfl⟩)
    have h5 := bulk_elems ((List.range rs.length).map D) ((List.range (m - rs.length)).map fun j => D (rs.length + j))
    show _ ≤ Rows.uptoBulk (.slice _ _)
    dsimp only at h3
    omega
theorem bulk_tab {H : Type} {enc : TypeId × Value → H} {W : World} {r : Reach} {b0 : Nat} {V R : Value} {d : DataW H} {p : List MemPlace} (hv : Value.okWide Tryz.prog W r b0 25 (.agg #[V, R])) (h : DataW.Trod enc Tryz.prog W 0 (fun _ => true) true 25 (.agg #[V, R]) d p) {vs : List ByteArray} {rs : List (List Val)} (h1 : StrsAt W V vs) (h2 : TabRows W R rs) : vs.length ≤ Rows.uptoBulk d ∧ rs.length ≤ Rows.uptoBulk d ∧ ∀ r ∈ rs, r.length ≤ Rows.uptoBulk d := by
  obtain ⟨V', R', y0, y1, n, e, ed, rfl, g0, g1⟩ := open_agg2 Tryz.underlying25 (by kernel_rfl) (by kernel_rfl) hv h
  injection e with e
  injection e with e
  simp only [List.cons.injEq, and_true] at e
  obtain ⟨rfl, rfl⟩ := e
  obtain ⟨pv, cv, ev⟩ := h1.form
  have k1 := bulk_slice Tryz.underlying22 g0 _ _ _ ev
  obtain ⟨k2, k3⟩ := bulk_rows g1 h2
  have e : Rows.uptoBulk d = Rows.uptoBulk y0.1 + (Rows.uptoBulk y1.1 + 0) + 1 := by rw [ed, Rows.uptoBulk, Rows.uptoBulkAll, Rows.uptoBulkAll, Rows.uptoBulkAll]
  refine ⟨by omega, by omega, fun r hr => ?_⟩
  have := k3 r hr
  omega
/-- Rows that came in, by the values that the cells hold. -/
theorem vals_in {W : World} {r : Reach} {base : Nat} {v : Value} {rs : List (List Val)} (ok : Cell.okWide Tryz.prog W r base 23 v) (h : TabRows W v rs) : ∃ us, ValsAt W v us ∧ RowsOf W us rs := by
  obtain ⟨p, c, rfl, h | ⟨b, off, rfl, hb, hr⟩⟩ := h
  · subst h
    cases p with
    | none => exact ⟨[], Or.inl ⟨c, rfl, rfl⟩, rfl, fun i h => absurd h (Nat.not_lt_zero _)⟩
    | some a =>
      obtain ⟨b, off, spot⟩ := a
      have hs : spot = none := by
        simp only [Cell.okWide, Cell.ok, Tryz.underlying23, World.has] at ok
        exact ok.2.2.2.1
      subst hs
      exact ⟨[], Or.inr ⟨b, off, c, rfl, Or.inl rfl, fun i h => absurd h (Nat.not_lt_zero _)⟩, rfl, fun i h => absurd h (Nat.not_lt_zero _)⟩
  · obtain ⟨f, hf⟩ := choose_lt (n := rs.length) (p := fun i v => W.cell? ⟨b, off + i, none⟩ = some v ∧ ∀ h : i < rs.length, RowAt W v rs[i]) (fun i hi => by
      obtain ⟨v, h1, h2⟩ := hr i hi
      exact ⟨v, h1, fun _ => h2⟩)
    refine ⟨(List.range rs.length).map f, Or.inr ⟨b, off, c, by simp, Or.inr hb, fun i h => ?_⟩, by simp, fun i h g => ?_⟩
    · rw [List.getElem_map, List.getElem_range]
      exact (hf i (by simpa using h)).1
    · rw [List.getElem_map, List.getElem_range]
      exact (hf i g).2 g
theorem cellT : Tryz.prog.cellTypes Tryz.prog.depth 25 = some [22, 23] := by kernel_rfl
theorem tab_cell {W : World} {r : Reach} {base : Nat} {V R : Value} (hv : Value.okWide Tryz.prog W r base 25 (.agg #[V, R])) : Cell.okWide Tryz.prog W r base 23 R := by
  simp only [Value.okWide, Tryz.underlying25] at hv
  obtain ⟨cs, e, -, ts, e1, -, h⟩ := hv
  rw [cellT] at e1
  injection e1 with e1
  injection e with e
  subst e e1
  obtain ⟨u, h1, h2⟩ := h 1 R rfl
  injection h1 with h1
  subst h1
  exact h2
/-- A table that came in, as the walks ask for it. -/
theorem openu_tab {H : Type} {enc : TypeId × Value → H} {W : World} {r : Reach} {b0 : Nat} {v : Value} {d : DataW H} {p : List MemPlace} (hv : Value.okWide Tryz.prog W r b0 25 v) (h : DataW.Trod enc Tryz.prog W 0 (fun _ => true) true 25 v d p) (hlt : ∀ y ∈ p, y.block < W.heap.size) (hk : Rows.uptoBulk d ≤ 1048576) :
    ∃ V R vs us rs, v = .agg #[V, R] ∧ TabAt W V R vs us rs ∧ (∀ p n c, V = .slice p n c → n ≤ c) ∧ (∀ p n c, R = .slice p n c → n ≤ c) ∧ vs.length ≤ 1048576 ∧ rs.length ≤ 1048576 ∧ ∀ r ∈ rs, r.length ≤ 1048576 := by
  obtain ⟨V, R, vs, rs, rfl, a1, a2, a3, a4, a5, a6, a7, a8⟩ := open_tab hv h hlt
  obtain ⟨k1, k2, k3⟩ := bulk_tab hv h a1 a4
  obtain ⟨us, u1, u2⟩ := vals_in (tab_cell hv) a4
  exact ⟨V, R, vs, us, rs, rfl, ⟨a1, u1, u2, a5, a6, a2, by have := u2.1; omega, fun u hu => u2.slices u hu⟩, a3, a8, by omega, by omega, fun r hr => by have := k3 r hr; omega⟩

end Go.Proofs.YteipohpfaofchaaGreat
