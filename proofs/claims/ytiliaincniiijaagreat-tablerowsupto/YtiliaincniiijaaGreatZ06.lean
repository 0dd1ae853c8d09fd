/- What the statements' own few calls answer: the parts. -/
import Derived.Test.YtiliaincniiijaaGreatZ05
import Derived.ProofKit
import Derived.OpenShut
import Derived.Lib.SmallJoins
import Derived.Deep.Slices
import Derived.Test.YtiliaincniiijaaGreatZ02
import Derived.Test.YtiliaincniiijaaGreatZ04
import Derived.Test.YtiliaincniiijaaGreatZ01

namespace Go.Proofs.YtiliaincniiijaaGreat
open Go.Joins Go.ChangeShapes Go.WideShapes Go.ChangeAt Go.RowKit Go.Deep
set_option linter.unusedVariables false
set_option maxRecDepth 100000

theorem cellsVal : Tryz.prog.cellsOf 45 = 4 := by kernel_rfl
theorem bdsVal {x : Int} (h : (Lit.int .i64 x).wf = true) : -9223372036854775808 ≤ x ∧ x ≤ 9223372036854775807 := by
  simp [Lit.wf, IntKind.min, IntKind.max, IntKind.signed, IntKind.bits] at h
  omega

theorem cells4 {w : World} {a : Addr} {cs : List Value} (h : w.cells? 0 a 4 = some cs) : ∃ c0 c1 c2 c3, cs = [c0, c1, c2, c3] ∧ w.cell? (a.add 0) = some c0 ∧ w.cell? (a.add 1) = some c1 ∧ w.cell? (a.add 2) = some c2 ∧ w.cell? (a.add 3) = some c3 := by
  unfold World.cells? at h
  rw [if_pos (Nat.zero_le _), show List.range 4 = [0, 1, 2, 3] from rfl] at h
  simp only [List.mapM_cons, List.mapM_nil, Option.pure_def, Option.bind_eq_bind, Option.bind_eq_some_iff, Option.some.injEq] at h
  obtain ⟨c0, h0, r0, ⟨c1, h1, r1, ⟨c2, h2, r2, ⟨c3, h3, r3, rfl, e3⟩, e2⟩, e1⟩, e0⟩ := h
  subst e3 e2 e1 e0
  exact ⟨c0, c1, c2, c3, rfl, h0, h1, h2, h3⟩

instance : Inhabited Val := ⟨⟨0, 0, 0, ⟨#[]⟩⟩⟩

/-- One value, read off its four cells. -/
theorem open_val {H : Type} {enc : TypeId × Value → H} {w : World} {sp : Nat → Bool} {held : Bool} {n : Nat} {a : Addr} {cs : List Value} {x : DataW H × List MemPlace} (hc : w.cells? 0 a 4 = some cs) (h : DataW.trod enc Tryz.prog w 0 sp held n 45 cs = some x) :
    ∃ X : Val, X.Fits ∧ w.cell? (a.add 0) = some (.int .i64 X.k) ∧ w.cell? (a.add 1) = some (.int .i64 X.n) ∧ w.cell? (a.add 2) = some (.int .i64 X.d) ∧ w.cell? (a.add 3) = some (.string X.s) := by
  obtain ⟨c0, c1, c2, c3, rfl, h0, h1, h2, h3⟩ := cells4 hc
  obtain ⟨y0, y1, y2, y3, m, _, _, t0, t1, t2, t3⟩ := trod_struct4 Tryz.underlying45 h
  obtain ⟨k, e0, _, w0⟩ := DataW.trod_int Tryz.underlying3 t0
  obtain ⟨p, e1, _, w1⟩ := DataW.trod_int Tryz.underlying2 t1
  obtain ⟨q, e2, _, w2⟩ := DataW.trod_int Tryz.underlying2 t2
  obtain ⟨s, e3, _, w3⟩ := DataW.trod_string Tryz.underlying9 t3
  have f0 : Tryz.prog.cellsOf 3 = 1 := by kernel_rfl
  have f1 : Tryz.prog.cellsOf 2 = 1 := by kernel_rfl
  have f3 : Tryz.prog.cellsOf 9 = 1 := by kernel_rfl
  simp [f0] at e0
  simp [f1] at e1 e2
  simp [f3] at e3
  subst e0 e1 e2 e3
  exact ⟨⟨k, p, q, s⟩, ⟨(bdsVal w1).1, (bdsVal w1).2, (bdsVal w2).1, (bdsVal w2).2⟩, h0, h1, h2, h3⟩


theorem row_mem {b off : Nat} {s : Option Nat} {n : Nat} (h : 0 < n) : MemPlace.cell b off ∈ MemPlace.row ⟨b, off, none⟩ n := by
  unfold MemPlace.row
  exact List.mem_map.2 ⟨0, by simp; omega, rfl⟩

theorem open_strs {H : Type} {enc : TypeId × Value → H} {w : World} {sp : Nat → Bool} {held : Bool} {n : Nat} {v : Value} {x : DataW H × List MemPlace} (h : DataW.trod enc Tryz.prog w 0 sp held n 22 [v] = some x) (hlt : ∀ y ∈ x.2, y.block < w.heap.size) :
    ∃ vs : List ByteArray, StrsAt w v vs ∧ vs.length ≤ 9223372036854775807 ∧ ∀ p n c, v = .slice p n c → n ≤ c := by
  rcases open_slice1 Tryz.underlying22 (by kernel_rfl) h with ⟨hcs, hx⟩ | ⟨a, len, cap, m, n', V, D, Pl, hcs, hb, hl, hm, em, hx, he⟩
  · injection hcs with hcs
    subst hcs
    exact ⟨[], ⟨none, 0, rfl, Or.inl rfl⟩, by simp, fun p n c e => by injection e with _ e1 e2; omega⟩
  · injection hcs with hcs
    subst hcs hx
    have hlm : len ≤ m := by rw [em]; split <;> omega
    have each : ∀ i, i < len → ∃ s : ByteArray, w.cell? (a.add i) = some (.string s) := fun i hi => by
      obtain ⟨h1, h2⟩ := he i (by omega)
      obtain ⟨s, e3, _, _⟩ := DataW.trod_string Tryz.underlying9 h2
      injection e3 with e3
      exact ⟨s, e3 ▸ h1⟩
    obtain ⟨f, hf⟩ := choose_lt each
    refine ⟨(List.range len).map f, ⟨some a, cap, by simp, ?_⟩, by simp; unfold maxLen at hm; omega, fun p n c e => by injection e with _ e1 e2; omega⟩
    by_cases h0 : len = 0
    · exact Or.inl (by simp [h0])
    · right
      obtain ⟨b, off, spot⟩ := a
      have hspot : spot = none := by simpa [Addr.add] using World.cell?_spot (hf 0 (by omega))
      subst hspot
      refine ⟨b, off, rfl, hlt (.cell b off) (List.mem_append_left _ (row_mem (s := none) (by omega))), ?_⟩
      intro i hi
      have hi' : i < len := by simpa using hi
      have c0 := hf i hi'
      simp only [add_plain] at c0
      simpa using c0

theorem open_vrow {H : Type} {enc : TypeId × Value → H} {w : World} {sp : Nat → Bool} {held : Bool} {n : Nat} {v : Value} {x : DataW H × List MemPlace} (h : DataW.trod enc Tryz.prog w 0 sp held n 26 [v] = some x) (hlt : ∀ y ∈ x.2, y.block < w.heap.size) :
    ∃ xs : List Val, RowAt w v xs ∧ (∀ y ∈ xs, y.Fits) ∧ xs.length ≤ 9223372036854775807 ∧ ∀ p n c, v = .slice p n c → n ≤ c := by
  rcases open_slice Tryz.underlying26 h with ⟨hcs, hx⟩ | ⟨a, len, cap, m, n', D, Pl, hcs, hb, hl, hm, em, hx, he⟩
  · injection hcs with hcs
    subst hcs
    exact ⟨[], ⟨none, 0, rfl, Or.inl rfl⟩, by simp, by simp, fun p n c e => by injection e with _ e1 e2; omega⟩
  · injection hcs with hcs
    subst hcs hx
    have hlm : len ≤ m := by rw [em]; split <;> omega
    have each : ∀ i, i < len → ∃ X : Val, X.Fits ∧ w.cell? ((a.add (i * 4)).add 0) = some (.int .i64 X.k) ∧ w.cell? ((a.add (i * 4)).add 1) = some (.int .i64 X.n) ∧ w.cell? ((a.add (i * 4)).add 2) = some (.int .i64 X.d) ∧ w.cell? ((a.add (i * 4)).add 3) = some (.string X.s) := fun i hi => by
      obtain ⟨cs, h1, h2⟩ := he i (by omega)
      rw [cellsVal] at h1
      exact open_val h1 h2
    obtain ⟨f, hf⟩ := choose_lt each
    refine ⟨(List.range len).map f, ⟨some a, cap, by simp, ?_⟩, ?_, by simp; unfold maxLen at hm; omega, fun p n c e => by injection e with _ e1 e2; omega⟩
    · by_cases h0 : len = 0
      · exact Or.inl (by simp [h0])
      · right
        obtain ⟨b, off, spot⟩ := a
        have hspot : spot = none := by simpa [Addr.add] using World.cell?_spot (hf 0 (by omega)).2.1
        subst hspot
        refine ⟨b, off, rfl, hlt (.cell b off) (List.mem_append_left _ (row_mem (s := none) (by rw [cellsVal]; omega))), ?_⟩
        intro i hi
        have hi' : i < len := by simpa using hi
        obtain ⟨_, c0, c1, c2, c3⟩ := hf i hi'
        simp only [add_plain, Nat.add_zero] at c0 c1 c2 c3
        simp only [List.getElem_map, List.getElem_range]
        exact ⟨c0, c1, c2, c3⟩
    · intro y hy
      simp at hy
      obtain ⟨i, hi, rfl⟩ := hy
      exact (hf i hi).1

theorem open_rows {H : Type} {enc : TypeId × Value → H} {w : World} {sp : Nat → Bool} {held : Bool} {n : Nat} {v : Value} {x : DataW H × List MemPlace} (h : DataW.trod enc Tryz.prog w 0 sp held n 23 [v] = some x) (hlt : ∀ y ∈ x.2, y.block < w.heap.size) :
    ∃ rs : List (List Val), TabRows w v rs ∧ (∀ r ∈ rs, ∀ y ∈ r, y.Fits) ∧ (∀ r ∈ rs, r.length ≤ 9223372036854775807) ∧ rs.length ≤ 9223372036854775807 ∧ ∀ p n c, v = .slice p n c → n ≤ c := by
  rcases open_slice1 Tryz.underlying23 (by kernel_rfl) h with ⟨hcs, hx⟩ | ⟨a, len, cap, m, n', V, D, Pl, hcs, hb, hl, hm, em, hx, he⟩
  · injection hcs with hcs
    subst hcs
    exact ⟨[], ⟨none, 0, rfl, Or.inl rfl⟩, by simp, by simp, by simp, fun p n c e => by injection e with _ e1 e2; omega⟩
  · injection hcs with hcs
    subst hcs hx
    have hlm : len ≤ m := by rw [em]; split <;> omega
    have each : ∀ i, i < len → ∃ xs : List Val, w.cell? (a.add i) = some (V i) ∧ RowAt w (V i) xs ∧ (∀ y ∈ xs, y.Fits) ∧ xs.length ≤ 9223372036854775807 := fun i hi => by
      obtain ⟨h1, h2⟩ := he i (by omega)
      obtain ⟨xs, r1, r2, r3, _⟩ := open_vrow h2 (fun y hy => hlt y (List.mem_append_right _ (List.mem_flatMap.2 ⟨i, by simp; omega, hy⟩)))
      exact ⟨xs, h1, r1, r2, r3⟩
    obtain ⟨f, hf⟩ := choose_lt each
    refine ⟨(List.range len).map f, ⟨some a, cap, by simp, ?_⟩, ?_, ?_, by simp; unfold maxLen at hm; omega, fun p n c e => by injection e with _ e1 e2; omega⟩
    · by_cases h0 : len = 0
      · exact Or.inl (by simp [h0])
      · right
        obtain ⟨b, off, spot⟩ := a
        have hspot : spot = none := by simpa [Addr.add] using World.cell?_spot (hf 0 (by omega)).1
        subst hspot
        refine ⟨b, off, rfl, hlt (.cell b off) (List.mem_append_left _ (row_mem (s := none) (by omega))), ?_⟩
        intro i hi
        have hi' : i < len := by simpa using hi
        obtain ⟨c0, c1, _⟩ := hf i hi'
        simp only [add_plain] at c0
        refine ⟨_, c0, ?_⟩
        simpa using c1
    · intro r hr
      simp at hr
      obtain ⟨i, hi, rfl⟩ := hr
      exact (hf i hi).2.2.1
    · intro r hr
      simp at hr
      obtain ⟨i, hi, rfl⟩ := hr
      exact (hf i hi).2.2.2

theorem open_tab {H : Type} {enc : TypeId × Value → H} {W : World} {r : Reach} {b0 : Nat} {v : Value} {d : DataW H} {p : List MemPlace} (hv : Value.okWide Tryz.prog W r b0 25 v) (h : DataW.Trod enc Tryz.prog W 0 (fun _ => true) true 25 v d p) (hlt : ∀ y ∈ p, y.block < W.heap.size) :
    ∃ V R vs rs, v = .agg #[V, R] ∧ StrsAt W V vs ∧ vs.length ≤ 9223372036854775807 ∧ (∀ p n c, V = .slice p n c → n ≤ c) ∧ TabRows W R rs ∧ (∀ r ∈ rs, ∀ y ∈ r, y.Fits) ∧ (∀ r ∈ rs, r.length ≤ 9223372036854775807) ∧ rs.length ≤ 9223372036854775807 ∧ ∀ p n c, R = .slice p n c → n ≤ c := by
  obtain ⟨V, R, y0, y1, n, rfl, -, rfl, h0, h1⟩ := open_agg2 Tryz.underlying25 (by kernel_rfl) (by kernel_rfl) hv h
  obtain ⟨vs, a1, a2, a3⟩ := open_strs h0 (fun y hy => hlt y (List.mem_append_left _ hy))
  obtain ⟨rs, c1, c2, c3, c4, c5⟩ := open_rows h1 (fun y hy => hlt y (List.mem_append_right _ hy))
  exact ⟨V, R, vs, rs, rfl, a1, a2, a3, c1, c2, c3, c4, c5⟩

end Go.Proofs.YtiliaincniiijaaGreat

namespace Go.Proofs.YtiliaincniiijaaGreat
open Go.RowKit Go.Shelf
set_option linter.unusedVariables false

end Go.Proofs.YtiliaincniiijaaGreat

namespace Go.Proofs.YtiliaincniiijaaGreat
open Go.RowKit Go.Shelf Go.Sort
set_option linter.unusedVariables false

set_option maxRecDepth 100000 in
theorem one_any (n : Int) (w : World) : Calls Tryz.prog 21 #[.int .i64 n] w fun e w' => e = .returned (.agg #[.int .i64 1, .int .i64 n, .int .i64 0, .string ⟨#[]⟩]) ∧ Below w.heap.size w w' := by
  go_enter Tryz.func21, Tryz.ntmps21
  go_wp2
  (try simp only [Exit.inBlock, Exit.then])
  refine bodyPost_ret (by simp (maxDischargeDepth := 12) [results, Tryz.results21, go_sem]; try rfl) rfl ?_
  exact ⟨rfl, by go_grown⟩

structure XS (W w7 : World) (zs : List Value) (bl lo lo' : Nat) (xa xb : Int) (A b : Value) (L : List (List Val)) : Prop where
  tt : W.heap[w7.heap.size]? = some (.cells #[A, b] 25 (0, 0))
  ob : W.ownsRow w7.heap.size 26 1 b zs.length zs
  rs : OwnRs w7.heap.size zs L W
  hb : Below w7.heap.size w7 W
  l1 : w7.cell? ⟨bl, lo, none⟩ = some (.int .i64 xa)
  l2 : w7.cell? ⟨bl, lo', none⟩ = some (.int .i64 xb)
  bb : bl < w7.heap.size
theorem held_of {W w7 : World} {bl lo lo' : Nat} {xa xb : Int} (hb : Below w7.heap.size w7 W) (l1 : w7.cell? ⟨bl, lo, none⟩ = some (.int .i64 xa)) (l2 : w7.cell? ⟨bl, lo', none⟩ = some (.int .i64 xb)) (bb : bl < w7.heap.size) : W.cell? ⟨bl, lo, none⟩ = some (.int .i64 xa) ∧ W.cell? ⟨bl, lo', none⟩ = some (.int .i64 xb) :=
  ⟨(hb.cell (p := ⟨bl, lo, none⟩) bb).trans l1, (hb.cell (p := ⟨bl, lo', none⟩) bb).trans l2⟩
section
variable {W W' w7 : World} {zs : List Value} {bl lo lo' : Nat} {xa xb : Int} {A b : Value} {L : List (List Val)}
theorem XS.below (x : XS W w7 zs bl lo lo' xa xb A b L) (h : Below W.heap.size W W') : XS W' w7 zs bl lo lo' xa xb A b L :=
  ⟨(h.block _ (Array.getElem?_eq_some_iff.1 x.tt).1).trans x.tt, own_below x.ob h, x.rs.below h, x.hb.trans (h.mono x.hb.size), x.l1, x.l2, x.bb⟩
theorem XS.held (x : XS W w7 zs bl lo lo' xa xb A b L) : W.cell? ⟨bl, lo, none⟩ = some (.int .i64 xa) ∧ W.cell? ⟨bl, lo', none⟩ = some (.int .i64 xb) := held_of x.hb x.l1 x.l2 x.bb
theorem XS.t1 (x : XS W w7 zs bl lo lo' xa xb A b L) : W.cell? ⟨w7.heap.size, 1, none⟩ = some b := cell_of_heap x.tt 1 rfl
theorem XS.lt (x : XS W w7 zs bl lo lo' xa xb A b L) : w7.heap.size < W.heap.size := (Array.getElem?_eq_some_iff.1 x.tt).1
end
/-- Rows of two numbers each. -/
def xyR : List Int → List (List Val)
  | a :: b :: l => [⟨1, a, 0, ⟨#[]⟩⟩, ⟨1, b, 0, ⟨#[]⟩⟩] :: xyR l
  | _ => []
theorem xyR_short {l : List Int} (h : l.length ≤ 1) : xyR l = [] := by
  match l, h with
  | [], _ => rfl
  | [_], _ => rfl

set_option maxRecDepth 100000 in
set_option maxHeartbeats 8000000 in
theorem xy_any (bl lo c : Nat) (l : List Int) (w : World) (hbl : bl < w.heap.size) (hl : ∀ i (h : i < l.length), w.cell? ⟨bl, lo + i, none⟩ = some (.int .i64 l[i])) (ll : l.length ≤ 1000) :
    Calls Tryz.prog 14 #[.slice (some ⟨bl, lo, none⟩) l.length c] w fun e w' => ∃ t, e = .returned t ∧ OwnT w.heap.size t [⟨#[120]⟩, ⟨#[121]⟩] (xyR l) w' ∧ Below w.heap.size w w' := by
  obtain ⟨i0, hi, hz0, hz1, hz2⟩ := info_parts inR
  have ONE : Hid (∀ (n : Int) (W : World), Calls Tryz.prog 21 #[.int .i64 n] W fun e w' => e = .returned (.agg #[.int .i64 1, .int .i64 n, .int .i64 0, .string ⟨#[]⟩]) ∧ Below W.heap.size W w') := one_any
  have HL : Hid (∀ i (h : i < l.length), w.cell? ⟨bl, lo + i, none⟩ = some (.int .i64 l[i])) := hl
  obtain ⟨n, en⟩ : ∃ n : Nat, Hid (l.length = n) := ⟨_, rfl⟩
  rw [en.out] at ll ⊢
  clear hl
  go_enter Tryz.func14, Tryz.ntmps14
  go_upto_region 2 with fail
  obtain ⟨w7, e7⟩ : ∃ w7, Hid (((w.alloc (.cells #[.slice none 0 0, .slice none 0 0] 25)).alloc (.cells #[.string ⟨#[120]⟩, .string ⟨#[121]⟩] 9)) = w7) := ⟨_, rfl⟩
  have z7 : w7.heap.size = w.heap.size + 2 := by rw [← e7.out]; simp
  have K7 : Below w.heap.size w w7 := by rw [← e7.out]; go_grown
  have R7 : Hid (w7.heap[w.heap.size]? = some (.cells #[.slice none 0 0, .slice none 0 0] 25 (0, 0))) := by
    rw [← e7.out, heap_alloc_lt _ _ (by simp)]
    exact heap_alloc _ _
  have S7 : Hid (OwnS (w.heap.size + 1) (.slice (some ⟨w.heap.size + 1, 0, none⟩) 2 2) [⟨#[120]⟩, ⟨#[121]⟩] w7) := by
    rw [← e7.out]
    have h := World.ownsRow_lit (base := w.heap.size + 1) (e := 9) (size := 1) (w.alloc (.cells #[.slice none 0 0, .slice none 0 0] 25)) #[.string ⟨#[120]⟩, .string ⟨#[121]⟩] 2 (by simp) (by unfold maxLen; omega) rfl
    rw [show (w.alloc (.cells #[.slice none 0 0, .slice none 0 0] 25)).heap.size = w.heap.size + 1 by simp] at h
    exact h
  refine wp_world ?_
  intro W0 hW0
  have T0 : Hid (W0.heap[w7.heap.size]? = some (.cells #[.slice (some ⟨w.heap.size + 1, 0, none⟩) 2 2, .slice none 0 0] 25 (0, 0)) ∧ Below w7.heap.size w7 W0) := by
    rw [hW0, ← e7.out]
    exact ⟨heap_alloc _ _, (Below.refl _ _).alloc (Nat.le_refl _) _⟩
  clear hW0 e7
  have hbl7 : bl < w7.heap.size := by omega
  have ez : w.heap.size + 1 + 1 = w7.heap.size := by omega
  rw [ez]
  obtain ⟨pA, nA, cA, eA⟩ : ∃ pA nA cA, Hid (Value.slice (some ⟨w.heap.size + 1, 0, none⟩) 2 2 = .slice pA nA cA) := ⟨_, _, _, rfl⟩
  rw [eA.out] at S7 T0
  have HZ7 : Hid (w7.heap.size = w.heap.size + 2) := z7
  clear z7 ez
  go_wp2
  go_loopw [4] (fun v wr => ∃ (i : Nat) (L : List (List Val)), i ≤ n ∧ v = .int .i64 i ∧ L.length ≤ i ∧ Hid (xyR l = L ++ xyR (l.drop i)) ∧ Hid (∃ b zs, wr.heap[w7.heap.size]? = some (.cells #[.slice pA nA cA, b] 25 (0, 0)) ∧ wr.ownsRow w7.heap.size 26 1 b zs.length zs ∧ OwnRs w7.heap.size zs L wr ∧ Below w7.heap.size w7 wr)) (fun v _ => n + 1 - (intOf v).toNat)
  case atStart => exact ⟨0, [], Nat.zero_le _, rfl, Nat.le_refl _, (show xyR l = [] ++ xyR (l.drop 0) by simp), ⟨.slice none 0 0, [], T0.out.1, World.ownsRow_nil _ _ _ _, OwnRs.nil _ _, T0.out.2⟩⟩
  case round =>
    obtain ⟨i, L, hk, rfl, hLi, hr, hI⟩ := hrel
    obtain ⟨b, zs, hT, hob, hrs, hB⟩ := hI.out
    obtain ⟨pb, nb, cb, rfl⟩ := slice_of hob
    by_cases hlt : i + 1 < n
    · have ia : i < l.length := by have := en.out; omega
      have ib : i + 1 < l.length := by have := en.out; omega
      have l1 := (K7.cell (p := ⟨bl, lo + i, none⟩) hbl).trans (HL.out i ia)
      have l2 := (K7.cell (p := ⟨bl, lo + (i + 1), none⟩) hbl).trans (HL.out (i + 1) ib)
      have hstep : Hid (xyR l = (L ++ [[⟨1, l[i], 0, ⟨#[]⟩⟩, ⟨1, l[i + 1], 0, ⟨#[]⟩⟩]]) ++ xyR (l.drop (i + 2))) := by
        have h := hr.out
        rw [List.drop_eq_getElem_cons ia, List.drop_eq_getElem_cons ib] at h
        show _ = _
        rw [h]
        simp [xyR]
      have hzl : zs.length ≤ 1000 := by have := hrs.1; omega
      have hin : i < n := by omega
      have hps : (0 : Int) ≤ (i : Int) + 1 := by omega
      have hwr : IntKind.i64.wrap ((i : Int) + 1) = ((i + 1 : Nat) : Int) := by rw [IntKind.wrap_i64]; omega
      generalize l[i] = xa at l1 hstep
      generalize l[i + 1] = xb at l2 hstep
      have X0 : Hid (XS wr w7 zs bl (lo + i) (lo + (i + 1)) xa xb (.slice pA nA cA) (.slice pb nb cb) L) := ⟨hT, hob, hrs, hB, l1, l2, hbl7⟩
      clear hr hI hT hob hrs hB l1 l2
      go_upto_region 5 with fail
      refine wp_region_held_drew (S := fun W => W.cell? ⟨bl, lo + i, none⟩ = some (.int .i64 xa) ∧ W.cell? ⟨bl, lo + (i + 1), none⟩ = some (.int .i64 xb)) (by kernel_rfl) X0.out.held (fun hHeld => ?_)
      refine wpAnyH_take (i := 0) (oi := ({ dst := some 14, op := Op.fieldAddr 25 (Operand.tmp 3) 1, type := 0, pos := "law.go:16", after := #[], guard := none } : Oper)) (v := ?yv1) rfl (by kernel_rfl) (by kernel_rfl) (by kernel_rfl) (fun _ _ _ h => h) (Or.inl ⟨by rfl, ?yh1⟩) (by assumption) ?yr1
      case yh1 => (intro wq hSw; (try dsimp only at hSw); obtain ⟨sa, sb⟩ := hSw; go_simp; first | done | with_reducible rfl)
      try simp only [Act.put, List.setIfInBounds_toArray, List.set_cons_zero, List.set_cons_succ]
      refine wpAnyH_take (i := 2) (oi := ({ dst := some 16, op := Op.move (Operand.tmp 0), type := 64, pos := "law.go:16", after := #[], guard := none } : Oper)) (v := ?yv2) rfl (by kernel_rfl) (by kernel_rfl) (by kernel_rfl) (fun _ _ _ h => h) (Or.inl ⟨by rfl, ?yh2⟩) (by assumption) ?yr2
      case yh2 => (intro wq hSw; (try dsimp only at hSw); obtain ⟨sa, sb⟩ := hSw; go_simp; first | done | with_reducible rfl)
      try simp only [Act.put, List.setIfInBounds_toArray, List.set_cons_zero, List.set_cons_succ]
      refine wpAnyH_take (i := 3) (oi := ({ dst := some 17, op := Op.move (Operand.tmp 4), type := 3, pos := "law.go:16", after := #[], guard := none } : Oper)) (v := ?yv3) rfl (by kernel_rfl) (by kernel_rfl) (by kernel_rfl) (fun _ _ _ h => h) (Or.inl ⟨by rfl, ?yh3⟩) (by assumption) ?yr3
      case yh3 => (intro wq hSw; (try dsimp only at hSw); obtain ⟨sa, sb⟩ := hSw; go_simp; first | done | with_reducible rfl)
      try simp only [Act.put, List.setIfInBounds_toArray, List.set_cons_zero, List.set_cons_succ]
      refine wpAnyH_take (i := 4) (oi := ({ dst := some 18, op := Op.indexAddr 64 (Operand.tmp 16) (Operand.tmp 17), type := 0, pos := "law.go:16", after := #[{ on := 2, ground := Ground.data }, { on := 3, ground := Ground.data }], guard := none } : Oper)) (v := ?yv4) rfl (by kernel_rfl) (by kernel_rfl) (by kernel_rfl) (fun _ _ _ h => h) (Or.inl ⟨by rfl, ?yh4⟩) (by assumption) ?yr4
      case yh4 => (intro wq hSw; (try dsimp only at hSw); obtain ⟨sa, sb⟩ := hSw; go_simp; first | done | with_reducible rfl)
      try simp only [Act.put, List.setIfInBounds_toArray, List.set_cons_zero, List.set_cons_succ]
      refine wpAnyH_take (i := 5) (oi := ({ dst := some 19, op := Op.load 2 (Operand.tmp 18), type := 2, pos := "law.go:16", after := #[{ on := 4, ground := Ground.data }], guard := none } : Oper)) (v := ?yv5) rfl (by kernel_rfl) (by kernel_rfl) (by kernel_rfl) (fun _ _ _ h => h) (Or.inl ⟨by rfl, ?yh5⟩) (by assumption) ?yr5
      case yh5 => (intro wq hSw; (try dsimp only at hSw); obtain ⟨sa, sb⟩ := hSw; go_simp; first | done | with_reducible rfl)
      try simp only [Act.put, List.setIfInBounds_toArray, List.set_cons_zero, List.set_cons_succ]
      refine wpAnyH_take (i := 7) (oi := ({ dst := some 21, op := Op.move (Operand.tmp 0), type := 64, pos := "law.go:16", after := #[], guard := none } : Oper)) (v := ?yv6) rfl (by kernel_rfl) (by kernel_rfl) (by kernel_rfl) (fun _ _ _ h => h) (Or.inl ⟨by rfl, ?yh6⟩) (by assumption) ?yr6
      case yh6 => (intro wq hSw; (try dsimp only at hSw); obtain ⟨sa, sb⟩ := hSw; go_simp; first | done | with_reducible rfl)
      try simp only [Act.put, List.setIfInBounds_toArray, List.set_cons_zero, List.set_cons_succ]
      refine wpAnyH_take (i := 8) (oi := ({ dst := some 22, op := Op.move (Operand.tmp 4), type := 3, pos := "law.go:16", after := #[], guard := none } : Oper)) (v := ?yv7) rfl (by kernel_rfl) (by kernel_rfl) (by kernel_rfl) (fun _ _ _ h => h) (Or.inl ⟨by rfl, ?yh7⟩) (by assumption) ?yr7
      case yh7 => (intro wq hSw; (try dsimp only at hSw); obtain ⟨sa, sb⟩ := hSw; go_simp; first | done | with_reducible rfl)
      try simp only [Act.put, List.setIfInBounds_toArray, List.set_cons_zero, List.set_cons_succ]
      refine wpAnyH_take (i := 9) (oi := ({ dst := some 23, op := Op.binOp BinOp.add 3 (Operand.tmp 22) (Operand.const (Value.int IntKind.i64 1)) 3, type := 3, pos := "law.go:16", after := #[{ on := 8, ground := Ground.data }], guard := none } : Oper)) (v := ?yv8) rfl (by kernel_rfl) (by kernel_rfl) (by kernel_rfl) (fun _ _ _ h => h) (Or.inl ⟨by rfl, ?yh8⟩) (by assumption) ?yr8
      case yh8 => (intro wq hSw; (try dsimp only at hSw); obtain ⟨sa, sb⟩ := hSw; go_simp; first | done | with_reducible rfl)
      try simp only [Act.put, List.setIfInBounds_toArray, List.set_cons_zero, List.set_cons_succ]
      refine wpAnyH_take (i := 10) (oi := ({ dst := some 24, op := Op.indexAddr 64 (Operand.tmp 21) (Operand.tmp 23), type := 0, pos := "law.go:16", after := #[{ on := 7, ground := Ground.data }, { on := 9, ground := Ground.data }], guard := none } : Oper)) (v := ?yv9) rfl (by kernel_rfl) (by kernel_rfl) (by kernel_rfl) (fun _ _ _ h => h) (Or.inl ⟨by rfl, ?yh9⟩) (by assumption) ?yr9
      case yh9 => (intro wq hSw; (try dsimp only at hSw); obtain ⟨sa, sb⟩ := hSw; go_simp; first | done | with_reducible rfl)
      try simp only [Act.put, List.setIfInBounds_toArray, List.set_cons_zero, List.set_cons_succ]
      refine wpAnyH_take (i := 11) (oi := ({ dst := some 25, op := Op.load 2 (Operand.tmp 24), type := 2, pos := "law.go:16", after := #[{ on := 10, ground := Ground.data }], guard := none } : Oper)) (v := ?yv10) rfl (by kernel_rfl) (by kernel_rfl) (by kernel_rfl) (fun _ _ _ h => h) (Or.inl ⟨by rfl, ?yh10⟩) (by assumption) ?yr10
      case yh10 => (intro wq hSw; (try dsimp only at hSw); obtain ⟨sa, sb⟩ := hSw; go_simp; first | done | with_reducible rfl)
      try simp only [Act.put, List.setIfInBounds_toArray, List.set_cons_zero, List.set_cons_succ]
      refine wpAnyH_ready (rs := [1, 6]) (by kernel_rfl) (by simp) ?_
      refine AllReadyH.cons (o := ({ dst := some 15, op := Op.load 23 (Operand.tmp 14), type := 23, pos := "law.go:16", after := #[{ on := 0, ground := Ground.data }], guard := none } : Oper)) rfl (fun K hK => ?_) (AllReadyH.cons (o := ({ dst := some 20, op := Op.call { callee := Callee.value (Operand.func 21), args := #[Operand.tmp 19], argTypes := #[2] }, type := 45, pos := "law.go:16", after := #[{ on := 5, ground := Ground.data }], guard := none } : Oper)) rfl (fun K hK => ?_) AllReadyH.nil)
      · have tl := X0.out.t1
        go_simp
        clear tl
        refine hK.out _ _ X0.out.held (fun hHeld => ?_)
        clear hK K
        try simp only [Act.put, List.setIfInBounds_toArray, List.set_cons_zero, List.set_cons_succ]
        refine wpAnyH_ready (rs := [6]) (by kernel_rfl) (by simp) ?_
        refine AllReadyH.cons (o := ({ dst := some 20, op := Op.call { callee := Callee.value (Operand.func 21), args := #[Operand.tmp 19], argTypes := #[2] }, type := 45, pos := "law.go:16", after := #[{ on := 5, ground := Ground.data }], guard := none } : Oper)) rfl (fun K hK => ?_) AllReadyH.nil
        go_simp
        refine (ONE.out xa _).mono ?_
        rintro e y1 ⟨rfl, hb1⟩
        have hc1 : Below (wr).heap.size (wr) y1 := ⟨hb1.os, hb1.tape, hb1.output, hb1.size, hb1.block⟩
        have X1 : Hid (XS (y1) w7 zs bl (lo + i) (lo + (i + 1)) xa xb (.slice pA nA cA) (.slice pb nb cb) L) := X0.out.below hc1
        clear hb1 hc1
        dsimp only
        refine hK.out _ _ X1.out.held (fun hHeld => ?_)
        clear hK K
        try simp only [Act.put, List.setIfInBounds_toArray, List.set_cons_zero, List.set_cons_succ]
        refine wpAnyH_ready (rs := [12]) (by kernel_rfl) (by simp) ?_
        refine AllReadyH.cons (o := ({ dst := some 26, op := Op.call { callee := Callee.value (Operand.func 21), args := #[Operand.tmp 25], argTypes := #[2] }, type := 45, pos := "law.go:16", after := #[{ on := 11, ground := Ground.data }, { on := 6, ground := Ground.chain }], guard := none } : Oper)) rfl (fun K hK => ?_) AllReadyH.nil
        go_simp
        refine (ONE.out xb _).mono ?_
        rintro e y2 ⟨rfl, hb2⟩
        have hc2 : Below (y1).heap.size (y1) y2 := ⟨hb2.os, hb2.tape, hb2.output, hb2.size, hb2.block⟩
        have X2 : Hid (XS (y2) w7 zs bl (lo + i) (lo + (i + 1)) xa xb (.slice pA nA cA) (.slice pb nb cb) L) := X1.out.below hc2
        clear hb2 hc2
        dsimp only
        refine hK.out _ _ X2.out.held (fun hHeld => ?_)
        clear hK K
        try simp only [Act.put, List.setIfInBounds_toArray, List.set_cons_zero, List.set_cons_succ]
        refine wpAnyH_ready (rs := [13]) (by kernel_rfl) (by simp) ?_
        refine AllReadyH.cons (o := ({ dst := some 27, op := Op.buildSlice 26 2 #[(0, Operand.tmp 20), (1, Operand.tmp 26)], type := 26, pos := "law.go:16", after := #[{ on := 6, ground := Ground.data }, { on := 12, ground := Ground.data }], guard := none } : Oper)) rfl (fun K hK => ?_) AllReadyH.nil
        go_simp
        have X3 : Hid (XS ((y2).alloc (.cells #[.int .i64 1, .int .i64 xa, .int .i64 0, .string ⟨#[]⟩, .int .i64 1, .int .i64 xb, .int .i64 0, .string ⟨#[]⟩] 45)) w7 zs bl (lo + i) (lo + (i + 1)) xa xb (.slice pA nA cA) (.slice pb nb cb) L) := X2.out.below ((Below.refl _ _).alloc (Nat.le_refl _) _)
        refine hK.out _ _ X3.out.held (fun hHeld => ?_)
        clear hK K
        try simp only [Act.put, List.setIfInBounds_toArray, List.set_cons_zero, List.set_cons_succ]
        refine wpAnyH_ready (rs := [14]) (by kernel_rfl) (by simp) ?_
        refine AllReadyH.cons (o := ({ dst := some 28, op := Op.buildSlice 23 1 #[(0, Operand.tmp 27)], type := 23, pos := "law.go:16", after := #[{ on := 13, ground := Ground.data }], guard := none } : Oper)) rfl (fun K hK => ?_) AllReadyH.nil
        go_simp
        have X4 : Hid (XS (((y2).alloc (.cells #[.int .i64 1, .int .i64 xa, .int .i64 0, .string ⟨#[]⟩, .int .i64 1, .int .i64 xb, .int .i64 0, .string ⟨#[]⟩] 45)).alloc (.cells #[.slice (some ⟨y2.heap.size, 0, none⟩) 2 2] 26)) w7 zs bl (lo + i) (lo + (i + 1)) xa xb (.slice pA nA cA) (.slice pb nb cb) L) := X3.out.below ((Below.refl _ _).alloc (Nat.le_refl _) _)
        refine hK.out _ _ X4.out.held (fun hHeld => ?_)
        clear hK K
        try simp only [Act.put, List.setIfInBounds_toArray, List.set_cons_zero, List.set_cons_succ]
        refine wpAnyH_ready (rs := [15]) (by kernel_rfl) (by simp) ?_
        refine AllReadyH.cons (o := ({ dst := some 29, op := Op.call { callee := Callee.builtin Builtin.append, args := #[Operand.tmp 15, Operand.tmp 28], argTypes := #[23, 23] }, type := 23, pos := "law.go:16", after := #[{ on := 1, ground := Ground.data }, { on := 14, ground := Ground.data }, { on := 12, ground := Ground.chain }], guard := none } : Oper)) rfl (fun K hK => ?_) AllReadyH.nil
        have HV : OwnV y2.heap.size (.slice (some ⟨y2.heap.size, 0, none⟩) 2 2) [⟨1, xa, 0, ⟨#[]⟩⟩, ⟨1, xb, 0, ⟨#[]⟩⟩] ((y2).alloc (.cells #[.int .i64 1, .int .i64 xa, .int .i64 0, .string ⟨#[]⟩, .int .i64 1, .int .i64 xb, .int .i64 0, .string ⟨#[]⟩] 45)) := World.ownsRow_lit (base := y2.heap.size) (e := 45) (size := 4) y2 #[.int .i64 1, .int .i64 xa, .int .i64 0, .string ⟨#[]⟩, .int .i64 1, .int .i64 xb, .int .i64 0, .string ⟨#[]⟩] 2 (Nat.le_refl _) (by unfold maxLen; omega) rfl
        have XO := X3.out.ob
        have hsz : w7.heap.size ≤ ((y2).alloc (.cells #[.int .i64 1, .int .i64 xa, .int .i64 0, .string ⟨#[]⟩, .int .i64 1, .int .i64 xb, .int .i64 0, .string ⟨#[]⟩] 45)).heap.size := Nat.le_of_lt X3.out.lt
        refine step_appendR rfl (.tmp 15) (.tmp 28) 23 rfl w7.heap.size 26 i0 (.slice none 0 0) 1 24 Tryz.underlying23 hi hz0 hz1 hz2 rfl (by decide) (.slice pb nb cb) zs.length zs (by simp [Act.eval]) (World.ownsRow.alloc XO _) ⟨((y2).alloc (.cells #[.int .i64 1, .int .i64 xa, .int .i64 0, .string ⟨#[]⟩, .int .i64 1, .int .i64 xb, .int .i64 0, .string ⟨#[]⟩] 45)).heap.size, 0, none⟩ 1 1 [.slice (some ⟨y2.heap.size, 0, none⟩) 2 2] (by simp [Act.eval]) rfl ?c1A ?c2A (by unfold maxLen; omega) (by omega) (by simp at hsz ⊢; omega) (fun v' w2 h2 h3 => ?_)
        case c1A => (intro j u hj; rw [Addr.add_lit]; (rcases j with _ | j) <;> simp at hj; subst hj; simp (maxDischargeDepth := 12) [go_sem])
        case c2A => (intro u hu; simp at hu; subst hu; rfl)
        obtain ⟨pv, nv, cv, T3, t3, f3, W3, rfl⟩ := arr_step2 _ _ _ pb nb cb (.slice pA nA cA) zs v' _ L y2 w7 ((y2).alloc (.cells #[.int .i64 1, .int .i64 xa, .int .i64 0, .string ⟨#[]⟩, .int .i64 1, .int .i64 xb, .int .i64 0, .string ⟨#[]⟩] 45)) w2 X2.out.lt X3.out.tt XO X2.out.rs X2.out.hb ((Below.refl _ _).alloc (Nat.le_refl _) _) HV h2 h3
        have hb2 : Below w7.heap.size w7 w2 := Below.grown (X3.out.hb.alloc X3.out.hb.size _) h3 (by simp at hsz ⊢; omega) (fun q hq => (World.ownsRow.lt XO q hq).1)
        have hh2 := held_of hb2 X0.out.l1 X0.out.l2 X0.out.bb
        have hh3 : Hid (_ ∧ _) := held_of W3.out.choose_spec.choose_spec.2.2.2 X0.out.l1 X0.out.l2 X0.out.bb
        clear h2 h3 T3 XO HV hsz hb2
        refine hK.out _ _ hh2 (fun hHeld => ?_)
        clear hK K hh2
        try simp only [Act.put, List.setIfInBounds_toArray, List.set_cons_zero, List.set_cons_succ]
        refine wpAnyH_take (i := 16) (oi := ({ dst := some 30, op := Op.fieldAddr 25 (Operand.tmp 3) 1, type := 0, pos := "law.go:16", after := #[{ on := 0, ground := Ground.phase }, { on := 1, ground := Ground.phase }, { on := 2, ground := Ground.phase }, { on := 3, ground := Ground.phase }, { on := 4, ground := Ground.phase }, { on := 5, ground := Ground.phase }, { on := 6, ground := Ground.phase }, { on := 7, ground := Ground.phase }, { on := 8, ground := Ground.phase }, { on := 9, ground := Ground.phase }, { on := 10, ground := Ground.phase }, { on := 11, ground := Ground.phase }, { on := 12, ground := Ground.phase }, { on := 13, ground := Ground.phase }, { on := 14, ground := Ground.phase }, { on := 15, ground := Ground.phase }], guard := none } : Oper)) (v := ?yv11) rfl (by kernel_rfl) (by kernel_rfl) (by kernel_rfl) (fun _ _ _ h => h) (Or.inl ⟨by rfl, ?yh11⟩) (by assumption) ?yr11
        case yh11 => (intro wq hSw; (try dsimp only at hSw); obtain ⟨sa, sb⟩ := hSw; go_simp; first | done | with_reducible rfl)
        try simp only [Act.put, List.setIfInBounds_toArray, List.set_cons_zero, List.set_cons_succ]
        refine wpAnyH_ready (rs := [17]) (by kernel_rfl) (by simp) ?_
        refine AllReadyH.cons (o := ({ dst := none, op := Op.store 23 (Operand.tmp 30) (Operand.tmp 29), type := 0, pos := "law.go:16", after := #[{ on := 16, ground := Ground.data }, { on := 15, ground := Ground.data }, { on := 15, ground := Ground.chain }, { on := 0, ground := Ground.phase }, { on := 1, ground := Ground.phase }, { on := 2, ground := Ground.phase }, { on := 3, ground := Ground.phase }, { on := 4, ground := Ground.phase }, { on := 5, ground := Ground.phase }, { on := 6, ground := Ground.phase }, { on := 7, ground := Ground.phase }, { on := 8, ground := Ground.phase }, { on := 9, ground := Ground.phase }, { on := 10, ground := Ground.phase }, { on := 11, ground := Ground.phase }, { on := 12, ground := Ground.phase }, { on := 13, ground := Ground.phase }, { on := 14, ground := Ground.phase }, { on := 15, ground := Ground.phase }], guard := none } : Oper)) rfl (fun K hK => ?_) AllReadyH.nil
        go_simp
        refine hK.out _ _ hh3.out (fun hHeld => ?_)
        clear hK K
        try simp only [Act.put, List.setIfInBounds_toArray, List.set_cons_zero, List.set_cons_succ]
        refine wpAnyH_done (by kernel_rfl) ?_ _
        clear t3 f3 hh3
        (try go_wp2)
        exact ⟨⟨i + 2, L ++ [[⟨1, xa, 0, ⟨#[]⟩⟩, ⟨1, xb, 0, ⟨#[]⟩⟩]], by omega, by go_num, by simp; omega, hstep, W3⟩, by simp [intOf]; omega⟩
      · go_simp
        refine (ONE.out xa _).mono ?_
        rintro e y1 ⟨rfl, hb1⟩
        have hc1 : Below (wr).heap.size (wr) y1 := ⟨hb1.os, hb1.tape, hb1.output, hb1.size, hb1.block⟩
        have X1 : Hid (XS (y1) w7 zs bl (lo + i) (lo + (i + 1)) xa xb (.slice pA nA cA) (.slice pb nb cb) L) := X0.out.below hc1
        clear hb1 hc1
        dsimp only
        refine hK.out _ _ X1.out.held (fun hHeld => ?_)
        clear hK K
        try simp only [Act.put, List.setIfInBounds_toArray, List.set_cons_zero, List.set_cons_succ]
        refine wpAnyH_ready (rs := [1, 12]) (by kernel_rfl) (by simp) ?_
        refine AllReadyH.cons (o := ({ dst := some 15, op := Op.load 23 (Operand.tmp 14), type := 23, pos := "law.go:16", after := #[{ on := 0, ground := Ground.data }], guard := none } : Oper)) rfl (fun K hK => ?_) (AllReadyH.cons (o := ({ dst := some 26, op := Op.call { callee := Callee.value (Operand.func 21), args := #[Operand.tmp 25], argTypes := #[2] }, type := 45, pos := "law.go:16", after := #[{ on := 11, ground := Ground.data }, { on := 6, ground := Ground.chain }], guard := none } : Oper)) rfl (fun K hK => ?_) AllReadyH.nil)
        · have tl := X1.out.t1
          go_simp
          clear tl
          refine hK.out _ _ X1.out.held (fun hHeld => ?_)
          clear hK K
          try simp only [Act.put, List.setIfInBounds_toArray, List.set_cons_zero, List.set_cons_succ]
          refine wpAnyH_ready (rs := [12]) (by kernel_rfl) (by simp) ?_
          refine AllReadyH.cons (o := ({ dst := some 26, op := Op.call { callee := Callee.value (Operand.func 21), args := #[Operand.tmp 25], argTypes := #[2] }, type := 45, pos := "law.go:16", after := #[{ on := 11, ground := Ground.data }, { on := 6, ground := Ground.chain }], guard := none } : Oper)) rfl (fun K hK => ?_) AllReadyH.nil
          go_simp
          refine (ONE.out xb _).mono ?_
          rintro e y2 ⟨rfl, hb2⟩
          have hc2 : Below (y1).heap.size (y1) y2 := ⟨hb2.os, hb2.tape, hb2.output, hb2.size, hb2.block⟩
          have X2 : Hid (XS (y2) w7 zs bl (lo + i) (lo + (i + 1)) xa xb (.slice pA nA cA) (.slice pb nb cb) L) := X1.out.below hc2
          clear hb2 hc2
          dsimp only
          refine hK.out _ _ X2.out.held (fun hHeld => ?_)
          clear hK K
          try simp only [Act.put, List.setIfInBounds_toArray, List.set_cons_zero, List.set_cons_succ]
          refine wpAnyH_ready (rs := [13]) (by kernel_rfl) (by simp) ?_
          refine AllReadyH.cons (o := ({ dst := some 27, op := Op.buildSlice 26 2 #[(0, Operand.tmp 20), (1, Operand.tmp 26)], type := 26, pos := "law.go:16", after := #[{ on := 6, ground := Ground.data }, { on := 12, ground := Ground.data }], guard := none } : Oper)) rfl (fun K hK => ?_) AllReadyH.nil
          go_simp
          have X3 : Hid (XS ((y2).alloc (.cells #[.int .i64 1, .int .i64 xa, .int .i64 0, .string ⟨#[]⟩, .int .i64 1, .int .i64 xb, .int .i64 0, .string ⟨#[]⟩] 45)) w7 zs bl (lo + i) (lo + (i + 1)) xa xb (.slice pA nA cA) (.slice pb nb cb) L) := X2.out.below ((Below.refl _ _).alloc (Nat.le_refl _) _)
          refine hK.out _ _ X3.out.held (fun hHeld => ?_)
          clear hK K
          try simp only [Act.put, List.setIfInBounds_toArray, List.set_cons_zero, List.set_cons_succ]
          refine wpAnyH_ready (rs := [14]) (by kernel_rfl) (by simp) ?_
          refine AllReadyH.cons (o := ({ dst := some 28, op := Op.buildSlice 23 1 #[(0, Operand.tmp 27)], type := 23, pos := "law.go:16", after := #[{ on := 13, ground := Ground.data }], guard := none } : Oper)) rfl (fun K hK => ?_) AllReadyH.nil
          go_simp
          have X4 : Hid (XS (((y2).alloc (.cells #[.int .i64 1, .int .i64 xa, .int .i64 0, .string ⟨#[]⟩, .int .i64 1, .int .i64 xb, .int .i64 0, .string ⟨#[]⟩] 45)).alloc (.cells #[.slice (some ⟨y2.heap.size, 0, none⟩) 2 2] 26)) w7 zs bl (lo + i) (lo + (i + 1)) xa xb (.slice pA nA cA) (.slice pb nb cb) L) := X3.out.below ((Below.refl _ _).alloc (Nat.le_refl _) _)
          refine hK.out _ _ X4.out.held (fun hHeld => ?_)
          clear hK K
          try simp only [Act.put, List.setIfInBounds_toArray, List.set_cons_zero, List.set_cons_succ]
          refine wpAnyH_ready (rs := [15]) (by kernel_rfl) (by simp) ?_
          refine AllReadyH.cons (o := ({ dst := some 29, op := Op.call { callee := Callee.builtin Builtin.append, args := #[Operand.tmp 15, Operand.tmp 28], argTypes := #[23, 23] }, type := 23, pos := "law.go:16", after := #[{ on := 1, ground := Ground.data }, { on := 14, ground := Ground.data }, { on := 12, ground := Ground.chain }], guard := none } : Oper)) rfl (fun K hK => ?_) AllReadyH.nil
          have HV : OwnV y2.heap.size (.slice (some ⟨y2.heap.size, 0, none⟩) 2 2) [⟨1, xa, 0, ⟨#[]⟩⟩, ⟨1, xb, 0, ⟨#[]⟩⟩] ((y2).alloc (.cells #[.int .i64 1, .int .i64 xa, .int .i64 0, .string ⟨#[]⟩, .int .i64 1, .int .i64 xb, .int .i64 0, .string ⟨#[]⟩] 45)) := World.ownsRow_lit (base := y2.heap.size) (e := 45) (size := 4) y2 #[.int .i64 1, .int .i64 xa, .int .i64 0, .string ⟨#[]⟩, .int .i64 1, .int .i64 xb, .int .i64 0, .string ⟨#[]⟩] 2 (Nat.le_refl _) (by unfold maxLen; omega) rfl
          have XO := X3.out.ob
          have hsz : w7.heap.size ≤ ((y2).alloc (.cells #[.int .i64 1, .int .i64 xa, .int .i64 0, .string ⟨#[]⟩, .int .i64 1, .int .i64 xb, .int .i64 0, .string ⟨#[]⟩] 45)).heap.size := Nat.le_of_lt X3.out.lt
          refine step_appendR rfl (.tmp 15) (.tmp 28) 23 rfl w7.heap.size 26 i0 (.slice none 0 0) 1 24 Tryz.underlying23 hi hz0 hz1 hz2 rfl (by decide) (.slice pb nb cb) zs.length zs (by simp [Act.eval]) (World.ownsRow.alloc XO _) ⟨((y2).alloc (.cells #[.int .i64 1, .int .i64 xa, .int .i64 0, .string ⟨#[]⟩, .int .i64 1, .int .i64 xb, .int .i64 0, .string ⟨#[]⟩] 45)).heap.size, 0, none⟩ 1 1 [.slice (some ⟨y2.heap.size, 0, none⟩) 2 2] (by simp [Act.eval]) rfl ?c1A ?c2A (by unfold maxLen; omega) (by omega) (by simp at hsz ⊢; omega) (fun v' w2 h2 h3 => ?_)
          case c1A => (intro j u hj; rw [Addr.add_lit]; (rcases j with _ | j) <;> simp at hj; subst hj; simp (maxDischargeDepth := 12) [go_sem])
          case c2A => (intro u hu; simp at hu; subst hu; rfl)
          obtain ⟨pv, nv, cv, T3, t3, f3, W3, rfl⟩ := arr_step2 _ _ _ pb nb cb (.slice pA nA cA) zs v' _ L y2 w7 ((y2).alloc (.cells #[.int .i64 1, .int .i64 xa, .int .i64 0, .string ⟨#[]⟩, .int .i64 1, .int .i64 xb, .int .i64 0, .string ⟨#[]⟩] 45)) w2 X2.out.lt X3.out.tt XO X2.out.rs X2.out.hb ((Below.refl _ _).alloc (Nat.le_refl _) _) HV h2 h3
          have hb2 : Below w7.heap.size w7 w2 := Below.grown (X3.out.hb.alloc X3.out.hb.size _) h3 (by simp at hsz ⊢; omega) (fun q hq => (World.ownsRow.lt XO q hq).1)
          have hh2 := held_of hb2 X0.out.l1 X0.out.l2 X0.out.bb
          have hh3 : Hid (_ ∧ _) := held_of W3.out.choose_spec.choose_spec.2.2.2 X0.out.l1 X0.out.l2 X0.out.bb
          clear h2 h3 T3 XO HV hsz hb2
          refine hK.out _ _ hh2 (fun hHeld => ?_)
          clear hK K hh2
          try simp only [Act.put, List.setIfInBounds_toArray, List.set_cons_zero, List.set_cons_succ]
          refine wpAnyH_take (i := 16) (oi := ({ dst := some 30, op := Op.fieldAddr 25 (Operand.tmp 3) 1, type := 0, pos := "law.go:16", after := #[{ on := 0, ground := Ground.phase }, { on := 1, ground := Ground.phase }, { on := 2, ground := Ground.phase }, { on := 3, ground := Ground.phase }, { on := 4, ground := Ground.phase }, { on := 5, ground := Ground.phase }, { on := 6, ground := Ground.phase }, { on := 7, ground := Ground.phase }, { on := 8, ground := Ground.phase }, { on := 9, ground := Ground.phase }, { on := 10, ground := Ground.phase }, { on := 11, ground := Ground.phase }, { on := 12, ground := Ground.phase }, { on := 13, ground := Ground.phase }, { on := 14, ground := Ground.phase }, { on := 15, ground := Ground.phase }], guard := none } : Oper)) (v := ?yv12) rfl (by kernel_rfl) (by kernel_rfl) (by kernel_rfl) (fun _ _ _ h => h) (Or.inl ⟨by rfl, ?yh12⟩) (by assumption) ?yr12
          case yh12 => (intro wq hSw; (try dsimp only at hSw); obtain ⟨sa, sb⟩ := hSw; go_simp; first | done | with_reducible rfl)
          try simp only [Act.put, List.setIfInBounds_toArray, List.set_cons_zero, List.set_cons_succ]
          refine wpAnyH_ready (rs := [17]) (by kernel_rfl) (by simp) ?_
          refine AllReadyH.cons (o := ({ dst := none, op := Op.store 23 (Operand.tmp 30) (Operand.tmp 29), type := 0, pos := "law.go:16", after := #[{ on := 16, ground := Ground.data }, { on := 15, ground := Ground.data }, { on := 15, ground := Ground.chain }, { on := 0, ground := Ground.phase }, { on := 1, ground := Ground.phase }, { on := 2, ground := Ground.phase }, { on := 3, ground := Ground.phase }, { on := 4, ground := Ground.phase }, { on := 5, ground := Ground.phase }, { on := 6, ground := Ground.phase }, { on := 7, ground := Ground.phase }, { on := 8, ground := Ground.phase }, { on := 9, ground := Ground.phase }, { on := 10, ground := Ground.phase }, { on := 11, ground := Ground.phase }, { on := 12, ground := Ground.phase }, { on := 13, ground := Ground.phase }, { on := 14, ground := Ground.phase }, { on := 15, ground := Ground.phase }], guard := none } : Oper)) rfl (fun K hK => ?_) AllReadyH.nil
          go_simp
          refine hK.out _ _ hh3.out (fun hHeld => ?_)
          clear hK K
          try simp only [Act.put, List.setIfInBounds_toArray, List.set_cons_zero, List.set_cons_succ]
          refine wpAnyH_done (by kernel_rfl) ?_ _
          clear t3 f3 hh3
          (try go_wp2)
          exact ⟨⟨i + 2, L ++ [[⟨1, xa, 0, ⟨#[]⟩⟩, ⟨1, xb, 0, ⟨#[]⟩⟩]], by omega, by go_num, by simp; omega, hstep, W3⟩, by simp [intOf]; omega⟩
        · go_simp
          refine (ONE.out xb _).mono ?_
          rintro e y2 ⟨rfl, hb2⟩
          have hc2 : Below (y1).heap.size (y1) y2 := ⟨hb2.os, hb2.tape, hb2.output, hb2.size, hb2.block⟩
          have X2 : Hid (XS (y2) w7 zs bl (lo + i) (lo + (i + 1)) xa xb (.slice pA nA cA) (.slice pb nb cb) L) := X1.out.below hc2
          clear hb2 hc2
          dsimp only
          refine hK.out _ _ X2.out.held (fun hHeld => ?_)
          clear hK K
          try simp only [Act.put, List.setIfInBounds_toArray, List.set_cons_zero, List.set_cons_succ]
          refine wpAnyH_ready (rs := [1, 13]) (by kernel_rfl) (by simp) ?_
          refine AllReadyH.cons (o := ({ dst := some 15, op := Op.load 23 (Operand.tmp 14), type := 23, pos := "law.go:16", after := #[{ on := 0, ground := Ground.data }], guard := none } : Oper)) rfl (fun K hK => ?_) (AllReadyH.cons (o := ({ dst := some 27, op := Op.buildSlice 26 2 #[(0, Operand.tmp 20), (1, Operand.tmp 26)], type := 26, pos := "law.go:16", after := #[{ on := 6, ground := Ground.data }, { on := 12, ground := Ground.data }], guard := none } : Oper)) rfl (fun K hK => ?_) AllReadyH.nil)
          · have tl := X2.out.t1
            go_simp
            clear tl
            refine hK.out _ _ X2.out.held (fun hHeld => ?_)
            clear hK K
            try simp only [Act.put, List.setIfInBounds_toArray, List.set_cons_zero, List.set_cons_succ]
            refine wpAnyH_ready (rs := [13]) (by kernel_rfl) (by simp) ?_
            refine AllReadyH.cons (o := ({ dst := some 27, op := Op.buildSlice 26 2 #[(0, Operand.tmp 20), (1, Operand.tmp 26)], type := 26, pos := "law.go:16", after := #[{ on := 6, ground := Ground.data }, { on := 12, ground := Ground.data }], guard := none } : Oper)) rfl (fun K hK => ?_) AllReadyH.nil
            go_simp
            have X3 : Hid (XS ((y2).alloc (.cells #[.int .i64 1, .int .i64 xa, .int .i64 0, .string ⟨#[]⟩, .int .i64 1, .int .i64 xb, .int .i64 0, .string ⟨#[]⟩] 45)) w7 zs bl (lo + i) (lo + (i + 1)) xa xb (.slice pA nA cA) (.slice pb nb cb) L) := X2.out.below ((Below.refl _ _).alloc (Nat.le_refl _) _)
            refine hK.out _ _ X3.out.held (fun hHeld => ?_)
            clear hK K
            try simp only [Act.put, List.setIfInBounds_toArray, List.set_cons_zero, List.set_cons_succ]
            refine wpAnyH_ready (rs := [14]) (by kernel_rfl) (by simp) ?_
            refine AllReadyH.cons (o := ({ dst := some 28, op := Op.buildSlice 23 1 #[(0, Operand.tmp 27)], type := 23, pos := "law.go:16", after := #[{ on := 13, ground := Ground.data }], guard := none } : Oper)) rfl (fun K hK => ?_) AllReadyH.nil
            go_simp
            have X4 : Hid (XS (((y2).alloc (.cells #[.int .i64 1, .int .i64 xa, .int .i64 0, .string ⟨#[]⟩, .int .i64 1, .int .i64 xb, .int .i64 0, .string ⟨#[]⟩] 45)).alloc (.cells #[.slice (some ⟨y2.heap.size, 0, none⟩) 2 2] 26)) w7 zs bl (lo + i) (lo + (i + 1)) xa xb (.slice pA nA cA) (.slice pb nb cb) L) := X3.out.below ((Below.refl _ _).alloc (Nat.le_refl _) _)
            refine hK.out _ _ X4.out.held (fun hHeld => ?_)
            clear hK K
            try simp only [Act.put, List.setIfInBounds_toArray, List.set_cons_zero, List.set_cons_succ]
            refine wpAnyH_ready (rs := [15]) (by kernel_rfl) (by simp) ?_
            refine AllReadyH.cons (o := ({ dst := some 29, op := Op.call { callee := Callee.builtin Builtin.append, args := #[Operand.tmp 15, Operand.tmp 28], argTypes := #[23, 23] }, type := 23, pos := "law.go:16", after := #[{ on := 1, ground := Ground.data }, { on := 14, ground := Ground.data }, { on := 12, ground := Ground.chain }], guard := none } : Oper)) rfl (fun K hK => ?_) AllReadyH.nil
            have HV : OwnV y2.heap.size (.slice (some ⟨y2.heap.size, 0, none⟩) 2 2) [⟨1, xa, 0, ⟨#[]⟩⟩, ⟨1, xb, 0, ⟨#[]⟩⟩] ((y2).alloc (.cells #[.int .i64 1, .int .i64 xa, .int .i64 0, .string ⟨#[]⟩, .int .i64 1, .int .i64 xb, .int .i64 0, .string ⟨#[]⟩] 45)) := World.ownsRow_lit (base := y2.heap.size) (e := 45) (size := 4) y2 #[.int .i64 1, .int .i64 xa, .int .i64 0, .string ⟨#[]⟩, .int .i64 1, .int .i64 xb, .int .i64 0, .string ⟨#[]⟩] 2 (Nat.le_refl _) (by unfold maxLen; omega) rfl
            have XO := X3.out.ob
            have hsz : w7.heap.size ≤ ((y2).alloc (.cells #[.int .i64 1, .int .i64 xa, .int .i64 0, .string ⟨#[]⟩, .int .i64 1, .int .i64 xb, .int .i64 0, .string ⟨#[]⟩] 45)).heap.size := Nat.le_of_lt X3.out.lt
            refine step_appendR rfl (.tmp 15) (.tmp 28) 23 rfl w7.heap.size 26 i0 (.slice none 0 0) 1 24 Tryz.underlying23 hi hz0 hz1 hz2 rfl (by decide) (.slice pb nb cb) zs.length zs (by simp [Act.eval]) (World.ownsRow.alloc XO _) ⟨((y2).alloc (.cells #[.int .i64 1, .int .i64 xa, .int .i64 0, .string ⟨#[]⟩, .int .i64 1, .int .i64 xb, .int .i64 0, .string ⟨#[]⟩] 45)).heap.size, 0, none⟩ 1 1 [.slice (some ⟨y2.heap.size, 0, none⟩) 2 2] (by simp [Act.eval]) rfl ?c1A ?c2A (by unfold maxLen; omega) (by omega) (by simp at hsz ⊢; omega) (fun v' w2 h2 h3 => ?_)
            case c1A => (intro j u hj; rw [Addr.add_lit]; (rcases j with _ | j) <;> simp at hj; subst hj; simp (maxDischargeDepth := 12) [go_sem])
            case c2A => (intro u hu; simp at hu; subst hu; rfl)
            obtain ⟨pv, nv, cv, T3, t3, f3, W3, rfl⟩ := arr_step2 _ _ _ pb nb cb (.slice pA nA cA) zs v' _ L y2 w7 ((y2).alloc (.cells #[.int .i64 1, .int .i64 xa, .int .i64 0, .string ⟨#[]⟩, .int .i64 1, .int .i64 xb, .int .i64 0, .string ⟨#[]⟩] 45)) w2 X2.out.lt X3.out.tt XO X2.out.rs X2.out.hb ((Below.refl _ _).alloc (Nat.le_refl _) _) HV h2 h3
            have hb2 : Below w7.heap.size w7 w2 := Below.grown (X3.out.hb.alloc X3.out.hb.size _) h3 (by simp at hsz ⊢; omega) (fun q hq => (World.ownsRow.lt XO q hq).1)
            have hh2 := held_of hb2 X0.out.l1 X0.out.l2 X0.out.bb
            have hh3 : Hid (_ ∧ _) := held_of W3.out.choose_spec.choose_spec.2.2.2 X0.out.l1 X0.out.l2 X0.out.bb
            clear h2 h3 T3 XO HV hsz hb2
            refine hK.out _ _ hh2 (fun hHeld => ?_)
            clear hK K hh2
            try simp only [Act.put, List.setIfInBounds_toArray, List.set_cons_zero, List.set_cons_succ]
            refine wpAnyH_take (i := 16) (oi := ({ dst := some 30, op := Op.fieldAddr 25 (Operand.tmp 3) 1, type := 0, pos := "law.go:16", after := #[{ on := 0, ground := Ground.phase }, { on := 1, ground := Ground.phase }, { on := 2, ground := Ground.phase }, { on := 3, ground := Ground.phase }, { on := 4, ground := Ground.phase }, { on := 5, ground := Ground.phase }, { on := 6, ground := Ground.phase }, { on := 7, ground := Ground.phase }, { on := 8, ground := Ground.phase }, { on := 9, ground := Ground.phase }, { on := 10, ground := Ground.phase }, { on := 11, ground := Ground.phase }, { on := 12, ground := Ground.phase }, { on := 13, ground := Ground.phase }, { on := 14, ground := Ground.phase }, { on := 15, ground := Ground.phase }], guard := none } : Oper)) (v := ?yv13) rfl (by kernel_rfl) (by kernel_rfl) (by kernel_rfl) (fun _ _ _ h => h) (Or.inl ⟨by rfl, ?yh13⟩) (by assumption) ?yr13
            case yh13 => (intro wq hSw; (try dsimp only at hSw); obtain ⟨sa, sb⟩ := hSw; go_simp; first | done | with_reducible rfl)
            try simp only [Act.put, List.setIfInBounds_toArray, List.set_cons_zero, List.set_cons_succ]
            refine wpAnyH_ready (rs := [17]) (by kernel_rfl) (by simp) ?_
            refine AllReadyH.cons (o := ({ dst := none, op := Op.store 23 (Operand.tmp 30) (Operand.tmp 29), type := 0, pos := "law.go:16", after := #[{ on := 16, ground := Ground.data }, { on := 15, ground := Ground.data }, { on := 15, ground := Ground.chain }, { on := 0, ground := Ground.phase }, { on := 1, ground := Ground.phase }, { on := 2, ground := Ground.phase }, { on := 3, ground := Ground.phase }, { on := 4, ground := Ground.phase }, { on := 5, ground := Ground.phase }, { on := 6, ground := Ground.phase }, { on := 7, ground := Ground.phase }, { on := 8, ground := Ground.phase }, { on := 9, ground := Ground.phase }, { on := 10, ground := Ground.phase }, { on := 11, ground := Ground.phase }, { on := 12, ground := Ground.phase }, { on := 13, ground := Ground.phase }, { on := 14, ground := Ground.phase }, { on := 15, ground := Ground.phase }], guard := none } : Oper)) rfl (fun K hK => ?_) AllReadyH.nil
            go_simp
            refine hK.out _ _ hh3.out (fun hHeld => ?_)
            clear hK K
            try simp only [Act.put, List.setIfInBounds_toArray, List.set_cons_zero, List.set_cons_succ]
            refine wpAnyH_done (by kernel_rfl) ?_ _
            clear t3 f3 hh3
            (try go_wp2)
            exact ⟨⟨i + 2, L ++ [[⟨1, xa, 0, ⟨#[]⟩⟩, ⟨1, xb, 0, ⟨#[]⟩⟩]], by omega, by go_num, by simp; omega, hstep, W3⟩, by simp [intOf]; omega⟩
          · go_simp
            have X3 : Hid (XS ((y2).alloc (.cells #[.int .i64 1, .int .i64 xa, .int .i64 0, .string ⟨#[]⟩, .int .i64 1, .int .i64 xb, .int .i64 0, .string ⟨#[]⟩] 45)) w7 zs bl (lo + i) (lo + (i + 1)) xa xb (.slice pA nA cA) (.slice pb nb cb) L) := X2.out.below ((Below.refl _ _).alloc (Nat.le_refl _) _)
            refine hK.out _ _ X3.out.held (fun hHeld => ?_)
            clear hK K
            try simp only [Act.put, List.setIfInBounds_toArray, List.set_cons_zero, List.set_cons_succ]
            refine wpAnyH_ready (rs := [1, 14]) (by kernel_rfl) (by simp) ?_
            refine AllReadyH.cons (o := ({ dst := some 15, op := Op.load 23 (Operand.tmp 14), type := 23, pos := "law.go:16", after := #[{ on := 0, ground := Ground.data }], guard := none } : Oper)) rfl (fun K hK => ?_) (AllReadyH.cons (o := ({ dst := some 28, op := Op.buildSlice 23 1 #[(0, Operand.tmp 27)], type := 23, pos := "law.go:16", after := #[{ on := 13, ground := Ground.data }], guard := none } : Oper)) rfl (fun K hK => ?_) AllReadyH.nil)
            · have tl := X3.out.t1
              go_simp
              clear tl
              refine hK.out _ _ X3.out.held (fun hHeld => ?_)
              clear hK K
              try simp only [Act.put, List.setIfInBounds_toArray, List.set_cons_zero, List.set_cons_succ]
              refine wpAnyH_ready (rs := [14]) (by kernel_rfl) (by simp) ?_
              refine AllReadyH.cons (o := ({ dst := some 28, op := Op.buildSlice 23 1 #[(0, Operand.tmp 27)], type := 23, pos := "law.go:16", after := #[{ on := 13, ground := Ground.data }], guard := none } : Oper)) rfl (fun K hK => ?_) AllReadyH.nil
              go_simp
              have X4 : Hid (XS (((y2).alloc (.cells #[.int .i64 1, .int .i64 xa, .int .i64 0, .string ⟨#[]⟩, .int .i64 1, .int .i64 xb, .int .i64 0, .string ⟨#[]⟩] 45)).alloc (.cells #[.slice (some ⟨y2.heap.size, 0, none⟩) 2 2] 26)) w7 zs bl (lo + i) (lo + (i + 1)) xa xb (.slice pA nA cA) (.slice pb nb cb) L) := X3.out.below ((Below.refl _ _).alloc (Nat.le_refl _) _)
              refine hK.out _ _ X4.out.held (fun hHeld => ?_)
              clear hK K
              try simp only [Act.put, List.setIfInBounds_toArray, List.set_cons_zero, List.set_cons_succ]
              refine wpAnyH_ready (rs := [15]) (by kernel_rfl) (by simp) ?_
              refine AllReadyH.cons (o := ({ dst := some 29, op := Op.call { callee := Callee.builtin Builtin.append, args := #[Operand.tmp 15, Operand.tmp 28], argTypes := #[23, 23] }, type := 23, pos := "law.go:16", after := #[{ on := 1, ground := Ground.data }, { on := 14, ground := Ground.data }, { on := 12, ground := Ground.chain }], guard := none } : Oper)) rfl (fun K hK => ?_) AllReadyH.nil
              have HV : OwnV y2.heap.size (.slice (some ⟨y2.heap.size, 0, none⟩) 2 2) [⟨1, xa, 0, ⟨#[]⟩⟩, ⟨1, xb, 0, ⟨#[]⟩⟩] ((y2).alloc (.cells #[.int .i64 1, .int .i64 xa, .int .i64 0, .string ⟨#[]⟩, .int .i64 1, .int .i64 xb, .int .i64 0, .string ⟨#[]⟩] 45)) := World.ownsRow_lit (base := y2.heap.size) (e := 45) (size := 4) y2 #[.int .i64 1, .int .i64 xa, .int .i64 0, .string ⟨#[]⟩, .int .i64 1, .int .i64 xb, .int .i64 0, .string ⟨#[]⟩] 2 (Nat.le_refl _) (by unfold maxLen; omega) rfl
              have XO := X3.out.ob
              have hsz : w7.heap.size ≤ ((y2).alloc (.cells #[.int .i64 1, .int .i64 xa, .int .i64 0, .string ⟨#[]⟩, .int .i64 1, .int .i64 xb, .int .i64 0, .string ⟨#[]⟩] 45)).heap.size := Nat.le_of_lt X3.out.lt
              refine step_appendR rfl (.tmp 15) (.tmp 28) 23 rfl w7.heap.size 26 i0 (.slice none 0 0) 1 24 Tryz.underlying23 hi hz0 hz1 hz2 rfl (by decide) (.slice pb nb cb) zs.length zs (by simp [Act.eval]) (World.ownsRow.alloc XO _) ⟨((y2).alloc (.cells #[.int .i64 1, .int .i64 xa, .int .i64 0, .string ⟨#[]⟩, .int .i64 1, .int .i64 xb, .int .i64 0, .string ⟨#[]⟩] 45)).heap.size, 0, none⟩ 1 1 [.slice (some ⟨y2.heap.size, 0, none⟩) 2 2] (by simp [Act.eval]) rfl ?c1A ?c2A (by unfold maxLen; omega) (by omega) (by simp at hsz ⊢; omega) (fun v' w2 h2 h3 => ?_)
              case c1A => (intro j u hj; rw [Addr.add_lit]; (rcases j with _ | j) <;> simp at hj; subst hj; simp (maxDischargeDepth := 12) [go_sem])
              case c2A => (intro u hu; simp at hu; subst hu; rfl)
              obtain ⟨pv, nv, cv, T3, t3, f3, W3, rfl⟩ := arr_step2 _ _ _ pb nb cb (.slice pA nA cA) zs v' _ L y2 w7 ((y2).alloc (.cells #[.int .i64 1, .int .i64 xa, .int .i64 0, .string ⟨#[]⟩, .int .i64 1, .int .i64 xb, .int .i64 0, .string ⟨#[]⟩] 45)) w2 X2.out.lt X3.out.tt XO X2.out.rs X2.out.hb ((Below.refl _ _).alloc (Nat.le_refl _) _) HV h2 h3
              have hb2 : Below w7.heap.size w7 w2 := Below.grown (X3.out.hb.alloc X3.out.hb.size _) h3 (by simp at hsz ⊢; omega) (fun q hq => (World.ownsRow.lt XO q hq).1)
              have hh2 := held_of hb2 X0.out.l1 X0.out.l2 X0.out.bb
              have hh3 : Hid (_ ∧ _) := held_of W3.out.choose_spec.choose_spec.2.2.2 X0.out.l1 X0.out.l2 X0.out.bb
              clear h2 h3 T3 XO HV hsz hb2
              refine hK.out _ _ hh2 (fun hHeld => ?_)
              clear hK K hh2
              try simp only [Act.put, List.setIfInBounds_toArray, List.set_cons_zero, List.set_cons_succ]
              refine wpAnyH_take (i := 16) (oi := ({ dst := some 30, op := Op.fieldAddr 25 (Operand.tmp 3) 1, type := 0, pos := "law.go:16", after := #[{ on := 0, ground := Ground.phase }, { on := 1, ground := Ground.phase }, { on := 2, ground := Ground.phase }, { on := 3, ground := Ground.phase }, { on := 4, ground := Ground.phase }, { on := 5, ground := Ground.phase }, { on := 6, ground := Ground.phase }, { on := 7, ground := Ground.phase }, { on := 8, ground := Ground.phase }, { on := 9, ground := Ground.phase }, { on := 10, ground := Ground.phase }, { on := 11, ground := Ground.phase }, { on := 12, ground := Ground.phase }, { on := 13, ground := Ground.phase }, { on := 14, ground := Ground.phase }, { on := 15, ground := Ground.phase }], guard := none } : Oper)) (v := ?yv14) rfl (by kernel_rfl) (by kernel_rfl) (by kernel_rfl) (fun _ _ _ h => h) (Or.inl ⟨by rfl, ?yh14⟩) (by assumption) ?yr14
              case yh14 => (intro wq hSw; (try dsimp only at hSw); obtain ⟨sa, sb⟩ := hSw; go_simp; first | done | with_reducible rfl)
              try simp only [Act.put, List.setIfInBounds_toArray, List.set_cons_zero, List.set_cons_succ]
              refine wpAnyH_ready (rs := [17]) (by kernel_rfl) (by simp) ?_
              refine AllReadyH.cons (o := ({ dst := none, op := Op.store 23 (Operand.tmp 30) (Operand.tmp 29), type := 0, pos := "law.go:16", after := #[{ on := 16, ground := Ground.data }, { on := 15, ground := Ground.data }, { on := 15, ground := Ground.chain }, { on := 0, ground := Ground.phase }, { on := 1, ground := Ground.phase }, { on := 2, ground := Ground.phase }, { on := 3, ground := Ground.phase }, { on := 4, ground := Ground.phase }, { on := 5, ground := Ground.phase }, { on := 6, ground := Ground.phase }, { on := 7, ground := Ground.phase }, { on := 8, ground := Ground.phase }, { on := 9, ground := Ground.phase }, { on := 10, ground := Ground.phase }, { on := 11, ground := Ground.phase }, { on := 12, ground := Ground.phase }, { on := 13, ground := Ground.phase }, { on := 14, ground := Ground.phase }, { on := 15, ground := Ground.phase }], guard := none } : Oper)) rfl (fun K hK => ?_) AllReadyH.nil
              go_simp
              refine hK.out _ _ hh3.out (fun hHeld => ?_)
              clear hK K
              try simp only [Act.put, List.setIfInBounds_toArray, List.set_cons_zero, List.set_cons_succ]
              refine wpAnyH_done (by kernel_rfl) ?_ _
              clear t3 f3 hh3
              (try go_wp2)
              exact ⟨⟨i + 2, L ++ [[⟨1, xa, 0, ⟨#[]⟩⟩, ⟨1, xb, 0, ⟨#[]⟩⟩]], by omega, by go_num, by simp; omega, hstep, W3⟩, by simp [intOf]; omega⟩
            · go_simp
              have X4 : Hid (XS (((y2).alloc (.cells #[.int .i64 1, .int .i64 xa, .int .i64 0, .string ⟨#[]⟩, .int .i64 1, .int .i64 xb, .int .i64 0, .string ⟨#[]⟩] 45)).alloc (.cells #[.slice (some ⟨y2.heap.size, 0, none⟩) 2 2] 26)) w7 zs bl (lo + i) (lo + (i + 1)) xa xb (.slice pA nA cA) (.slice pb nb cb) L) := X3.out.below ((Below.refl _ _).alloc (Nat.le_refl _) _)
              refine hK.out _ _ X4.out.held (fun hHeld => ?_)
              clear hK K
              try simp only [Act.put, List.setIfInBounds_toArray, List.set_cons_zero, List.set_cons_succ]
              refine wpAnyH_ready (rs := [1]) (by kernel_rfl) (by simp) ?_
              refine AllReadyH.cons (o := ({ dst := some 15, op := Op.load 23 (Operand.tmp 14), type := 23, pos := "law.go:16", after := #[{ on := 0, ground := Ground.data }], guard := none } : Oper)) rfl (fun K hK => ?_) AllReadyH.nil
              have tl := X4.out.t1
              go_simp
              clear tl
              refine hK.out _ _ X4.out.held (fun hHeld => ?_)
              clear hK K
              try simp only [Act.put, List.setIfInBounds_toArray, List.set_cons_zero, List.set_cons_succ]
              refine wpAnyH_ready (rs := [15]) (by kernel_rfl) (by simp) ?_
              refine AllReadyH.cons (o := ({ dst := some 29, op := Op.call { callee := Callee.builtin Builtin.append, args := #[Operand.tmp 15, Operand.tmp 28], argTypes := #[23, 23] }, type := 23, pos := "law.go:16", after := #[{ on := 1, ground := Ground.data }, { on := 14, ground := Ground.data }, { on := 12, ground := Ground.chain }], guard := none } : Oper)) rfl (fun K hK => ?_) AllReadyH.nil
              have HV : OwnV y2.heap.size (.slice (some ⟨y2.heap.size, 0, none⟩) 2 2) [⟨1, xa, 0, ⟨#[]⟩⟩, ⟨1, xb, 0, ⟨#[]⟩⟩] ((y2).alloc (.cells #[.int .i64 1, .int .i64 xa, .int .i64 0, .string ⟨#[]⟩, .int .i64 1, .int .i64 xb, .int .i64 0, .string ⟨#[]⟩] 45)) := World.ownsRow_lit (base := y2.heap.size) (e := 45) (size := 4) y2 #[.int .i64 1, .int .i64 xa, .int .i64 0, .string ⟨#[]⟩, .int .i64 1, .int .i64 xb, .int .i64 0, .string ⟨#[]⟩] 2 (Nat.le_refl _) (by unfold maxLen; omega) rfl
              have XO := X3.out.ob
              have hsz : w7.heap.size ≤ ((y2).alloc (.cells #[.int .i64 1, .int .i64 xa, .int .i64 0, .string ⟨#[]⟩, .int .i64 1, .int .i64 xb, .int .i64 0, .string ⟨#[]⟩] 45)).heap.size := Nat.le_of_lt X3.out.lt
              refine step_appendR rfl (.tmp 15) (.tmp 28) 23 rfl w7.heap.size 26 i0 (.slice none 0 0) 1 24 Tryz.underlying23 hi hz0 hz1 hz2 rfl (by decide) (.slice pb nb cb) zs.length zs (by simp [Act.eval]) (World.ownsRow.alloc XO _) ⟨((y2).alloc (.cells #[.int .i64 1, .int .i64 xa, .int .i64 0, .string ⟨#[]⟩, .int .i64 1, .int .i64 xb, .int .i64 0, .string ⟨#[]⟩] 45)).heap.size, 0, none⟩ 1 1 [.slice (some ⟨y2.heap.size, 0, none⟩) 2 2] (by simp [Act.eval]) rfl ?c1A ?c2A (by unfold maxLen; omega) (by omega) (by simp at hsz ⊢; omega) (fun v' w2 h2 h3 => ?_)
              case c1A => (intro j u hj; rw [Addr.add_lit]; (rcases j with _ | j) <;> simp at hj; subst hj; simp (maxDischargeDepth := 12) [go_sem])
              case c2A => (intro u hu; simp at hu; subst hu; rfl)
              obtain ⟨pv, nv, cv, T3, t3, f3, W3, rfl⟩ := arr_step2 _ _ _ pb nb cb (.slice pA nA cA) zs v' _ L y2 w7 ((y2).alloc (.cells #[.int .i64 1, .int .i64 xa, .int .i64 0, .string ⟨#[]⟩, .int .i64 1, .int .i64 xb, .int .i64 0, .string ⟨#[]⟩] 45)) w2 X2.out.lt X3.out.tt XO X2.out.rs X2.out.hb ((Below.refl _ _).alloc (Nat.le_refl _) _) HV h2 h3
              have hb2 : Below w7.heap.size w7 w2 := Below.grown (X3.out.hb.alloc X3.out.hb.size _) h3 (by simp at hsz ⊢; omega) (fun q hq => (World.ownsRow.lt XO q hq).1)
              have hh2 := held_of hb2 X0.out.l1 X0.out.l2 X0.out.bb
              have hh3 : Hid (_ ∧ _) := held_of W3.out.choose_spec.choose_spec.2.2.2 X0.out.l1 X0.out.l2 X0.out.bb
              clear h2 h3 T3 XO HV hsz hb2
              refine hK.out _ _ hh2 (fun hHeld => ?_)
              clear hK K hh2
              try simp only [Act.put, List.setIfInBounds_toArray, List.set_cons_zero, List.set_cons_succ]
              refine wpAnyH_take (i := 16) (oi := ({ dst := some 30, op := Op.fieldAddr 25 (Operand.tmp 3) 1, type := 0, pos := "law.go:16", after := #[{ on := 0, ground := Ground.phase }, { on := 1, ground := Ground.phase }, { on := 2, ground := Ground.phase }, { on := 3, ground := Ground.phase }, { on := 4, ground := Ground.phase }, { on := 5, ground := Ground.phase }, { on := 6, ground := Ground.phase }, { on := 7, ground := Ground.phase }, { on := 8, ground := Ground.phase }, { on := 9, ground := Ground.phase }, { on := 10, ground := Ground.phase }, { on := 11, ground := Ground.phase }, { on := 12, ground := Ground.phase }, { on := 13, ground := Ground.phase }, { on := 14, ground := Ground.phase }, { on := 15, ground := Ground.phase }], guard := none } : Oper)) (v := ?yv15) rfl (by kernel_rfl) (by kernel_rfl) (by kernel_rfl) (fun _ _ _ h => h) (Or.inl ⟨by rfl, ?yh15⟩) (by assumption) ?yr15
              case yh15 => (intro wq hSw; (try dsimp only at hSw); obtain ⟨sa, sb⟩ := hSw; go_simp; first | done | with_reducible rfl)
              try simp only [Act.put, List.setIfInBounds_toArray, List.set_cons_zero, List.set_cons_succ]
              refine wpAnyH_ready (rs := [17]) (by kernel_rfl) (by simp) ?_
              refine AllReadyH.cons (o := ({ dst := none, op := Op.store 23 (Operand.tmp 30) (Operand.tmp 29), type := 0, pos := "law.go:16", after := #[{ on := 16, ground := Ground.data }, { on := 15, ground := Ground.data }, { on := 15, ground := Ground.chain }, { on := 0, ground := Ground.phase }, { on := 1, ground := Ground.phase }, { on := 2, ground := Ground.phase }, { on := 3, ground := Ground.phase }, { on := 4, ground := Ground.phase }, { on := 5, ground := Ground.phase }, { on := 6, ground := Ground.phase }, { on := 7, ground := Ground.phase }, { on := 8, ground := Ground.phase }, { on := 9, ground := Ground.phase }, { on := 10, ground := Ground.phase }, { on := 11, ground := Ground.phase }, { on := 12, ground := Ground.phase }, { on := 13, ground := Ground.phase }, { on := 14, ground := Ground.phase }, { on := 15, ground := Ground.phase }], guard := none } : Oper)) rfl (fun K hK => ?_) AllReadyH.nil
              go_simp
              refine hK.out _ _ hh3.out (fun hHeld => ?_)
              clear hK K
              try simp only [Act.put, List.setIfInBounds_toArray, List.set_cons_zero, List.set_cons_succ]
              refine wpAnyH_done (by kernel_rfl) ?_ _
              clear t3 f3 hh3
              (try go_wp2)
              exact ⟨⟨i + 2, L ++ [[⟨1, xa, 0, ⟨#[]⟩⟩, ⟨1, xb, 0, ⟨#[]⟩⟩]], by omega, by go_num, by simp; omega, hstep, W3⟩, by simp [intOf]; omega⟩
    · have c2 : ¬ ((i : Int) + 1 < n) := by omega
      have hr2 : Hid (L = xyR l) := by
        have h := hr.out
        rw [xyR_short (l := l.drop i) (by rw [List.length_drop]; have := en.out; omega), List.append_nil] at h
        exact h.symm
      rw [hr2.out] at hrs
      have t0 := cell_of_heap hT 0 rfl
      have t1 := cell_of_heap hT 1 rfl
      have hR := (hB.block w.heap.size (by have := HZ7.out; omega)).trans R7.out
      have r0 := cell_of_heap hR 0 rfl
      have r1 := cell_of_heap hR 1 rfl
      have f0 := frozen_of_heap hR 0
      have f1 := frozen_of_heap hR 1
      have x0 : (wr.setCell ⟨w.heap.size, 0, none⟩ (.slice pA nA cA)).cell? ⟨w.heap.size, 0, none⟩ = some (.slice pA nA cA) := set_same r0
      have x1 : ((wr.setCell ⟨w.heap.size, 0, none⟩ (.slice pA nA cA)).setCell ⟨w.heap.size, 1, none⟩ (.slice pb nb cb)).cell? ⟨w.heap.size, 1, none⟩ = some (.slice pb nb cb) := set_same ((set_other (by simp)).trans r1)
      have KW : Below w.heap.size w wr := K7.trans (hB.mono K7.size)
      have HOV : OwnS (w.heap.size + 1) (.slice pA nA cA) [⟨#[120]⟩, ⟨#[121]⟩] wr := own_below S7.out hB
      have HT : Hid (OwnT (w.heap.size + 1) (.agg #[.slice pA nA cA, .slice pb nb cb]) [⟨#[120]⟩, ⟨#[121]⟩] (xyR l) wr) := ⟨_, _, zs, rfl, HOV, own_base hob (by have := HZ7.out; omega), hrs.base (by have := HZ7.out; omega)⟩
      have HSET : Hid (Below w.heap.size w ((wr.setCell ⟨w.heap.size, 0, none⟩ (.slice pA nA cA)).setCell ⟨w.heap.size, 1, none⟩ (.slice pb nb cb))) := by
        have b2 := KW.grown (grownBy_setCell wr w.heap.size 0 (.slice pA nA cA)) KW.size (fun q hq => by injection hq with hq; omega)
        exact b2.grown (grownBy_setCell _ w.heap.size 1 (.slice pb nb cb)) b2.size (fun q hq => by injection hq with hq; omega)
      clear hT hob hrs hB hI HOV hR
      go_wp2
      (try simp only [Exit.inBlock, Exit.then])
      refine bodyPost_ret (by simp [results, Tryz.results14, go_sem, x0, x1]; try rfl) rfl ?_
      exact ⟨_, rfl, ((HT.out.set (by omega)).set (by omega)).base (by omega), HSET.out⟩

end Go.Proofs.YtiliaincniiijaaGreat

namespace Go.Proofs.YtiliaincniiijaaGreat
open Go.RowKit Go.Shelf Go.Sort
set_option linter.unusedVariables false

/-- A table in a variable of the call's own, and the variable of what is told. -/
structure Box2 (W : World) (h : Nat) (Va Ra : Value) : Prop where
  a : W.heap[h]? = some (.cells #[Va, Ra] 25 (0, 0))
  r : W.heap[h + 1]? = some (.cells #[.slice none 0 0, .slice none 0 0] 25 (0, 0))
theorem Box2.below {W W' : World} {h : Nat} {Va Ra : Value} (x : Box2 W h Va Ra) (hb : Below W.heap.size W W') : Box2 W' h Va Ra :=
  ⟨(hb.block _ (Array.getElem?_eq_some_iff.1 x.a).1).trans x.a, (hb.block _ (Array.getElem?_eq_some_iff.1 x.r).1).trans x.r⟩
theorem Box2.grown {W W' : World} {h k : Nat} {Va Ra : Value} (x : Box2 W h Va Ra) (hb : Below k W W') (hk : h + 2 ≤ k) : Box2 W' h Va Ra :=
  ⟨(hb.block _ (by omega)).trans x.a, (hb.block _ (by omega)).trans x.r⟩
theorem Box2.made (w : World) (Va Ra : Value) : Box2 ((w.alloc (.cells #[Va, Ra] 25)).alloc (.cells #[.slice none 0 0, .slice none 0 0] 25)) w.heap.size Va Ra := by
  refine ⟨?_, ?_⟩
  · rw [heap_alloc_lt _ _ (by simp), heap_alloc]
  · have h := heap_alloc (w.alloc (.cells #[Va, Ra] 25)) (.cells #[.slice none 0 0, .slice none 0 0] 25)
    rwa [show (w.alloc (.cells #[Va, Ra] 25)).heap.size = w.heap.size + 1 by simp] at h

theorem colsO_mem {vs : List ByteArray} : ∀ {l : List ByteArray} {acc cs : List Nat}, colsO vs acc l = some cs → cs.length = acc.length + l.length ∧ ((∀ c ∈ acc, c < vs.length) → ∀ c ∈ cs, c < vs.length) ∧ (acc.Nodup → cs.Nodup)
  | [], acc, cs, h => by
    injection h with h
    subst h
    exact ⟨rfl, fun h => h, fun h => h⟩
  | x :: l, acc, cs, h => by
    unfold colsO at h
    split at h
    · cases h
    · rename_i hn
      obtain ⟨h1, h2, h3⟩ := colsO_mem h
      refine ⟨by rw [h1]; simp; omega, fun ha => h2 fun c hc => ?_, fun hd => h3 ?_⟩
      · rcases List.mem_append.1 hc with hc | hc
        · exact ha c hc
        · simp at hc
          subst hc
          exact (idx_lt (fun h => hn (Or.inl h))).1
      · refine List.nodup_append.2 ⟨hd, by simp, fun a ha b hb e => ?_⟩
        simp at hb
        subst hb e
        exact hn (Or.inr ha)
/-- Names put in the places of others. -/
def renV : List ByteArray → List Nat → List ByteArray → List ByteArray
  | vs, c :: cs, x :: l => renV (vs.set c x) cs l
  | vs, _, _ => vs
theorem renV_nil (vs l : List ByteArray) : renV vs [] l = vs := by cases l <;> rfl
theorem ofChk_nodup {vs : List ByteArray} {rs : List (List Val)} (h : ofChk vs rs = 0) : vs.Nodup := by
  unfold ofChk at h
  by_cases hc : vs.length ≤ 8 ∧ repB [] vs = false
  · simpa using repB_nodup vs [] List.nodup_nil hc.2
  · rw [if_neg hc] at h; cases h
def renE (vs : List ByteArray) (rs : List (List Val)) (fr tr : List ByteArray) : Int :=
  if tabChk vs rs = 0 then (if fr.length = tr.length then (match colsO vs [] fr with | none => 30 | some cs => ofChk (renV vs cs tr) rs) else 1) else tabChk vs rs

set_option maxRecDepth 100000 in
set_option maxHeartbeats 8000000 in
theorem rename_any {V R A B : Value} {vs fr tr : List ByteArray} {us : List Value} {rs : List (List Val)} {w : World} (hT : TabAt w V R vs us rs) (hA : StrsAt w A fr) (hB : StrsAt w B tr) (lf : fr.length ≤ 9223372036854775807) (lt : tr.length ≤ 9223372036854775807) :
    Calls Tryz.prog 15 #[.agg #[V, R], A, B] w fun e w' => ∃ t, e = .returned (.tuple #[t, .int .i64 (renE vs rs fr tr)]) ∧ (renE vs rs fr tr = 0 → ∃ cs, colsO vs [] fr = some cs ∧ OwnT w.heap.size t (madeS (renV vs cs tr)) (ofRows (renV vs cs tr) rs) w') ∧ (renE vs rs fr tr ≠ 0 → t = .agg #[.slice none 0 0, .slice none 0 0]) ∧ Below w.heap.size w w' := by
  have HT : Hid (TabAt w V R vs us rs) := hT
  have HA : Hid (StrsAt w A fr) := hA
  have HB : Hid (StrsAt w B tr) := hB
  have cK : Hid (∀ W, Below w.heap.size w W → Calls Tryz.prog 4 #[.agg #[V, R]] W fun e w' => e = .returned (.int .i64 (tabChk vs rs)) ∧ Below W.heap.size W w') := fun W hW => (hT.below hW).check
  obtain ⟨p1, k1, p2, k2, rfl, rfl⟩ := hT.forms
  obtain ⟨p3, k3, rfl⟩ := hA.form
  obtain ⟨p4, k4, rfl⟩ := hB.form
  obtain ⟨E, eE⟩ : ∃ E, Hid (tabChk vs rs = E) := ⟨_, rfl⟩
  obtain ⟨n1, en1⟩ : ∃ n, Hid (vs.length = n) := ⟨_, rfl⟩
  obtain ⟨n2, en2⟩ : ∃ n, Hid (us.length = n) := ⟨_, rfl⟩
  obtain ⟨n3, en3⟩ : ∃ n, Hid (fr.length = n) := ⟨_, rfl⟩
  obtain ⟨n4, en4⟩ : ∃ n, Hid (tr.length = n) := ⟨_, rfl⟩
  obtain ⟨Q, eQ⟩ : ∃ Q, Hid (renE vs rs fr tr = Q) := ⟨_, rfl⟩
  have hQ : Hid (Q = if E = 0 then (if n3 = n4 then (match colsO vs [] fr with | none => 30 | some cs => ofChk (renV vs cs tr) rs) else 1) else E) := by
    show Q = _
    rw [← eQ.out, ← eE.out, ← en3.out, ← en4.out]
    rfl
  rw [eQ.out]
  rw [eE.out] at cK
  rw [en1.out] at HT cK ⊢
  rw [en2.out] at HT cK ⊢
  rw [en3.out] at HA lf ⊢
  rw [en4.out] at HB lt ⊢
  clear hT hA hB
  go_enter Tryz.func15, Tryz.ntmps15
  go_upto_region 1 with fail
  refine wp_world ?_
  intro W0 hW0
  have bx0 : Hid (Box2 W0 w.heap.size (.slice p1 n1 k1) (.slice p2 n2 k2)) := by rw [hW0]; exact Box2.made _ _ _
  have K0 : Below w.heap.size w W0 := by rw [hW0]; go_grown
  have z0 : W0.heap.size = w.heap.size + 2 := by rw [hW0]; simp
  clear hW0
  have A0 := cell_of_heap bx0.out.a 0 rfl
  have A1 := cell_of_heap bx0.out.a 1 rfl
  go_wp2_with fail
  refine (cK.out W0 K0).mono ?_
  rintro e w1 ⟨rfl, hb1⟩
  have bx1 : Hid (Box2 w1 w.heap.size (.slice p1 n1 k1) (.slice p2 n2 k2)) := bx0.out.below hb1
  have K1 : Below w.heap.size w w1 := K0.trans (hb1.mono K0.size)
  have z1 : w.heap.size + 2 ≤ w1.heap.size := by have := hb1.size; omega
  clear A0 A1 bx0 K0 hb1 z0 cK
  have HSET : Hid (∀ W, Below w.heap.size w W → ∀ x y, Below w.heap.size w ((W.setCell ⟨w.heap.size + 1, 0, none⟩ x).setCell ⟨w.heap.size + 1, 1, none⟩ y)) := fun W h x y => by
    have b2 := h.grown (grownBy_setCell W (w.heap.size + 1) 0 x) h.size (fun q hq => by injection hq with hq; omega)
    exact b2.grown (grownBy_setCell _ (w.heap.size + 1) 1 y) b2.size (fun q hq => by injection hq with hq; omega)
  have X0 : Hid (∀ (W : World) (u x : Value), W.cell? ⟨w.heap.size + 1, 0, none⟩ = some u → (W.setCell ⟨w.heap.size + 1, 0, none⟩ x).cell? ⟨w.heap.size + 1, 0, none⟩ = some x) := fun W u x h => set_same h
  have X1 : Hid (∀ (W : World) (u x y : Value), W.cell? ⟨w.heap.size + 1, 1, none⟩ = some u → ((W.setCell ⟨w.heap.size + 1, 0, none⟩ x).setCell ⟨w.heap.size + 1, 1, none⟩ y).cell? ⟨w.heap.size + 1, 1, none⟩ = some y) := fun W u x y h => set_same ((set_other (by simp)).trans h)
  have r0 := cell_of_heap bx1.out.r 0 rfl
  have r1 := cell_of_heap bx1.out.r 1 rfl
  have f0 := frozen_of_heap bx1.out.r 0
  have f1 := frozen_of_heap bx1.out.r 1
  have x0 := X0.out w1 _ (.slice none 0 0) r0
  have x1 := X1.out w1 _ (.slice none 0 0) (.slice none 0 0) r1
  by_cases hE : E = 0
  · subst hE
    by_cases hn : n3 = n4
    · subst hn
      have hQ2 : Hid (Q = match colsO vs [] fr with | none => 30 | some cs => ofChk (renV vs cs tr) rs) := by
        have h := hQ.out
        rw [if_pos rfl, if_pos rfl] at h
        exact h
      have ok : OkT vs rs := tabChk_ok eE.out HT.out.fits
      have OK : Hid (OkT vs rs) := ok
      have cO : Hid (Calls Tryz.prog 39 #[.slice p1 n1 k1, .slice p3 n3 k3] w1 fun e w' => ∃ v, e = .returned (.tuple #[v, .bool (colsO vs [] fr).isSome]) ∧ (∀ cs, colsO vs [] fr = some cs → OwnI w1.heap.size v cs w') ∧ Below w1.heap.size w1 w') := colsOf_any _ _ vs fr w1 (HT.out.vars.below K1) (HA.out.below K1) ok.few (by have := en3.out; omega)
      clear hQ ok r0 r1 f0 f1 x0 x1
      have a0 := cell_of_heap bx1.out.a 0 rfl
      go_wp2_with fail
      refine cO.out.mono ?_
      rintro e w2 ⟨vc, rfl, oc, hb2⟩
      have bx2 : Hid (Box2 w2 w.heap.size (.slice p1 n1 k1) (.slice p2 n2 k2)) := bx1.out.below hb2
      have K2 : Below w.heap.size w w2 := K1.trans (hb2.mono K1.size)
      have z2 : w.heap.size + 2 ≤ w2.heap.size := Nat.le_trans z1 hb2.size
      clear a0 cO
      cases hcol : colsO vs [] fr with
      | none =>
        have hQ3 : Hid (Q = 30) := by
          have h := hQ2.out
          rw [hcol] at h
          exact h
        have r0 := cell_of_heap bx2.out.r 0 rfl
        have r1 := cell_of_heap bx2.out.r 1 rfl
        have f0 := frozen_of_heap bx2.out.r 0
        have f1 := frozen_of_heap bx2.out.r 1
        have x0 := X0.out w2 _ (.slice none 0 0) r0
        have x1 := X1.out w2 _ (.slice none 0 0) (.slice none 0 0) r1
        clear oc hQ2
        go_wp2
        (try simp only [Exit.inBlock, Exit.then])
        refine bodyPost_ret (by simp [results, Tryz.results15, go_sem, x0, x1]; try rfl) rfl ?_
        exact ⟨_, by rw [hQ3.out], fun h => absurd h (by rw [hQ3.out]; decide), fun _ => rfl, HSET.out _ K2 _ _⟩
      | some cs =>
        have hQ3 : Hid (Q = ofChk (renV vs cs tr) rs) := by
          have h := hQ2.out
          rw [hcol] at h
          exact h
        have HCOL : Hid (colsO vs [] fr = some cs) := hcol
        obtain ⟨hcl, hcm, -⟩ := colsO_mem hcol
        have hcm := hcm (by simp)
        have oi := oc cs hcol
        have OI : Hid (OwnI w1.heap.size vc cs w2) := oi
        have cC : Hid (Calls Tryz.prog 26 #[.slice p1 n1 k1] w2 fun e w' => ∃ v, e = .returned v ∧ OwnS w2.heap.size v vs w' ∧ Below w2.heap.size w2 w') := cloneS_any _ vs w2 (HT.out.vars.below K2) (by have := OK.out.few; omega)
        obtain ⟨pc, kc, rfl⟩ := oi.ints.form
        have ecl : cs.length = n3 := by rw [hcl, en3.out]; simp
        rw [ecl] at OI ⊢
        have ECL : Hid (cs.length = n3) := ecl
        have HCM : Hid (∀ c ∈ cs, c < vs.length) := hcm
        clear oc oi hcl hcm hcol hQ2 ecl
        have a0 := cell_of_heap bx2.out.a 0 rfl
        go_wp2_with fail
        refine cC.out.mono ?_
        rintro e w3 ⟨vv, rfl, ov, hb3⟩
        obtain ⟨pv, nv, cv, rfl⟩ := slice_of ov
        have OV : Hid (OwnS w2.heap.size (.slice pv nv cv) vs w3) := ov
        have OI3 : Hid (OwnI w1.heap.size (.slice pc n3 kc) cs w3) := own_below OI.out hb3
        have bx3 : Hid (Box2 w3 w.heap.size (.slice p1 n1 k1) (.slice p2 n2 k2)) := bx2.out.below hb3
        have B3 : Below w2.heap.size w2 w3 := hb3
        clear a0 cC ov hb3 OI
        go_wp2
        go_loopw [41] (fun i wr => ∃ (k : Nat) (F : List ByteArray), k ≤ n3 ∧ i = .int .i64 k ∧ F.length = n1 ∧ Hid (renV vs cs tr = renV F (cs.drop k) (tr.drop k)) ∧ Hid (OwnS w2.heap.size (.slice pv nv cv) F wr) ∧ Hid (OwnI w1.heap.size (.slice pc n3 kc) cs wr) ∧ Below w2.heap.size w2 wr) (fun i _ => n3 - (intOf i).toNat)
        case atStart => exact ⟨0, vs, Nat.zero_le _, rfl, en1.out, (show renV vs cs tr = renV vs (cs.drop 0) (tr.drop 0) by simp), OV, OI3, B3⟩
        case round =>
          obtain ⟨k, F, hk, rfl, hFl, hr, hO, hI, hB⟩ := hrel
          have KW : Below w.heap.size w wr := K2.trans (hB.mono K2.size)
          by_cases hlt : k < n3
          · have kx : k < cs.length := by have := ECL.out; omega
            have ky : k < tr.length := by have := en4.out; omega
            obtain ⟨b, off, rfl, hb, q1⟩ := hI.out.ints.get.2 k kx
            obtain ⟨b', off', rfl, hb', r1⟩ := HB.out.get.2 k ky
            have q2 := (KW.cell (p := ⟨b', off' + k, none⟩) hb').trans r1
            have cx : cs[k] < F.length := by have := HCM.out _ (List.getElem_mem kx); have := en1.out; omega
            have hr2 : Hid (renV vs cs tr = renV (F.set cs[k] tr[k]) (cs.drop (k + 1)) (tr.drop (k + 1))) := by
              have h := hr.out
              rw [List.drop_eq_getElem_cons kx, List.drop_eq_getElem_cons ky] at h
              exact h
            obtain ⟨g, rfl⟩ : ∃ g, pv = some ⟨g, 0, none⟩ := by
              obtain ⟨hl, ⟨e, h0⟩ | ⟨g, cap, cur, e, -⟩⟩ := hO.out
              · omega
              · injection e with e; exact ⟨g, e⟩
            obtain rfl : nv = F.length := by
              obtain ⟨hl, ⟨e, h0⟩ | ⟨g, cap, cur, e, -⟩⟩ := hO.out
              · cases e
              · injection e
            have s0 : wr.cell? ⟨g, cs[k], none⟩ = some (.string F[cs[k]]) := by
              rw [World.ownsRow.cellAt hO.out cs[k] (by simpa using cx)]
              simp [List.getElem?_eq_getElem cx]
            have s1 : wr.frozen? ⟨g, cs[k], none⟩ = false := World.ownsRow.frozenAt hO.out cs[k]
            obtain ⟨o2, g2⟩ := World.ownsRow.stored hO.out cs[k] (.string tr[k])
            have O2 : Hid (OwnS w2.heap.size (.slice (some ⟨g, 0, none⟩) F.length cv) (F.set cs[k] tr[k]) (wr.setCell ⟨g, cs[k], none⟩ (.string tr[k]))) := by
              show OwnS _ _ _ _
              unfold OwnS
              rw [List.length_set, List.map_set]
              exact o2
            have I2 : Hid (OwnI w1.heap.size (.slice (some ⟨b, off, none⟩) n3 kc) cs (wr.setCell ⟨g, cs[k], none⟩ (.string tr[k]))) := World.ownsRow.kept hI.out g2 (own_ne2 hI.out hO.out (by decide))
            have B2 : Below w2.heap.size w2 (wr.setCell ⟨g, cs[k], none⟩ (.string tr[k])) := hB.grown g2 hB.size (fun q hq => by injection hq with hq; have := (World.ownsRow.lt hO.out g rfl).1; omega)
            have hFl2 : (F.set cs[k] tr[k]).length = n1 := by rw [List.length_set]; exact hFl
            clear o2 g2 r1 hr hO hI
            generalize F[cs[k]] = Y at s0
            generalize F.set cs[k] tr[k] = F2 at hr2 O2 hFl2
            generalize tr[k] = X at q2 O2 I2 B2
            generalize cs[k] = C at q1 s0 s1 cx O2 I2 B2
            have hF8 : F.length ≤ 8 := by have := OK.out.few; have := en1.out; omega
            generalize F.length = nF at *
            go_wp2
            exact ⟨⟨k + 1, F2, by omega, by go_num, hFl2, hr2, O2, I2, B2⟩, by simp [intOf]; omega⟩
          · have c2 : ¬ (k : Int) < n3 := by omega
            have hF : renV vs cs tr = F := by
              have h := hr.out
              rwa [List.drop_eq_nil_of_le (by have := ECL.out; omega), renV_nil] at h
            have hcap : ∀ p n c, Value.slice pv nv cv = .slice p n c → n ≤ c := by
              intro p n c e
              injection e with e1 e2 e3
              obtain ⟨hl, ⟨e, h0⟩ | ⟨g, cap, cur, e, -, -, hn, -⟩⟩ := hO.out
              · injection e with _ e4 e5; omega
              · injection e with _ e4 e5; omega
            have hTw := HT.out.below KW
            have cOf : Hid (Calls Tryz.prog 18 #[.slice pv nv cv, .slice p2 n2 k2] wr fun e w' => ∃ t, e = .returned (.tuple #[t, .int .i64 (ofChk F rs)]) ∧ (ofChk F rs = 0 → Told wr.heap.size t F rs w') ∧ (ofChk F rs ≠ 0 → t = .agg #[.slice none 0 0, .slice none 0 0]) ∧ Below wr.heap.size wr w') := tof_any _ _ F us rs wr hO.out.strs hcap hTw.vals hTw.rows hTw.fits hTw.long (by have := OK.out.few; have := en1.out; omega) hTw.many
            have bx : Hid (Box2 wr w.heap.size (.slice p1 n1 k1) (.slice p2 n2 k2)) := bx2.out.grown hB (by omega)
            have zr : w.heap.size + 2 ≤ wr.heap.size := Nat.le_trans z2 hB.size
            have a1 := cell_of_heap bx.out.a 1 rfl
            have HF : Hid (renV vs cs tr = F) := hF
            clear hF hcap hTw hO hI hr
            go_wp2_with fail
            refine cOf.out.mono ?_
            rintro e w5 ⟨t, rfl, h1, h2, hb5⟩
            have bx5 := bx.out.below hb5
            have K5 : Below w.heap.size w w5 := KW.trans (hb5.mono KW.size)
            have hQ4 : Hid (Q = ofChk F rs) := by rw [← HF.out]; exact hQ3
            have hform : ∃ pta nta cta ptb ntb ctb, t = .agg #[.slice pta nta cta, .slice ptb ntb ctb] ∧ (Q = 0 → OwnT wr.heap.size t (madeS F) (ofRows F rs) w5) := by
              by_cases hz : ofChk F rs = 0
              · have ht2 := (h1 hz).spec (ofChk_nodup hz) (fun r hr => (OK.out.rows r hr).2)
                have ht3 := ht2
                obtain ⟨ta, tb, zt, rfl, t1, t2, t3⟩ := ht3
                obtain ⟨pta, nta, cta, rfl⟩ := slice_of t1
                obtain ⟨ptb, ntb, ctb, rfl⟩ := slice_of t2
                exact ⟨_, _, _, _, _, _, rfl, fun _ => ht2⟩
              · exact ⟨none, 0, 0, none, 0, 0, h2 hz, fun h => absurd (hQ4.out.symm.trans h) hz⟩
            have hnz : Hid (Q ≠ 0 → t = .agg #[.slice none 0 0, .slice none 0 0]) := fun h => h2 (fun e => h (hQ4.out.trans e))
            obtain ⟨pta, nta, cta, ptb, ntb, ctb, rfl, hto⟩ := hform
            have HTO : Hid (Q = 0 → OwnT wr.heap.size (.agg #[.slice pta nta cta, .slice ptb ntb ctb]) (madeS F) (ofRows F rs) w5) := hto
            have r0 := cell_of_heap bx5.r 0 rfl
            have r1 := cell_of_heap bx5.r 1 rfl
            have f0 := frozen_of_heap bx5.r 0
            have f1 := frozen_of_heap bx5.r 1
            have x0 := X0.out w5 _ (.slice pta nta cta) r0
            have x1 := X1.out w5 _ (.slice pta nta cta) (.slice ptb ntb ctb) r1
            rw [← hQ4.out]
            clear a1 h1 h2 hb5 bx5 hto cOf
            go_wp2
            (try simp only [Exit.inBlock, Exit.then])
            refine bodyPost_ret (by simp [results, Tryz.results15, go_sem, x0, x1]; try rfl) rfl ?_
            refine ⟨_, rfl, fun h => ⟨cs, HCOL.out, ?_⟩, hnz.out, HSET.out _ K5 _ _⟩
            rw [HF.out]
            exact (((HTO.out h).set (by omega)).set (by omega)).base (by omega)
    · have hn2 : ((n3 : Int) == n4) = false := by simp; omega
      have hQ3 : Hid (Q = 1) := by
        have h := hQ.out
        rw [if_pos rfl, if_neg hn] at h
        exact h
      clear hQ
      go_wp2
      (try simp only [Exit.inBlock, Exit.then])
      refine bodyPost_ret (by simp [results, Tryz.results15, go_sem, x0, x1]; try rfl) rfl ?_
      exact ⟨_, by rw [hQ3.out], fun h => absurd h (by rw [hQ3.out]; decide), fun _ => rfl, HSET.out _ K1 _ _⟩
  · have hE2 : (E == 0) = false := by simpa using hE
    have hQ3 : Hid (Q = E) := by
      have h := hQ.out
      rw [if_neg hE] at h
      exact h
    clear hQ
    go_wp2
    (try simp only [Exit.inBlock, Exit.then])
    refine bodyPost_ret (by simp [results, Tryz.results15, go_sem, x0, x1]; try rfl) rfl ?_
    exact ⟨_, by rw [hQ3.out], fun h => absurd h (by rw [hQ3.out]; exact hE), fun _ => rfl, HSET.out _ K1 _ _⟩

end Go.Proofs.YtiliaincniiijaaGreat



namespace Go.Proofs.YtiliaincniiijaaGreat
open Go.RowKit Go.Shelf Go.Sort Go.Lib
set_option linter.unusedVariables false

theorem enc_ints (cs : List Nat) : cs.map encN = (cs.map Int.ofNat).map (Value.int .i64) := by
  rw [List.map_map]
  rfl
theorem sortI_any (v : Value) (cs : List Nat) (B : Nat) (w : World) (ho : OwnI B v cs w) (lc : cs.length ≤ 1000000) :
    Calls Tryz.prog 40 #[v] w fun e w' => e = .returned (.tuple #[]) ∧ ∃ ds : List Nat, ds.Perm cs ∧ ds.Pairwise (fun a b => a ≤ b) ∧ OwnI B v ds w' ∧ w.grownBy w' v.ownBlock := by
  by_cases hv : v = .slice none 0 0
  · subst hv
    have h0 : cs = [] := by
      obtain ⟨hl, ⟨e, h0⟩ | ⟨g, cap, cur, e, -⟩⟩ := ho
      · exact List.eq_nil_of_length_eq_zero h0
      · cases e
    subst h0
    refine (Any.slices_Sort_int_none Tryz.lays189 none 0 w).mono ?_
    rintro e w' ⟨rfl, rfl⟩
    exact ⟨rfl, [], List.Perm.refl _, List.Pairwise.nil, ho, ⟨rfl, rfl, rfl, Nat.le_refl _, fun _ _ _ => rfl⟩⟩
  · have hown : w.ownsRow B 3 1 v (cs.map Int.ofNat).length ((cs.map Int.ofNat).map (Value.int .i64)) := by
      rw [List.length_map, ← enc_ints]
      exact ho
    obtain ⟨g0, cap, rfl, hb, hlt, hn, hm, hl, hH⟩ := holds_of_ownsRow hown hv
    refine (Any.slices_Sort_int Tryz.lays189 g0 0 cap (cs.map Int.ofNat) w hH hlt (by simp; omega)).mono ?_
    rintro e w' ⟨rfl, n, os, rfl⟩
    have hp := List.mergeSort_perm (cs.map Int.ofNat) (fun x y => decide (x ≤ y))
    have hs := List.pairwise_mergeSort (le := fun (x y : Int) => decide (x ≤ y)) (fun a b c h1 h2 => by simp at *; omega) (fun a b => by simp; omega) (cs.map Int.ofNat)
    obtain ⟨ys, ey⟩ : ∃ ys, (cs.map Int.ofNat).mergeSort (fun x y => decide (x ≤ y)) = ys := ⟨_, rfl⟩
    rw [ey] at hp hs ⊢
    have hnn : ∀ y ∈ ys, ∃ k : Nat, y = (k : Int) := fun y hy => by
      obtain ⟨k, -, rfl⟩ := List.mem_map.1 (hp.mem_iff.1 hy)
      exact ⟨k, rfl⟩
    have hback : ys = (ys.map Int.toNat).map Int.ofNat := by
      rw [List.map_map]
      conv => lhs; rw [← List.map_id ys]
      refine List.map_congr_left fun y hy => ?_
      obtain ⟨k, rfl⟩ := hnn y hy
      rfl
    have hlen : ys.length = cs.length := by rw [hp.length_eq, List.length_map]
    refine ⟨rfl, ys.map Int.toNat, ?_, ?_, ?_, ?_⟩
    · have h := hp.map Int.toNat
      rw [List.map_map] at h
      have e1 : cs.map (Int.toNat ∘ Int.ofNat) = cs := by
        conv => rhs; rw [← List.map_id cs]
        exact List.map_congr_left fun y _ => rfl
      rwa [e1] at h
    · rw [List.pairwise_map]
      refine List.Pairwise.imp_of_mem ?_ hs
      intro a b ha hb hab
      simp at hab
      omega
    · have h := Lib.ownsRow_putRow (q := n) (ys := ys) (k := (cs.map Int.ofNat).length) hown (by simpa using hlen) (Nat.le_refl _)
      rw [List.take_of_length_le (by simp [hlen])] at h
      have h2 := World.ownsRow.kept h (grownBy_grow _ os none) (Or.inr (by intro h; cases h))
      unfold OwnI
      have hl2 : (ys.map Int.toNat).length = cs.length := by rw [List.length_map, hlen]
      rw [enc_ints, ← hback, hl2]
      simpa using h2
    · exact grownBy_sort (Value.int .i64) w g0 n ys.toArray os

theorem colsO_at {vs : List ByteArray} : ∀ {l : List ByteArray} {acc cs : List Nat}, colsO vs acc l = some cs → cs = acc ++ colsAt vs l ∧ ∀ x ∈ l, ¬ Lib.idxOfS vs x < 0
  | [], acc, cs, h => by
    injection h with h
    subst h
    exact ⟨by simp [colsAt], by simp⟩
  | x :: l, acc, cs, h => by
    unfold colsO at h
    split at h
    · cases h
    · rename_i hn
      obtain ⟨h1, h2⟩ := colsO_at h
      refine ⟨by rw [h1]; simp [colsAt], fun y hy => ?_⟩
      rcases List.mem_cons.1 hy with rfl | hy
      · exact fun h => hn (Or.inl h)
      · exact h2 y hy
theorem picks_at {vs : List ByteArray} : ∀ {l : List ByteArray}, (∀ x ∈ l, ¬ Lib.idxOfS vs x < 0) → picks vs (colsAt vs l) = l
  | [], _ => rfl
  | x :: l, h => by
    obtain ⟨h1, h2⟩ := idx_lt (h x (List.mem_cons_self ..))
    show picks vs ((Lib.idxOfS vs x).toNat :: colsAt vs l) = x :: l
    rw [picks_cons h1, picks_at (fun y hy => h y (List.mem_cons_of_mem _ hy))]
    rw [List.getElem?_eq_getElem h1] at h2
    injection h2 with h2
    rw [h2]
theorem picks_pw {α : Type} {R : α → α → Prop} {vs : List α} (hv : vs.Pairwise R) : ∀ {cs : List Nat}, cs.Pairwise (fun a b => a < b) → (∀ c ∈ cs, c < vs.length) → (picks vs cs).Pairwise R
  | [], _, _ => List.Pairwise.nil
  | c :: cs, h, hc => by
    obtain ⟨h1, h2⟩ := List.pairwise_cons.1 h
    have hc0 := hc c (List.mem_cons_self ..)
    rw [picks_cons hc0]
    refine List.pairwise_cons.2 ⟨fun y hy => ?_, picks_pw hv h2 (fun d hd => hc d (List.mem_cons_of_mem _ hd))⟩
    unfold picks at hy
    obtain ⟨d, hd, e⟩ := List.mem_filterMap.1 hy
    obtain ⟨h3, h4⟩ := List.getElem?_eq_some_iff.1 e
    rw [← h4]
    exact List.pairwise_iff_getElem.1 hv c d hc0 h3 (h1 d hd)
/-- The columns of some variables, of rows that may be. -/
def projR (vs us : List ByteArray) (rs : List (List Val)) : List (List Val) := madeR (rs.map fun r => picks r (colsAt vs (madeS us)))
def projE (vs : List ByteArray) (rs : List (List Val)) (us : List ByteArray) : Int := if tabChk vs rs = 0 then (if (colsO vs [] us).isSome then 0 else 30) else tabChk vs rs
theorem proj_cols {vs us : List ByteArray} {cs ds : List Nat} (hv : vs.Pairwise (fun a b => bcmp a b < 0)) (h : colsO vs [] us = some cs) (hp : ds.Perm cs) (hs : ds.Pairwise (fun a b => a ≤ b)) : (∀ c ∈ ds, c < vs.length) ∧ picks vs ds = madeS us ∧ ds = colsAt vs (madeS us) := by
  obtain ⟨-, hm, hn⟩ := colsO_mem h
  obtain ⟨e1, e2⟩ := colsO_at h
  simp only [List.nil_append] at e1
  have hcm := hm (by simp)
  have hdm : ∀ c ∈ ds, c < vs.length := fun c hc => hcm c (hp.mem_iff.1 hc)
  have hdn : ds.Nodup := hp.symm.nodup (hn List.nodup_nil)
  have hlt : ds.Pairwise (fun a b => a < b) := (List.Pairwise.and hs hdn).imp fun h => by omega
  have hun : us.Nodup := by
    have h2 := hn List.nodup_nil
    rw [e1] at h2
    unfold colsAt at h2
    exact (List.pairwise_map.1 h2).imp fun h e => h (by rw [e])
  have e3 : picks vs ds = madeS us := by
    refine madeS_eq hun (picks_pw hv hlt hdm) fun z => ?_
    rw [← picks_at e2, ← e1]
    unfold picks
    rw [List.mem_filterMap, List.mem_filterMap]
    exact ⟨fun ⟨c, hc, e⟩ => ⟨c, hp.mem_iff.1 hc, e⟩, fun ⟨c, hc, e⟩ => ⟨c, hp.mem_iff.2 hc, e⟩⟩
  exact ⟨hdm, e3, by rw [← e3]; exact cols_of_picks (rises_nodup hv) hdm⟩

set_option maxRecDepth 100000 in
set_option maxHeartbeats 8000000 in
theorem project_any {V R A : Value} {vs ns : List ByteArray} {us : List Value} {rs : List (List Val)} {w : World} (hT : TabAt w V R vs us rs) (hA : StrsAt w A ns) (lf : ns.length ≤ 9223372036854775807) :
    Calls Tryz.prog 17 #[.agg #[V, R], A] w fun e w' => ∃ t, e = .returned (.tuple #[t, .int .i64 (projE vs rs ns)]) ∧ (projE vs rs ns = 0 → OwnT w.heap.size t (madeS ns) (projR vs ns rs) w') ∧ (projE vs rs ns ≠ 0 → t = .agg #[.slice none 0 0, .slice none 0 0]) ∧ Below w.heap.size w w' := by
  have HT : Hid (TabAt w V R vs us rs) := hT
  have HA : Hid (StrsAt w A ns) := hA
  have cK : Hid (∀ W, Below w.heap.size w W → Calls Tryz.prog 4 #[.agg #[V, R]] W fun e w' => e = .returned (.int .i64 (tabChk vs rs)) ∧ Below W.heap.size W w') := fun W hW => (hT.below hW).check
  obtain ⟨p1, k1, p2, k2, rfl, rfl⟩ := hT.forms
  obtain ⟨p3, k3, rfl⟩ := hA.form
  obtain ⟨E, eE⟩ : ∃ E, Hid (tabChk vs rs = E) := ⟨_, rfl⟩
  obtain ⟨n1, en1⟩ : ∃ n, Hid (vs.length = n) := ⟨_, rfl⟩
  obtain ⟨n2, en2⟩ : ∃ n, Hid (us.length = n) := ⟨_, rfl⟩
  obtain ⟨n3, en3⟩ : ∃ n, Hid (ns.length = n) := ⟨_, rfl⟩
  obtain ⟨Q, eQ⟩ : ∃ Q, Hid (projE vs rs ns = Q) := ⟨_, rfl⟩
  have hQ : Hid (Q = if E = 0 then (if (colsO vs [] ns).isSome then 0 else 30) else E) := by
    show Q = _
    rw [← eQ.out, ← eE.out]
    rfl
  rw [eQ.out]
  rw [eE.out] at cK
  rw [en1.out] at HT cK ⊢
  rw [en2.out] at HT cK ⊢
  rw [en3.out] at HA lf ⊢
  clear hT hA
  go_enter Tryz.func17, Tryz.ntmps17
  go_upto_region 1 with fail
  refine wp_world ?_
  intro W0 hW0
  have bx0 : Hid (Box2 W0 w.heap.size (.slice p1 n1 k1) (.slice p2 n2 k2)) := by rw [hW0]; exact Box2.made _ _ _
  have K0 : Below w.heap.size w W0 := by rw [hW0]; go_grown
  have z0 : W0.heap.size = w.heap.size + 2 := by rw [hW0]; simp
  clear hW0
  have A0 := cell_of_heap bx0.out.a 0 rfl
  have A1 := cell_of_heap bx0.out.a 1 rfl
  go_wp2_with fail
  refine (cK.out W0 K0).mono ?_
  rintro e w1 ⟨rfl, hb1⟩
  have bx1 : Hid (Box2 w1 w.heap.size (.slice p1 n1 k1) (.slice p2 n2 k2)) := bx0.out.below hb1
  have K1 : Below w.heap.size w w1 := K0.trans (hb1.mono K0.size)
  have z1 : w.heap.size + 2 ≤ w1.heap.size := by have := hb1.size; omega
  clear A0 A1 bx0 K0 hb1 z0 cK
  have HSET : Hid (∀ W, Below w.heap.size w W → ∀ x y, Below w.heap.size w ((W.setCell ⟨w.heap.size + 1, 0, none⟩ x).setCell ⟨w.heap.size + 1, 1, none⟩ y)) := fun W h x y => by
    have b2 := h.grown (grownBy_setCell W (w.heap.size + 1) 0 x) h.size (fun q hq => by injection hq with hq; omega)
    exact b2.grown (grownBy_setCell _ (w.heap.size + 1) 1 y) b2.size (fun q hq => by injection hq with hq; omega)
  have X0 : Hid (∀ (W : World) (u x : Value), W.cell? ⟨w.heap.size + 1, 0, none⟩ = some u → (W.setCell ⟨w.heap.size + 1, 0, none⟩ x).cell? ⟨w.heap.size + 1, 0, none⟩ = some x) := fun W u x h => set_same h
  have X1 : Hid (∀ (W : World) (u x y : Value), W.cell? ⟨w.heap.size + 1, 1, none⟩ = some u → ((W.setCell ⟨w.heap.size + 1, 0, none⟩ x).setCell ⟨w.heap.size + 1, 1, none⟩ y).cell? ⟨w.heap.size + 1, 1, none⟩ = some y) := fun W u x y h => set_same ((set_other (by simp)).trans h)
  have r0 := cell_of_heap bx1.out.r 0 rfl
  have r1 := cell_of_heap bx1.out.r 1 rfl
  have f0 := frozen_of_heap bx1.out.r 0
  have f1 := frozen_of_heap bx1.out.r 1
  have x0 := X0.out w1 _ (.slice none 0 0) r0
  have x1 := X1.out w1 _ (.slice none 0 0) (.slice none 0 0) r1
  by_cases hE : E = 0
  · subst hE
    have hQ2 : Hid (Q = if (colsO vs [] ns).isSome then 0 else 30) := by
      have h := hQ.out
      rw [if_pos rfl] at h
      exact h
    have ok : OkT vs rs := tabChk_ok eE.out HT.out.fits
    have OK : Hid (OkT vs rs) := ok
    have cO : Hid (Calls Tryz.prog 39 #[.slice p1 n1 k1, .slice p3 n3 k3] w1 fun e w' => ∃ v, e = .returned (.tuple #[v, .bool (colsO vs [] ns).isSome]) ∧ (∀ cs, colsO vs [] ns = some cs → OwnI w1.heap.size v cs w') ∧ Below w1.heap.size w1 w') := colsOf_any _ _ vs ns w1 (HT.out.vars.below K1) (HA.out.below K1) ok.few (by have := en3.out; omega)
    clear hQ ok r0 r1 f0 f1 x0 x1
    have a0 := cell_of_heap bx1.out.a 0 rfl
    go_wp2_with fail
    refine cO.out.mono ?_
    rintro e w2 ⟨vc, rfl, oc, hb2⟩
    have bx2 : Hid (Box2 w2 w.heap.size (.slice p1 n1 k1) (.slice p2 n2 k2)) := bx1.out.below hb2
    have K2 : Below w.heap.size w w2 := K1.trans (hb2.mono K1.size)
    have B2 : Below w1.heap.size w1 w2 := hb2
    clear a0 cO hb2
    cases hcol : colsO vs [] ns with
    | none =>
      have hQ3 : Hid (Q = 30) := by
        have h := hQ2.out
        rw [hcol] at h
        exact h
      have r0 := cell_of_heap bx2.out.r 0 rfl
      have r1 := cell_of_heap bx2.out.r 1 rfl
      have f0 := frozen_of_heap bx2.out.r 0
      have f1 := frozen_of_heap bx2.out.r 1
      have x0 := X0.out w2 _ (.slice none 0 0) r0
      have x1 := X1.out w2 _ (.slice none 0 0) (.slice none 0 0) r1
      clear oc hQ2
      go_wp2
      (try simp only [Exit.inBlock, Exit.then])
      refine bodyPost_ret (by simp [results, Tryz.results17, go_sem, x0, x1]; try rfl) rfl ?_
      exact ⟨_, by rw [hQ3.out], fun h => absurd h (by rw [hQ3.out]; decide), fun _ => rfl, HSET.out _ K2 _ _⟩
    | some cs =>
      have hQ3 : Hid (Q = 0) := by
        have h := hQ2.out
        rw [hcol] at h
        exact h
      have HCOL : Hid (colsO vs [] ns = some cs) := hcol
      obtain ⟨-, hcm, hcn⟩ := colsO_mem hcol
      have hcm := hcm (by simp)
      have hl8 : cs.length ≤ 8 := by
        have h1 := nodup_len vs.length cs (hcn List.nodup_nil) hcm
        have h2 := OK.out.few
        omega
      have oi := oc cs hcol
      have cS : Hid (Calls Tryz.prog 40 #[vc] w2 fun e w' => e = .returned (.tuple #[]) ∧ ∃ ds : List Nat, ds.Perm cs ∧ ds.Pairwise (fun a b => a ≤ b) ∧ OwnI w1.heap.size vc ds w' ∧ w2.grownBy w' vc.ownBlock) := sortI_any vc cs _ w2 oi (by omega)
      have HOW : Hid (∀ q, vc.ownBlock = some q → w1.heap.size ≤ q) := fun q hq => (World.ownsRow.lt oi q hq).1
      obtain ⟨pc, kc, rfl⟩ := oi.ints.form
      generalize cs.length = nc at cS HOW hl8 ⊢
      clear oc oi hcm hcn hcol hQ2
      go_wp2_with fail
      refine cS.out.mono ?_
      rintro e w3 ⟨rfl, ds, hp, hs, oi3, hg3⟩
      have B3 : Below w1.heap.size w1 w3 := B2.grown hg3 B2.size HOW.out
      have K3 : Below w.heap.size w w3 := K1.trans (B3.mono K1.size)
      have bx3 : Hid (Box2 w3 w.heap.size (.slice p1 n1 k1) (.slice p2 n2 k2)) := bx1.out.grown B3 z1
      obtain ⟨hd1, hd2, hd3⟩ := proj_cols (rise_pw OK.out.rise) HCOL.out hp hs
      have hTw := HT.out.below K3
      have cA : Hid (Calls Tryz.prog 31 #[.slice p1 n1 k1, .slice p2 n2 k2, .slice pc nc kc] w3 fun e w' => ∃ t, e = .returned t ∧ OwnT w3.heap.size t (madeS ns) (projR vs ns rs) w' ∧ Below w3.heap.size w3 w') := by
        have hrow : ∀ u ∈ us, ∃ x ∈ rs, RowAt w3 u x := fun u h => by
          obtain ⟨i, hi, e⟩ := List.getElem_of_mem h
          have g : i < rs.length := by have := hTw.rows.1; omega
          exact ⟨rs[i], List.getElem_mem g, e ▸ hTw.rows.2 i hi g⟩
        refine (arrange_any _ _ _ vs us ds w3 hTw.vars hTw.vals oi3.ints hd1 (fun u h => ?_) (by have := OK.out.few; omega) (by rw [hp.length_eq]; have := nodup_len vs.length cs ((colsO_mem HCOL.out).2.2 List.nodup_nil) ((colsO_mem HCOL.out).2.1 (by simp)); have := OK.out.few; omega) hTw.many).mono ?_
        · obtain ⟨x, hx, hr⟩ := hrow u h
          obtain ⟨e, ok⟩ := OK.out.rows x hx
          exact ⟨x, hr, ok, fun c hc => by rw [e]; exact hd1 c hc, by have := OK.out.few; omega⟩
        · rintro e w' ⟨t, L, rfl, h1, h2, h3, h4⟩
          have eL : L = projR vs ns rs := by
            refine madeR_eq (fun r hr => ?_) h2 fun z => ?_
            · obtain ⟨x, hx, rfl⟩ := List.mem_map.1 hr
              exact (OK.out.rows x hx).2.picks _
            · rw [h3 z, List.mem_map, ← hd3]
              constructor
              · rintro ⟨u, hu, rfl⟩
                obtain ⟨x, hx, hr⟩ := hrow u hu
                exact ⟨x, hx, by rw [rwOf_eq hr]⟩
              · rintro ⟨x, hx, rfl⟩
                obtain ⟨i, hi, e⟩ := List.getElem_of_mem hx
                have g : i < us.length := by have := hTw.rows.1; omega
                exact ⟨us[i], List.getElem_mem g, by rw [rwOf_eq (hTw.rows.2 i g hi), e]⟩
          rw [hd2, eL] at h1
          exact ⟨t, rfl, h1, h4⟩
      have z3 : w.heap.size + 2 ≤ w3.heap.size := Nat.le_trans z1 B3.size
      have a0 := cell_of_heap bx3.out.a 0 rfl
      have a1 := cell_of_heap bx3.out.a 1 rfl
      clear cS hp hs oi3 hg3 hd1 hd2 hd3 hTw HOW
      go_wp2_with fail
      refine cA.out.mono ?_
      rintro e w6 ⟨t, rfl, ht, hb6⟩
      have bx6 := bx3.out.below hb6
      have K6 : Below w.heap.size w w6 := K3.trans (hb6.mono K3.size)
      have ht2 := ht
      obtain ⟨ta, tb, zt, rfl, t1, t2, t3⟩ := ht2
      obtain ⟨pta, nta, cta, rfl⟩ := slice_of t1
      obtain ⟨ptb, ntb, ctb, rfl⟩ := slice_of t2
      have HTO : Hid (OwnT w3.heap.size (.agg #[.slice pta nta cta, .slice ptb ntb ctb]) (madeS ns) (projR vs ns rs) w6) := ht
      have r0 := cell_of_heap bx6.r 0 rfl
      have r1 := cell_of_heap bx6.r 1 rfl
      have f0 := frozen_of_heap bx6.r 0
      have f1 := frozen_of_heap bx6.r 1
      have x0 := X0.out w6 _ (.slice pta nta cta) r0
      have x1 := X1.out w6 _ (.slice pta nta cta) (.slice ptb ntb ctb) r1
      clear a0 a1 cA t1 t2 t3 ht hb6 bx6
      go_wp2
      (try simp only [Exit.inBlock, Exit.then])
      refine bodyPost_ret (by simp [results, Tryz.results17, go_sem, x0, x1]; try rfl) rfl ?_
      exact ⟨_, by rw [hQ3.out], fun _ => ((HTO.out.set (by omega)).set (by omega)).base (by omega), fun h => absurd hQ3.out h, HSET.out _ K6 _ _⟩
  · have hE2 : (E == 0) = false := by simpa using hE
    have hQ3 : Hid (Q = E) := by
      have h := hQ.out
      rw [if_neg hE] at h
      exact h
    clear hQ
    go_wp2
    (try simp only [Exit.inBlock, Exit.then])
    refine bodyPost_ret (by simp [results, Tryz.results17, go_sem, x0, x1]; try rfl) rfl ?_
    exact ⟨_, by rw [hQ3.out], fun h => absurd h (by rw [hQ3.out]; exact hE), fun _ => rfl, HSET.out _ K1 _ _⟩

end Go.Proofs.YtiliaincniiijaaGreat

namespace Go.Proofs.YtiliaincniiijaaGreat
open Go.RowKit Go.Shelf Go.Sort
set_option linter.unusedVariables false

theorem lit_cells (w : World) (l : List Int) (i : Nat) (h : i < l.length) : (w.alloc (.cells (l.map (Value.int .i64)).toArray 2)).cell? ⟨w.heap.size, 0 + i, none⟩ = some (.int .i64 l[i]) := by
  rw [Nat.zero_add]
  exact cell_of_heap (heap_alloc w _) i (by simp [h])
theorem xyR_fits : ∀ {l : List Int}, (∀ x ∈ l, 0 ≤ x ∧ x ≤ 1000) → ∀ r ∈ xyR l, ∀ v ∈ r, v.Fits
  | a :: b :: l, h, r, hr, v, hv => by
    rcases List.mem_cons.1 hr with rfl | hr
    · have ha := h a (by simp)
      have hb := h b (by simp)
      rcases List.mem_cons.1 hv with rfl | hv
      · exact ⟨by show _ ≤ a; omega, by show a ≤ _; omega, by show _ ≤ (0 : Int); omega, by show (0 : Int) ≤ _; omega⟩
      · rcases List.mem_cons.1 hv with rfl | hv
        · exact ⟨by show _ ≤ b; omega, by show b ≤ _; omega, by show _ ≤ (0 : Int); omega, by show (0 : Int) ≤ _; omega⟩
        · cases hv
    · exact xyR_fits (fun x hx => h x (List.mem_cons_of_mem _ (List.mem_cons_of_mem _ hx))) r hr v hv
  | [], _, r, hr, _, _ => by cases hr
  | [_], _, r, hr, _, _ => by cases hr
theorem xyR_len : ∀ (l : List Int), (∀ r ∈ xyR l, r.length = 2) ∧ (xyR l).length ≤ l.length
  | a :: b :: l => by
    obtain ⟨h1, h2⟩ := xyR_len l
    refine ⟨fun r hr => ?_, by simp [xyR]; omega⟩
    rcases List.mem_cons.1 hr with rfl | hr
    · rfl
    · exact h1 r hr
  | [] => ⟨(by intro r hr; cases hr), Nat.le_refl _⟩
  | [_] => ⟨(by intro r hr; cases hr), by simp [xyR]⟩
/-- A table of the call's own, as a value: two slices, as long as there are names and rows. -/
theorem own_forms {B : Nat} {t : Value} {vs : List ByteArray} {L : List (List Val)} {w : World} (h : OwnT B t vs L w) : ∃ p c p' c', t = .agg #[.slice p vs.length c, .slice p' L.length c'] := by
  obtain ⟨a, b, us, rfl, h1, h2, h3⟩ := h
  obtain ⟨p, c, rfl, -⟩ := own_form h1
  obtain ⟨p', c', rfl, -⟩ := own_form h2
  exact ⟨p, c, p', c', by rw [h3.1]⟩
theorem own_two {B : Nat} {V R : Value} {vs : List ByteArray} {L : List (List Val)} {w : World} (h : OwnT B (.agg #[V, R]) vs L w) : StrsAt w V vs ∧ TabRows w R L := by
  obtain ⟨a, b, us, e, h1, h2, h3⟩ := h
  injection e with e
  have e1 : #[V, R].toList = #[a, b].toList := by rw [e]
  injection e1 with e2 e3
  injection e3 with e3 _
  subst e2 e3
  exact ⟨h1.strs, tab_of_vals (vals_own h2) h3.rows⟩
theorem own_tab {B : Nat} {V R : Value} {vs : List ByteArray} {L : List (List Val)} {w : World} (h : OwnT B (.agg #[V, R]) vs L w) (f : ∀ r ∈ L, ∀ v ∈ r, v.Fits) (l1 : ∀ r ∈ L, r.length ≤ 9223372036854775807) (l2 : vs.length ≤ 9223372036854775807) (l3 : L.length ≤ 5864062014805) : ∃ us, TabAt w V R vs us L := by
  obtain ⟨V', R', us, e, ht⟩ := h.tab f l1 l2 l3
  injection e with e
  have e1 : #[V, R].toList = #[V', R'].toList := by rw [e]
  injection e1 with e2 e3
  injection e3 with e3 _
  subst e2 e3
  exact ⟨us, ht⟩

def nX : ByteArray := ⟨#[120]⟩
def nY : ByteArray := ⟨#[121]⟩
def nZ : ByteArray := ⟨#[122]⟩
def lA : List Int := [1, 1, 1, 2, 2, 1]
theorem xy_lit (l : List Int) (ll : l.length ≤ 1000) (W : World) : Calls Tryz.prog 14 #[.slice (some ⟨W.heap.size, 0, none⟩) l.length l.length] (W.alloc (.cells (l.map (Value.int .i64)).toArray 2)) fun e w' => ∃ p c p' c', e = .returned (.agg #[.slice p 2 c, .slice p' (xyR l).length c']) ∧ OwnT W.heap.size (.agg #[.slice p 2 c, .slice p' (xyR l).length c']) [nX, nY] (xyR l) w' ∧ Below W.heap.size W w' := by
  refine (xy_any W.heap.size 0 l.length l _ (by simp) (lit_cells W l) ll).mono ?_
  rintro e w' ⟨t, rfl, ht, hb⟩
  obtain ⟨p, c, p', c', rfl⟩ := own_forms ht
  refine ⟨p, c, p', c', rfl, ht.base (by simp), ?_⟩
  exact ((Below.refl W.heap.size W).alloc (Nat.le_refl _) _).trans (hb.mono (by simp))
theorem k_ren : renE [nX, nY] (xyR lA) [nX, nY] [nY, nZ] = 0 := by kernel_rfl
theorem k_col : colsO [nX, nY] [] [nX, nY] = some [0, 1] := by kernel_rfl
theorem k_renT : madeS (renV [nX, nY] [0, 1] [nY, nZ]) = [nY, nZ] ∧ ofRows (renV [nX, nY] [0, 1] [nY, nZ]) (xyR lA) = xyR lA := ⟨by kernel_rfl, by kernel_rfl⟩
theorem k_join : joinE [nX, nY] (xyR lA) [nY, nZ] (xyR lA) = 0 ∧ (madeS (allV [nX, nY] [nY, nZ])).length = 3 ∧ (ofRows (allV [nX, nY] [nY, nZ]) (joinL [nX, nY] [nY, nZ] (xyR lA) (xyR lA))).length = 5 ∧ (joinL [nX, nY] [nY, nZ] (xyR lA) (xyR lA)).length = 5 := ⟨by kernel_rfl, by kernel_rfl, by kernel_rfl, by kernel_rfl⟩
theorem k_anti : bothE [nX, nY] (xyR lA) [nX, nY] (xyR [1, 2]) = 0 ∧ antiL [nX, nY] [nX, nY] (xyR lA) (xyR [1, 2]) = xyR [1, 1, 2, 1] := ⟨by kernel_rfl, by kernel_rfl⟩
theorem k_proj : projE [nX, nY] (xyR lA) [] = 0 ∧ madeS [] = [] ∧ projR [nX, nY] [] (xyR lA) = [[]] := ⟨by kernel_rfl, rfl, by kernel_rfl⟩
theorem k_of : ofChk [nX, nX] [] = 30 := by kernel_rfl
theorem k_same : (decide (([nX, nY] : List ByteArray) = [nX, nY]) && rowsS (xyR [1, 1, 2, 1]) (xyR [1, 1, 2, 1])) = true := by kernel_rfl
theorem k_true : (decide (([] : List ByteArray) = []) && rowsS [[]] [[]]) = true := by kernel_rfl
theorem k_chk : tabChk [nX, nY] (xyR [2, 1, 1, 1]) = 1 := by kernel_rfl
theorem k_has : anyS [⟨1, 2, 0, ⟨#[]⟩⟩, ⟨1, 1, 0, ⟨#[]⟩⟩] (xyR lA) = true := by kernel_rfl

end Go.Proofs.YtiliaincniiijaaGreat
