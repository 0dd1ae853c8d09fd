/- WindowCounts: the walk. -/
import Derived.Test.YtondchfhdhllhaaZ01
import Derived.ProofKit
import Derived.OpenShut
import Derived.Lib.SmallJoins
import Derived.Deep.Slices
import Derived.SizedLaws
import Derived.Test.YtondchfhdhllhaaZ03
import Derived.Test.YtondchfhdhllhaaZ04

namespace Go.Proofs.Ytondchfhdhllhaa
open Go.Joins Go.ChangeShapes Go.WideShapes Go.ChangeAt Go.RowKit Go.Deep
set_option linter.unusedVariables false
set_option maxRecDepth 100000

/-- A step of a script. -/
structure Stp where
  k : Int
  a : Int
  b : Int
  n : Int
instance : Inhabited Stp := ⟨⟨0, 0, 0, 0⟩⟩
def StpC (W : World) (g o : Nat) (s : Stp) : Prop := W.cell? ⟨g, o, none⟩ = some (.int .i64 s.k) ∧ W.cell? ⟨g, o + 1, none⟩ = some (.int .u64 s.a) ∧ W.cell? ⟨g, o + 2, none⟩ = some (.int .u64 s.b) ∧ W.cell? ⟨g, o + 3, none⟩ = some (.int .i64 s.n) ∧ (0 ≤ s.a ∧ s.a < 18446744073709551616) ∧ (0 ≤ s.b ∧ s.b < 18446744073709551616)
/-- v is a slice of the steps xs. -/
def ScAt (W : World) (v : Value) (xs : List Stp) : Prop := ∃ p c, v = .slice p xs.length c ∧ xs.length ≤ c ∧ xs.length ≤ 9223372036854775807 ∧ (xs = [] ∨ ∃ g off, p = some ⟨g, off, none⟩ ∧ g < W.heap.size ∧ ∀ i (h : i < xs.length), StpC W g (off + i * 4) xs[i])
theorem cellsOp : Try.prog.cellsOf 33 = 4 := by kernel_rfl
theorem bytesOp : Try.prog.bytesOf 33 = 32 := by kernel_rfl
theorem bdsU {x : Int} (h : (Lit.int .u64 x).wf = true) : 0 ≤ x ∧ x < 18446744073709551616 := by
  simp [Lit.wf, IntKind.min, IntKind.max, IntKind.signed, IntKind.bits] at h
  omega
theorem cells4 {w : World} {a : Addr} {cs : List Value} (h : w.cells? 0 a 4 = some cs) : ∃ c0 c1 c2 c3, cs = [c0, c1, c2, c3] ∧ w.cell? (a.add 0) = some c0 ∧ w.cell? (a.add 1) = some c1 ∧ w.cell? (a.add 2) = some c2 ∧ w.cell? (a.add 3) = some c3 := by
  unfold World.cells? at h
  rw [if_pos (Nat.zero_le _), show List.range 4 = [0, 1, 2, 3] from rfl] at h
  simp only [List.mapM_cons, List.mapM_nil, Option.pure_def, Option.bind_eq_bind, Option.bind_eq_some_iff, Option.some.injEq] at h
  obtain ⟨c0, h0, r0, ⟨c1, h1, r1, ⟨c2, h2, r2, ⟨c3, h3, r3, rfl, e3⟩, e2⟩, e1⟩, e0⟩ := h
  subst e3 e2 e1 e0
  exact ⟨c0, c1, c2, c3, rfl, h0, h1, h2, h3⟩
theorem open_stp {H : Type} {enc : TypeId × Value → H} {w : World} {sp : Nat → Bool} {held : Bool} {n : Nat} {a : Addr} {cs : List Value} {x : DataW H × List MemPlace} (hc : w.cells? 0 a 4 = some cs) (h : DataW.trod enc Try.prog w 0 sp held n 33 cs = some x) :
    ∃ X : Stp, w.cell? (a.add 0) = some (.int .i64 X.k) ∧ w.cell? (a.add 1) = some (.int .u64 X.a) ∧ w.cell? (a.add 2) = some (.int .u64 X.b) ∧ w.cell? (a.add 3) = some (.int .i64 X.n) ∧ (0 ≤ X.a ∧ X.a < 18446744073709551616) ∧ (0 ≤ X.b ∧ X.b < 18446744073709551616) := by
  obtain ⟨c0, c1, c2, c3, rfl, h0, h1, h2, h3⟩ := cells4 hc
  obtain ⟨y0, y1, y2, y3, m, _, _, t0, t1, t2, t3⟩ := trod_struct4 Try.underlying33 h
  obtain ⟨k, e0, _, w0⟩ := DataW.trod_int Try.underlying3 t0
  obtain ⟨p, e1, _, w1⟩ := DataW.trod_int Try.underlying24 t1
  obtain ⟨q, e2, _, w2⟩ := DataW.trod_int Try.underlying24 t2
  obtain ⟨s, e3, _, w3⟩ := DataW.trod_int Try.underlying3 t3
  have f0 : Try.prog.cellsOf 3 = 1 := by kernel_rfl
  have f1 : Try.prog.cellsOf 24 = 1 := by kernel_rfl
  simp [f0] at e0 e3
  simp [f1] at e1 e2
  subst e0 e1 e2 e3
  exact ⟨⟨k, p, q, s⟩, h0, h1, h2, h3, bdsU w1, bdsU w2⟩
theorem open_ops {H : Type} {enc : TypeId × Value → H} {W : World} {r : Reach} {b0 : Nat} {v : Value} {d : DataW H} {p : List MemPlace} (hv : Value.okWide Try.prog W r b0 34 v) (h : DataW.Trod enc Try.prog W 0 (fun _ => true) true 34 v d p) (hlt : ∀ x ∈ p, x.block < W.heap.size) :
    ∃ xs : List Stp, ScAt W v xs ∧ (xs = [] ∨ ∃ el sp, d = .slice el sp ∧ el.length = xs.length) := by
  obtain ⟨q, len, cap, rfl⟩ := okWide_slice Try.underlying34 hv
  obtain ⟨fuel, hf⟩ := h
  rcases open_slice Try.underlying34 hf with ⟨hcs, hx⟩ | ⟨a, len', cap', m, n, D, Pl, hcs, hb, hl, hm, em, hx, he⟩
  · simp [Value.cells] at hcs
    obtain ⟨rfl, rfl, rfl⟩ := hcs
    exact ⟨[], ⟨none, 0, rfl, by simp, by simp, Or.inl rfl⟩, Or.inl rfl⟩
  · simp [Value.cells] at hcs
    obtain ⟨rfl, rfl, rfl⟩ := hcs
    simp only [if_true] at em
    subst em
    simp only [Prod.mk.injEq] at hx
    have each : ∀ i, i < len → ∃ X : Stp, W.cell? ((a.add (i * 4)).add 0) = some (.int .i64 X.k) ∧ W.cell? ((a.add (i * 4)).add 1) = some (.int .u64 X.a) ∧ W.cell? ((a.add (i * 4)).add 2) = some (.int .u64 X.b) ∧ W.cell? ((a.add (i * 4)).add 3) = some (.int .i64 X.n) ∧ (0 ≤ X.a ∧ X.a < 18446744073709551616) ∧ (0 ≤ X.b ∧ X.b < 18446744073709551616) := fun i hi => by
      obtain ⟨cs, h1, h2⟩ := he i (by omega)
      rw [cellsOp] at h1
      exact open_stp h1 h2
    obtain ⟨f, hfv⟩ := choose_lt each
    refine ⟨(List.range len).map f, ⟨some a, m, by simp, by simp; omega, by simp; have h9 := hm; unfold maxLen at h9; omega, ?_⟩, Or.inr ⟨_, _, hx.1, by simp⟩⟩
    by_cases h0 : len = 0
    · exact Or.inl (by simp [h0])
    · right
      obtain ⟨b, off, spot⟩ := a
      have hspot : spot = none := by simpa [Addr.add] using World.cell?_spot (hfv 0 (by omega)).1
      subst hspot
      refine ⟨b, off, rfl, ?_, ?_⟩
      · refine hlt (.cell b off) ?_
        rw [hx.2, cellsOp]
        refine List.mem_append_left _ ?_
        unfold MemPlace.row
        exact List.mem_map.2 ⟨0, by simp; omega, rfl⟩
      · intro i hi
        have hi' : i < len := by simpa using hi
        obtain ⟨c0, c1, c2, c3, c4, c5⟩ := hfv i hi'
        simp only [add_plain, Nat.add_zero] at c0 c1 c2 c3
        simp only [List.getElem_map, List.getElem_range]
        exact ⟨c0, c1, c2, c3, c4, c5⟩
end Go.Proofs.Ytondchfhdhllhaa

namespace Go.Proofs.Ytondchfhdhllhaa
open Go.RowKit Go.Shelf
set_option linter.unusedVariables false

set_option maxRecDepth 100000 in
set_option maxHeartbeats 16000000 in
theorem wincounts_any (v : Value) (xs : List Stp) (w : World) (hv : ScAt w v xs) (hl : xs.length ≤ 4398046511104) : Calls Try.prog 5 #[v] w fun e w' => e = .returned (.bool true) ∧ Below w.heap.size w w' := by
  obtain ⟨p, c, rfl, hc, hlm, HX0⟩ := hv
  have HX : Hid (∀ i (h : i < xs.length), ∃ g off, p = some ⟨g, off, none⟩ ∧ g < w.heap.size ∧ StpC w g (off + i * 4) xs[i]) := fun i h => by
    rcases HX0 with rfl | ⟨g, off, e1, e2, e3⟩
    · simp at h
    · exact ⟨g, off, e1, e2, e3 i h⟩
  clear HX0 hlm
  obtain ⟨L, hL⟩ : ∃ L, Hid (xs.length = L) := ⟨_, rfl⟩
  rw [hL.out] at hc hl ⊢
  go_enter Try.func5, Try.ntmps5
  go_wp2_with fail
  refine (live11_any _).mono ?_
  rintro e w1 ⟨rfl, hb1⟩
  go_wp2_with fail
  refine (newT_any coF _ _ (3, 9223372036854775808) _).mono ?_
  rintro e w2 ⟨bw, rfl, hbw, hb2, HW⟩
  simp only [World.size_alloc] at hbw hb2
  have Q0 : Hid (CQ w1.heap.size (w1.heap.size + 1) (w1.heap.size + 1 + 1) w.heap.size w w2 bw 0 0 (fun _ => False)) := by
    have g1 : w2.heap[w1.heap.size]? = some (.cells #[.int .i64 0] 3 (0, 0)) := (hb2.block _ (by omega)).trans ((Below.heap_alloc _ _ _ (by simp; omega)).trans ((Below.heap_alloc _ _ _ (by simp)).trans (World.alloc_heap_new w1 _)))
    have g2 : w2.heap[(w1.heap.size + 1)]? = some (.cells #[.bool false] 4 (0, 0)) := (hb2.block _ (by omega)).trans ((Below.heap_alloc _ _ _ (by simp)).trans (second w1 _ _))
    have g3 : w2.heap[(w1.heap.size + 1 + 1)]? = some (.cells #[.int .u64 3, .int .u64 9223372036854775808] 26 (0, 0)) := (hb2.block _ (by omega)).trans (thirdA w1 _ _ _)
    have hs := hb1.size
    refine ⟨[], [], _, rfl, ⟨⟨_, _, _, HW⟩, ⟨g1, g2, g3⟩, (fun x h => by cases h), (fun x h => by cases h), ?_, by simp⟩, ?_, ⟨by omega, by omega, by omega⟩, ?_, ?_, fun k h => h.elim⟩
    · intro k hk g
      subst hk
      rcases g with g | g | g <;> omega
    · intro k hk
      omega
    · exact hb1.trans ((((((Below.refl _ w1).alloc (Nat.le_refl _) _).alloc (by simp) _).alloc (by simp; omega) _).trans (hb2.mono (by omega))).mono hs)
    · have := hb2.size; simp at this; omega
  clear hb2 HW
  go_wp2_with fail
  go_loopw [8, 9, 24] (fun vp va vi wr => ∃ (i P A n y : Nat), i ≤ L ∧ vi = .int .i64 (i : Nat) ∧ vp = .int .i64 (P : Nat) ∧ va = .int .i64 (A : Nat) ∧ n + y ≤ 2 * P + A ∧ P + A ≤ 5000 * i ∧ Hid (CQ w1.heap.size (w1.heap.size + 1) (w1.heap.size + 1 + 1) w.heap.size w wr bw n y (fun _ => False))) (fun _ _ vi _ => L - (intOf vi).toNat)
  case atStart => exact ⟨0, 0, 0, 0, 0, Nat.zero_le _, rfl, rfl, rfl, by omega, by omega, Q0⟩
  case round =>
    obtain ⟨i, P, A, n, y, hi, rfl, rfl, rfl, hny, hPA, Q1⟩ := hrel
    obtain ⟨wo, hwo⟩ : ∃ wo, wo = wr := ⟨_, rfl⟩
    subst hwo
    by_cases hlt : i < L
    · obtain ⟨g, off, rfl, hg, hs⟩ := HX.out i (by have := hL.out; omega)
      have hB := Q1.out.below
      have s0 := (hB.cell (p := ⟨g, off + i * 4, none⟩) hg).trans hs.1
      have s1 := (hB.cell (p := ⟨g, off + i * 4 + 1, none⟩) hg).trans hs.2.1
      have s2 := (hB.cell (p := ⟨g, off + i * 4 + 2, none⟩) hg).trans hs.2.2.1
      have s3 := (hB.cell (p := ⟨g, off + i * 4 + 3, none⟩) hg).trans hs.2.2.2.1
      have hbb := hs.2.2.2.2.2
      clear hs hB
      generalize xs[i]'(by have := hL.out; omega) = st at *
      obtain ⟨sk, sa, sb, sn⟩ := st
      dsimp only at s0 s1 s2 s3 hbb
      have hlt1 : (i : Int) < L := by omega
      have hi0 : (0 : Int) ≤ (i : Int) := by omega
      have hT : P + A ≤ 21990232555520000 := by omega
      by_cases h1 : sk = 1
      · subst h1
        go_wp2_with fail
        have QB : Hid (CQ w1.heap.size (w1.heap.size + 1) (w1.heap.size + 1 + 1) w.heap.size w (wo.alloc (.cells #[.int .i64 1, .int .u64 sa, .int .u64 sb, .int .i64 sn] 33)) bw n y (fun k => k = wo.heap.size)) := Q1.out.alloc _
        have OB : Hid ((wo.alloc (.cells #[.int .i64 1, .int .u64 sa, .int .u64 sb, .int .i64 sn] 33)).heap[wo.heap.size]? = some (.cells #[.int .i64 1, .int .u64 sa, .int .u64 sb, .int .i64 sn] 33 (0, 0))) := World.alloc_heap_new wo _
        go_loopw [8, 9, 13] (fun vp va vj wq => ∃ (j P' A' n' y' : Nat), j ≤ 1 ∧ vj = .int .i64 (j : Nat) ∧ vp = .int .i64 (P' : Nat) ∧ va = .int .i64 (A' : Nat) ∧ n' + y' ≤ 2 * P' + A' ∧ P' + A' ≤ 5000 * i + j ∧ Hid (CQ w1.heap.size (w1.heap.size + 1) (w1.heap.size + 1 + 1) w.heap.size w wq bw n' y' (fun k => k = wo.heap.size)) ∧ Hid (wq.heap[wo.heap.size]? = some (.cells #[.int .i64 1, .int .u64 sa, .int .u64 sb, .int .i64 sn] 33 (0, 0)))) (fun _ _ vj _ => 1 - (intOf vj).toNat)
        case atStart => exact ⟨0, P, A, n, y, Nat.zero_le _, rfl, rfl, rfl, hny, by omega, QB, OB⟩
        case round =>
          clear QB OB
          obtain ⟨j, P', A', n', y', hj, rfl, rfl, rfl, hny', hPA', Q2, OB⟩ := hrel
          by_cases hjt : j < 1
          · have hjt1 : (j : Int) < (1 : Nat) := by omega
            have hjt2 : (j : Int) < 1 := by omega
            have o0 : wr.cell? ⟨wo.heap.size, 0, none⟩ = some (.int .i64 1) := (Lib.cell_of_heap OB.out _).trans rfl
            have o2 : wr.cell? ⟨wo.heap.size, 2, none⟩ = some (.int .u64 sb) := (Lib.cell_of_heap OB.out _).trans rfl
            go_wp2_with fail
            refine (cpush Q2.out (sb % 4611686018427387904) (by omega) (by omega)).mono ?_
            rintro e w5 (⟨rfl, h5⟩ | ⟨rfl, h5⟩)
            · obtain ⟨n5, y5, e5, Q5, F5⟩ := h5.out
              have e6 : n5 + y5 ≤ 2 * (P' + 1) + A' := by omega
              have QQ : Hid (CQ w1.heap.size (w1.heap.size + 1) (w1.heap.size + 1 + 1) w.heap.size w w5 bw n5 y5 (fun k => k = wo.heap.size)) := Q5
              have OB5 : Hid (w5.heap[wo.heap.size]? = some (.cells #[.int .i64 1, .int .u64 sa, .int .u64 sb, .int .i64 sn] 33 (0, 0))) := F5.heap OB.out (fun h => h rfl)
              have hcs : Hid (cw 0 n5 = ((n5 : Nat) : Int)) := cw_small _ (by omega)
              have cb : w5.cell? ⟨w1.heap.size, 0, none⟩ = some (.int .i64 ((n5 : Nat) : Int)) := by
                rw [← hcs.out]
                exact (Lib.cell_of_heap QQ.out.st.1 _).trans rfl
              have CC : Hid (∀ m : Nat, Calls Try.prog 21 #[.pointer (some ⟨bw, 0, none⟩)] (w5.drewN m) fun e w' => e = .returned (.int .i64 ((n5 : Nat) : Int)) ∧ w' = w5.drewN m) := fun m => by
                rw [← hcs.out]
                exact ccalls (QQ.out.later (Below.drewN (Below.refl _ _) m))
              have k1 : (((n5 : Nat) : Int) != ((n5 : Nat) : Int)) = false := by simp
              have k2 : ¬ (2 * (((P' + 1) : Nat) : Int) + ((A' : Nat) : Int) < ((n5 : Nat) : Int)) := by omega
              have k3 : IntKind.i64.wrap (2 * (((P' + 1) : Nat) : Int)) = 2 * (((P' + 1) : Nat) : Int) := by rw [IntKind.wrap_i64]; omega
              have k4 : IntKind.i64.wrap (2 * (((P' + 1) : Nat) : Int) + ((A' : Nat) : Int)) = 2 * (((P' + 1) : Nat) : Int) + ((A' : Nat) : Int) := by rw [IntKind.wrap_i64]; omega
              clear F5 OB Q2
              go_wp2
              go_quiet (first | (go_at_call 21; exact Calls.quiet_of_same (CC.out _)))
              go_wp2
              exact ⟨⟨j + 1, (P' + 1), A', n5, y5, by omega, by go_num, by first | rfl | go_num, by first | rfl | go_num, e6, by omega, QQ.out.later (Below.drewN (Below.refl _ _) _), OB5⟩, by simp [intOf]; omega⟩
            · obtain ⟨Q5, F5⟩ := h5.out
              have e6 : n' + y' ≤ 2 * P' + A' := by omega
              have QQ : Hid (CQ w1.heap.size (w1.heap.size + 1) (w1.heap.size + 1 + 1) w.heap.size w w5 bw n' y' (fun k => k = wo.heap.size)) := Q5
              have OB5 : Hid (w5.heap[wo.heap.size]? = some (.cells #[.int .i64 1, .int .u64 sa, .int .u64 sb, .int .i64 sn] 33 (0, 0))) := F5.heap OB.out (fun h => h rfl)
              have hcs : Hid (cw 0 n' = ((n' : Nat) : Int)) := cw_small _ (by omega)
              have cb : w5.cell? ⟨w1.heap.size, 0, none⟩ = some (.int .i64 ((n' : Nat) : Int)) := by
                rw [← hcs.out]
                exact (Lib.cell_of_heap QQ.out.st.1 _).trans rfl
              have CC : Hid (∀ m : Nat, Calls Try.prog 21 #[.pointer (some ⟨bw, 0, none⟩)] (w5.drewN m) fun e w' => e = .returned (.int .i64 ((n' : Nat) : Int)) ∧ w' = w5.drewN m) := fun m => by
                rw [← hcs.out]
                exact ccalls (QQ.out.later (Below.drewN (Below.refl _ _) m))
              have k1 : (((n' : Nat) : Int) != ((n' : Nat) : Int)) = false := by simp
              have k2 : ¬ (2 * ((P' : Nat) : Int) + ((A' : Nat) : Int) < ((n' : Nat) : Int)) := by omega
              have k3 : IntKind.i64.wrap (2 * ((P' : Nat) : Int)) = 2 * ((P' : Nat) : Int) := by rw [IntKind.wrap_i64]; omega
              have k4 : IntKind.i64.wrap (2 * ((P' : Nat) : Int) + ((A' : Nat) : Int)) = 2 * ((P' : Nat) : Int) + ((A' : Nat) : Int) := by rw [IntKind.wrap_i64]; omega
              clear F5 OB Q2
              go_wp2
              go_quiet (first | (go_at_call 21; exact Calls.quiet_of_same (CC.out _)))
              go_wp2
              exact ⟨⟨j + 1, P', A', n', y', by omega, by go_num, by first | rfl | go_num, by first | rfl | go_num, e6, by omega, QQ.out.later (Below.drewN (Below.refl _ _) _), OB5⟩, by simp [intOf]; omega⟩
          · have hjt1 : ¬ (j : Int) < (1 : Nat) := by omega
            have hjt2 : ¬ (j : Int) < 1 := by omega
            have QE : Hid (CQ w1.heap.size (w1.heap.size + 1) (w1.heap.size + 1 + 1) w.heap.size w wr bw n' y' (fun _ => False)) := Q2.out.only (fun _ h => h.elim)
            clear Q2 OB
            go_wp2
            exact ⟨⟨i + 1, P', A', n', y', by omega, by go_num, rfl, rfl, hny', by omega, QE⟩, by simp [intOf]; omega⟩
      by_cases h2 : sk = 2
      · subst h2
        go_wp2_with fail
        have QB : Hid (CQ w1.heap.size (w1.heap.size + 1) (w1.heap.size + 1 + 1) w.heap.size w (wo.alloc (.cells #[.int .i64 2, .int .u64 sa, .int .u64 sb, .int .i64 sn] 33)) bw n y (fun k => k = wo.heap.size)) := Q1.out.alloc _
        have OB : Hid ((wo.alloc (.cells #[.int .i64 2, .int .u64 sa, .int .u64 sb, .int .i64 sn] 33)).heap[wo.heap.size]? = some (.cells #[.int .i64 2, .int .u64 sa, .int .u64 sb, .int .i64 sn] 33 (0, 0))) := World.alloc_heap_new wo _
        go_loopw [8, 9, 13] (fun vp va vj wq => ∃ (j P' A' n' y' : Nat), j ≤ 1 ∧ vj = .int .i64 (j : Nat) ∧ vp = .int .i64 (P' : Nat) ∧ va = .int .i64 (A' : Nat) ∧ n' + y' ≤ 2 * P' + A' ∧ P' + A' ≤ 5000 * i + j ∧ Hid (CQ w1.heap.size (w1.heap.size + 1) (w1.heap.size + 1 + 1) w.heap.size w wq bw n' y' (fun k => k = wo.heap.size)) ∧ Hid (wq.heap[wo.heap.size]? = some (.cells #[.int .i64 2, .int .u64 sa, .int .u64 sb, .int .i64 sn] 33 (0, 0)))) (fun _ _ vj _ => 1 - (intOf vj).toNat)
        case atStart => exact ⟨0, P, A, n, y, Nat.zero_le _, rfl, rfl, rfl, hny, by omega, QB, OB⟩
        case round =>
          clear QB OB
          obtain ⟨j, P', A', n', y', hj, rfl, rfl, rfl, hny', hPA', Q2, OB⟩ := hrel
          by_cases hjt : j < 1
          · have hjt1 : (j : Int) < (1 : Nat) := by omega
            have hjt2 : (j : Int) < 1 := by omega
            have o0 : wr.cell? ⟨wo.heap.size, 0, none⟩ = some (.int .i64 2) := (Lib.cell_of_heap OB.out _).trans rfl
            have o2 : wr.cell? ⟨wo.heap.size, 2, none⟩ = some (.int .u64 sb) := (Lib.cell_of_heap OB.out _).trans rfl
            go_wp2_with fail
            refine (cpop Q2.out).mono ?_
            rintro e w5 ⟨v5, rfl, h5⟩
            obtain ⟨n5, y5, e5, Q5, F5⟩ := h5.out
            have e6 : n5 + y5 ≤ 2 * P' + A' := by omega
            have QQ : Hid (CQ w1.heap.size (w1.heap.size + 1) (w1.heap.size + 1 + 1) w.heap.size w w5 bw n5 y5 (fun k => k = wo.heap.size)) := Q5
            have OB5 : Hid (w5.heap[wo.heap.size]? = some (.cells #[.int .i64 2, .int .u64 sa, .int .u64 sb, .int .i64 sn] 33 (0, 0))) := F5.heap OB.out (fun h => h rfl)
            have hcs : Hid (cw 0 n5 = ((n5 : Nat) : Int)) := cw_small _ (by omega)
            have cb : w5.cell? ⟨w1.heap.size, 0, none⟩ = some (.int .i64 ((n5 : Nat) : Int)) := by
              rw [← hcs.out]
              exact (Lib.cell_of_heap QQ.out.st.1 _).trans rfl
            have CC : Hid (∀ m : Nat, Calls Try.prog 21 #[.pointer (some ⟨bw, 0, none⟩)] (w5.drewN m) fun e w' => e = .returned (.int .i64 ((n5 : Nat) : Int)) ∧ w' = w5.drewN m) := fun m => by
              rw [← hcs.out]
              exact ccalls (QQ.out.later (Below.drewN (Below.refl _ _) m))
            have k1 : (((n5 : Nat) : Int) != ((n5 : Nat) : Int)) = false := by simp
            have k2 : ¬ (2 * ((P' : Nat) : Int) + ((A' : Nat) : Int) < ((n5 : Nat) : Int)) := by omega
            have k3 : IntKind.i64.wrap (2 * ((P' : Nat) : Int)) = 2 * ((P' : Nat) : Int) := by rw [IntKind.wrap_i64]; omega
            have k4 : IntKind.i64.wrap (2 * ((P' : Nat) : Int) + ((A' : Nat) : Int)) = 2 * ((P' : Nat) : Int) + ((A' : Nat) : Int) := by rw [IntKind.wrap_i64]; omega
            clear F5 OB Q2
            go_wp2
            go_quiet (first | (go_at_call 21; exact Calls.quiet_of_same (CC.out _)))
            go_wp2
            exact ⟨⟨j + 1, P', A', n5, y5, by omega, by go_num, by first | rfl | go_num, by first | rfl | go_num, e6, by omega, QQ.out.later (Below.drewN (Below.refl _ _) _), OB5⟩, by simp [intOf]; omega⟩
          · have hjt1 : ¬ (j : Int) < (1 : Nat) := by omega
            have hjt2 : ¬ (j : Int) < 1 := by omega
            have QE : Hid (CQ w1.heap.size (w1.heap.size + 1) (w1.heap.size + 1 + 1) w.heap.size w wr bw n' y' (fun _ => False)) := Q2.out.only (fun _ h => h.elim)
            clear Q2 OB
            go_wp2
            exact ⟨⟨i + 1, P', A', n', y', by omega, by go_num, rfl, rfl, hny', by omega, QE⟩, by simp [intOf]; omega⟩
      by_cases h3 : sk = 3
      · subst h3
        go_wp2_with fail
        have QB : Hid (CQ w1.heap.size (w1.heap.size + 1) (w1.heap.size + 1 + 1) w.heap.size w (wo.alloc (.cells #[.int .i64 3, .int .u64 sa, .int .u64 sb, .int .i64 sn] 33)) bw n y (fun k => k = wo.heap.size)) := Q1.out.alloc _
        have OB : Hid ((wo.alloc (.cells #[.int .i64 3, .int .u64 sa, .int .u64 sb, .int .i64 sn] 33)).heap[wo.heap.size]? = some (.cells #[.int .i64 3, .int .u64 sa, .int .u64 sb, .int .i64 sn] 33 (0, 0))) := World.alloc_heap_new wo _
        go_loopw [8, 9, 13] (fun vp va vj wq => ∃ (j P' A' n' y' : Nat), j ≤ 1 ∧ vj = .int .i64 (j : Nat) ∧ vp = .int .i64 (P' : Nat) ∧ va = .int .i64 (A' : Nat) ∧ n' + y' ≤ 2 * P' + A' ∧ P' + A' ≤ 5000 * i + j ∧ Hid (CQ w1.heap.size (w1.heap.size + 1) (w1.heap.size + 1 + 1) w.heap.size w wq bw n' y' (fun k => k = wo.heap.size)) ∧ Hid (wq.heap[wo.heap.size]? = some (.cells #[.int .i64 3, .int .u64 sa, .int .u64 sb, .int .i64 sn] 33 (0, 0)))) (fun _ _ vj _ => 1 - (intOf vj).toNat)
        case atStart => exact ⟨0, P, A, n, y, Nat.zero_le _, rfl, rfl, rfl, hny, by omega, QB, OB⟩
        case round =>
          clear QB OB
          obtain ⟨j, P', A', n', y', hj, rfl, rfl, rfl, hny', hPA', Q2, OB⟩ := hrel
          by_cases hjt : j < 1
          · have hjt1 : (j : Int) < (1 : Nat) := by omega
            have hjt2 : (j : Int) < 1 := by omega
            have o0 : wr.cell? ⟨wo.heap.size, 0, none⟩ = some (.int .i64 3) := (Lib.cell_of_heap OB.out _).trans rfl
            have o2 : wr.cell? ⟨wo.heap.size, 2, none⟩ = some (.int .u64 sb) := (Lib.cell_of_heap OB.out _).trans rfl
            go_wp2_with fail
            refine (call Q2.out).mono ?_
            rintro e w5 ⟨v5, rfl, h5⟩
            obtain ⟨n5, y5, e5, Q5, F5⟩ := h5.out
            have e6 : n5 + y5 ≤ 2 * P' + (A' + 1) := by omega
            have QQ : Hid (CQ w1.heap.size (w1.heap.size + 1) (w1.heap.size + 1 + 1) w.heap.size w w5 bw n5 y5 (fun k => k = wo.heap.size)) := Q5
            have OB5 : Hid (w5.heap[wo.heap.size]? = some (.cells #[.int .i64 3, .int .u64 sa, .int .u64 sb, .int .i64 sn] 33 (0, 0))) := F5.heap OB.out (fun h => h rfl)
            have hcs : Hid (cw 0 n5 = ((n5 : Nat) : Int)) := cw_small _ (by omega)
            have cb : w5.cell? ⟨w1.heap.size, 0, none⟩ = some (.int .i64 ((n5 : Nat) : Int)) := by
              rw [← hcs.out]
              exact (Lib.cell_of_heap QQ.out.st.1 _).trans rfl
            have CC : Hid (∀ m : Nat, Calls Try.prog 21 #[.pointer (some ⟨bw, 0, none⟩)] (w5.drewN m) fun e w' => e = .returned (.int .i64 ((n5 : Nat) : Int)) ∧ w' = w5.drewN m) := fun m => by
              rw [← hcs.out]
              exact ccalls (QQ.out.later (Below.drewN (Below.refl _ _) m))
            have k1 : (((n5 : Nat) : Int) != ((n5 : Nat) : Int)) = false := by simp
            have k2 : ¬ (2 * ((P' : Nat) : Int) + (((A' + 1) : Nat) : Int) < ((n5 : Nat) : Int)) := by omega
            have k3 : IntKind.i64.wrap (2 * ((P' : Nat) : Int)) = 2 * ((P' : Nat) : Int) := by rw [IntKind.wrap_i64]; omega
            have k4 : IntKind.i64.wrap (2 * ((P' : Nat) : Int) + (((A' + 1) : Nat) : Int)) = 2 * ((P' : Nat) : Int) + (((A' + 1) : Nat) : Int) := by rw [IntKind.wrap_i64]; omega
            clear F5 OB Q2
            go_wp2
            go_quiet (first | (go_at_call 21; exact Calls.quiet_of_same (CC.out _)))
            go_wp2
            exact ⟨⟨j + 1, P', (A' + 1), n5, y5, by omega, by go_num, by first | rfl | go_num, by first | rfl | go_num, e6, by omega, QQ.out.later (Below.drewN (Below.refl _ _) _), OB5⟩, by simp [intOf]; omega⟩
          · have hjt1 : ¬ (j : Int) < (1 : Nat) := by omega
            have hjt2 : ¬ (j : Int) < 1 := by omega
            have QE : Hid (CQ w1.heap.size (w1.heap.size + 1) (w1.heap.size + 1 + 1) w.heap.size w wr bw n' y' (fun _ => False)) := Q2.out.only (fun _ h => h.elim)
            clear Q2 OB
            go_wp2
            exact ⟨⟨i + 1, P', A', n', y', by omega, by go_num, rfl, rfl, hny', by omega, QE⟩, by simp [intOf]; omega⟩
      by_cases h4 : sk = 4
      · subst h4
        go_wp2_with fail
        refine (limit_any sn _).mono ?_
        rintro e w3 ⟨m, hm, rfl, rfl⟩
        go_wp2_with fail
        have QB : Hid (CQ w1.heap.size (w1.heap.size + 1) (w1.heap.size + 1 + 1) w.heap.size w (wo.alloc (.cells #[.int .i64 4, .int .u64 sa, .int .u64 sb, .int .i64 sn] 33)) bw n y (fun k => k = wo.heap.size)) := Q1.out.alloc _
        have OB : Hid ((wo.alloc (.cells #[.int .i64 4, .int .u64 sa, .int .u64 sb, .int .i64 sn] 33)).heap[wo.heap.size]? = some (.cells #[.int .i64 4, .int .u64 sa, .int .u64 sb, .int .i64 sn] 33 (0, 0))) := World.alloc_heap_new wo _
        go_loopw [8, 9, 13] (fun vp va vj wq => ∃ (j P' A' n' y' : Nat), j ≤ m ∧ vj = .int .i64 (j : Nat) ∧ vp = .int .i64 (P' : Nat) ∧ va = .int .i64 (A' : Nat) ∧ n' + y' ≤ 2 * P' + A' ∧ P' + A' ≤ 5000 * i + j ∧ Hid (CQ w1.heap.size (w1.heap.size + 1) (w1.heap.size + 1 + 1) w.heap.size w wq bw n' y' (fun k => k = wo.heap.size)) ∧ Hid (wq.heap[wo.heap.size]? = some (.cells #[.int .i64 4, .int .u64 sa, .int .u64 sb, .int .i64 sn] 33 (0, 0)))) (fun _ _ vj _ => m - (intOf vj).toNat)
        case atStart => exact ⟨0, P, A, n, y, Nat.zero_le _, rfl, rfl, rfl, hny, by omega, QB, OB⟩
        case round =>
          clear QB OB
          obtain ⟨j, P', A', n', y', hj, rfl, rfl, rfl, hny', hPA', Q2, OB⟩ := hrel
          by_cases hjt : j < m
          · have hjt1 : (j : Int) < (m : Nat) := by omega
            skip
            have o0 : wr.cell? ⟨wo.heap.size, 0, none⟩ = some (.int .i64 4) := (Lib.cell_of_heap OB.out _).trans rfl
            have o2 : wr.cell? ⟨wo.heap.size, 2, none⟩ = some (.int .u64 sb) := (Lib.cell_of_heap OB.out _).trans rfl
            go_wp2_with fail
            refine (cpush Q2.out (sb % 4611686018427387904) (by omega) (by omega)).mono ?_
            rintro e w5 (⟨rfl, h5⟩ | ⟨rfl, h5⟩)
            · obtain ⟨n5, y5, e5, Q5, F5⟩ := h5.out
              have e6 : n5 + y5 ≤ 2 * (P' + 1) + A' := by omega
              have QQ : Hid (CQ w1.heap.size (w1.heap.size + 1) (w1.heap.size + 1 + 1) w.heap.size w w5 bw n5 y5 (fun k => k = wo.heap.size)) := Q5
              have OB5 : Hid (w5.heap[wo.heap.size]? = some (.cells #[.int .i64 4, .int .u64 sa, .int .u64 sb, .int .i64 sn] 33 (0, 0))) := F5.heap OB.out (fun h => h rfl)
              have hcs : Hid (cw 0 n5 = ((n5 : Nat) : Int)) := cw_small _ (by omega)
              have cb : w5.cell? ⟨w1.heap.size, 0, none⟩ = some (.int .i64 ((n5 : Nat) : Int)) := by
                rw [← hcs.out]
                exact (Lib.cell_of_heap QQ.out.st.1 _).trans rfl
              have CC : Hid (∀ m : Nat, Calls Try.prog 21 #[.pointer (some ⟨bw, 0, none⟩)] (w5.drewN m) fun e w' => e = .returned (.int .i64 ((n5 : Nat) : Int)) ∧ w' = w5.drewN m) := fun m => by
                rw [← hcs.out]
                exact ccalls (QQ.out.later (Below.drewN (Below.refl _ _) m))
              have k1 : (((n5 : Nat) : Int) != ((n5 : Nat) : Int)) = false := by simp
              have k2 : ¬ (2 * (((P' + 1) : Nat) : Int) + ((A' : Nat) : Int) < ((n5 : Nat) : Int)) := by omega
              have k3 : IntKind.i64.wrap (2 * (((P' + 1) : Nat) : Int)) = 2 * (((P' + 1) : Nat) : Int) := by rw [IntKind.wrap_i64]; omega
              have k4 : IntKind.i64.wrap (2 * (((P' + 1) : Nat) : Int) + ((A' : Nat) : Int)) = 2 * (((P' + 1) : Nat) : Int) + ((A' : Nat) : Int) := by rw [IntKind.wrap_i64]; omega
              clear F5 OB Q2
              go_wp2
              go_quiet (first | (go_at_call 21; exact Calls.quiet_of_same (CC.out _)))
              go_wp2
              exact ⟨⟨j + 1, (P' + 1), A', n5, y5, by omega, by go_num, by first | rfl | go_num, by first | rfl | go_num, e6, by omega, QQ.out.later (Below.drewN (Below.refl _ _) _), OB5⟩, by simp [intOf]; omega⟩
            · obtain ⟨Q5, F5⟩ := h5.out
              have e6 : n' + y' ≤ 2 * P' + A' := by omega
              have QQ : Hid (CQ w1.heap.size (w1.heap.size + 1) (w1.heap.size + 1 + 1) w.heap.size w w5 bw n' y' (fun k => k = wo.heap.size)) := Q5
              have OB5 : Hid (w5.heap[wo.heap.size]? = some (.cells #[.int .i64 4, .int .u64 sa, .int .u64 sb, .int .i64 sn] 33 (0, 0))) := F5.heap OB.out (fun h => h rfl)
              have hcs : Hid (cw 0 n' = ((n' : Nat) : Int)) := cw_small _ (by omega)
              have cb : w5.cell? ⟨w1.heap.size, 0, none⟩ = some (.int .i64 ((n' : Nat) : Int)) := by
                rw [← hcs.out]
                exact (Lib.cell_of_heap QQ.out.st.1 _).trans rfl
              have CC : Hid (∀ m : Nat, Calls Try.prog 21 #[.pointer (some ⟨bw, 0, none⟩)] (w5.drewN m) fun e w' => e = .returned (.int .i64 ((n' : Nat) : Int)) ∧ w' = w5.drewN m) := fun m => by
                rw [← hcs.out]
                exact ccalls (QQ.out.later (Below.drewN (Below.refl _ _) m))
              have k1 : (((n' : Nat) : Int) != ((n' : Nat) : Int)) = false := by simp
              have k2 : ¬ (2 * ((P' : Nat) : Int) + ((A' : Nat) : Int) < ((n' : Nat) : Int)) := by omega
              have k3 : IntKind.i64.wrap (2 * ((P' : Nat) : Int)) = 2 * ((P' : Nat) : Int) := by rw [IntKind.wrap_i64]; omega
              have k4 : IntKind.i64.wrap (2 * ((P' : Nat) : Int) + ((A' : Nat) : Int)) = 2 * ((P' : Nat) : Int) + ((A' : Nat) : Int) := by rw [IntKind.wrap_i64]; omega
              clear F5 OB Q2
              go_wp2
              go_quiet (first | (go_at_call 21; exact Calls.quiet_of_same (CC.out _)))
              go_wp2
              exact ⟨⟨j + 1, P', A', n', y', by omega, by go_num, by first | rfl | go_num, by first | rfl | go_num, e6, by omega, QQ.out.later (Below.drewN (Below.refl _ _) _), OB5⟩, by simp [intOf]; omega⟩
          · have hjt1 : ¬ (j : Int) < (m : Nat) := by omega
            skip
            have QE : Hid (CQ w1.heap.size (w1.heap.size + 1) (w1.heap.size + 1 + 1) w.heap.size w wr bw n' y' (fun _ => False)) := Q2.out.only (fun _ h => h.elim)
            clear Q2 OB
            go_wp2
            exact ⟨⟨i + 1, P', A', n', y', by omega, by go_num, rfl, rfl, hny', by omega, QE⟩, by simp [intOf]; omega⟩
      by_cases h5 : sk = 5
      · subst h5
        go_wp2_with fail
        refine (limit_any sn _).mono ?_
        rintro e w3 ⟨m, hm, rfl, rfl⟩
        go_wp2_with fail
        have QB : Hid (CQ w1.heap.size (w1.heap.size + 1) (w1.heap.size + 1 + 1) w.heap.size w (wo.alloc (.cells #[.int .i64 5, .int .u64 sa, .int .u64 sb, .int .i64 sn] 33)) bw n y (fun k => k = wo.heap.size)) := Q1.out.alloc _
        have OB : Hid ((wo.alloc (.cells #[.int .i64 5, .int .u64 sa, .int .u64 sb, .int .i64 sn] 33)).heap[wo.heap.size]? = some (.cells #[.int .i64 5, .int .u64 sa, .int .u64 sb, .int .i64 sn] 33 (0, 0))) := World.alloc_heap_new wo _
        go_loopw [8, 9, 13] (fun vp va vj wq => ∃ (j P' A' n' y' : Nat), j ≤ m ∧ vj = .int .i64 (j : Nat) ∧ vp = .int .i64 (P' : Nat) ∧ va = .int .i64 (A' : Nat) ∧ n' + y' ≤ 2 * P' + A' ∧ P' + A' ≤ 5000 * i + j ∧ Hid (CQ w1.heap.size (w1.heap.size + 1) (w1.heap.size + 1 + 1) w.heap.size w wq bw n' y' (fun k => k = wo.heap.size)) ∧ Hid (wq.heap[wo.heap.size]? = some (.cells #[.int .i64 5, .int .u64 sa, .int .u64 sb, .int .i64 sn] 33 (0, 0)))) (fun _ _ vj _ => m - (intOf vj).toNat)
        case atStart => exact ⟨0, P, A, n, y, Nat.zero_le _, rfl, rfl, rfl, hny, by omega, QB, OB⟩
        case round =>
          clear QB OB
          obtain ⟨j, P', A', n', y', hj, rfl, rfl, rfl, hny', hPA', Q2, OB⟩ := hrel
          by_cases hjt : j < m
          · have hjt1 : (j : Int) < (m : Nat) := by omega
            skip
            have o0 : wr.cell? ⟨wo.heap.size, 0, none⟩ = some (.int .i64 5) := (Lib.cell_of_heap OB.out _).trans rfl
            have o2 : wr.cell? ⟨wo.heap.size, 2, none⟩ = some (.int .u64 sb) := (Lib.cell_of_heap OB.out _).trans rfl
            go_wp2_with fail
            refine (cpop Q2.out).mono ?_
            rintro e w5 ⟨v5, rfl, h5⟩
            obtain ⟨n5, y5, e5, Q5, F5⟩ := h5.out
            have e6 : n5 + y5 ≤ 2 * P' + A' := by omega
            have QQ : Hid (CQ w1.heap.size (w1.heap.size + 1) (w1.heap.size + 1 + 1) w.heap.size w w5 bw n5 y5 (fun k => k = wo.heap.size)) := Q5
            have OB5 : Hid (w5.heap[wo.heap.size]? = some (.cells #[.int .i64 5, .int .u64 sa, .int .u64 sb, .int .i64 sn] 33 (0, 0))) := F5.heap OB.out (fun h => h rfl)
            have hcs : Hid (cw 0 n5 = ((n5 : Nat) : Int)) := cw_small _ (by omega)
            have cb : w5.cell? ⟨w1.heap.size, 0, none⟩ = some (.int .i64 ((n5 : Nat) : Int)) := by
              rw [← hcs.out]
              exact (Lib.cell_of_heap QQ.out.st.1 _).trans rfl
            have CC : Hid (∀ m : Nat, Calls Try.prog 21 #[.pointer (some ⟨bw, 0, none⟩)] (w5.drewN m) fun e w' => e = .returned (.int .i64 ((n5 : Nat) : Int)) ∧ w' = w5.drewN m) := fun m => by
              rw [← hcs.out]
              exact ccalls (QQ.out.later (Below.drewN (Below.refl _ _) m))
            have k1 : (((n5 : Nat) : Int) != ((n5 : Nat) : Int)) = false := by simp
            have k2 : ¬ (2 * ((P' : Nat) : Int) + ((A' : Nat) : Int) < ((n5 : Nat) : Int)) := by omega
            have k3 : IntKind.i64.wrap (2 * ((P' : Nat) : Int)) = 2 * ((P' : Nat) : Int) := by rw [IntKind.wrap_i64]; omega
            have k4 : IntKind.i64.wrap (2 * ((P' : Nat) : Int) + ((A' : Nat) : Int)) = 2 * ((P' : Nat) : Int) + ((A' : Nat) : Int) := by rw [IntKind.wrap_i64]; omega
            clear F5 OB Q2
            go_wp2
            go_quiet (first | (go_at_call 21; exact Calls.quiet_of_same (CC.out _)))
            go_wp2
            exact ⟨⟨j + 1, P', A', n5, y5, by omega, by go_num, by first | rfl | go_num, by first | rfl | go_num, e6, by omega, QQ.out.later (Below.drewN (Below.refl _ _) _), OB5⟩, by simp [intOf]; omega⟩
          · have hjt1 : ¬ (j : Int) < (m : Nat) := by omega
            skip
            have QE : Hid (CQ w1.heap.size (w1.heap.size + 1) (w1.heap.size + 1 + 1) w.heap.size w wr bw n' y' (fun _ => False)) := Q2.out.only (fun _ h => h.elim)
            clear Q2 OB
            go_wp2
            exact ⟨⟨i + 1, P', A', n', y', by omega, by go_num, rfl, rfl, hny', by omega, QE⟩, by simp [intOf]; omega⟩
      have hb1 : (sk == 1) = false := by simpa using h1
      have hb2 : (sk == 2) = false := by simpa using h2
      have hb3 : (sk == 3) = false := by simpa using h3
      have hb4 : (sk == 4) = false := by simpa using h4
      have hb5 : (sk == 5) = false := by simpa using h5
      go_wp2_with fail
      have QB : Hid (CQ w1.heap.size (w1.heap.size + 1) (w1.heap.size + 1 + 1) w.heap.size w (wo.alloc (.cells #[.int .i64 sk, .int .u64 sa, .int .u64 sb, .int .i64 sn] 33)) bw n y (fun k => k = wo.heap.size)) := Q1.out.alloc _
      have OB : Hid ((wo.alloc (.cells #[.int .i64 sk, .int .u64 sa, .int .u64 sb, .int .i64 sn] 33)).heap[wo.heap.size]? = some (.cells #[.int .i64 sk, .int .u64 sa, .int .u64 sb, .int .i64 sn] 33 (0, 0))) := World.alloc_heap_new wo _
      go_loopw [8, 9, 13] (fun vp va vj wq => ∃ (j P' A' n' y' : Nat), j ≤ 1 ∧ vj = .int .i64 (j : Nat) ∧ vp = .int .i64 (P' : Nat) ∧ va = .int .i64 (A' : Nat) ∧ n' + y' ≤ 2 * P' + A' ∧ P' + A' ≤ 5000 * i + j ∧ Hid (CQ w1.heap.size (w1.heap.size + 1) (w1.heap.size + 1 + 1) w.heap.size w wq bw n' y' (fun k => k = wo.heap.size)) ∧ Hid (wq.heap[wo.heap.size]? = some (.cells #[.int .i64 sk, .int .u64 sa, .int .u64 sb, .int .i64 sn] 33 (0, 0)))) (fun _ _ vj _ => 1 - (intOf vj).toNat)
      case atStart => exact ⟨0, P, A, n, y, Nat.zero_le _, rfl, rfl, rfl, hny, by omega, QB, OB⟩
      case round =>
        clear QB OB
        obtain ⟨j, P', A', n', y', hj, rfl, rfl, rfl, hny', hPA', Q2, OB⟩ := hrel
        by_cases hjt : j < 1
        · have hjt1 : (j : Int) < (1 : Nat) := by omega
          have hjt2 : (j : Int) < 1 := by omega
          have o0 : wr.cell? ⟨wo.heap.size, 0, none⟩ = some (.int .i64 sk) := (Lib.cell_of_heap OB.out _).trans rfl
          have o2 : wr.cell? ⟨wo.heap.size, 2, none⟩ = some (.int .u64 sb) := (Lib.cell_of_heap OB.out _).trans rfl
          obtain ⟨w5, hw5⟩ : ∃ w5, w5 = wr := ⟨_, rfl⟩
          have F5 : Fr (fun k => ¬ (k = wo.heap.size)) wr w5 := by rw [hw5]; exact Fr.refl _ _
          have QQ : Hid (CQ w1.heap.size (w1.heap.size + 1) (w1.heap.size + 1 + 1) w.heap.size w w5 bw n' y' (fun k => k = wo.heap.size)) := by rw [hw5]; exact Q2.out
          have e6 : n' + y' ≤ 2 * P' + A' := hny'
          rw [← hw5] at o0 o2 ⊢
          clear hw5
          have OB5 : Hid (w5.heap[wo.heap.size]? = some (.cells #[.int .i64 sk, .int .u64 sa, .int .u64 sb, .int .i64 sn] 33 (0, 0))) := F5.heap OB.out (fun h => h rfl)
          have hcs : Hid (cw 0 n' = ((n' : Nat) : Int)) := cw_small _ (by omega)
          have cb : w5.cell? ⟨w1.heap.size, 0, none⟩ = some (.int .i64 ((n' : Nat) : Int)) := by
            rw [← hcs.out]
            exact (Lib.cell_of_heap QQ.out.st.1 _).trans rfl
          have CC : Hid (∀ m : Nat, Calls Try.prog 21 #[.pointer (some ⟨bw, 0, none⟩)] (w5.drewN m) fun e w' => e = .returned (.int .i64 ((n' : Nat) : Int)) ∧ w' = w5.drewN m) := fun m => by
            rw [← hcs.out]
            exact ccalls (QQ.out.later (Below.drewN (Below.refl _ _) m))
          have k1 : (((n' : Nat) : Int) != ((n' : Nat) : Int)) = false := by simp
          have k2 : ¬ (2 * ((P' : Nat) : Int) + ((A' : Nat) : Int) < ((n' : Nat) : Int)) := by omega
          have k3 : IntKind.i64.wrap (2 * ((P' : Nat) : Int)) = 2 * ((P' : Nat) : Int) := by rw [IntKind.wrap_i64]; omega
          have k4 : IntKind.i64.wrap (2 * ((P' : Nat) : Int) + ((A' : Nat) : Int)) = 2 * ((P' : Nat) : Int) + ((A' : Nat) : Int) := by rw [IntKind.wrap_i64]; omega
          clear F5 OB Q2
          go_wp2
          go_quiet (first | (go_at_call 21; exact Calls.quiet_of_same (CC.out _)))
          go_wp2
          exact ⟨⟨j + 1, P', A', n', y', by omega, by go_num, by first | rfl | go_num, by first | rfl | go_num, e6, by omega, QQ.out.later (Below.drewN (Below.refl _ _) _), OB5⟩, by simp [intOf]; omega⟩
        · have hjt1 : ¬ (j : Int) < (1 : Nat) := by omega
          have hjt2 : ¬ (j : Int) < 1 := by omega
          have QE : Hid (CQ w1.heap.size (w1.heap.size + 1) (w1.heap.size + 1 + 1) w.heap.size w wr bw n' y' (fun _ => False)) := Q2.out.only (fun _ h => h.elim)
          clear Q2 OB
          go_wp2
          exact ⟨⟨i + 1, P', A', n', y', by omega, by go_num, rfl, rfl, hny', by omega, QE⟩, by simp [intOf]; omega⟩
    · have hlt1 : ¬ (i : Int) < L := by omega
      have cs := (Lib.cell_of_heap Q1.out.st.2.1 0)
      have cs' : wo.cell? ⟨(w1.heap.size + 1), 0, none⟩ = some (.bool false) := cs.trans rfl
      clear cs
      go_wp2
      go_ret
      exact ⟨rfl, Q1.out.below⟩
end Go.Proofs.Ytondchfhdhllhaa
