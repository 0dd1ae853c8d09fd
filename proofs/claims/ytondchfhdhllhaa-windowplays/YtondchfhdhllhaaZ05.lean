/- WindowPlays: the walk. -/
import Derived.Test.YtondchfhdhllhaaZ01
import Derived.ProofKit
import Derived.OpenShut
import Derived.Lib.SmallJoins
import Derived.Deep.Slices
import Derived.SizedLaws
import Derived.Test.YtondchfhdhllhaaZ03
import Derived.Test.YtondchfhdhllhaaZ04

namespace Go.Proofs.Ytondchfhdhllhaa
open Go.Joins Go.ChangeShapes Go.WideShapes Go.ChangeAt Go.RowKit Go.Deep
set_option linter.unusedVariables false
set_option maxRecDepth 100000

/-- A step of a script. -/
structure Stp where
  k : Int
  a : Int
  b : Int
  n : Int
instance : Inhabited Stp := ⟨⟨0, 0, 0, 0⟩⟩
def StpC (W : World) (g o : Nat) (s : Stp) : Prop := W.cell? ⟨g, o, none⟩ = some (.int .i64 s.k) ∧ W.cell? ⟨g, o + 1, none⟩ = some (.int .u64 s.a) ∧ W.cell? ⟨g, o + 2, none⟩ = some (.int .u64 s.b) ∧ W.cell? ⟨g, o + 3, none⟩ = some (.int .i64 s.n) ∧ (0 ≤ s.a ∧ s.a < 18446744073709551616) ∧ (0 ≤ s.b ∧ s.b < 18446744073709551616)
/-- v is a slice of the steps xs. -/
def ScAt (W : World) (v : Value) (xs : List Stp) : Prop := ∃ p c, v = .slice p xs.length c ∧ xs.length ≤ c ∧ xs.length ≤ 9223372036854775807 ∧ (xs = [] ∨ ∃ g off, p = some ⟨g, off, none⟩ ∧ g < W.heap.size ∧ ∀ i (h : i < xs.length), StpC W g (off + i * 4) xs[i])
theorem cellsOp : Try.prog.cellsOf 33 = 4 := by kernel_rfl
theorem bdsU {x : Int} (h : (Lit.int .u64 x).wf = true) : 0 ≤ x ∧ x < 18446744073709551616 := by
  simp [Lit.wf, IntKind.min, IntKind.max, IntKind.signed, IntKind.bits] at h
  omega
theorem cells4 {w : World} {a : Addr} {cs : List Value} (h : w.cells? 0 a 4 = some cs) : ∃ c0 c1 c2 c3, cs = [c0, c1, c2, c3] ∧ w.cell? (a.add 0) = some c0 ∧ w.cell? (a.add 1) = some c1 ∧ w.cell? (a.add 2) = some c2 ∧ w.cell? (a.add 3) = some c3 := by
  unfold World.cells? at h
  rw [if_pos (Nat.zero_le _), show List.range 4 = [0, 1, 2, 3] from rfl] at h
  simp only [List.mapM_cons, List.mapM_nil, Option.pure_def, Option.bind_eq_bind, Option.bind_eq_some_iff, Option.some.injEq] at h
  obtain ⟨c0, h0, r0, ⟨c1, h1, r1, ⟨c2, h2, r2, ⟨c3, h3, r3, rfl, e3⟩, e2⟩, e1⟩, e0⟩ := h
  subst e3 e2 e1 e0
  exact ⟨c0, c1, c2, c3, rfl, h0, h1, h2, h3⟩
theorem open_stp {H : Type} {enc : TypeId × Value → H} {w : World} {sp : Nat → Bool} {held : Bool} {n : Nat} {a : Addr} {cs : List Value} {x : DataW H × List MemPlace} (hc : w.cells? 0 a 4 = some cs) (h : DataW.trod enc Try.prog w 0 sp held n 33 cs = some x) :
    ∃ X : Stp, w.cell? (a.add 0) = some (.int .i64 X.k) ∧ w.cell? (a.add 1) = some (.int .u64 X.a) ∧ w.cell? (a.add 2) = some (.int .u64 X.b) ∧ w.cell? (a.add 3) = some (.int .i64 X.n) ∧ (0 ≤ X.a ∧ X.a < 18446744073709551616) ∧ (0 ≤ X.b ∧ X.b < 18446744073709551616) := by
  obtain ⟨c0, c1, c2, c3, rfl, h0, h1, h2, h3⟩ := cells4 hc
  obtain ⟨y0, y1, y2, y3, m, _, _, t0, t1, t2, t3⟩ := trod_struct4 Try.underlying33 h
  obtain ⟨k, e0, _, w0⟩ := DataW.trod_int Try.underlying3 t0
  obtain ⟨p, e1, _, w1⟩ := DataW.trod_int Try.underlying24 t1
  obtain ⟨q, e2, _, w2⟩ := DataW.trod_int Try.underlying24 t2
  obtain ⟨s, e3, _, w3⟩ := DataW.trod_int Try.underlying3 t3
  have f0 : Try.prog.cellsOf 3 = 1 := by kernel_rfl
  have f1 : Try.prog.cellsOf 24 = 1 := by kernel_rfl
  simp [f0] at e0 e3
  simp [f1] at e1 e2
  subst e0 e1 e2 e3
  exact ⟨⟨k, p, q, s⟩, h0, h1, h2, h3, bdsU w1, bdsU w2⟩
theorem open_ops {H : Type} {enc : TypeId × Value → H} {W : World} {r : Reach} {b0 : Nat} {v : Value} {d : DataW H} {p : List MemPlace} (hv : Value.okWide Try.prog W r b0 34 v) (h : DataW.Trod enc Try.prog W 0 (fun _ => true) true 34 v d p) (hlt : ∀ x ∈ p, x.block < W.heap.size) :
    ∃ xs : List Stp, ScAt W v xs ∧ (xs = [] ∨ ∃ el sp, d = .slice el sp ∧ el.length = xs.length) := by
  obtain ⟨q, len, cap, rfl⟩ := okWide_slice Try.underlying34 hv
  obtain ⟨fuel, hf⟩ := h
  rcases open_slice Try.underlying34 hf with ⟨hcs, hx⟩ | ⟨a, len', cap', m, n, D, Pl, hcs, hb, hl, hm, em, hx, he⟩
  · simp [Value.cells] at hcs
    obtain ⟨rfl, rfl, rfl⟩ := hcs
    exact ⟨[], ⟨none, 0, rfl, by simp, by simp, Or.inl rfl⟩, Or.inl rfl⟩
  · simp [Value.cells] at hcs
    obtain ⟨rfl, rfl, rfl⟩ := hcs
    simp only [if_true] at em
    subst em
    simp only [Prod.mk.injEq] at hx
    have each : ∀ i, i < len → ∃ X : Stp, W.cell? ((a.add (i * 4)).add 0) = some (.int .i64 X.k) ∧ W.cell? ((a.add (i * 4)).add 1) = some (.int .u64 X.a) ∧ W.cell? ((a.add (i * 4)).add 2) = some (.int .u64 X.b) ∧ W.cell? ((a.add (i * 4)).add 3) = some (.int .i64 X.n) ∧ (0 ≤ X.a ∧ X.a < 18446744073709551616) ∧ (0 ≤ X.b ∧ X.b < 18446744073709551616) := fun i hi => by
      obtain ⟨cs, h1, h2⟩ := he i (by omega)
      rw [cellsOp] at h1
      exact open_stp h1 h2
    obtain ⟨f, hfv⟩ := choose_lt each
    refine ⟨(List.range len).map f, ⟨some a, m, by simp, by simp; omega, by simp; have h9 := hm; unfold maxLen at h9; omega, ?_⟩, Or.inr ⟨_, _, hx.1, by simp⟩⟩
    by_cases h0 : len = 0
    · exact Or.inl (by simp [h0])
    · right
      obtain ⟨b, off, spot⟩ := a
      have hspot : spot = none := by simpa [Addr.add] using World.cell?_spot (hfv 0 (by omega)).1
      subst hspot
      refine ⟨b, off, rfl, ?_, ?_⟩
      · refine hlt (.cell b off) ?_
        rw [hx.2, cellsOp]
        refine List.mem_append_left _ ?_
        unfold MemPlace.row
        exact List.mem_map.2 ⟨0, by simp; omega, rfl⟩
      · intro i hi
        have hi' : i < len := by simpa using hi
        obtain ⟨c0, c1, c2, c3, c4, c5⟩ := hfv i hi'
        simp only [add_plain, Nat.add_zero] at c0 c1 c2 c3
        simp only [List.getElem_map, List.getElem_range]
        exact ⟨c0, c1, c2, c3, c4, c5⟩
end Go.Proofs.Ytondchfhdhllhaa

namespace Go.Proofs.Ytondchfhdhllhaa
open Go.RowKit Go.Shelf
set_option linter.unusedVariables false

theorem step_any {B : Nat} {w0 w : World} {bw br : Nat} {nt : Int × Int} {L : List (Int × Int)} (sk sa sb sn : Int) (H : P2 B w0 w bw br nt L L (fun _ => False)) :
    Calls Try.prog 15 #[.pointer (some ⟨bw, 0, none⟩), .pointer (some ⟨br, 0, none⟩), .agg #[.int .i64 sk, .int .u64 sa, .int .u64 sb, .int .i64 sn]] w fun e w' => e = .returned (.bool true) ∧ Hid (∃ L', P2 B w0 w' bw br nt L' L' (fun _ => False)) := by
  by_cases h1 : sk = 1
  · subst h1; exact step_push sa sb sn H
  by_cases h2 : sk = 2
  · subst h2; exact step_pop sa sb sn H
  by_cases h3 : sk = 3
  · subst h3; exact step_all sa sb sn H
  by_cases h4 : sk = 4
  · subst h4; exact step_many sa sb sn H
  by_cases h5 : sk = 5
  · subst h5; exact step_few sa sb sn H
  exact step_other sk sa sb sn h1 h2 h3 h4 h5 H
set_option maxRecDepth 100000 in
set_option maxHeartbeats 16000000 in
theorem winplays_any (nk na nb nn : Int) (v : Value) (xs : List Stp) (w : World) (hv : ScAt w v xs) : Calls Try.prog 4 #[.agg #[.int .i64 nk, .int .u64 na, .int .u64 nb, .int .i64 nn], v] w fun e w' => e = .returned (.bool true) ∧ Below w.heap.size w w' := by
  obtain ⟨p, c, rfl, hc, hlm, HX0⟩ := hv
  have HX : Hid (∀ i (h : i < xs.length), ∃ g off, p = some ⟨g, off, none⟩ ∧ g < w.heap.size ∧ StpC w g (off + i * 4) xs[i]) := fun i h => by
    rcases HX0 with rfl | ⟨g, off, e1, e2, e3⟩
    · simp at h
    · exact ⟨g, off, e1, e2, e3 i h⟩
  clear HX0
  obtain ⟨L, hL⟩ : ∃ L, Hid (xs.length = L) := ⟨_, rfl⟩
  rw [hL.out] at hc hlm ⊢
  go_enter Try.func4, Try.ntmps4
  go_wp2_with fail
  refine (live11_any _).mono ?_
  rintro e w1 ⟨rfl, hb1⟩
  have b1 : w1.heap[w.heap.size]? = some (.cells #[.int .i64 nk, .int .u64 na, .int .u64 nb, .int .i64 nn] 33 (0, 0)) := (hb1.block _ (by simp)).trans (World.alloc_heap_new w _)
  have hw1 : Below w.heap.size w w1 := ((Below.refl _ w).alloc (Nat.le_refl _) _).trans (hb1.mono (by simp))
  have w1c0 : w1.cell? ⟨w.heap.size, 0, none⟩ = some (.int .i64 nk) := (Lib.cell_of_heap b1 _).trans rfl
  have w1c1 : w1.cell? ⟨w.heap.size, 1, none⟩ = some (.int .u64 na) := (Lib.cell_of_heap b1 _).trans rfl
  have w1c2 : w1.cell? ⟨w.heap.size, 2, none⟩ = some (.int .u64 nb) := (Lib.cell_of_heap b1 _).trans rfl
  have w1c3 : w1.cell? ⟨w.heap.size, 3, none⟩ = some (.int .i64 nn) := (Lib.cell_of_heap b1 _).trans rfl
  have l1 : w.heap.size < w1.heap.size := lt_heap b1
  go_wp2_with fail
  refine (thing_any nk na nb nn _).mono ?_
  rintro e w2 ⟨rfl, hb2⟩
  have b2 := (hb2.block _ l1).trans b1
  go_wp2_with fail
  refine (qnewT opT_ref (na, nb) _).mono ?_
  rintro e w3 ⟨bw, rfl, h3⟩
  have l2 : w.heap.size < w2.heap.size := lt_heap b2
  have b3 := (h3.out.2.1.block _ l2).trans b2
  have w3c0 : w3.cell? ⟨w.heap.size, 0, none⟩ = some (.int .i64 nk) := (Lib.cell_of_heap b3 _).trans rfl
  have w3c1 : w3.cell? ⟨w.heap.size, 1, none⟩ = some (.int .u64 na) := (Lib.cell_of_heap b3 _).trans rfl
  have w3c2 : w3.cell? ⟨w.heap.size, 2, none⟩ = some (.int .u64 nb) := (Lib.cell_of_heap b3 _).trans rfl
  have w3c3 : w3.cell? ⟨w.heap.size, 3, none⟩ = some (.int .i64 nn) := (Lib.cell_of_heap b3 _).trans rfl
  have l3 : w.heap.size < w3.heap.size := lt_heap b3
  go_wp2_with fail
  refine (thing_any nk na nb nn _).mono ?_
  rintro e w4 ⟨rfl, hb4⟩
  obtain ⟨br, hbr⟩ : ∃ br, Hid (w4.heap.size = br) := ⟨_, rfl⟩
  have Q0 : Hid (P2 w.heap.size w (w4.alloc (.cells #[.slice none 0 0, .int .u64 na, .int .u64 nb] 39)) bw br (na, nb) [] [] (fun _ => False)) := by
    have q4 := h3.out.2.2.fr opT_ref (Fr.of_below (P := fun _ => False) hb4) (fun _ _ h => h)
    have q5 := q4.fr opT_ref ((Fr.refl (fun _ => False) w4).alloc (.cells #[.slice none 0 0, .int .u64 na, .int .u64 nb] 39)) (fun _ _ h => h)
    have s1 := hw1.size
    have s2 := hb2.size
    have s3 := h3.out.2.1.size
    have s4 := hb4.size
    have s5 := h3.out.1
    have s6 := q4.lt.1 bw rfl
    have hB : Below w.heap.size w w4 := hw1.trans ((hb2.mono s1).trans ((h3.out.2.1.mono (by omega)).trans (hb4.mono (by omega))))
    refine ⟨_, fun k => k = br, q5, ⟨none, 0, fun _ => False, ?_, OffRow.nil _ _ _ _, fun k q => q.elim, rfl, fun k q => ?_, by simp⟩, fun k q => ?_, fun k q => ?_, hB.alloc (by omega) _, by simp; omega, fun k q => q.elim⟩
    · rw [← hbr.out]; exact World.alloc_heap_new w4 _
    · have := hbr.out; simp; omega
    · have := hbr.out; exact ⟨by omega, by omega⟩
    · have := hbr.out; omega
  clear h3 hb2 hb4 b1 b2 b3 hw1 hb1 l1 l2 l3 w1c0 w1c1 w1c2 w1c3 w3c0 w3c1 w3c2 w3c3
  go_wp2_with fail
  rw [hbr.out]
  go_loopw [6, 25] (fun vw vi wr => ∃ (i b : Nat) (T : List (Int × Int)), i ≤ L ∧ vi = .int .i64 (i : Nat) ∧ vw = .pointer (some ⟨b, 0, none⟩) ∧ Hid (P2 w.heap.size w wr b br (na, nb) T T (fun _ => False))) (fun _ vi _ => L - (intOf vi).toNat)
  case atStart => exact ⟨0, bw, [], Nat.zero_le _, rfl, rfl, Q0⟩
  case round =>
    clear Q0
    obtain ⟨i, b, T, hi1, rfl, rfl, Q1⟩ := hrel
    by_cases hlt : i < L
    · obtain ⟨g, off, rfl, hg, hs⟩ := HX.out i (by have := hL.out; omega)
      have hB := Q1.out.below
      have s0 := (hB.cell (p := ⟨g, off + i * 4, none⟩) hg).trans hs.1
      have s1 := (hB.cell (p := ⟨g, off + i * 4 + 1, none⟩) hg).trans hs.2.1
      have s2 := (hB.cell (p := ⟨g, off + i * 4 + 2, none⟩) hg).trans hs.2.2.1
      have s3 := (hB.cell (p := ⟨g, off + i * 4 + 3, none⟩) hg).trans hs.2.2.2.1
      clear hs hB
      generalize xs[i]'(by have := hL.out; omega) = stp at *
      obtain ⟨sk, sa, sb, sn⟩ := stp
      dsimp only at s0 s1 s2 s3
      have hlt1 : (i : Int) < L := by omega
      have hi0 : (0 : Int) ≤ (i : Int) := by omega
      by_cases h6 : sk = 6
      · subst h6
        have QA : Hid (P2 w.heap.size w (wr.alloc (.cells #[.int .i64 6, .int .u64 sa, .int .u64 sb, .int .i64 sn] 33)) b br (na, nb) T T (fun k => k = wr.heap.size)) := (Q1.out.alloc _).only (fun k q => Or.inr q)
        have hbo : (wr.alloc (.cells #[.int .i64 6, .int .u64 sa, .int .u64 sb, .int .i64 sn] 33)).heap[wr.heap.size]? = some (.cells #[.int .i64 6, .int .u64 sa, .int .u64 sb, .int .i64 sn] 33 (0, 0)) := World.alloc_heap_new wr _
        obtain ⟨F, G, h1, h2, h3, h4, h5, h6, h7⟩ := QA.out
        have HH : Hid (_ ∧ _ ∧ _ ∧ _ ∧ _ ∧ _ ∧ _) := ⟨h1, h2, h3, h4, h5, h6, h7⟩
        have HBO : Hid (_) := hbo
        clear h1 h2 h3 h4 h5 h6 h7 hbo QA
        go_wp2_with fail
        refine (cloneQ opT_ref HH.out.1).mono ?_
        rintro e y1 ⟨bc, rfl, hc1⟩
        obtain ⟨c1, c2, Fc, c3, c4⟩ := hc1.out
        have HC : Hid (_ ∧ _ ∧ _ ∧ _) := ⟨c1, c2, c3, c4⟩
        have bo1 : y1.heap[wr.heap.size]? = some (.cells #[.int .i64 6, .int .u64 sa, .int .u64 sb, .int .i64 sn] 33 (0, 0)) := (c2.block _ (lt_heap HBO.out)).trans HBO.out
        have f1 := HH.out.1.fr opT_ref (Fr.of_below (P := fun _ => False) c2) (fun _ _ h => h)
        have HF1 : Hid (_) := f1
        have HBO1 : Hid (_) := bo1
        clear c1 c2 c3 c4 hc1 bo1 f1
        go_wp2_with fail
        refine (stir_any HF1.out).mono ?_
        rintro e y2 ⟨⟨vv, rfl⟩, hs2⟩
        have hl1 : ∀ k, F k → k < (wr.alloc (.cells #[.int .i64 6, .int .u64 sa, .int .u64 sb, .int .i64 sn] 33)).heap.size := HH.out.1.lt.1
        have hl2 : ∀ k, G k → k < (wr.alloc (.cells #[.int .i64 6, .int .u64 sa, .int .u64 sb, .int .i64 sn] 33)).heap.size := HH.out.2.1.lt
        have h7b := HH.out.2.2.2.2.2.2 wr.heap.size rfl
        have bo2 : y2.heap[wr.heap.size]? = some (.cells #[.int .i64 6, .int .u64 sa, .int .u64 sb, .int .i64 sn] 33 (0, 0)) := hs2.out.heap HBO1.out (fun q => h7b.2.1 q)
        have QN2 : Hid (P2 w.heap.size w y2 bc br (na, nb) T T (fun _ => False)) := by
          have r2 := (HH.out.2.1.fr (Fr.of_below (P := fun _ => False) HC.out.2.1) (fun _ _ h => h)).fr hs2.out (fun k a q => (HH.out.2.2.1 k q).1 a)
          have sz := HC.out.2.1.size
          have bl : Below w.heap.size w y2 := (HH.out.2.2.2.2.1.trans (HC.out.2.1.mono HH.out.2.2.2.2.2.1)).trans (hs2.out.below (Nat.le_trans HH.out.2.2.2.2.2.1 sz) (fun k q => (HH.out.2.2.1 k q).2))
          refine ⟨Fc, G, HC.out.2.2.1.fr opT_ref hs2.out (fun k a q => by have := hl1 k q; have := HC.out.2.2.2 k a; omega), r2, fun k a => ⟨fun q => by have := hl2 k q; have := HC.out.2.2.2 k a; omega, Nat.le_trans HH.out.2.2.2.2.2.1 (HC.out.2.2.2 k a)⟩, HH.out.2.2.2.1, bl, Nat.le_trans HH.out.2.2.2.2.2.1 (Nat.le_trans sz hs2.out.size), fun k q => q.elim⟩
        have d0 : y2.cell? ⟨wr.heap.size, 0, none⟩ = some (.int .i64 6) := (Lib.cell_of_heap bo2 _).trans rfl
        have d1 : y2.cell? ⟨wr.heap.size, 1, none⟩ = some (.int .u64 sa) := (Lib.cell_of_heap bo2 _).trans rfl
        have d2 : y2.cell? ⟨wr.heap.size, 2, none⟩ = some (.int .u64 sb) := (Lib.cell_of_heap bo2 _).trans rfl
        have d3 : y2.cell? ⟨wr.heap.size, 3, none⟩ = some (.int .i64 sn) := (Lib.cell_of_heap bo2 _).trans rfl
        clear HH HC HF1 HBO HBO1 bo2 hs2 hl1 hl2 h7b
        go_wp2_with fail
        refine (step_any 6 sa sb sn QN2.out).mono ?_
        rintro e y9 ⟨rfl, Q9⟩
        obtain ⟨L9, Q9⟩ := Q9.out
        have Q9 : Hid (P2 w.heap.size w y9 bc br (na, nb) L9 L9 (fun _ => False)) := Q9
        go_wp2
        exact ⟨⟨i + 1, bc, L9, by omega, by go_num, rfl, Q9⟩, by simp [intOf]; omega⟩
      by_cases h7 : sk = 7
      · subst h7
        have QA : Hid (P2 w.heap.size w (wr.alloc (.cells #[.int .i64 7, .int .u64 sa, .int .u64 sb, .int .i64 sn] 33)) b br (na, nb) T T (fun k => k = wr.heap.size)) := (Q1.out.alloc _).only (fun k q => Or.inr q)
        have hbo : (wr.alloc (.cells #[.int .i64 7, .int .u64 sa, .int .u64 sb, .int .i64 sn] 33)).heap[wr.heap.size]? = some (.cells #[.int .i64 7, .int .u64 sa, .int .u64 sb, .int .i64 sn] 33 (0, 0)) := World.alloc_heap_new wr _
        obtain ⟨F, G, h1, h2, h3, h4, h5, h6, h7⟩ := QA.out
        have HH : Hid (_ ∧ _ ∧ _ ∧ _ ∧ _ ∧ _ ∧ _) := ⟨h1, h2, h3, h4, h5, h6, h7⟩
        have HBO : Hid (_) := hbo
        clear h1 h2 h3 h4 h5 h6 h7 hbo QA
        go_wp2_with fail
        refine (cloneQ opT_ref HH.out.1).mono ?_
        rintro e y1 ⟨bc, rfl, hc1⟩
        obtain ⟨c1, c2, Fc, c3, c4⟩ := hc1.out
        have HC : Hid (_ ∧ _ ∧ _ ∧ _) := ⟨c1, c2, c3, c4⟩
        have bo1 : y1.heap[wr.heap.size]? = some (.cells #[.int .i64 7, .int .u64 sa, .int .u64 sb, .int .i64 sn] 33 (0, 0)) := (c2.block _ (lt_heap HBO.out)).trans HBO.out
        have f1 := HH.out.1.fr opT_ref (Fr.of_below (P := fun _ => False) c2) (fun _ _ h => h)
        have HF1 : Hid (_) := f1
        have HBO1 : Hid (_) := bo1
        clear c1 c2 c3 c4 hc1 bo1 f1
        go_wp2_with fail
        refine (stir_any HC.out.2.2.1).mono ?_
        rintro e y2 ⟨⟨vv, rfl⟩, hs2⟩
        have hl1 : ∀ k, F k → k < (wr.alloc (.cells #[.int .i64 7, .int .u64 sa, .int .u64 sb, .int .i64 sn] 33)).heap.size := HH.out.1.lt.1
        have hl2 : ∀ k, G k → k < (wr.alloc (.cells #[.int .i64 7, .int .u64 sa, .int .u64 sb, .int .i64 sn] 33)).heap.size := HH.out.2.1.lt
        have h7b := HH.out.2.2.2.2.2.2 wr.heap.size rfl
        have bo2 : y2.heap[wr.heap.size]? = some (.cells #[.int .i64 7, .int .u64 sa, .int .u64 sb, .int .i64 sn] 33 (0, 0)) := hs2.out.heap HBO1.out (fun q => by have := HC.out.2.2.2 _ q; have := h7b.1; omega)
        have QN2 : Hid (P2 w.heap.size w y2 b br (na, nb) T T (fun _ => False)) := by
          have r2 := (HH.out.2.1.fr (Fr.of_below (P := fun _ => False) HC.out.2.1) (fun _ _ h => h)).fr hs2.out (fun k a q => by have := hl2 k a; have := HC.out.2.2.2 k q; omega)
          have sz := HC.out.2.1.size
          have bl : Below w.heap.size w y2 := (HH.out.2.2.2.2.1.trans (HC.out.2.1.mono HH.out.2.2.2.2.2.1)).trans (hs2.out.below (Nat.le_trans HH.out.2.2.2.2.2.1 sz) (fun k q => Nat.le_trans HH.out.2.2.2.2.2.1 (HC.out.2.2.2 k q)))
          refine ⟨F, G, PQT.fr opT_ref HF1.out hs2.out (fun k a q => by have := hl1 k a; have := HC.out.2.2.2 k q; omega), r2, HH.out.2.2.1, HH.out.2.2.2.1, bl, Nat.le_trans HH.out.2.2.2.2.2.1 (Nat.le_trans sz hs2.out.size), fun k q => q.elim⟩
        have d0 : y2.cell? ⟨wr.heap.size, 0, none⟩ = some (.int .i64 7) := (Lib.cell_of_heap bo2 _).trans rfl
        have d1 : y2.cell? ⟨wr.heap.size, 1, none⟩ = some (.int .u64 sa) := (Lib.cell_of_heap bo2 _).trans rfl
        have d2 : y2.cell? ⟨wr.heap.size, 2, none⟩ = some (.int .u64 sb) := (Lib.cell_of_heap bo2 _).trans rfl
        have d3 : y2.cell? ⟨wr.heap.size, 3, none⟩ = some (.int .i64 sn) := (Lib.cell_of_heap bo2 _).trans rfl
        clear HH HC HF1 HBO HBO1 bo2 hs2 hl1 hl2 h7b
        go_wp2_with fail
        refine (step_any 7 sa sb sn QN2.out).mono ?_
        rintro e y9 ⟨rfl, Q9⟩
        obtain ⟨L9, Q9⟩ := Q9.out
        have Q9 : Hid (P2 w.heap.size w y9 b br (na, nb) L9 L9 (fun _ => False)) := Q9
        go_wp2
        exact ⟨⟨i + 1, b, L9, by omega, by go_num, rfl, Q9⟩, by simp [intOf]; omega⟩
      have hb6 : (sk == 6) = false := by simpa using h6
      have hb7 : (sk == 7) = false := by simpa using h7
      have QA : Hid (P2 w.heap.size w (wr.alloc (.cells #[.int .i64 sk, .int .u64 sa, .int .u64 sb, .int .i64 sn] 33)) b br (na, nb) T T (fun _ => False)) := (Q1.out.alloc _).only (fun k q => q.elim)
      go_wp2_with fail
      refine (step_any sk sa sb sn QA.out).mono ?_
      rintro e y9 ⟨rfl, Q9⟩
      obtain ⟨L9, Q9⟩ := Q9.out
      have Q9 : Hid (P2 w.heap.size w y9 b br (na, nb) L9 L9 (fun _ => False)) := Q9
      go_wp2
      exact ⟨⟨i + 1, b, L9, by omega, by go_num, rfl, Q9⟩, by simp [intOf]; omega⟩
    · have hlt1 : ¬ (i : Int) < L := by omega
      have HP : Hid (P2 w.heap.size w wr.drew b br (na, nb) T T (fun _ => False)) := Q1.out.later (Below.refl _ _).drew
      clear Q1
      go_wp2
      go_region_with (first | (go_at_call 10; refine (wAll HP.out).mono ?_; rintro e u ⟨rfl, HQ⟩; obtain ⟨pr, cr, hrow⟩ := HQ.out.1.row; have HP' : Hid (P2 _ _ u _ _ _ _ _ _) := HQ.out.1; clear HP HQ; have HP := HP'; clear HP') | (go_at_call 16; refine (rAll HP.out).mono ?_; rintro e u ⟨rfl, HQ⟩; obtain ⟨pr, cr, hrow⟩ := HQ.out.1.row; have HP' : Hid (P2 _ _ u _ _ _ _ _ _) := HQ.out.1; clear HP HQ; have HP := HP'; clear HP') | (go_at_call 17; refine (wLen HP.out).mono ?_; rintro e u ⟨rfl, HQ⟩; obtain ⟨pr, cr, hrow⟩ := HQ.out.1.row; have HP' : Hid (P2 _ _ u _ _ _ _ _ _) := HQ.out.1; clear HP HQ; have HP := HP'; clear HP'))
      all_goals (
        go_wp2
        go_ret
        exact ⟨rfl, HP.out.below⟩)
end Go.Proofs.Ytondchfhdhllhaa
