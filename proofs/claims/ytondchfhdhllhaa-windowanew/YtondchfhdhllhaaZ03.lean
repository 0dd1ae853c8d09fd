/- WindowAnew: the walk. -/
import Derived.Test.YtondchfhdhllhaaZ01
import Derived.ProofKit
import Derived.OpenShut
import Derived.Lib.SmallJoins
import Derived.Deep.Slices
import Derived.SizedLaws
import Derived.Test.YtondchfhdhllhaaZ02
import Derived.Lib.ConvBytes

namespace Go.Proofs.Ytondchfhdhllhaa
open Go.Joins Go.ChangeShapes Go.WideShapes Go.ChangeAt Go.RowKit Go.Deep
set_option linter.unusedVariables false
set_option maxRecDepth 100000

/-- A step of a script. -/
structure Stp where
  k : Int
  a : Int
  b : Int
  n : Int
instance : Inhabited Stp := ⟨⟨0, 0, 0, 0⟩⟩
def StpC (W : World) (g o : Nat) (s : Stp) : Prop := W.cell? ⟨g, o, none⟩ = some (.int .i64 s.k) ∧ W.cell? ⟨g, o + 1, none⟩ = some (.int .u64 s.a) ∧ W.cell? ⟨g, o + 2, none⟩ = some (.int .u64 s.b) ∧ W.cell? ⟨g, o + 3, none⟩ = some (.int .i64 s.n) ∧ (0 ≤ s.a ∧ s.a < 18446744073709551616) ∧ (0 ≤ s.b ∧ s.b < 18446744073709551616)
/-- v is a slice of the steps xs. -/
def ScAt (W : World) (v : Value) (xs : List Stp) : Prop := ∃ p c, v = .slice p xs.length c ∧ xs.length ≤ c ∧ xs.length ≤ 9223372036854775807 ∧ (xs = [] ∨ ∃ g off, p = some ⟨g, off, none⟩ ∧ g < W.heap.size ∧ ∀ i (h : i < xs.length), StpC W g (off + i * 4) xs[i])
theorem cellsOp : Try.prog.cellsOf 33 = 4 := by kernel_rfl
theorem bdsU {x : Int} (h : (Lit.int .u64 x).wf = true) : 0 ≤ x ∧ x < 18446744073709551616 := by
  simp [Lit.wf, IntKind.min, IntKind.max, IntKind.signed, IntKind.bits] at h
  omega
theorem cells4 {w : World} {a : Addr} {cs : List Value} (h : w.cells? 0 a 4 = some cs) : ∃ c0 c1 c2 c3, cs = [c0, c1, c2, c3] ∧ w.cell? (a.add 0) = some c0 ∧ w.cell? (a.add 1) = some c1 ∧ w.cell? (a.add 2) = some c2 ∧ w.cell? (a.add 3) = some c3 := by
  unfold World.cells? at h
  rw [if_pos (Nat.zero_le _), show List.range 4 = [0, 1, 2, 3] from rfl] at h
  simp only [List.mapM_cons, List.mapM_nil, Option.pure_def, Option.bind_eq_bind, Option.bind_eq_some_iff, Option.some.injEq] at h
  obtain ⟨c0, h0, r0, ⟨c1, h1, r1, ⟨c2, h2, r2, ⟨c3, h3, r3, rfl, e3⟩, e2⟩, e1⟩, e0⟩ := h
  subst e3 e2 e1 e0
  exact ⟨c0, c1, c2, c3, rfl, h0, h1, h2, h3⟩
theorem open_stp {H : Type} {enc : TypeId × Value → H} {w : World} {sp : Nat → Bool} {held : Bool} {n : Nat} {a : Addr} {cs : List Value} {x : DataW H × List MemPlace} (hc : w.cells? 0 a 4 = some cs) (h : DataW.trod enc Try.prog w 0 sp held n 33 cs = some x) :
    ∃ X : Stp, w.cell? (a.add 0) = some (.int .i64 X.k) ∧ w.cell? (a.add 1) = some (.int .u64 X.a) ∧ w.cell? (a.add 2) = some (.int .u64 X.b) ∧ w.cell? (a.add 3) = some (.int .i64 X.n) ∧ (0 ≤ X.a ∧ X.a < 18446744073709551616) ∧ (0 ≤ X.b ∧ X.b < 18446744073709551616) := by
  obtain ⟨c0, c1, c2, c3, rfl, h0, h1, h2, h3⟩ := cells4 hc
  obtain ⟨y0, y1, y2, y3, m, _, _, t0, t1, t2, t3⟩ := trod_struct4 Try.underlying33 h
  obtain ⟨k, e0, _, w0⟩ := DataW.trod_int Try.underlying3 t0
  obtain ⟨p, e1, _, w1⟩ := DataW.trod_int Try.underlying24 t1
  obtain ⟨q, e2, _, w2⟩ := DataW.trod_int Try.underlying24 t2
  obtain ⟨s, e3, _, w3⟩ := DataW.trod_int Try.underlying3 t3
  have f0 : Try.prog.cellsOf 3 = 1 := by kernel_rfl
  have f1 : Try.prog.cellsOf 24 = 1 := by kernel_rfl
  simp [f0] at e0 e3
  simp [f1] at e1 e2
  subst e0 e1 e2 e3
  exact ⟨⟨k, p, q, s⟩, h0, h1, h2, h3, bdsU w1, bdsU w2⟩
theorem open_ops {H : Type} {enc : TypeId × Value → H} {W : World} {r : Reach} {b0 : Nat} {v : Value} {d : DataW H} {p : List MemPlace} (hv : Value.okWide Try.prog W r b0 34 v) (h : DataW.Trod enc Try.prog W 0 (fun _ => true) true 34 v d p) (hlt : ∀ x ∈ p, x.block < W.heap.size) :
    ∃ xs : List Stp, ScAt W v xs ∧ (xs = [] ∨ ∃ el sp, d = .slice el sp ∧ el.length = xs.length) := by
  obtain ⟨q, len, cap, rfl⟩ := okWide_slice Try.underlying34 hv
  obtain ⟨fuel, hf⟩ := h
  rcases open_slice Try.underlying34 hf with ⟨hcs, hx⟩ | ⟨a, len', cap', m, n, D, Pl, hcs, hb, hl, hm, em, hx, he⟩
  · simp [Value.cells] at hcs
    obtain ⟨rfl, rfl, rfl⟩ := hcs
    exact ⟨[], ⟨none, 0, rfl, by simp, by simp, Or.inl rfl⟩, Or.inl rfl⟩
  · simp [Value.cells] at hcs
    obtain ⟨rfl, rfl, rfl⟩ := hcs
    simp only [if_true] at em
    subst em
    simp only [Prod.mk.injEq] at hx
    have each : ∀ i, i < len → ∃ X : Stp, W.cell? ((a.add (i * 4)).add 0) = some (.int .i64 X.k) ∧ W.cell? ((a.add (i * 4)).add 1) = some (.int .u64 X.a) ∧ W.cell? ((a.add (i * 4)).add 2) = some (.int .u64 X.b) ∧ W.cell? ((a.add (i * 4)).add 3) = some (.int .i64 X.n) ∧ (0 ≤ X.a ∧ X.a < 18446744073709551616) ∧ (0 ≤ X.b ∧ X.b < 18446744073709551616) := fun i hi => by
      obtain ⟨cs, h1, h2⟩ := he i (by omega)
      rw [cellsOp] at h1
      exact open_stp h1 h2
    obtain ⟨f, hfv⟩ := choose_lt each
    refine ⟨(List.range len).map f, ⟨some a, m, by simp, by simp; omega, by simp; have h9 := hm; unfold maxLen at h9; omega, ?_⟩, Or.inr ⟨_, _, hx.1, by simp⟩⟩
    by_cases h0 : len = 0
    · exact Or.inl (by simp [h0])
    · right
      obtain ⟨b, off, spot⟩ := a
      have hspot : spot = none := by simpa [Addr.add] using World.cell?_spot (hfv 0 (by omega)).1
      subst hspot
      refine ⟨b, off, rfl, ?_, ?_⟩
      · refine hlt (.cell b off) ?_
        rw [hx.2, cellsOp]
        refine List.mem_append_left _ ?_
        unfold MemPlace.row
        exact List.mem_map.2 ⟨0, by simp; omega, rfl⟩
      · intro i hi
        have hi' : i < len := by simpa using hi
        obtain ⟨c0, c1, c2, c3, c4, c5⟩ := hfv i hi'
        simp only [add_plain, Nat.add_zero] at c0 c1 c2 c3
        simp only [List.getElem_map, List.getElem_range]
        exact ⟨c0, c1, c2, c3, c4, c5⟩
end Go.Proofs.Ytondchfhdhllhaa

namespace Go.Proofs.Ytondchfhdhllhaa
open Go.RowKit Go.Shelf
set_option linter.unusedVariables false

theorem inStr : (Try.prog.info? 9).map (fun i => (i.zero, i.size, i.bytes)) = some (some (.string ByteArray.empty), 1, 16) := by kernel_rfl
set_option maxRecDepth 100000 in
set_option maxHeartbeats 16000000 in
theorem winanew_any (v : Value) (xs : List Stp) (w : World) (hv : ScAt w v xs) : Calls Try.prog 6 #[v] w fun e w' => e = .returned (.bool true) ∧ Below w.heap.size w w' := by
  obtain ⟨p, c, rfl, hc, hlm, HX0⟩ := hv
  have HX : Hid (∀ i (h : i < xs.length), ∃ g off, p = some ⟨g, off, none⟩ ∧ g < w.heap.size ∧ StpC w g (off + i * 4) xs[i]) := fun i h => by
    rcases HX0 with rfl | ⟨g, off, e1, e2, e3⟩
    · simp at h
    · exact ⟨g, off, e1, e2, e3 i h⟩
  clear HX0
  obtain ⟨i0, hi, hz0, hz1, hz2⟩ := info_parts inStr
  obtain ⟨L, hL⟩ : ∃ L, Hid (xs.length = L) := ⟨_, rfl⟩
  rw [hL.out] at hc hlm ⊢
  go_enter Try.func6, Try.ntmps6
  go_wp2_with fail
  refine (live11_any _).mono ?_
  rintro e w1 ⟨rfl, hb1⟩
  go_wp2_with fail
  refine (lnewS (B := w.heap.size) opS_anew1 ⟨#[110, 111, 110, 101]⟩ w _ hb1.size hb1).mono ?_
  rintro e w2 ⟨bw, rfl, h1⟩
  have A0 : Hid (∃ F F5, ASw (.func (.func 23) #[] #[]) ⟨#[110, 111, 110, 101]⟩ w.heap.size w w2 bw [] (.slice none 0 0) [] F F5) := by
    obtain ⟨F, q1, q2, q3, q4⟩ := h1.out.1
    exact ⟨F, fun _ => False, q1, OffRow.nil _ _ _ _, fun k h => h.elim, fun k h => ⟨q2 k h, fun h => h⟩, fun k h => h.elim, q3, q4⟩
  clear h1 hb1
  by_cases h200 : 200 < L
  · have h200' : (200 : Int) < L := by omega
    have h200c : (200 : Int) ≤ c := by omega
    go_wp2_with fail
    go_loopw [5, 28] (fun vt vi wr => ∃ (i : Nat) (T : List ByteArray) (p5 : Option Addr) (c5 : Nat), i ≤ 200 ∧ vi = .int .i64 (i : Nat) ∧ vt = .slice p5 T.length c5 ∧ T.length ≤ i ∧ (∀ x ∈ T, x.size = 1) ∧ Hid (∃ F F5, ASw (.func (.func 23) #[] #[]) ⟨#[110, 111, 110, 101]⟩ w.heap.size w wr bw T (.slice p5 T.length c5) T F F5)) (fun _ vi _ => 200 - (intOf vi).toNat)
    case atStart => exact ⟨0, [], none, 0, Nat.zero_le _, rfl, rfl, by simp, by simp, A0⟩
    case round =>
      obtain ⟨i, T, p5, c5, hi1, rfl, rfl, hTi, hT1, A1⟩ := hrel
      obtain ⟨wo, hwo⟩ : ∃ wo, wo = wr := ⟨_, rfl⟩
      subst hwo
      by_cases hlt : i < 200
      · obtain ⟨g, off, rfl, hg, hs⟩ := HX.out i (by have := hL.out; omega)
        have hB : Below w.heap.size w wo := by obtain ⟨F, F5, h⟩ := A1.out; exact h.2.2.2.2.2.1
        have s0 := (hB.cell (p := ⟨g, off + i * 4, none⟩) hg).trans hs.1
        have s1 := (hB.cell (p := ⟨g, off + i * 4 + 1, none⟩) hg).trans hs.2.1
        have s2 := (hB.cell (p := ⟨g, off + i * 4 + 2, none⟩) hg).trans hs.2.2.1
        have s3 := (hB.cell (p := ⟨g, off + i * 4 + 3, none⟩) hg).trans hs.2.2.2.1
        have haa := hs.2.2.2.2.1
        clear hs hB
        generalize xs[i]'(by have := hL.out; omega) = st at *
        obtain ⟨sk, sa, sb, sn⟩ := st
        dsimp only at s0 s1 s2 s3 haa
        have hlt1 : (i : Int) < (200 : Nat) := by omega
        have hi0 : (0 : Int) ≤ (i : Int) := by omega
        have hlt2 : (i : Int) < 200 := by omega
        obtain ⟨ub, hub⟩ : ∃ ub : UInt8, Hid ((ub.toNat : Int) = 97 + sa % 26) := ⟨UInt8.ofNat (97 + sa % 26).toNat, by
          unfold Hid
          rw [UInt8.toNat_ofNat']
          omega⟩
        have hcv : (convert 53 9 (.slice (some ⟨wo.heap.size + 1, 0, none⟩) 1 1)).run Try.prog ((wo.alloc (.cells #[.int .i64 sk, .int .u64 sa, .int .u64 sb, .int .i64 sn] 33)).alloc (.cells #[.int .u8 (97 + sa % 26)] 5)) = .ok (.string ⟨#[ub]⟩) ((wo.alloc (.cells #[.int .i64 sk, .int .u64 sa, .int .u64 sb, .int .i64 sn] 33)).alloc (.cells #[.int .u8 (97 + sa % 26)] 5)) :=
          run_convert_bytes_back _ 53 9 5 ⟨wo.heap.size + 1, 0, none⟩ 1 [ub] Try.underlying53 Try.underlying5 Try.underlying9 (fun jj hj => by
            obtain rfl : jj = 0 := by simp at hj; omega
            rw [Addr.add_lit, Lib.cell_of_heap (second wo _ _)]
            simp [hub.out])
        go_upto_region 12 with fail
        refine wp_world ?_
        intro W3 hW3
        have hb3 : Below wo.heap.size wo W3 := by rw [hW3]; exact ((Below.refl _ wo).alloc (Nat.le_refl _) _).alloc (by simp) _
        have k0 : W3.cell? ⟨wo.heap.size, 0, none⟩ = some (.int .i64 sk) := by
          rw [hW3]
          refine Lib.cell?_alloc_some _ ?_
          rw [Lib.cell_of_heap (World.alloc_heap_new wo _)]
          rfl
        have A3 : Hid (∃ F F5, ASw (.func (.func 23) #[] #[]) ⟨#[110, 111, 110, 101]⟩ w.heap.size w W3 bw T (.slice p5 T.length c5) T F F5) := by
          obtain ⟨F, F5, h⟩ := A1.out
          exact ⟨F, F5, h.later opS_anew1 hb3⟩
        obtain ⟨X, hX⟩ : ∃ X : ByteArray, Hid ((⟨#[ub]⟩ : ByteArray) = X) := ⟨_, rfl⟩
        have hX1 : X.size = 1 := by rw [← hX.out]; rfl
        rw [hX.out]
        clear hcv hW3 hb3 s0 s1 s2 s3 A1 hX hub
        have hT200 : T.length < 200 := by omega
        by_cases h1 : sk = 1
        · subst h1
          obtain ⟨F, F5, h⟩ := A3.out
          go_wp2_with fail
          refine (qpushS opS_anew1 h.1 X (show X.size ≤ 1 * 1000 by omega) (by omega)).mono ?_
          rintro e w4 ⟨rfl, q4⟩
          obtain ⟨F4, a4, -, -⟩ := asw_of h q4.out
          have a5 : Hid (ASw (.func (.func 23) #[] #[]) ⟨#[110, 111, 110, 101]⟩ w.heap.size w (w4.alloc (.cells #[.string X] 9)) bw (T ++ [X]) (.slice p5 T.length c5) T F4 F5) := a4.later opS_anew1 ((Below.refl _ w4).alloc (Nat.le_refl _) _)
          clear q4 h A3
          have a4h : Hid (_) := a4
          clear a4
          go_wp2_with (at_builtin; refine wpList_append_off _ rfl _ _ 52 rfl 9 i0 (.string ByteArray.empty) 1 16 Try.underlying52 hi hz0 hz1 hz2 rfl (by decide) _ _ _ F5 rfl a5.out.2.1 a5.out.2.2.1 ⟨w4.heap.size, 0, none⟩ [.string X] rfl rfl ?cc1 ?cc2 ?cc3 ?cc4 ?_)
          case cc1 => (intro jj u hj; rw [Addr.add_lit]; (rcases jj with _ | jj) <;> simp at hj <;> subst hj <;> simp (maxDischargeDepth := 12) [go_sem])
          case cc2 => (intro u hu; simp at hu; subst hu; rfl)
          case cc3 => unfold maxLen; omega
          case cc4 => omega
          intro p6 c6 w6 r1 r2
          have A6 : Hid (∃ F F5, ASw (.func (.func 23) #[] #[]) ⟨#[110, 111, 110, 101]⟩ w.heap.size w w6 bw (T ++ [X]) (.slice p6 (T ++ [X]).length c6) (T ++ [X]) F F5) := by
            refine ⟨F4, _, a5.out.grow opS_anew1 ?_ r2⟩
            rw [List.length_append, List.map_append]
            exact r1
          obtain ⟨Tn, hTn⟩ : ∃ Tn, Hid (T ++ [X] = Tn) := ⟨_, rfl⟩
          have hTl : Tn.length = T.length + 1 := by rw [← hTn.out]; simp
          rw [hTn.out] at A6
          have hT2 : ∀ x ∈ Tn, x.size = 1 := by
            rw [← hTn.out]
            intro x hx
            rcases List.mem_append.1 hx with hx | hx
            · exact hT1 x hx
            · simp at hx; subst hx; exact hX1
          rw [← hTl]
          clear r1 r2 a5 a4h hTn
          go_wp2_with fail
          refine (lnewS (B := w6.heap.size) opS_anew2 ⟨#[110, 111, 110, 101]⟩ w6 _ (Nat.le_refl _) (Below.refl _ _)).mono ?_
          rintro e w7 ⟨bw2, rfl, h7⟩
          have Q7 : Hid (LQS catF (.func (.func 26) #[] #[]) ⟨#[110, 111, 110, 101]⟩ catOk w6.heap.size w6 w7 bw2 []) := h7.out.1
          clear h7
          have hC : Hid (∀ j (h : j < Tn.length), ∃ g off, p6 = some ⟨g, off, none⟩ ∧ g < w6.heap.size ∧ w6.cell? ⟨g, off + j, none⟩ = some (.string Tn[j])) := fun j hj => by
            obtain ⟨F, F5, h⟩ := A6.out
            obtain ⟨g, off, e1, e2, e3⟩ := h.2.1.cell j hj
            exact ⟨g, off, e1, h.2.2.1 g e2, e3⟩
          go_wp2_with fail
          go_loopw [86] (fun vj wq => ∃ j : Nat, j ≤ Tn.length ∧ vj = .int .i64 (j : Nat) ∧ Hid (LQS catF (.func (.func 26) #[] #[]) ⟨#[110, 111, 110, 101]⟩ catOk w6.heap.size w6 wq bw2 (Tn.take j))) (fun vj _ => Tn.length - (intOf vj).toNat)
          case atStart => exact ⟨0, Nat.zero_le _, rfl, by rw [List.take_zero]; exact Q7⟩
          case round =>
            obtain ⟨j, hj, rfl, Q8⟩ := hrel
            clear Q7
            by_cases hjt : j < Tn.length
            · obtain ⟨g6, off6, rfl, hg6, hc6⟩ := hC.out j hjt
              have hc6' := (Q8.out.below.cell (p := ⟨g6, off6 + j, none⟩) hg6).trans hc6
              clear hc6
              have hjt1 : (j : Int) < Tn.length := by omega
              have hj0 : (0 : Int) ≤ (j : Int) := by omega
              have hsz : Tn[j].size = 1 := hT2 _ (List.getElem_mem hjt)
              have htk : Hid (Tn.take (j + 1) = Tn.take j ++ [Tn[j]]) := by unfold Hid; rw [List.take_add_one, List.getElem?_eq_getElem hjt]; rfl
              generalize Tn[j] = Y at *
              go_wp2_with fail
              refine (lpushS opS_anew2 Q8.out Y (show Y.size ≤ 1 * 1000 by omega) (by rw [List.length_take]; omega)).mono ?_
              rintro e w8 ⟨rfl, Q9⟩
              have Q9' : Hid (LQS catF (.func (.func 26) #[] #[]) ⟨#[110, 111, 110, 101]⟩ catOk w6.heap.size w6 w8 bw2 (Tn.take (j + 1))) := by rw [htk.out]; exact Q9
              clear Q9 Q8 htk
              go_wp2
              exact ⟨⟨j + 1, by omega, by go_num, Q9'⟩, by simp [intOf]; omega⟩
            · have hjt1 : ¬ (j : Int) < Tn.length := by omega
              have TS0 : Hid (TSw (.func (.func 23) #[] #[]) (.func (.func 26) #[] #[]) ⟨#[110, 111, 110, 101]⟩ w.heap.size w wr bw Tn (.slice p6 Tn.length c6) Tn bw2 Tn) := by
                obtain ⟨F, F5, h⟩ := A6.out
                obtain ⟨F2, u1, u2, u3, u4⟩ := Q8.out
                rw [List.take_of_length_le (by omega)] at u1
                have hl := h.1.lt.1
                exact ⟨F, F5, F2, h.later opS_anew1 u3, u1, fun k q => ⟨fun b => by have := hl k b; have := u2 k q; omega, fun b => by have := h.2.2.1 k b; have := u2 k q; omega, Nat.le_trans h.2.2.2.2.2.2 (u2 k q)⟩⟩
              clear Q8 hC A6
              obtain ⟨wz, hwz⟩ : ∃ wz, wz = wr := ⟨_, rfl⟩
              subst hwz
              obtain ⟨AB, hAB⟩ : ∃ AB, Hid (allB ⟨#[110, 111, 110, 101]⟩ Tn = AB) := ⟨_, rfl⟩
              go_wp2_with fail
              have H1 := tallB opS_anew1 opS_anew2 TS0.out
              rw [hAB.out] at H1
              refine H1.mono ?_
              rintro e y1 ⟨rfl, T1⟩
              clear H1 TS0
              go_wp2_with fail
              have H2 := tallB opS_anew1 opS_anew2 T1.out
              rw [hAB.out] at H2
              refine H2.mono ?_
              rintro e y2 ⟨rfl, T2⟩
              clear H2 T1
              go_wp2_with fail
              have H3 := fallB opS_anew1 opS_anew2 T2.out
              rw [hAB.out] at H3
              refine H3.mono ?_
              rintro e y3 ⟨rfl, T3⟩
              clear H3 T2
              go_wp2_with fail
              refine (tlen opS_anew1 opS_anew2 T3.out).mono ?_
              rintro e y4 ⟨rfl, T4⟩
              clear T3
              go_wp2_with fail
              refine (flen opS_anew1 opS_anew2 T4.out).mono ?_
              rintro e y5 ⟨rfl, T5⟩
              clear T4
              have AE : Hid (∃ F F5, ASw (.func (.func 23) #[] #[]) ⟨#[110, 111, 110, 101]⟩ w.heap.size w y5 bw Tn (.slice p6 Tn.length c6) Tn F F5) := by
                obtain ⟨F, F5, F2, h, -, -⟩ := T5.out
                exact ⟨F, F5, h⟩
              clear T5
              go_wp2
              exact ⟨⟨i + 1, Tn, p6, c6, by omega, by go_num, by first | rfl | rw [hTl], by omega, hT2, AE⟩, by simp [intOf]; omega⟩
        by_cases h2 : sk = 2
        · subst h2
          obtain ⟨F, F5, h⟩ := A3.out
          by_cases hT0 : T = []
          · have hTl0 : (T.length : Int) = 0 := by rw [hT0]; rfl
            have h' : PQS catF (.func (.func 23) #[] #[]) ⟨#[110, 111, 110, 101]⟩ catOk W3 bw [] F := by have := h.1; rw [hT0] at this; exact this
            have HT0 : Hid (T = []) := hT0
            clear hT0
            go_wp2_with fail
            refine (qpop0S opS_anew1 h').mono ?_
            rintro e w6 ⟨rfl, q4⟩
            have q5 : QNS catF (.func (.func 23) #[] #[]) ⟨#[110, 111, 110, 101]⟩ catOk W3 w6 bw T F := by rw [HT0.out]; exact q4.out
            obtain ⟨F4, a4, -, -⟩ := asw_of h q5
            have A6 : Hid (∃ F F5, ASw (.func (.func 23) #[] #[]) ⟨#[110, 111, 110, 101]⟩ w.heap.size w w6 bw T (.slice p5 T.length c5) T F F5) := ⟨_, _, a4⟩
            clear a4 q4 q5 h h' A3
            go_upto_region 24 with fail
            clear hTl0 HT0
            have hT2 := hT1
            go_wp2_with fail
            refine (lnewS (B := w6.heap.size) opS_anew2 ⟨#[110, 111, 110, 101]⟩ w6 _ (Nat.le_refl _) (Below.refl _ _)).mono ?_
            rintro e w7 ⟨bw2, rfl, h7⟩
            have Q7 : Hid (LQS catF (.func (.func 26) #[] #[]) ⟨#[110, 111, 110, 101]⟩ catOk w6.heap.size w6 w7 bw2 []) := h7.out.1
            clear h7
            have hC : Hid (∀ j (h : j < T.length), ∃ g off, p5 = some ⟨g, off, none⟩ ∧ g < w6.heap.size ∧ w6.cell? ⟨g, off + j, none⟩ = some (.string T[j])) := fun j hj => by
              obtain ⟨F, F5, h⟩ := A6.out
              obtain ⟨g, off, e1, e2, e3⟩ := h.2.1.cell j hj
              exact ⟨g, off, e1, h.2.2.1 g e2, e3⟩
            go_wp2_with fail
            go_loopw [86] (fun vj wq => ∃ j : Nat, j ≤ T.length ∧ vj = .int .i64 (j : Nat) ∧ Hid (LQS catF (.func (.func 26) #[] #[]) ⟨#[110, 111, 110, 101]⟩ catOk w6.heap.size w6 wq bw2 (T.take j))) (fun vj _ => T.length - (intOf vj).toNat)
            case atStart => exact ⟨0, Nat.zero_le _, rfl, by rw [List.take_zero]; exact Q7⟩
            case round =>
              obtain ⟨j, hj, rfl, Q8⟩ := hrel
              clear Q7
              by_cases hjt : j < T.length
              · obtain ⟨g6, off6, rfl, hg6, hc6⟩ := hC.out j hjt
                have hc6' := (Q8.out.below.cell (p := ⟨g6, off6 + j, none⟩) hg6).trans hc6
                clear hc6
                have hjt1 : (j : Int) < T.length := by omega
                have hj0 : (0 : Int) ≤ (j : Int) := by omega
                have hsz : T[j].size = 1 := hT2 _ (List.getElem_mem hjt)
                have htk : Hid (T.take (j + 1) = T.take j ++ [T[j]]) := by unfold Hid; rw [List.take_add_one, List.getElem?_eq_getElem hjt]; rfl
                generalize T[j] = Y at *
                go_wp2_with fail
                refine (lpushS opS_anew2 Q8.out Y (show Y.size ≤ 1 * 1000 by omega) (by rw [List.length_take]; omega)).mono ?_
                rintro e w8 ⟨rfl, Q9⟩
                have Q9' : Hid (LQS catF (.func (.func 26) #[] #[]) ⟨#[110, 111, 110, 101]⟩ catOk w6.heap.size w6 w8 bw2 (T.take (j + 1))) := by rw [htk.out]; exact Q9
                clear Q9 Q8 htk
                go_wp2
                exact ⟨⟨j + 1, by omega, by go_num, Q9'⟩, by simp [intOf]; omega⟩
              · have hjt1 : ¬ (j : Int) < T.length := by omega
                have TS0 : Hid (TSw (.func (.func 23) #[] #[]) (.func (.func 26) #[] #[]) ⟨#[110, 111, 110, 101]⟩ w.heap.size w wr bw T (.slice p5 T.length c5) T bw2 T) := by
                  obtain ⟨F, F5, h⟩ := A6.out
                  obtain ⟨F2, u1, u2, u3, u4⟩ := Q8.out
                  rw [List.take_of_length_le (by omega)] at u1
                  have hl := h.1.lt.1
                  exact ⟨F, F5, F2, h.later opS_anew1 u3, u1, fun k q => ⟨fun b => by have := hl k b; have := u2 k q; omega, fun b => by have := h.2.2.1 k b; have := u2 k q; omega, Nat.le_trans h.2.2.2.2.2.2 (u2 k q)⟩⟩
                clear Q8 hC A6
                obtain ⟨wz, hwz⟩ : ∃ wz, wz = wr := ⟨_, rfl⟩
                subst hwz
                obtain ⟨AB, hAB⟩ : ∃ AB, Hid (allB ⟨#[110, 111, 110, 101]⟩ T = AB) := ⟨_, rfl⟩
                go_wp2_with fail
                have H1 := tallB opS_anew1 opS_anew2 TS0.out
                rw [hAB.out] at H1
                refine H1.mono ?_
                rintro e y1 ⟨rfl, T1⟩
                clear H1 TS0
                go_wp2_with fail
                have H2 := tallB opS_anew1 opS_anew2 T1.out
                rw [hAB.out] at H2
                refine H2.mono ?_
                rintro e y2 ⟨rfl, T2⟩
                clear H2 T1
                go_wp2_with fail
                have H3 := fallB opS_anew1 opS_anew2 T2.out
                rw [hAB.out] at H3
                refine H3.mono ?_
                rintro e y3 ⟨rfl, T3⟩
                clear H3 T2
                go_wp2_with fail
                refine (tlen opS_anew1 opS_anew2 T3.out).mono ?_
                rintro e y4 ⟨rfl, T4⟩
                clear T3
                go_wp2_with fail
                refine (flen opS_anew1 opS_anew2 T4.out).mono ?_
                rintro e y5 ⟨rfl, T5⟩
                clear T4
                have AE : Hid (∃ F F5, ASw (.func (.func 23) #[] #[]) ⟨#[110, 111, 110, 101]⟩ w.heap.size w y5 bw T (.slice p5 T.length c5) T F F5) := by
                  obtain ⟨F, F5, F2, h, -, -⟩ := T5.out
                  exact ⟨F, F5, h⟩
                clear T5
                go_wp2
                exact ⟨⟨i + 1, T, p5, c5, by omega, by go_num, by first | rfl | rfl, by omega, hT2, AE⟩, by simp [intOf]; omega⟩
          · obtain ⟨t, T', rfl⟩ : ∃ t T', T = t :: T' := by
              cases T with
              | nil => exact absurd rfl hT0
              | cons t T' => exact ⟨t, T', rfl⟩
            clear hT0
            have hT2 : ∀ x ∈ T', x.size = 1 := fun x hx => hT1 x (by simp [hx])
            simp only [List.length_cons] at *
            go_wp2_with fail
            refine (qpopS opS_anew1 h.1).mono ?_
            rintro e w6 ⟨rfl, q4⟩
            obtain ⟨F4, a4, -, -⟩ := asw_of h q4.out
            obtain ⟨g5, off5, rfl, hc51, hc52, hF5, hce, hO5, hO51⟩ := OffRow.one (A := [.string t]) (xs := T'.map Value.string) (n := T'.length) (by simpa using a4.2.1) rfl
            have y0 : w6.cell? ⟨g5, off5, none⟩ = some (.string t) := hce 0 _ rfl
            have a4h : Hid (_) := a4
            have hO5h : Hid (_) := hO5
            have hO51h : Hid (_) := hO51
            clear a4 hO5 hO51 hce q4 h A3 hT1
            have n1 : (0 : Int) < (T'.length : Int) + 1 := by omega
            have n2 : ¬ ((T'.length : Int) + 1 < 1) := by omega
            have n3 : (1 : Int) ≤ (c5 : Int) := by omega
            by_cases hc5 : c5 = 1
            · subst hc5
              obtain ⟨O6, hn0⟩ := hO51h.out rfl
              have hT0 : Hid (T' = []) := List.eq_nil_of_length_eq_zero hn0
              clear hO5h hO51h
              have A6 : Hid (∃ F F5, ASw (.func (.func 23) #[] #[]) ⟨#[110, 111, 110, 101]⟩ w.heap.size w w6 bw T' (.slice (some ⟨g5, off5, none⟩) T'.length 0) T' F F5) := ⟨_, _, ASw.cut a4h.out (by rw [hn0]; exact O6)⟩
              have HN0 : Hid (T'.length = 0) := hn0
              clear hn0 O6 hT0
              go_upto_region 24 with fail
              go_wp2_with fail
              refine (lnewS (B := w6.heap.size) opS_anew2 ⟨#[110, 111, 110, 101]⟩ w6 _ (Nat.le_refl _) (Below.refl _ _)).mono ?_
              rintro e w7 ⟨bw2, rfl, h7⟩
              have Q7 : Hid (LQS catF (.func (.func 26) #[] #[]) ⟨#[110, 111, 110, 101]⟩ catOk w6.heap.size w6 w7 bw2 []) := h7.out.1
              clear h7
              go_wp2_with fail
              go_loopw [86] (fun vj wq => ∃ j : Nat, j ≤ T'.length ∧ vj = .int .i64 (j : Nat) ∧ Hid (LQS catF (.func (.func 26) #[] #[]) ⟨#[110, 111, 110, 101]⟩ catOk w6.heap.size w6 wq bw2 (T'.take j))) (fun vj _ => T'.length - (intOf vj).toNat)
              case atStart => exact ⟨0, Nat.zero_le _, rfl, by rw [List.take_zero]; exact Q7⟩
              case round =>
                obtain ⟨j, hj, rfl, Q8⟩ := hrel
                clear Q7
                by_cases hjt : j < T'.length
                · exact absurd hjt (by have := HN0.out; omega)
                · have hjt1 : ¬ (j : Int) < 0 := by omega
                  have TS0 : Hid (TSw (.func (.func 23) #[] #[]) (.func (.func 26) #[] #[]) ⟨#[110, 111, 110, 101]⟩ w.heap.size w wr bw T' (.slice (some ⟨g5, off5, none⟩) T'.length 0) T' bw2 T') := by
                    obtain ⟨F, F5, h⟩ := A6.out
                    obtain ⟨F2, u1, u2, u3, u4⟩ := Q8.out
                    rw [List.take_of_length_le (by omega)] at u1
                    have hl := h.1.lt.1
                    exact ⟨F, F5, F2, h.later opS_anew1 u3, u1, fun k q => ⟨fun b => by have := hl k b; have := u2 k q; omega, fun b => by have := h.2.2.1 k b; have := u2 k q; omega, Nat.le_trans h.2.2.2.2.2.2 (u2 k q)⟩⟩
                  clear Q8 A6
                  obtain ⟨wz, hwz⟩ : ∃ wz, wz = wr := ⟨_, rfl⟩
                  subst hwz
                  obtain ⟨AB, hAB⟩ : ∃ AB, Hid (allB ⟨#[110, 111, 110, 101]⟩ T' = AB) := ⟨_, rfl⟩
                  go_wp2_with fail
                  have H1 := tallB opS_anew1 opS_anew2 TS0.out
                  rw [hAB.out] at H1
                  refine H1.mono ?_
                  rintro e y1 ⟨rfl, T1⟩
                  clear H1 TS0
                  go_wp2_with fail
                  have H2 := tallB opS_anew1 opS_anew2 T1.out
                  rw [hAB.out] at H2
                  refine H2.mono ?_
                  rintro e y2 ⟨rfl, T2⟩
                  clear H2 T1
                  go_wp2_with fail
                  have H3 := fallB opS_anew1 opS_anew2 T2.out
                  rw [hAB.out] at H3
                  refine H3.mono ?_
                  rintro e y3 ⟨rfl, T3⟩
                  clear H3 T2
                  go_wp2_with fail
                  refine (tlen opS_anew1 opS_anew2 T3.out).mono ?_
                  rintro e y4 ⟨rfl, T4⟩
                  clear T3
                  have hn0 := HN0.out
                  go_wp2_with fail
                  refine (flen opS_anew1 opS_anew2 T4.out).mono ?_
                  rintro e y5 ⟨rfl, T5⟩
                  clear T4
                  have AE : Hid (∃ F F5, ASw (.func (.func 23) #[] #[]) ⟨#[110, 111, 110, 101]⟩ w.heap.size w y5 bw T' (.slice (some ⟨g5, off5, none⟩) T'.length 0) T' F F5) := by
                    obtain ⟨F, F5, F2, h, -, -⟩ := T5.out
                    exact ⟨F, F5, h⟩
                  clear T5
                  go_wp2
                  exact ⟨⟨i + 1, T', (some ⟨g5, off5, none⟩), 0, by omega, by go_num, by rw [HN0.out], by omega, hT2, AE⟩, by simp [intOf]; omega⟩
            · have n4 : (1 : Int) < (c5 : Int) := by omega
              clear hO51h
              go_upto_region 24 with fail
              have A6 : Hid (∃ F F5, ASw (.func (.func 23) #[] #[]) ⟨#[110, 111, 110, 101]⟩ w.heap.size w w6 bw T' (.slice (some ⟨g5, off5 + 1, none⟩) T'.length (c5 - 1)) T' F F5) := ⟨_, _, ASw.cut a4h.out hO5h.out⟩
              clear hO5h a4h
              obtain ⟨pn, hpn⟩ : ∃ pn, Hid (some (⟨g5, off5 + 1, none⟩ : Addr) = pn) := ⟨_, rfl⟩
              obtain ⟨cn, hcn⟩ : ∃ cn, Hid (c5 - 1 = cn) := ⟨_, rfl⟩
              rw [hpn.out, hcn.out] at A6 ⊢
              clear hpn hcn
              go_wp2_with fail
              refine (lnewS (B := w6.heap.size) opS_anew2 ⟨#[110, 111, 110, 101]⟩ w6 _ (Nat.le_refl _) (Below.refl _ _)).mono ?_
              rintro e w7 ⟨bw2, rfl, h7⟩
              have Q7 : Hid (LQS catF (.func (.func 26) #[] #[]) ⟨#[110, 111, 110, 101]⟩ catOk w6.heap.size w6 w7 bw2 []) := h7.out.1
              clear h7
              have hC : Hid (∀ j (h : j < T'.length), ∃ g off, pn = some ⟨g, off, none⟩ ∧ g < w6.heap.size ∧ w6.cell? ⟨g, off + j, none⟩ = some (.string T'[j])) := fun j hj => by
                obtain ⟨F, F5, h⟩ := A6.out
                obtain ⟨g, off, e1, e2, e3⟩ := h.2.1.cell j hj
                exact ⟨g, off, e1, h.2.2.1 g e2, e3⟩
              go_wp2_with fail
              go_loopw [86] (fun vj wq => ∃ j : Nat, j ≤ T'.length ∧ vj = .int .i64 (j : Nat) ∧ Hid (LQS catF (.func (.func 26) #[] #[]) ⟨#[110, 111, 110, 101]⟩ catOk w6.heap.size w6 wq bw2 (T'.take j))) (fun vj _ => T'.length - (intOf vj).toNat)
              case atStart => exact ⟨0, Nat.zero_le _, rfl, by rw [List.take_zero]; exact Q7⟩
              case round =>
                obtain ⟨j, hj, rfl, Q8⟩ := hrel
                clear Q7
                by_cases hjt : j < T'.length
                · obtain ⟨g6, off6, rfl, hg6, hc6⟩ := hC.out j hjt
                  have hc6' := (Q8.out.below.cell (p := ⟨g6, off6 + j, none⟩) hg6).trans hc6
                  clear hc6
                  have hjt1 : (j : Int) < T'.length := by omega
                  have hj0 : (0 : Int) ≤ (j : Int) := by omega
                  have hsz : T'[j].size = 1 := hT2 _ (List.getElem_mem hjt)
                  have htk : Hid (T'.take (j + 1) = T'.take j ++ [T'[j]]) := by unfold Hid; rw [List.take_add_one, List.getElem?_eq_getElem hjt]; rfl
                  generalize T'[j] = Y at *
                  go_wp2_with fail
                  refine (lpushS opS_anew2 Q8.out Y (show Y.size ≤ 1 * 1000 by omega) (by rw [List.length_take]; omega)).mono ?_
                  rintro e w8 ⟨rfl, Q9⟩
                  have Q9' : Hid (LQS catF (.func (.func 26) #[] #[]) ⟨#[110, 111, 110, 101]⟩ catOk w6.heap.size w6 w8 bw2 (T'.take (j + 1))) := by rw [htk.out]; exact Q9
                  clear Q9 Q8 htk
                  go_wp2
                  exact ⟨⟨j + 1, by omega, by go_num, Q9'⟩, by simp [intOf]; omega⟩
                · have hjt1 : ¬ (j : Int) < T'.length := by omega
                  have TS0 : Hid (TSw (.func (.func 23) #[] #[]) (.func (.func 26) #[] #[]) ⟨#[110, 111, 110, 101]⟩ w.heap.size w wr bw T' (.slice pn T'.length cn) T' bw2 T') := by
                    obtain ⟨F, F5, h⟩ := A6.out
                    obtain ⟨F2, u1, u2, u3, u4⟩ := Q8.out
                    rw [List.take_of_length_le (by omega)] at u1
                    have hl := h.1.lt.1
                    exact ⟨F, F5, F2, h.later opS_anew1 u3, u1, fun k q => ⟨fun b => by have := hl k b; have := u2 k q; omega, fun b => by have := h.2.2.1 k b; have := u2 k q; omega, Nat.le_trans h.2.2.2.2.2.2 (u2 k q)⟩⟩
                  clear Q8 hC A6
                  obtain ⟨wz, hwz⟩ : ∃ wz, wz = wr := ⟨_, rfl⟩
                  subst hwz
                  obtain ⟨AB, hAB⟩ : ∃ AB, Hid (allB ⟨#[110, 111, 110, 101]⟩ T' = AB) := ⟨_, rfl⟩
                  go_wp2_with fail
                  have H1 := tallB opS_anew1 opS_anew2 TS0.out
                  rw [hAB.out] at H1
                  refine H1.mono ?_
                  rintro e y1 ⟨rfl, T1⟩
                  clear H1 TS0
                  go_wp2_with fail
                  have H2 := tallB opS_anew1 opS_anew2 T1.out
                  rw [hAB.out] at H2
                  refine H2.mono ?_
                  rintro e y2 ⟨rfl, T2⟩
                  clear H2 T1
                  go_wp2_with fail
                  have H3 := fallB opS_anew1 opS_anew2 T2.out
                  rw [hAB.out] at H3
                  refine H3.mono ?_
                  rintro e y3 ⟨rfl, T3⟩
                  clear H3 T2
                  go_wp2_with fail
                  refine (tlen opS_anew1 opS_anew2 T3.out).mono ?_
                  rintro e y4 ⟨rfl, T4⟩
                  clear T3
                  go_wp2_with fail
                  refine (flen opS_anew1 opS_anew2 T4.out).mono ?_
                  rintro e y5 ⟨rfl, T5⟩
                  clear T4
                  have AE : Hid (∃ F F5, ASw (.func (.func 23) #[] #[]) ⟨#[110, 111, 110, 101]⟩ w.heap.size w y5 bw T' (.slice pn T'.length cn) T' F F5) := by
                    obtain ⟨F, F5, F2, h, -, -⟩ := T5.out
                    exact ⟨F, F5, h⟩
                  clear T5
                  go_wp2
                  exact ⟨⟨i + 1, T', pn, cn, by omega, by go_num, by first | rfl | rfl, by omega, hT2, AE⟩, by simp [intOf]; omega⟩
        · have hb1 : (sk == 1) = false := by simpa using h1
          have hb2 : (sk == 2) = false := by simpa using h2
          have A6 := A3
          clear A3
          go_upto_region 24 with fail
          have hT2 := hT1
          go_wp2_with fail
          refine (lnewS (B := W3.heap.size) opS_anew2 ⟨#[110, 111, 110, 101]⟩ W3 _ (Nat.le_refl _) (Below.refl _ _)).mono ?_
          rintro e w7 ⟨bw2, rfl, h7⟩
          have Q7 : Hid (LQS catF (.func (.func 26) #[] #[]) ⟨#[110, 111, 110, 101]⟩ catOk W3.heap.size W3 w7 bw2 []) := h7.out.1
          clear h7
          have hC : Hid (∀ j (h : j < T.length), ∃ g off, p5 = some ⟨g, off, none⟩ ∧ g < W3.heap.size ∧ W3.cell? ⟨g, off + j, none⟩ = some (.string T[j])) := fun j hj => by
            obtain ⟨F, F5, h⟩ := A6.out
            obtain ⟨g, off, e1, e2, e3⟩ := h.2.1.cell j hj
            exact ⟨g, off, e1, h.2.2.1 g e2, e3⟩
          go_wp2_with fail
          go_loopw [86] (fun vj wq => ∃ j : Nat, j ≤ T.length ∧ vj = .int .i64 (j : Nat) ∧ Hid (LQS catF (.func (.func 26) #[] #[]) ⟨#[110, 111, 110, 101]⟩ catOk W3.heap.size W3 wq bw2 (T.take j))) (fun vj _ => T.length - (intOf vj).toNat)
          case atStart => exact ⟨0, Nat.zero_le _, rfl, by rw [List.take_zero]; exact Q7⟩
          case round =>
            obtain ⟨j, hj, rfl, Q8⟩ := hrel
            clear Q7
            by_cases hjt : j < T.length
            · obtain ⟨g6, off6, rfl, hg6, hc6⟩ := hC.out j hjt
              have hc6' := (Q8.out.below.cell (p := ⟨g6, off6 + j, none⟩) hg6).trans hc6
              clear hc6
              have hjt1 : (j : Int) < T.length := by omega
              have hj0 : (0 : Int) ≤ (j : Int) := by omega
              have hsz : T[j].size = 1 := hT2 _ (List.getElem_mem hjt)
              have htk : Hid (T.take (j + 1) = T.take j ++ [T[j]]) := by unfold Hid; rw [List.take_add_one, List.getElem?_eq_getElem hjt]; rfl
              generalize T[j] = Y at *
              go_wp2_with fail
              refine (lpushS opS_anew2 Q8.out Y (show Y.size ≤ 1 * 1000 by omega) (by rw [List.length_take]; omega)).mono ?_
              rintro e w8 ⟨rfl, Q9⟩
              have Q9' : Hid (LQS catF (.func (.func 26) #[] #[]) ⟨#[110, 111, 110, 101]⟩ catOk W3.heap.size W3 w8 bw2 (T.take (j + 1))) := by rw [htk.out]; exact Q9
              clear Q9 Q8 htk
              go_wp2
              exact ⟨⟨j + 1, by omega, by go_num, Q9'⟩, by simp [intOf]; omega⟩
            · have hjt1 : ¬ (j : Int) < T.length := by omega
              have TS0 : Hid (TSw (.func (.func 23) #[] #[]) (.func (.func 26) #[] #[]) ⟨#[110, 111, 110, 101]⟩ w.heap.size w wr bw T (.slice p5 T.length c5) T bw2 T) := by
                obtain ⟨F, F5, h⟩ := A6.out
                obtain ⟨F2, u1, u2, u3, u4⟩ := Q8.out
                rw [List.take_of_length_le (by omega)] at u1
                have hl := h.1.lt.1
                exact ⟨F, F5, F2, h.later opS_anew1 u3, u1, fun k q => ⟨fun b => by have := hl k b; have := u2 k q; omega, fun b => by have := h.2.2.1 k b; have := u2 k q; omega, Nat.le_trans h.2.2.2.2.2.2 (u2 k q)⟩⟩
              clear Q8 hC A6
              obtain ⟨wz, hwz⟩ : ∃ wz, wz = wr := ⟨_, rfl⟩
              subst hwz
              obtain ⟨AB, hAB⟩ : ∃ AB, Hid (allB ⟨#[110, 111, 110, 101]⟩ T = AB) := ⟨_, rfl⟩
              go_wp2_with fail
              have H1 := tallB opS_anew1 opS_anew2 TS0.out
              rw [hAB.out] at H1
              refine H1.mono ?_
              rintro e y1 ⟨rfl, T1⟩
              clear H1 TS0
              go_wp2_with fail
              have H2 := tallB opS_anew1 opS_anew2 T1.out
              rw [hAB.out] at H2
              refine H2.mono ?_
              rintro e y2 ⟨rfl, T2⟩
              clear H2 T1
              go_wp2_with fail
              have H3 := fallB opS_anew1 opS_anew2 T2.out
              rw [hAB.out] at H3
              refine H3.mono ?_
              rintro e y3 ⟨rfl, T3⟩
              clear H3 T2
              go_wp2_with fail
              refine (tlen opS_anew1 opS_anew2 T3.out).mono ?_
              rintro e y4 ⟨rfl, T4⟩
              clear T3
              go_wp2_with fail
              refine (flen opS_anew1 opS_anew2 T4.out).mono ?_
              rintro e y5 ⟨rfl, T5⟩
              clear T4
              have AE : Hid (∃ F F5, ASw (.func (.func 23) #[] #[]) ⟨#[110, 111, 110, 101]⟩ w.heap.size w y5 bw T (.slice p5 T.length c5) T F F5) := by
                obtain ⟨F, F5, F2, h, -, -⟩ := T5.out
                exact ⟨F, F5, h⟩
              clear T5
              go_wp2
              exact ⟨⟨i + 1, T, p5, c5, by omega, by go_num, by first | rfl | rfl, by omega, hT2, AE⟩, by simp [intOf]; omega⟩
      · have hlt1 : ¬ (i : Int) < (200 : Nat) := by omega
        have hlt2 : ¬ (i : Int) < 200 := by omega
        have hB : Below w.heap.size w wo := by obtain ⟨F, F5, h⟩ := A1.out; exact h.2.2.2.2.2.1
        go_wp2
        go_ret
        exact ⟨rfl, hB⟩
  · have h200' : ¬ (200 : Int) < L := by omega
    go_wp2_with fail
    go_loopw [5, 28] (fun vt vi wr => ∃ (i : Nat) (T : List ByteArray) (p5 : Option Addr) (c5 : Nat), i ≤ L ∧ vi = .int .i64 (i : Nat) ∧ vt = .slice p5 T.length c5 ∧ T.length ≤ i ∧ (∀ x ∈ T, x.size = 1) ∧ Hid (∃ F F5, ASw (.func (.func 23) #[] #[]) ⟨#[110, 111, 110, 101]⟩ w.heap.size w wr bw T (.slice p5 T.length c5) T F F5)) (fun _ vi _ => L - (intOf vi).toNat)
    case atStart => exact ⟨0, [], none, 0, Nat.zero_le _, rfl, rfl, by simp, by simp, A0⟩
    case round =>
      obtain ⟨i, T, p5, c5, hi1, rfl, rfl, hTi, hT1, A1⟩ := hrel
      obtain ⟨wo, hwo⟩ : ∃ wo, wo = wr := ⟨_, rfl⟩
      subst hwo
      by_cases hlt : i < L
      · obtain ⟨g, off, rfl, hg, hs⟩ := HX.out i (by have := hL.out; omega)
        have hB : Below w.heap.size w wo := by obtain ⟨F, F5, h⟩ := A1.out; exact h.2.2.2.2.2.1
        have s0 := (hB.cell (p := ⟨g, off + i * 4, none⟩) hg).trans hs.1
        have s1 := (hB.cell (p := ⟨g, off + i * 4 + 1, none⟩) hg).trans hs.2.1
        have s2 := (hB.cell (p := ⟨g, off + i * 4 + 2, none⟩) hg).trans hs.2.2.1
        have s3 := (hB.cell (p := ⟨g, off + i * 4 + 3, none⟩) hg).trans hs.2.2.2.1
        have haa := hs.2.2.2.2.1
        clear hs hB
        generalize xs[i]'(by have := hL.out; omega) = st at *
        obtain ⟨sk, sa, sb, sn⟩ := st
        dsimp only at s0 s1 s2 s3 haa
        have hlt1 : (i : Int) < (L : Nat) := by omega
        have hi0 : (0 : Int) ≤ (i : Int) := by omega
        skip
        obtain ⟨ub, hub⟩ : ∃ ub : UInt8, Hid ((ub.toNat : Int) = 97 + sa % 26) := ⟨UInt8.ofNat (97 + sa % 26).toNat, by
          unfold Hid
          rw [UInt8.toNat_ofNat']
          omega⟩
        have hcv : (convert 53 9 (.slice (some ⟨wo.heap.size + 1, 0, none⟩) 1 1)).run Try.prog ((wo.alloc (.cells #[.int .i64 sk, .int .u64 sa, .int .u64 sb, .int .i64 sn] 33)).alloc (.cells #[.int .u8 (97 + sa % 26)] 5)) = .ok (.string ⟨#[ub]⟩) ((wo.alloc (.cells #[.int .i64 sk, .int .u64 sa, .int .u64 sb, .int .i64 sn] 33)).alloc (.cells #[.int .u8 (97 + sa % 26)] 5)) :=
          run_convert_bytes_back _ 53 9 5 ⟨wo.heap.size + 1, 0, none⟩ 1 [ub] Try.underlying53 Try.underlying5 Try.underlying9 (fun jj hj => by
            obtain rfl : jj = 0 := by simp at hj; omega
            rw [Addr.add_lit, Lib.cell_of_heap (second wo _ _)]
            simp [hub.out])
        go_upto_region 12 with fail
        refine wp_world ?_
        intro W3 hW3
        have hb3 : Below wo.heap.size wo W3 := by rw [hW3]; exact ((Below.refl _ wo).alloc (Nat.le_refl _) _).alloc (by simp) _
        have k0 : W3.cell? ⟨wo.heap.size, 0, none⟩ = some (.int .i64 sk) := by
          rw [hW3]
          refine Lib.cell?_alloc_some _ ?_
          rw [Lib.cell_of_heap (World.alloc_heap_new wo _)]
          rfl
        have A3 : Hid (∃ F F5, ASw (.func (.func 23) #[] #[]) ⟨#[110, 111, 110, 101]⟩ w.heap.size w W3 bw T (.slice p5 T.length c5) T F F5) := by
          obtain ⟨F, F5, h⟩ := A1.out
          exact ⟨F, F5, h.later opS_anew1 hb3⟩
        obtain ⟨X, hX⟩ : ∃ X : ByteArray, Hid ((⟨#[ub]⟩ : ByteArray) = X) := ⟨_, rfl⟩
        have hX1 : X.size = 1 := by rw [← hX.out]; rfl
        rw [hX.out]
        clear hcv hW3 hb3 s0 s1 s2 s3 A1 hX hub
        have hT200 : T.length < 200 := by omega
        by_cases h1 : sk = 1
        · subst h1
          obtain ⟨F, F5, h⟩ := A3.out
          go_wp2_with fail
          refine (qpushS opS_anew1 h.1 X (show X.size ≤ 1 * 1000 by omega) (by omega)).mono ?_
          rintro e w4 ⟨rfl, q4⟩
          obtain ⟨F4, a4, -, -⟩ := asw_of h q4.out
          have a5 : Hid (ASw (.func (.func 23) #[] #[]) ⟨#[110, 111, 110, 101]⟩ w.heap.size w (w4.alloc (.cells #[.string X] 9)) bw (T ++ [X]) (.slice p5 T.length c5) T F4 F5) := a4.later opS_anew1 ((Below.refl _ w4).alloc (Nat.le_refl _) _)
          clear q4 h A3
          have a4h : Hid (_) := a4
          clear a4
          go_wp2_with (at_builtin; refine wpList_append_off _ rfl _ _ 52 rfl 9 i0 (.string ByteArray.empty) 1 16 Try.underlying52 hi hz0 hz1 hz2 rfl (by decide) _ _ _ F5 rfl a5.out.2.1 a5.out.2.2.1 ⟨w4.heap.size, 0, none⟩ [.string X] rfl rfl ?cc1 ?cc2 ?cc3 ?cc4 ?_)
          case cc1 => (intro jj u hj; rw [Addr.add_lit]; (rcases jj with _ | jj) <;> simp at hj <;> subst hj <;> simp (maxDischargeDepth := 12) [go_sem])
          case cc2 => (intro u hu; simp at hu; subst hu; rfl)
          case cc3 => unfold maxLen; omega
          case cc4 => omega
          intro p6 c6 w6 r1 r2
          have A6 : Hid (∃ F F5, ASw (.func (.func 23) #[] #[]) ⟨#[110, 111, 110, 101]⟩ w.heap.size w w6 bw (T ++ [X]) (.slice p6 (T ++ [X]).length c6) (T ++ [X]) F F5) := by
            refine ⟨F4, _, a5.out.grow opS_anew1 ?_ r2⟩
            rw [List.length_append, List.map_append]
            exact r1
          obtain ⟨Tn, hTn⟩ : ∃ Tn, Hid (T ++ [X] = Tn) := ⟨_, rfl⟩
          have hTl : Tn.length = T.length + 1 := by rw [← hTn.out]; simp
          rw [hTn.out] at A6
          have hT2 : ∀ x ∈ Tn, x.size = 1 := by
            rw [← hTn.out]
            intro x hx
            rcases List.mem_append.1 hx with hx | hx
            · exact hT1 x hx
            · simp at hx; subst hx; exact hX1
          rw [← hTl]
          clear r1 r2 a5 a4h hTn
          go_wp2_with fail
          refine (lnewS (B := w6.heap.size) opS_anew2 ⟨#[110, 111, 110, 101]⟩ w6 _ (Nat.le_refl _) (Below.refl _ _)).mono ?_
          rintro e w7 ⟨bw2, rfl, h7⟩
          have Q7 : Hid (LQS catF (.func (.func 26) #[] #[]) ⟨#[110, 111, 110, 101]⟩ catOk w6.heap.size w6 w7 bw2 []) := h7.out.1
          clear h7
          have hC : Hid (∀ j (h : j < Tn.length), ∃ g off, p6 = some ⟨g, off, none⟩ ∧ g < w6.heap.size ∧ w6.cell? ⟨g, off + j, none⟩ = some (.string Tn[j])) := fun j hj => by
            obtain ⟨F, F5, h⟩ := A6.out
            obtain ⟨g, off, e1, e2, e3⟩ := h.2.1.cell j hj
            exact ⟨g, off, e1, h.2.2.1 g e2, e3⟩
          go_wp2_with fail
          go_loopw [86] (fun vj wq => ∃ j : Nat, j ≤ Tn.length ∧ vj = .int .i64 (j : Nat) ∧ Hid (LQS catF (.func (.func 26) #[] #[]) ⟨#[110, 111, 110, 101]⟩ catOk w6.heap.size w6 wq bw2 (Tn.take j))) (fun vj _ => Tn.length - (intOf vj).toNat)
          case atStart => exact ⟨0, Nat.zero_le _, rfl, by rw [List.take_zero]; exact Q7⟩
          case round =>
            obtain ⟨j, hj, rfl, Q8⟩ := hrel
            clear Q7
            by_cases hjt : j < Tn.length
            · obtain ⟨g6, off6, rfl, hg6, hc6⟩ := hC.out j hjt
              have hc6' := (Q8.out.below.cell (p := ⟨g6, off6 + j, none⟩) hg6).trans hc6
              clear hc6
              have hjt1 : (j : Int) < Tn.length := by omega
              have hj0 : (0 : Int) ≤ (j : Int) := by omega
              have hsz : Tn[j].size = 1 := hT2 _ (List.getElem_mem hjt)
              have htk : Hid (Tn.take (j + 1) = Tn.take j ++ [Tn[j]]) := by unfold Hid; rw [List.take_add_one, List.getElem?_eq_getElem hjt]; rfl
              generalize Tn[j] = Y at *
              go_wp2_with fail
              refine (lpushS opS_anew2 Q8.out Y (show Y.size ≤ 1 * 1000 by omega) (by rw [List.length_take]; omega)).mono ?_
              rintro e w8 ⟨rfl, Q9⟩
              have Q9' : Hid (LQS catF (.func (.func 26) #[] #[]) ⟨#[110, 111, 110, 101]⟩ catOk w6.heap.size w6 w8 bw2 (Tn.take (j + 1))) := by rw [htk.out]; exact Q9
              clear Q9 Q8 htk
              go_wp2
              exact ⟨⟨j + 1, by omega, by go_num, Q9'⟩, by simp [intOf]; omega⟩
            · have hjt1 : ¬ (j : Int) < Tn.length := by omega
              have TS0 : Hid (TSw (.func (.func 23) #[] #[]) (.func (.func 26) #[] #[]) ⟨#[110, 111, 110, 101]⟩ w.heap.size w wr bw Tn (.slice p6 Tn.length c6) Tn bw2 Tn) := by
                obtain ⟨F, F5, h⟩ := A6.out
                obtain ⟨F2, u1, u2, u3, u4⟩ := Q8.out
                rw [List.take_of_length_le (by omega)] at u1
                have hl := h.1.lt.1
                exact ⟨F, F5, F2, h.later opS_anew1 u3, u1, fun k q => ⟨fun b => by have := hl k b; have := u2 k q; omega, fun b => by have := h.2.2.1 k b; have := u2 k q; omega, Nat.le_trans h.2.2.2.2.2.2 (u2 k q)⟩⟩
              clear Q8 hC A6
              obtain ⟨wz, hwz⟩ : ∃ wz, wz = wr := ⟨_, rfl⟩
              subst hwz
              obtain ⟨AB, hAB⟩ : ∃ AB, Hid (allB ⟨#[110, 111, 110, 101]⟩ Tn = AB) := ⟨_, rfl⟩
              go_wp2_with fail
              have H1 := tallB opS_anew1 opS_anew2 TS0.out
              rw [hAB.out] at H1
              refine H1.mono ?_
              rintro e y1 ⟨rfl, T1⟩
              clear H1 TS0
              go_wp2_with fail
              have H2 := tallB opS_anew1 opS_anew2 T1.out
              rw [hAB.out] at H2
              refine H2.mono ?_
              rintro e y2 ⟨rfl, T2⟩
              clear H2 T1
              go_wp2_with fail
              have H3 := fallB opS_anew1 opS_anew2 T2.out
              rw [hAB.out] at H3
              refine H3.mono ?_
              rintro e y3 ⟨rfl, T3⟩
              clear H3 T2
              go_wp2_with fail
              refine (tlen opS_anew1 opS_anew2 T3.out).mono ?_
              rintro e y4 ⟨rfl, T4⟩
              clear T3
              go_wp2_with fail
              refine (flen opS_anew1 opS_anew2 T4.out).mono ?_
              rintro e y5 ⟨rfl, T5⟩
              clear T4
              have AE : Hid (∃ F F5, ASw (.func (.func 23) #[] #[]) ⟨#[110, 111, 110, 101]⟩ w.heap.size w y5 bw Tn (.slice p6 Tn.length c6) Tn F F5) := by
                obtain ⟨F, F5, F2, h, -, -⟩ := T5.out
                exact ⟨F, F5, h⟩
              clear T5
              go_wp2
              exact ⟨⟨i + 1, Tn, p6, c6, by omega, by go_num, by first | rfl | rw [hTl], by omega, hT2, AE⟩, by simp [intOf]; omega⟩
        by_cases h2 : sk = 2
        · subst h2
          obtain ⟨F, F5, h⟩ := A3.out
          by_cases hT0 : T = []
          · have hTl0 : (T.length : Int) = 0 := by rw [hT0]; rfl
            have h' : PQS catF (.func (.func 23) #[] #[]) ⟨#[110, 111, 110, 101]⟩ catOk W3 bw [] F := by have := h.1; rw [hT0] at this; exact this
            have HT0 : Hid (T = []) := hT0
            clear hT0
            go_wp2_with fail
            refine (qpop0S opS_anew1 h').mono ?_
            rintro e w6 ⟨rfl, q4⟩
            have q5 : QNS catF (.func (.func 23) #[] #[]) ⟨#[110, 111, 110, 101]⟩ catOk W3 w6 bw T F := by rw [HT0.out]; exact q4.out
            obtain ⟨F4, a4, -, -⟩ := asw_of h q5
            have A6 : Hid (∃ F F5, ASw (.func (.func 23) #[] #[]) ⟨#[110, 111, 110, 101]⟩ w.heap.size w w6 bw T (.slice p5 T.length c5) T F F5) := ⟨_, _, a4⟩
            clear a4 q4 q5 h h' A3
            go_upto_region 24 with fail
            clear hTl0 HT0
            have hT2 := hT1
            go_wp2_with fail
            refine (lnewS (B := w6.heap.size) opS_anew2 ⟨#[110, 111, 110, 101]⟩ w6 _ (Nat.le_refl _) (Below.refl _ _)).mono ?_
            rintro e w7 ⟨bw2, rfl, h7⟩
            have Q7 : Hid (LQS catF (.func (.func 26) #[] #[]) ⟨#[110, 111, 110, 101]⟩ catOk w6.heap.size w6 w7 bw2 []) := h7.out.1
            clear h7
            have hC : Hid (∀ j (h : j < T.length), ∃ g off, p5 = some ⟨g, off, none⟩ ∧ g < w6.heap.size ∧ w6.cell? ⟨g, off + j, none⟩ = some (.string T[j])) := fun j hj => by
              obtain ⟨F, F5, h⟩ := A6.out
              obtain ⟨g, off, e1, e2, e3⟩ := h.2.1.cell j hj
              exact ⟨g, off, e1, h.2.2.1 g e2, e3⟩
            go_wp2_with fail
            go_loopw [86] (fun vj wq => ∃ j : Nat, j ≤ T.length ∧ vj = .int .i64 (j : Nat) ∧ Hid (LQS catF (.func (.func 26) #[] #[]) ⟨#[110, 111, 110, 101]⟩ catOk w6.heap.size w6 wq bw2 (T.take j))) (fun vj _ => T.length - (intOf vj).toNat)
            case atStart => exact ⟨0, Nat.zero_le _, rfl, by rw [List.take_zero]; exact Q7⟩
            case round =>
              obtain ⟨j, hj, rfl, Q8⟩ := hrel
              clear Q7
              by_cases hjt : j < T.length
              · obtain ⟨g6, off6, rfl, hg6, hc6⟩ := hC.out j hjt
                have hc6' := (Q8.out.below.cell (p := ⟨g6, off6 + j, none⟩) hg6).trans hc6
                clear hc6
                have hjt1 : (j : Int) < T.length := by omega
                have hj0 : (0 : Int) ≤ (j : Int) := by omega
                have hsz : T[j].size = 1 := hT2 _ (List.getElem_mem hjt)
                have htk : Hid (T.take (j + 1) = T.take j ++ [T[j]]) := by unfold Hid; rw [List.take_add_one, List.getElem?_eq_getElem hjt]; rfl
                generalize T[j] = Y at *
                go_wp2_with fail
                refine (lpushS opS_anew2 Q8.out Y (show Y.size ≤ 1 * 1000 by omega) (by rw [List.length_take]; omega)).mono ?_
                rintro e w8 ⟨rfl, Q9⟩
                have Q9' : Hid (LQS catF (.func (.func 26) #[] #[]) ⟨#[110, 111, 110, 101]⟩ catOk w6.heap.size w6 w8 bw2 (T.take (j + 1))) := by rw [htk.out]; exact Q9
                clear Q9 Q8 htk
                go_wp2
                exact ⟨⟨j + 1, by omega, by go_num, Q9'⟩, by simp [intOf]; omega⟩
              · have hjt1 : ¬ (j : Int) < T.length := by omega
                have TS0 : Hid (TSw (.func (.func 23) #[] #[]) (.func (.func 26) #[] #[]) ⟨#[110, 111, 110, 101]⟩ w.heap.size w wr bw T (.slice p5 T.length c5) T bw2 T) := by
                  obtain ⟨F, F5, h⟩ := A6.out
                  obtain ⟨F2, u1, u2, u3, u4⟩ := Q8.out
                  rw [List.take_of_length_le (by omega)] at u1
                  have hl := h.1.lt.1
                  exact ⟨F, F5, F2, h.later opS_anew1 u3, u1, fun k q => ⟨fun b => by have := hl k b; have := u2 k q; omega, fun b => by have := h.2.2.1 k b; have := u2 k q; omega, Nat.le_trans h.2.2.2.2.2.2 (u2 k q)⟩⟩
                clear Q8 hC A6
                obtain ⟨wz, hwz⟩ : ∃ wz, wz = wr := ⟨_, rfl⟩
                subst hwz
                obtain ⟨AB, hAB⟩ : ∃ AB, Hid (allB ⟨#[110, 111, 110, 101]⟩ T = AB) := ⟨_, rfl⟩
                go_wp2_with fail
                have H1 := tallB opS_anew1 opS_anew2 TS0.out
                rw [hAB.out] at H1
                refine H1.mono ?_
                rintro e y1 ⟨rfl, T1⟩
                clear H1 TS0
                go_wp2_with fail
                have H2 := tallB opS_anew1 opS_anew2 T1.out
                rw [hAB.out] at H2
                refine H2.mono ?_
                rintro e y2 ⟨rfl, T2⟩
                clear H2 T1
                go_wp2_with fail
                have H3 := fallB opS_anew1 opS_anew2 T2.out
                rw [hAB.out] at H3
                refine H3.mono ?_
                rintro e y3 ⟨rfl, T3⟩
                clear H3 T2
                go_wp2_with fail
                refine (tlen opS_anew1 opS_anew2 T3.out).mono ?_
                rintro e y4 ⟨rfl, T4⟩
                clear T3
                go_wp2_with fail
                refine (flen opS_anew1 opS_anew2 T4.out).mono ?_
                rintro e y5 ⟨rfl, T5⟩
                clear T4
                have AE : Hid (∃ F F5, ASw (.func (.func 23) #[] #[]) ⟨#[110, 111, 110, 101]⟩ w.heap.size w y5 bw T (.slice p5 T.length c5) T F F5) := by
                  obtain ⟨F, F5, F2, h, -, -⟩ := T5.out
                  exact ⟨F, F5, h⟩
                clear T5
                go_wp2
                exact ⟨⟨i + 1, T, p5, c5, by omega, by go_num, by first | rfl | rfl, by omega, hT2, AE⟩, by simp [intOf]; omega⟩
          · obtain ⟨t, T', rfl⟩ : ∃ t T', T = t :: T' := by
              cases T with
              | nil => exact absurd rfl hT0
              | cons t T' => exact ⟨t, T', rfl⟩
            clear hT0
            have hT2 : ∀ x ∈ T', x.size = 1 := fun x hx => hT1 x (by simp [hx])
            simp only [List.length_cons] at *
            go_wp2_with fail
            refine (qpopS opS_anew1 h.1).mono ?_
            rintro e w6 ⟨rfl, q4⟩
            obtain ⟨F4, a4, -, -⟩ := asw_of h q4.out
            obtain ⟨g5, off5, rfl, hc51, hc52, hF5, hce, hO5, hO51⟩ := OffRow.one (A := [.string t]) (xs := T'.map Value.string) (n := T'.length) (by simpa using a4.2.1) rfl
            have y0 : w6.cell? ⟨g5, off5, none⟩ = some (.string t) := hce 0 _ rfl
            have a4h : Hid (_) := a4
            have hO5h : Hid (_) := hO5
            have hO51h : Hid (_) := hO51
            clear a4 hO5 hO51 hce q4 h A3 hT1
            have n1 : (0 : Int) < (T'.length : Int) + 1 := by omega
            have n2 : ¬ ((T'.length : Int) + 1 < 1) := by omega
            have n3 : (1 : Int) ≤ (c5 : Int) := by omega
            by_cases hc5 : c5 = 1
            · subst hc5
              obtain ⟨O6, hn0⟩ := hO51h.out rfl
              have hT0 : Hid (T' = []) := List.eq_nil_of_length_eq_zero hn0
              clear hO5h hO51h
              have A6 : Hid (∃ F F5, ASw (.func (.func 23) #[] #[]) ⟨#[110, 111, 110, 101]⟩ w.heap.size w w6 bw T' (.slice (some ⟨g5, off5, none⟩) T'.length 0) T' F F5) := ⟨_, _, ASw.cut a4h.out (by rw [hn0]; exact O6)⟩
              have HN0 : Hid (T'.length = 0) := hn0
              clear hn0 O6 hT0
              go_upto_region 24 with fail
              go_wp2_with fail
              refine (lnewS (B := w6.heap.size) opS_anew2 ⟨#[110, 111, 110, 101]⟩ w6 _ (Nat.le_refl _) (Below.refl _ _)).mono ?_
              rintro e w7 ⟨bw2, rfl, h7⟩
              have Q7 : Hid (LQS catF (.func (.func 26) #[] #[]) ⟨#[110, 111, 110, 101]⟩ catOk w6.heap.size w6 w7 bw2 []) := h7.out.1
              clear h7
              go_wp2_with fail
              go_loopw [86] (fun vj wq => ∃ j : Nat, j ≤ T'.length ∧ vj = .int .i64 (j : Nat) ∧ Hid (LQS catF (.func (.func 26) #[] #[]) ⟨#[110, 111, 110, 101]⟩ catOk w6.heap.size w6 wq bw2 (T'.take j))) (fun vj _ => T'.length - (intOf vj).toNat)
              case atStart => exact ⟨0, Nat.zero_le _, rfl, by rw [List.take_zero]; exact Q7⟩
              case round =>
                obtain ⟨j, hj, rfl, Q8⟩ := hrel
                clear Q7
                by_cases hjt : j < T'.length
                · exact absurd hjt (by have := HN0.out; omega)
                · have hjt1 : ¬ (j : Int) < 0 := by omega
                  have TS0 : Hid (TSw (.func (.func 23) #[] #[]) (.func (.func 26) #[] #[]) ⟨#[110, 111, 110, 101]⟩ w.heap.size w wr bw T' (.slice (some ⟨g5, off5, none⟩) T'.length 0) T' bw2 T') := by
                    obtain ⟨F, F5, h⟩ := A6.out
                    obtain ⟨F2, u1, u2, u3, u4⟩ := Q8.out
                    rw [List.take_of_length_le (by omega)] at u1
                    have hl := h.1.lt.1
                    exact ⟨F, F5, F2, h.later opS_anew1 u3, u1, fun k q => ⟨fun b => by have := hl k b; have := u2 k q; omega, fun b => by have := h.2.2.1 k b; have := u2 k q; omega, Nat.le_trans h.2.2.2.2.2.2 (u2 k q)⟩⟩
                  clear Q8 A6
                  obtain ⟨wz, hwz⟩ : ∃ wz, wz = wr := ⟨_, rfl⟩
                  subst hwz
                  obtain ⟨AB, hAB⟩ : ∃ AB, Hid (allB ⟨#[110, 111, 110, 101]⟩ T' = AB) := ⟨_, rfl⟩
                  go_wp2_with fail
                  have H1 := tallB opS_anew1 opS_anew2 TS0.out
                  rw [hAB.out] at H1
                  refine H1.mono ?_
                  rintro e y1 ⟨rfl, T1⟩
                  clear H1 TS0
                  go_wp2_with fail
                  have H2 := tallB opS_anew1 opS_anew2 T1.out
                  rw [hAB.out] at H2
                  refine H2.mono ?_
                  rintro e y2 ⟨rfl, T2⟩
                  clear H2 T1
                  go_wp2_with fail
                  have H3 := fallB opS_anew1 opS_anew2 T2.out
                  rw [hAB.out] at H3
                  refine H3.mono ?_
                  rintro e y3 ⟨rfl, T3⟩
                  clear H3 T2
                  go_wp2_with fail
                  refine (tlen opS_anew1 opS_anew2 T3.out).mono ?_
                  rintro e y4 ⟨rfl, T4⟩
                  clear T3
                  have hn0 := HN0.out
                  go_wp2_with fail
                  refine (flen opS_anew1 opS_anew2 T4.out).mono ?_
                  rintro e y5 ⟨rfl, T5⟩
                  clear T4
                  have AE : Hid (∃ F F5, ASw (.func (.func 23) #[] #[]) ⟨#[110, 111, 110, 101]⟩ w.heap.size w y5 bw T' (.slice (some ⟨g5, off5, none⟩) T'.length 0) T' F F5) := by
                    obtain ⟨F, F5, F2, h, -, -⟩ := T5.out
                    exact ⟨F, F5, h⟩
                  clear T5
                  go_wp2
                  exact ⟨⟨i + 1, T', (some ⟨g5, off5, none⟩), 0, by omega, by go_num, by rw [HN0.out], by omega, hT2, AE⟩, by simp [intOf]; omega⟩
            · have n4 : (1 : Int) < (c5 : Int) := by omega
              clear hO51h
              go_upto_region 24 with fail
              have A6 : Hid (∃ F F5, ASw (.func (.func 23) #[] #[]) ⟨#[110, 111, 110, 101]⟩ w.heap.size w w6 bw T' (.slice (some ⟨g5, off5 + 1, none⟩) T'.length (c5 - 1)) T' F F5) := ⟨_, _, ASw.cut a4h.out hO5h.out⟩
              clear hO5h a4h
              obtain ⟨pn, hpn⟩ : ∃ pn, Hid (some (⟨g5, off5 + 1, none⟩ : Addr) = pn) := ⟨_, rfl⟩
              obtain ⟨cn, hcn⟩ : ∃ cn, Hid (c5 - 1 = cn) := ⟨_, rfl⟩
              rw [hpn.out, hcn.out] at A6 ⊢
              clear hpn hcn
              go_wp2_with fail
              refine (lnewS (B := w6.heap.size) opS_anew2 ⟨#[110, 111, 110, 101]⟩ w6 _ (Nat.le_refl _) (Below.refl _ _)).mono ?_
              rintro e w7 ⟨bw2, rfl, h7⟩
              have Q7 : Hid (LQS catF (.func (.func 26) #[] #[]) ⟨#[110, 111, 110, 101]⟩ catOk w6.heap.size w6 w7 bw2 []) := h7.out.1
              clear h7
              have hC : Hid (∀ j (h : j < T'.length), ∃ g off, pn = some ⟨g, off, none⟩ ∧ g < w6.heap.size ∧ w6.cell? ⟨g, off + j, none⟩ = some (.string T'[j])) := fun j hj => by
                obtain ⟨F, F5, h⟩ := A6.out
                obtain ⟨g, off, e1, e2, e3⟩ := h.2.1.cell j hj
                exact ⟨g, off, e1, h.2.2.1 g e2, e3⟩
              go_wp2_with fail
              go_loopw [86] (fun vj wq => ∃ j : Nat, j ≤ T'.length ∧ vj = .int .i64 (j : Nat) ∧ Hid (LQS catF (.func (.func 26) #[] #[]) ⟨#[110, 111, 110, 101]⟩ catOk w6.heap.size w6 wq bw2 (T'.take j))) (fun vj _ => T'.length - (intOf vj).toNat)
              case atStart => exact ⟨0, Nat.zero_le _, rfl, by rw [List.take_zero]; exact Q7⟩
              case round =>
                obtain ⟨j, hj, rfl, Q8⟩ := hrel
                clear Q7
                by_cases hjt : j < T'.length
                · obtain ⟨g6, off6, rfl, hg6, hc6⟩ := hC.out j hjt
                  have hc6' := (Q8.out.below.cell (p := ⟨g6, off6 + j, none⟩) hg6).trans hc6
                  clear hc6
                  have hjt1 : (j : Int) < T'.length := by omega
                  have hj0 : (0 : Int) ≤ (j : Int) := by omega
                  have hsz : T'[j].size = 1 := hT2 _ (List.getElem_mem hjt)
                  have htk : Hid (T'.take (j + 1) = T'.take j ++ [T'[j]]) := by unfold Hid; rw [List.take_add_one, List.getElem?_eq_getElem hjt]; rfl
                  generalize T'[j] = Y at *
                  go_wp2_with fail
                  refine (lpushS opS_anew2 Q8.out Y (show Y.size ≤ 1 * 1000 by omega) (by rw [List.length_take]; omega)).mono ?_
                  rintro e w8 ⟨rfl, Q9⟩
                  have Q9' : Hid (LQS catF (.func (.func 26) #[] #[]) ⟨#[110, 111, 110, 101]⟩ catOk w6.heap.size w6 w8 bw2 (T'.take (j + 1))) := by rw [htk.out]; exact Q9
                  clear Q9 Q8 htk
                  go_wp2
                  exact ⟨⟨j + 1, by omega, by go_num, Q9'⟩, by simp [intOf]; omega⟩
                · have hjt1 : ¬ (j : Int) < T'.length := by omega
                  have TS0 : Hid (TSw (.func (.func 23) #[] #[]) (.func (.func 26) #[] #[]) ⟨#[110, 111, 110, 101]⟩ w.heap.size w wr bw T' (.slice pn T'.length cn) T' bw2 T') := by
                    obtain ⟨F, F5, h⟩ := A6.out
                    obtain ⟨F2, u1, u2, u3, u4⟩ := Q8.out
                    rw [List.take_of_length_le (by omega)] at u1
                    have hl := h.1.lt.1
                    exact ⟨F, F5, F2, h.later opS_anew1 u3, u1, fun k q => ⟨fun b => by have := hl k b; have := u2 k q; omega, fun b => by have := h.2.2.1 k b; have := u2 k q; omega, Nat.le_trans h.2.2.2.2.2.2 (u2 k q)⟩⟩
                  clear Q8 hC A6
                  obtain ⟨wz, hwz⟩ : ∃ wz, wz = wr := ⟨_, rfl⟩
                  subst hwz
                  obtain ⟨AB, hAB⟩ : ∃ AB, Hid (allB ⟨#[110, 111, 110, 101]⟩ T' = AB) := ⟨_, rfl⟩
                  go_wp2_with fail
                  have H1 := tallB opS_anew1 opS_anew2 TS0.out
                  rw [hAB.out] at H1
                  refine H1.mono ?_
                  rintro e y1 ⟨rfl, T1⟩
                  clear H1 TS0
                  go_wp2_with fail
                  have H2 := tallB opS_anew1 opS_anew2 T1.out
                  rw [hAB.out] at H2
                  refine H2.mono ?_
                  rintro e y2 ⟨rfl, T2⟩
                  clear H2 T1
                  go_wp2_with fail
                  have H3 := fallB opS_anew1 opS_anew2 T2.out
                  rw [hAB.out] at H3
                  refine H3.mono ?_
                  rintro e y3 ⟨rfl, T3⟩
                  clear H3 T2
                  go_wp2_with fail
                  refine (tlen opS_anew1 opS_anew2 T3.out).mono ?_
                  rintro e y4 ⟨rfl, T4⟩
                  clear T3
                  go_wp2_with fail
                  refine (flen opS_anew1 opS_anew2 T4.out).mono ?_
                  rintro e y5 ⟨rfl, T5⟩
                  clear T4
                  have AE : Hid (∃ F F5, ASw (.func (.func 23) #[] #[]) ⟨#[110, 111, 110, 101]⟩ w.heap.size w y5 bw T' (.slice pn T'.length cn) T' F F5) := by
                    obtain ⟨F, F5, F2, h, -, -⟩ := T5.out
                    exact ⟨F, F5, h⟩
                  clear T5
                  go_wp2
                  exact ⟨⟨i + 1, T', pn, cn, by omega, by go_num, by first | rfl | rfl, by omega, hT2, AE⟩, by simp [intOf]; omega⟩
        · have hb1 : (sk == 1) = false := by simpa using h1
          have hb2 : (sk == 2) = false := by simpa using h2
          have A6 := A3
          clear A3
          go_upto_region 24 with fail
          have hT2 := hT1
          go_wp2_with fail
          refine (lnewS (B := W3.heap.size) opS_anew2 ⟨#[110, 111, 110, 101]⟩ W3 _ (Nat.le_refl _) (Below.refl _ _)).mono ?_
          rintro e w7 ⟨bw2, rfl, h7⟩
          have Q7 : Hid (LQS catF (.func (.func 26) #[] #[]) ⟨#[110, 111, 110, 101]⟩ catOk W3.heap.size W3 w7 bw2 []) := h7.out.1
          clear h7
          have hC : Hid (∀ j (h : j < T.length), ∃ g off, p5 = some ⟨g, off, none⟩ ∧ g < W3.heap.size ∧ W3.cell? ⟨g, off + j, none⟩ = some (.string T[j])) := fun j hj => by
            obtain ⟨F, F5, h⟩ := A6.out
            obtain ⟨g, off, e1, e2, e3⟩ := h.2.1.cell j hj
            exact ⟨g, off, e1, h.2.2.1 g e2, e3⟩
          go_wp2_with fail
          go_loopw [86] (fun vj wq => ∃ j : Nat, j ≤ T.length ∧ vj = .int .i64 (j : Nat) ∧ Hid (LQS catF (.func (.func 26) #[] #[]) ⟨#[110, 111, 110, 101]⟩ catOk W3.heap.size W3 wq bw2 (T.take j))) (fun vj _ => T.length - (intOf vj).toNat)
          case atStart => exact ⟨0, Nat.zero_le _, rfl, by rw [List.take_zero]; exact Q7⟩
          case round =>
            obtain ⟨j, hj, rfl, Q8⟩ := hrel
            clear Q7
            by_cases hjt : j < T.length
            · obtain ⟨g6, off6, rfl, hg6, hc6⟩ := hC.out j hjt
              have hc6' := (Q8.out.below.cell (p := ⟨g6, off6 + j, none⟩) hg6).trans hc6
              clear hc6
              have hjt1 : (j : Int) < T.length := by omega
              have hj0 : (0 : Int) ≤ (j : Int) := by omega
              have hsz : T[j].size = 1 := hT2 _ (List.getElem_mem hjt)
              have htk : Hid (T.take (j + 1) = T.take j ++ [T[j]]) := by unfold Hid; rw [List.take_add_one, List.getElem?_eq_getElem hjt]; rfl
              generalize T[j] = Y at *
              go_wp2_with fail
              refine (lpushS opS_anew2 Q8.out Y (show Y.size ≤ 1 * 1000 by omega) (by rw [List.length_take]; omega)).mono ?_
              rintro e w8 ⟨rfl, Q9⟩
              have Q9' : Hid (LQS catF (.func (.func 26) #[] #[]) ⟨#[110, 111, 110, 101]⟩ catOk W3.heap.size W3 w8 bw2 (T.take (j + 1))) := by rw [htk.out]; exact Q9
              clear Q9 Q8 htk
              go_wp2
              exact ⟨⟨j + 1, by omega, by go_num, Q9'⟩, by simp [intOf]; omega⟩
            · have hjt1 : ¬ (j : Int) < T.length := by omega
              have TS0 : Hid (TSw (.func (.func 23) #[] #[]) (.func (.func 26) #[] #[]) ⟨#[110, 111, 110, 101]⟩ w.heap.size w wr bw T (.slice p5 T.length c5) T bw2 T) := by
                obtain ⟨F, F5, h⟩ := A6.out
                obtain ⟨F2, u1, u2, u3, u4⟩ := Q8.out
                rw [List.take_of_length_le (by omega)] at u1
                have hl := h.1.lt.1
                exact ⟨F, F5, F2, h.later opS_anew1 u3, u1, fun k q => ⟨fun b => by have := hl k b; have := u2 k q; omega, fun b => by have := h.2.2.1 k b; have := u2 k q; omega, Nat.le_trans h.2.2.2.2.2.2 (u2 k q)⟩⟩
              clear Q8 hC A6
              obtain ⟨wz, hwz⟩ : ∃ wz, wz = wr := ⟨_, rfl⟩
              subst hwz
              obtain ⟨AB, hAB⟩ : ∃ AB, Hid (allB ⟨#[110, 111, 110, 101]⟩ T = AB) := ⟨_, rfl⟩
              go_wp2_with fail
              have H1 := tallB opS_anew1 opS_anew2 TS0.out
              rw [hAB.out] at H1
              refine H1.mono ?_
              rintro e y1 ⟨rfl, T1⟩
              clear H1 TS0
              go_wp2_with fail
              have H2 := tallB opS_anew1 opS_anew2 T1.out
              rw [hAB.out] at H2
              refine H2.mono ?_
              rintro e y2 ⟨rfl, T2⟩
              clear H2 T1
              go_wp2_with fail
              have H3 := fallB opS_anew1 opS_anew2 T2.out
              rw [hAB.out] at H3
              refine H3.mono ?_
              rintro e y3 ⟨rfl, T3⟩
              clear H3 T2
              go_wp2_with fail
              refine (tlen opS_anew1 opS_anew2 T3.out).mono ?_
              rintro e y4 ⟨rfl, T4⟩
              clear T3
              go_wp2_with fail
              refine (flen opS_anew1 opS_anew2 T4.out).mono ?_
              rintro e y5 ⟨rfl, T5⟩
              clear T4
              have AE : Hid (∃ F F5, ASw (.func (.func 23) #[] #[]) ⟨#[110, 111, 110, 101]⟩ w.heap.size w y5 bw T (.slice p5 T.length c5) T F F5) := by
                obtain ⟨F, F5, F2, h, -, -⟩ := T5.out
                exact ⟨F, F5, h⟩
              clear T5
              go_wp2
              exact ⟨⟨i + 1, T, p5, c5, by omega, by go_num, by first | rfl | rfl, by omega, hT2, AE⟩, by simp [intOf]; omega⟩
      · have hlt1 : ¬ (i : Int) < (L : Nat) := by omega
        skip
        have hB : Below w.heap.size w wo := by obtain ⟨F, F5, h⟩ := A1.out; exact h.2.2.2.2.2.1
        go_wp2
        go_ret
        exact ⟨rfl, hB⟩
end Go.Proofs.Ytondchfhdhllhaa
