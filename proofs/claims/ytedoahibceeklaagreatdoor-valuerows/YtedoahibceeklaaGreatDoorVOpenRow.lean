/- A slice of values that came in: its values, and where they lie. -/
import Derived.Test.YtedoahibceeklaaGreatDoorVRows0
import Derived.ProofKit
import Derived.OpenShut
import Derived.Lib.SmallJoins
import Derived.Deep.Slices
import Derived.SizedLaws
namespace Go.Proofs.YtedoahibceeklaaGreatDoor
open Go.Joins Go.ChangeShapes Go.WideShapes Go.ChangeAt Go.RowKit Go.Deep
set_option linter.unusedVariables false
set_option maxRecDepth 100000

theorem cellsVal : Tryz.prog.cellsOf 23 = 4 := by kernel_rfl
theorem bytesVal : Tryz.prog.bytesOf 23 = 40 := by kernel_rfl
theorem bdsVal {x : Int} (h : (Lit.int .i64 x).wf = true) : -9223372036854775808 ≤ x ∧ x ≤ 9223372036854775807 := by
  simp [Lit.wf, IntKind.min, IntKind.max, IntKind.signed, IntKind.bits] at h
  omega

theorem cells4 {w : World} {a : Addr} {cs : List Value} (h : w.cells? 0 a 4 = some cs) : ∃ c0 c1 c2 c3, cs = [c0, c1, c2, c3] ∧ w.cell? (a.add 0) = some c0 ∧ w.cell? (a.add 1) = some c1 ∧ w.cell? (a.add 2) = some c2 ∧ w.cell? (a.add 3) = some c3 := by
  unfold World.cells? at h
  rw [if_pos (Nat.zero_le _), show List.range 4 = [0, 1, 2, 3] from rfl] at h
  simp only [List.mapM_cons, List.mapM_nil, Option.pure_def, Option.bind_eq_bind, Option.bind_eq_some_iff, Option.some.injEq] at h
  obtain ⟨c0, h0, r0, ⟨c1, h1, r1, ⟨c2, h2, r2, ⟨c3, h3, r3, rfl, e3⟩, e2⟩, e1⟩, e0⟩ := h
  subst e3 e2 e1 e0
  exact ⟨c0, c1, c2, c3, rfl, h0, h1, h2, h3⟩

instance : Inhabited Val := ⟨⟨0, 0, 0, ⟨#[]⟩⟩⟩

/-- One value, read off its four cells. -/
theorem open_val {H : Type} {enc : TypeId × Value → H} {w : World} {sp : Nat → Bool} {held : Bool} {n : Nat} {a : Addr} {cs : List Value} {x : DataW H × List MemPlace} (hc : w.cells? 0 a 4 = some cs) (h : DataW.trod enc Tryz.prog w 0 sp held n 23 cs = some x) :
    ∃ X : Val, X.Fits ∧ w.cell? (a.add 0) = some (.int .i64 X.k) ∧ w.cell? (a.add 1) = some (.int .i64 X.n) ∧ w.cell? (a.add 2) = some (.int .i64 X.d) ∧ w.cell? (a.add 3) = some (.string X.s) := by
  obtain ⟨c0, c1, c2, c3, rfl, h0, h1, h2, h3⟩ := cells4 hc
  obtain ⟨y0, y1, y2, y3, m, _, _, t0, t1, t2, t3⟩ := trod_struct4 Tryz.underlying23 h
  obtain ⟨k, e0, _, w0⟩ := DataW.trod_int Tryz.underlying3 t0
  obtain ⟨p, e1, _, w1⟩ := DataW.trod_int Tryz.underlying2 t1
  obtain ⟨q, e2, _, w2⟩ := DataW.trod_int Tryz.underlying2 t2
  obtain ⟨s, e3, _, w3⟩ := DataW.trod_string Tryz.underlying9 t3
  have f0 : Tryz.prog.cellsOf 3 = 1 := by kernel_rfl
  have f1 : Tryz.prog.cellsOf 2 = 1 := by kernel_rfl
  have f3 : Tryz.prog.cellsOf 9 = 1 := by kernel_rfl
  simp [f0] at e0
  simp [f1] at e1 e2
  simp [f3] at e3
  subst e0 e1 e2 e3
  exact ⟨⟨k, p, q, s⟩, ⟨(bdsVal w1).1, (bdsVal w1).2, (bdsVal w2).1, (bdsVal w2).2⟩, h0, h1, h2, h3⟩

theorem open_row {H : Type} {enc : TypeId × Value → H} {W : World} {r : Reach} {b0 : Nat} {v : Value} {d : DataW H} {p : List MemPlace} (hv : Value.okWide Tryz.prog W r b0 34 v) (h : DataW.Trod enc Tryz.prog W 0 (fun _ => true) true 34 v d p) (hlt : ∀ x ∈ p, x.block < W.heap.size) :
    ∃ (xs : List Val) (q : Option Addr) (c : Nat), v = .slice q xs.length c ∧ (q = none → c = 0) ∧ (xs = [] ∨ ∃ b off, q = some ⟨b, off, none⟩ ∧ b < W.heap.size ∧ Lies W b off xs) ∧ (∀ x ∈ xs, x.Fits) ∧ (d = .nil ∧ xs = [] ∨ ∃ el sp, d = .slice el sp ∧ el.length = xs.length) := by
  obtain ⟨q, len, cap, rfl⟩ := okWide_slice Tryz.underlying34 hv
  obtain ⟨fuel, hf⟩ := h
  rcases open_slice Tryz.underlying34 hf with ⟨hcs, hx⟩ | ⟨a, len', cap', m, n, D, Pl, hcs, hb, hl, hm, em, hx, he⟩
  · simp [Value.cells] at hcs
    obtain ⟨rfl, rfl, rfl⟩ := hcs
    simp only [Prod.mk.injEq] at hx
    exact ⟨[], none, 0, rfl, fun _ => rfl, Or.inl rfl, by simp, Or.inl ⟨hx.1, rfl⟩⟩
  · simp [Value.cells] at hcs
    obtain ⟨rfl, rfl, rfl⟩ := hcs
    simp only [if_true] at em
    subst em
    simp only [Prod.mk.injEq] at hx
    have each : ∀ i, i < len → ∃ X : Val, X.Fits ∧ W.cell? ((a.add (i * 4)).add 0) = some (.int .i64 X.k) ∧ W.cell? ((a.add (i * 4)).add 1) = some (.int .i64 X.n) ∧ W.cell? ((a.add (i * 4)).add 2) = some (.int .i64 X.d) ∧ W.cell? ((a.add (i * 4)).add 3) = some (.string X.s) := fun i hi => by
      obtain ⟨cs, h1, h2⟩ := he i (by omega)
      rw [cellsVal] at h1
      exact open_val h1 h2
    obtain ⟨f, hfv⟩ := choose_lt each
    refine ⟨(List.range len).map f, some a, m, by simp, by simp, ?_, ?_, Or.inr ⟨_, _, hx.1, by simp⟩⟩
    · by_cases h0 : len = 0
      · exact Or.inl (by simp [h0])
      · right
        obtain ⟨b, off, spot⟩ := a
        have hspot : spot = none := by simpa [Addr.add] using World.cell?_spot (hfv 0 (by omega)).2.1
        subst hspot
        refine ⟨b, off, rfl, ?_, ?_⟩
        · refine hlt (.cell b off) ?_
          rw [hx.2, cellsVal]
          refine List.mem_append_left _ ?_
          unfold MemPlace.row
          exact List.mem_map.2 ⟨0, by simp; omega, rfl⟩
        · intro i hi
          have hi' : i < len := by simpa using hi
          obtain ⟨_, c0, c1, c2, c3⟩ := hfv i hi'
          simp only [add_plain, Nat.add_zero] at c0 c1 c2 c3
          simp only [List.getElem_map, List.getElem_range]
          exact ⟨c0, c1, c2, c3⟩
    · intro x hx
      simp at hx
      obtain ⟨i, hi, rfl⟩ := hx
      exact (hfv i hi).1

end Go.Proofs.YtedoahibceeklaaGreatDoor
