/- Events, and a point, that came in, and how much they hold. -/
import Derived.Test.YticmebamclacaabGreatDoorZ02
import Derived.ProofKit
import Derived.OpenShut
import Derived.Lib.SmallJoins
import Derived.Deep.Slices
import Derived.Test.YticmebamclacaabGreatDoorRows
import Derived.Test.YticmebamclacaabGreatDoorZ05

namespace Go.Proofs.YticmebamclacaabGreatDoor
open Go.Joins Go.ChangeShapes Go.WideShapes Go.ChangeAt Go.RowKit Go.Deep
set_option linter.unusedVariables false
set_option maxRecDepth 100000

theorem cellsDecl : Tryz.prog.cellsOf 42 = 2 := by kernel_rfl
theorem cells2X {w : World} {a : Addr} {cs : List Value} (h : w.cells? 0 a 2 = some cs) : ∃ c0 c1, cs = [c0, c1] ∧ w.cell? (a.add 0) = some c0 ∧ w.cell? (a.add 1) = some c1 := by
  unfold World.cells? at h
  rw [if_pos (Nat.zero_le _), show List.range 2 = [0, 1] from rfl] at h
  simp only [List.mapM_cons, List.mapM_nil, Option.pure_def, Option.bind_eq_bind, Option.bind_eq_some_iff, Option.some.injEq] at h
  obtain ⟨c0, h0, r0, ⟨c1, h1, r1, rfl, e1⟩, e0⟩ := h
  subst e1 e0
  exact ⟨c0, c1, rfl, h0, h1⟩
theorem row_memX {b off n : Nat} (h : 0 < n) : MemPlace.cell b off ∈ MemPlace.row ⟨b, off, none⟩ n := by
  unfold MemPlace.row
  exact List.mem_map.2 ⟨0, by simp; omega, rfl⟩
instance : Inhabited Dec := ⟨⟨⟨#[]⟩, []⟩⟩

theorem open_kinds {H : Type} {enc : TypeId × Value → H} {w : World} {sp : Nat → Bool} {held : Bool} {n : Nat} {v : Value} {x : DataW H × List MemPlace} (h : DataW.trod enc Tryz.prog w 0 sp held n 40 [v] = some x) (hlt : ∀ y ∈ x.2, y.block < w.heap.size) :
    ∃ ks : List Int, KAt w v ks ∧ ks.length ≤ 9223372036854775807 := by
  rcases open_slice1 Tryz.underlying40 (by kernel_rfl) h with ⟨hcs, hx⟩ | ⟨a, len, cap, m, n', V, D, Pl, hcs, hb, hl, hm, em, hx, he⟩
  · injection hcs with hcs
    subst hcs
    exact ⟨[], ⟨none, 0, rfl, Or.inl rfl⟩, by simp⟩
  · injection hcs with hcs
    subst hcs hx
    have hlm : len ≤ m := by rw [em]; split <;> omega
    have each : ∀ i, i < len → ∃ s : Int, w.cell? (a.add i) = some (.int .i64 s) := fun i hi => by
      obtain ⟨h1, h2⟩ := he i (by omega)
      obtain ⟨s, e3, _, _⟩ := DataW.trod_int Tryz.underlying3 h2
      injection e3 with e3
      exact ⟨s, e3 ▸ h1⟩
    obtain ⟨f, hf⟩ := choose_lt each
    refine ⟨(List.range len).map f, ⟨some a, cap, by simp, ?_⟩, by simp; unfold maxLen at hm; omega⟩
    by_cases h0 : len = 0
    · exact Or.inl (by simp [h0])
    · right
      obtain ⟨b, off, spot⟩ := a
      have hspot : spot = none := by simpa [Addr.add] using World.cell?_spot (hf 0 (by omega))
      subst hspot
      refine ⟨b, off, rfl, hlt (.cell b off) (List.mem_append_left _ (row_memX (by omega))), ?_⟩
      intro i hi
      have hi' : i < len := by simpa using hi
      have c0 := hf i hi'
      simp only [add_plain] at c0
      simpa using c0

theorem open_sig {H : Type} {enc : TypeId × Value → H} {w : World} {sp : Nat → Bool} {held : Bool} {n : Nat} {v : Value} {x : DataW H × List MemPlace} (h : DataW.trod enc Tryz.prog w 0 sp held n 22 [v] = some x) (hlt : ∀ y ∈ x.2, y.block < w.heap.size) :
    ∃ L : List Dec, SigAt w v L ∧ L.length ≤ 9223372036854775807 ∧ ∀ d ∈ L, d.kinds.length ≤ 9223372036854775807 := by
  rcases open_slice Tryz.underlying22 h with ⟨hcs, hx⟩ | ⟨a, len, cap, m, n', D, Pl, hcs, hb, hl, hm, em, hx, he⟩
  · injection hcs with hcs
    subst hcs
    exact ⟨[], ⟨none, 0, rfl, by simp, Or.inl rfl⟩, by simp, by simp⟩
  · injection hcs with hcs
    subst hcs hx
    have hlm : len ≤ m := by rw [em]; split <;> omega
    have each : ∀ i, i < len → ∃ d : Dec, ∃ u, w.cell? ((a.add (i * 2)).add 0) = some (.string d.name) ∧ w.cell? ((a.add (i * 2)).add 1) = some u ∧ KAt w u d.kinds ∧ d.kinds.length ≤ 9223372036854775807 := fun i hi => by
      obtain ⟨cs, h1, h2⟩ := he i (by omega)
      rw [cellsDecl] at h1
      obtain ⟨c0, c1, rfl, k0, k1⟩ := cells2X h1
      obtain ⟨y0, y1, m', ex, _, t0, t1⟩ := trod_struct2 Tryz.underlying42 h2
      obtain ⟨s, e0, _, _⟩ := DataW.trod_string Tryz.underlying9 t0
      have f0 : Tryz.prog.cellsOf 9 = 1 := by kernel_rfl
      have f1 : Tryz.prog.cellsOf 40 = 1 := by kernel_rfl
      simp [f0] at e0
      simp [f1] at t1
      subst e0
      have ex2 : Pl i = y0.2 ++ y1.2 := congrArg Prod.snd ex
      obtain ⟨ks, hk, lk⟩ := open_kinds t1 (fun y hy => hlt y (List.mem_append_right _ (List.mem_flatMap.2 ⟨i, List.mem_range.2 (by omega), by rw [ex2]; exact List.mem_append_right _ hy⟩)))
      exact ⟨⟨s, ks⟩, c1, k0, k1, hk, lk⟩
    obtain ⟨f, hf⟩ := choose_lt each
    refine ⟨(List.range len).map f, ⟨some a, cap, by simp, by simpa using hl, ?_⟩, by simp; unfold maxLen at hm; omega, ?_⟩
    · by_cases h0 : len = 0
      · exact Or.inl (by simp [h0])
      · right
        obtain ⟨b, off, spot⟩ := a
        have hspot : spot = none := by
          obtain ⟨u, c0, _⟩ := hf 0 (by omega)
          simpa [Addr.add] using World.cell?_spot c0
        subst hspot
        refine ⟨b, off, rfl, hlt (.cell b off) (List.mem_append_left _ (row_memX (by rw [cellsDecl]; omega))), ?_⟩
        intro i hi
        have hi' : i < len := by simpa using hi
        obtain ⟨u, c0, c1, c2, _⟩ := hf i hi'
        simp only [add_plain, Nat.add_zero] at c0 c1
        simp only [List.getElem_map, List.getElem_range]
        exact ⟨u, c0, c1, c2⟩
    · intro y hy
      simp at hy
      obtain ⟨i, hi, rfl⟩ := hy
      obtain ⟨u, _, _, _, c3⟩ := hf i hi
      exact c3

end Go.Proofs.YticmebamclacaabGreatDoor

namespace Go.Proofs.YticmebamclacaabGreatDoor
open Go.Joins Go.ChangeShapes Go.WideShapes Go.ChangeAt Go.RowKit Go.Deep
set_option linter.unusedVariables false
set_option maxRecDepth 100000

theorem cellsEvent : Tryz.prog.cellsOf 68 = 2 := by kernel_rfl
theorem cellsValX : Tryz.prog.cellsOf 71 = 4 := by kernel_rfl
theorem bdsX {x : Int} (h : (Lit.int .i64 x).wf = true) : -9223372036854775808 ≤ x ∧ x ≤ 9223372036854775807 := by
  simp [Lit.wf, IntKind.min, IntKind.max, IntKind.signed, IntKind.bits] at h
  omega
theorem cells4X {w : World} {a : Addr} {cs : List Value} (h : w.cells? 0 a 4 = some cs) : ∃ c0 c1 c2 c3, cs = [c0, c1, c2, c3] ∧ w.cell? (a.add 0) = some c0 ∧ w.cell? (a.add 1) = some c1 ∧ w.cell? (a.add 2) = some c2 ∧ w.cell? (a.add 3) = some c3 := by
  unfold World.cells? at h
  rw [if_pos (Nat.zero_le _), show List.range 4 = [0, 1, 2, 3] from rfl] at h
  simp only [List.mapM_cons, List.mapM_nil, Option.pure_def, Option.bind_eq_bind, Option.bind_eq_some_iff, Option.some.injEq] at h
  obtain ⟨c0, h0, r0, ⟨c1, h1, r1, ⟨c2, h2, r2, ⟨c3, h3, r3, rfl, e3⟩, e2⟩, e1⟩, e0⟩ := h
  subst e3 e2 e1 e0
  exact ⟨c0, c1, c2, c3, rfl, h0, h1, h2, h3⟩
instance : Inhabited Val := ⟨⟨0, 0, 0, ⟨#[]⟩⟩⟩
instance : Inhabited Evt := ⟨⟨⟨#[]⟩, []⟩⟩

/-- One value, read off its four cells. -/
theorem open_valX {H : Type} {enc : TypeId × Value → H} {w : World} {sp : Nat → Bool} {held : Bool} {n : Nat} {a : Addr} {cs : List Value} {x : DataW H × List MemPlace} (hc : w.cells? 0 a 4 = some cs) (h : DataW.trod enc Tryz.prog w 0 sp held n 71 cs = some x) :
    ∃ X : Val, X.Fits ∧ w.cell? (a.add 0) = some (.int .i64 X.k) ∧ w.cell? (a.add 1) = some (.int .i64 X.n) ∧ w.cell? (a.add 2) = some (.int .i64 X.d) ∧ w.cell? (a.add 3) = some (.string X.s) := by
  obtain ⟨c0, c1, c2, c3, rfl, h0, h1, h2, h3⟩ := cells4X hc
  obtain ⟨y0, y1, y2, y3, m, _, _, t0, t1, t2, t3⟩ := trod_struct4 Tryz.underlying71 h
  obtain ⟨k, e0, _, w0⟩ := DataW.trod_int Tryz.underlying3 t0
  obtain ⟨p, e1, _, w1⟩ := DataW.trod_int Tryz.underlying2 t1
  obtain ⟨q, e2, _, w2⟩ := DataW.trod_int Tryz.underlying2 t2
  obtain ⟨s, e3, _, w3⟩ := DataW.trod_string Tryz.underlying9 t3
  have f0 : Tryz.prog.cellsOf 3 = 1 := by kernel_rfl
  have f1 : Tryz.prog.cellsOf 2 = 1 := by kernel_rfl
  have f3 : Tryz.prog.cellsOf 9 = 1 := by kernel_rfl
  simp [f0] at e0
  simp [f1] at e1 e2
  simp [f3] at e3
  subst e0 e1 e2 e3
  exact ⟨⟨k, p, q, s⟩, ⟨(bdsX w1).1, (bdsX w1).2, (bdsX w2).1, (bdsX w2).2⟩, h0, h1, h2, h3⟩

end Go.Proofs.YticmebamclacaabGreatDoor

namespace Go.Proofs.YticmebamclacaabGreatDoor
open Go.Joins Go.ChangeShapes Go.WideShapes Go.ChangeAt Go.RowKit Go.Deep
set_option linter.unusedVariables false
set_option maxRecDepth 100000

theorem bulkX_pos {H : Type} (d : DataW H) : 1 ≤ Rows.uptoBulk d := by
  unfold Rows.uptoBulk
  split <;> omega
theorem bulkX_len {H : Type} (l : List (DataW H)) : l.length ≤ Rows.uptoBulkAll l := by
  induction l with
  | nil => simp
  | cons d l ih =>
    rw [Rows.uptoBulkAll]
    have := bulkX_pos d
    simp only [List.length_cons]
    omega
theorem bulkX_slice {H : Type} (a b : List (DataW H)) : Rows.uptoBulk (.slice a b) = Rows.uptoBulkAll a + Rows.uptoBulkAll b + 1 := by rw [Rows.uptoBulk]
theorem bulkX_agg {H : Type} (a : List (DataW H)) : Rows.uptoBulk (.agg a) = Rows.uptoBulkAll a + 1 := by rw [Rows.uptoBulk]
theorem bulkX_two {H : Type} (a b : DataW H) : Rows.uptoBulkAll [a, b] = Rows.uptoBulk a + Rows.uptoBulk b := by rw [Rows.uptoBulkAll, Rows.uptoBulkAll, Rows.uptoBulkAll]; omega
theorem evsW_bulk {H : Type} (f : Nat → Evt) (D : Nat → DataW H) (l : List Nat) (h : ∀ i ∈ l, evW (f i) ≤ 600 * Rows.uptoBulk (D i)) : evsW (l.map f) ≤ 600 * Rows.uptoBulkAll (l.map D) := by
  induction l with
  | nil => simp [evsW]
  | cons a l ih =>
    rw [List.map_cons, List.map_cons, Rows.uptoBulkAll, evsW]
    have h1 := h a List.mem_cons_self
    have h2 := ih (fun i hi => h i (List.mem_cons_of_mem _ hi))
    omega

theorem open_vals3 {H : Type} {enc : TypeId × Value → H} {w : World} {sp : Nat → Bool} {held : Bool} {n : Nat} {v : Value} {x : DataW H × List MemPlace} (h : DataW.trod enc Tryz.prog w 0 sp held n 66 [v] = some x) (hlt : ∀ y ∈ x.2, y.block < w.heap.size) :
    ∃ xs : List Val, RowAt w v xs ∧ (∀ y ∈ xs, y.Fits) ∧ xs.length ≤ 9223372036854775807 ∧ xs.length ≤ Rows.uptoBulk x.1 := by
  rcases open_slice Tryz.underlying66 h with ⟨hcs, hx⟩ | ⟨a, len, cap, m, n', D, Pl, hcs, hb, hl, hm, em, hx, he⟩
  · injection hcs with hcs
    subst hcs
    exact ⟨[], ⟨none, 0, rfl, Or.inl rfl⟩, by simp, by simp, by simp⟩
  · injection hcs with hcs
    subst hcs hx
    have hlm : len ≤ m := by rw [em]; split <;> omega
    have each : ∀ i, i < len → ∃ X : Val, X.Fits ∧ w.cell? ((a.add (i * 4)).add 0) = some (.int .i64 X.k) ∧ w.cell? ((a.add (i * 4)).add 1) = some (.int .i64 X.n) ∧ w.cell? ((a.add (i * 4)).add 2) = some (.int .i64 X.d) ∧ w.cell? ((a.add (i * 4)).add 3) = some (.string X.s) := fun i hi => by
      obtain ⟨cs, h1, h2⟩ := he i (by omega)
      rw [cellsValX] at h1
      exact open_valX h1 h2
    obtain ⟨f, hf⟩ := choose_lt each
    refine ⟨(List.range len).map f, ⟨some a, cap, by simp, ?_⟩, ?_, by simp; unfold maxLen at hm; omega, by have := bulkX_len ((List.range len).map D); rw [bulkX_slice]; simp at this ⊢; omega⟩
    · by_cases h0 : len = 0
      · exact Or.inl (by simp [h0])
      · right
        obtain ⟨b, off, spot⟩ := a
        have hspot : spot = none := by simpa [Addr.add] using World.cell?_spot (hf 0 (by omega)).2.1
        subst hspot
        refine ⟨b, off, rfl, hlt (.cell b off) (List.mem_append_left _ (row_memX (by rw [cellsValX]; omega))), ?_⟩
        intro i hi
        have hi' : i < len := by simpa using hi
        obtain ⟨_, c0, c1, c2, c3⟩ := hf i hi'
        simp only [add_plain, Nat.add_zero] at c0 c1 c2 c3
        simp only [List.getElem_map, List.getElem_range]
        exact ⟨c0, c1, c2, c3⟩
    · intro y hy
      simp at hy
      obtain ⟨i, hi, rfl⟩ := hy
      exact (hf i hi).1

theorem open_evs3 {H : Type} {enc : TypeId × Value → H} {w : World} {sp : Nat → Bool} {held : Bool} {n : Nat} {v : Value} {x : DataW H × List MemPlace} (h : DataW.trod enc Tryz.prog w 0 sp held n 23 [v] = some x) (hlt : ∀ y ∈ x.2, y.block < w.heap.size) :
    ∃ L : List Evt, EvsAt w v L ∧ (∀ e ∈ L, ∀ v ∈ e.args, v.Fits) ∧ (∀ e ∈ L, e.args.length ≤ 9223372036854775807) ∧ L.length ≤ 9223372036854775807 ∧ evsW L ≤ 600 * Rows.uptoBulk x.1 := by
  rcases open_slice Tryz.underlying23 h with ⟨hcs, hx⟩ | ⟨a, len, cap, m, n', D, Pl, hcs, hb, hl, hm, em, hx, he⟩
  · injection hcs with hcs
    subst hcs
    exact ⟨[], ⟨none, 0, rfl, Or.inl rfl⟩, by simp, by simp, by simp, by simp [evsW]⟩
  · injection hcs with hcs
    subst hcs hx
    have hlm : len ≤ m := by rw [em]; split <;> omega
    have each : ∀ i, i < len → ∃ d : Evt, ∃ u, w.cell? ((a.add (i * 2)).add 0) = some (.string d.name) ∧ w.cell? ((a.add (i * 2)).add 1) = some u ∧ RowAt w u d.args ∧ (∀ v ∈ d.args, v.Fits) ∧ d.args.length ≤ 9223372036854775807 ∧ evW d ≤ 600 * Rows.uptoBulk (D i) := fun i hi => by
      obtain ⟨cs, h1, h2⟩ := he i (by omega)
      rw [cellsEvent] at h1
      obtain ⟨c0, c1, rfl, k0, k1⟩ := cells2X h1
      obtain ⟨y0, y1, m', ex, _, t0, t1⟩ := trod_struct2 Tryz.underlying68 h2
      obtain ⟨s, e0, ey0, _⟩ := DataW.trod_string Tryz.underlying9 t0
      have f0 : Tryz.prog.cellsOf 9 = 1 := by kernel_rfl
      have f1 : Tryz.prog.cellsOf 66 = 1 := by kernel_rfl
      simp [f0] at e0
      simp [f1] at t1
      subst e0
      have ex2 : Pl i = y0.2 ++ y1.2 := congrArg Prod.snd ex
      have ex1 : D i = .agg [y0.1, y1.1] := congrArg Prod.fst ex
      obtain ⟨xs, hk, fx, lk, bk⟩ := open_vals3 t1 (fun y hy => hlt y (List.mem_append_right _ (List.mem_flatMap.2 ⟨i, List.mem_range.2 (by omega), by rw [ex2]; exact List.mem_append_right _ hy⟩)))
      exact ⟨⟨s, xs⟩, c1, k0, k1, hk, fx, lk, by
        rw [ex1, bulkX_agg, bulkX_two, ey0]
        have hs : Rows.uptoBulk (DataW.lit (H := H) (.string s.data.toList)) = s.data.toList.length + 1 := by rw [Rows.uptoBulk]
        have hs2 : s.data.toList.length = s.size := by simp
        show 301 * xs.length + s.size + 500 ≤ _
        simp only [hs]
        omega⟩
    obtain ⟨f, hf⟩ := choose_lt each
    refine ⟨(List.range len).map f, ⟨some a, cap, by simp, ?_⟩, ?_, ?_, by simp; unfold maxLen at hm; omega, by
      have h9 := evsW_bulk f D (List.range len) (fun i hi => by obtain ⟨u, _, _, _, _, _, h8⟩ := hf i (List.mem_range.1 hi); exact h8)
      rw [bulkX_slice]
      omega⟩
    · by_cases h0 : len = 0
      · exact Or.inl (by simp [h0])
      · right
        obtain ⟨b, off, spot⟩ := a
        have hspot : spot = none := by
          obtain ⟨u, c0, _⟩ := hf 0 (by omega)
          simpa [Addr.add] using World.cell?_spot c0
        subst hspot
        refine ⟨b, off, rfl, hlt (.cell b off) (List.mem_append_left _ (row_memX (by rw [cellsEvent]; omega))), ?_⟩
        intro i hi
        have hi' : i < len := by simpa using hi
        obtain ⟨u, c0, c1, c2, _⟩ := hf i hi'
        simp only [add_plain, Nat.add_zero] at c0 c1
        simp only [List.getElem_map, List.getElem_range]
        exact ⟨u, c0, c1, c2⟩
    · intro y hy
      simp at hy
      obtain ⟨i, hi, rfl⟩ := hy
      obtain ⟨u, _, _, _, c3, _⟩ := hf i hi
      exact c3
    · intro y hy
      simp at hy
      obtain ⟨i, hi, rfl⟩ := hy
      obtain ⟨u, _, _, _, _, c4, _⟩ := hf i hi
      exact c4

theorem open_point3 {H : Type} {enc : TypeId × Value → H} {W : World} {r : Reach} {b0 : Nat} {v : Value} {d : DataW H} {p : List MemPlace} (hv : Value.okWide Tryz.prog W r b0 25 v) (h : DataW.Trod enc Tryz.prog W 0 (fun _ => true) true 25 v d p) (hlt : ∀ y ∈ p, y.block < W.heap.size) :
    ∃ (t : Int) (V : Value) (L : List Evt), v = .agg #[.int .i64 t, V] ∧ -9223372036854775808 ≤ t ∧ t ≤ 9223372036854775807 ∧ EvsAt W V L ∧ (∀ e ∈ L, ∀ v ∈ e.args, v.Fits) ∧ (∀ e ∈ L, e.args.length ≤ 9223372036854775807) ∧ L.length ≤ 9223372036854775807 ∧ evsW L ≤ 600 * Rows.uptoBulk d := by
  obtain ⟨T, V, y0, y1, n, rfl, hd, rfl, h0, h1⟩ := open_agg2 Tryz.underlying25 (by kernel_rfl) (by kernel_rfl) hv h
  obtain ⟨t, e0, _, w0⟩ := DataW.trod_int Tryz.underlying2 h0
  injection e0 with e0
  subst e0
  obtain ⟨L, a1, a2, a3, a4, a5⟩ := open_evs3 h1 (fun y hy => hlt y (List.mem_append_right _ hy))
  exact ⟨t, V, L, rfl, (bdsX w0).1, (bdsX w0).2, a1, a2, a3, a4, by rw [hd, bulkX_agg, bulkX_two]; omega⟩

end Go.Proofs.YticmebamclacaabGreatDoor
