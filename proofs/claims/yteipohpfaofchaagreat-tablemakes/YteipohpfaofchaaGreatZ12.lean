/- The law TableMakes of package custoslaw03 returns true at any variables and rows. No condition. -/
import Derived.Test.YteipohpfaofchaaGreatRows
import Derived.Test.YteipohpfaofchaaGreatZ11
import Derived.ProofKit
import Derived.OpenShut
import Derived.Lib.SmallJoins
import Derived.SizedLaws

namespace Go.Proofs.YteipohpfaofchaaGreat.tableMakes
open Go.ChangeShapes Go.WideShapes Go.ChangeAt Go.RowKit Go.Joins Go.Shelf Go.Deep
set_option maxRecDepth 100000
set_option linter.unusedVariables false

theorem own : ownKnob Tryz.prog.godebug = none := by kernel_rfl

/-- The row's end, where nothing that was there has turned and nothing is asked again. -/
theorem post_new {H : Type} {enc : TypeId × Value → H} {P : Program} {f : Func} {s : ChangeSpec} {apart fresh handsOn : Bool} {W W' : World} {args : Array Value} {v : Value} {ds gs : List (DataW H)} {before pa pv : List MemPlace}
    (hW : DataW.Whole enc P f.params.toList s.vars apart W args.toList ds gs before)
    (hres : ∀ (b : Nat) (sp : Nat → Bool) (hd : Bool), DataW.TrodAll enc P W' b sp hd f.resultTypes.toList (v.resultList f.resultTypes.size) (s.fn H (ds ++ gs)).results [])
    (hargs : DataW.TrodAll enc P W' 0 (fun b => decide (b < W.heap.size)) true f.params.toList args.toList (s.fn H (ds ++ gs)).args pa)
    (hvars : ∀ sp : Nat → Bool, DataW.TrodVars enc P W' sp s.vars (s.fn H (ds ++ gs)).vars pv)
    (hps : before = pa ++ pv) (hk : W.keptBut W' (· ∈ before)) : s.post enc P f apart fresh handsOn false W args v W' :=
  ⟨ds, gs, before, [], pa, pv, hW, hres _ _ _, hargs, hvars _, World.keptBut_mono (fun _ hp => ⟨hp, Or.inr (List.mem_append.1 (hps ▸ hp))⟩) hk, fun h => Bool.noConfusion h⟩

theorem laidOut : laidOutB Tryz.prog = true := by kernel_rfl

/-- Rows that came in, by the values that the cells hold. -/
theorem vals_of_arg {W : World} {r : Reach} {base : Nat} {v : Value} {rs : List (List Val)} (ok : Value.okWide Tryz.prog W r base 23 v) (h : TabRows W v rs) : ∃ us, ValsAt W v us ∧ RowsOf W us rs := by
  obtain ⟨p, c, rfl, h | ⟨b, off, rfl, hb, hr⟩⟩ := h
  · subst h
    cases p with
    | none => exact ⟨[], Or.inl ⟨c, rfl, rfl⟩, rfl, fun i h => absurd h (Nat.not_lt_zero _)⟩
    | some a =>
      obtain ⟨b, off, spot⟩ := a
      have hs : spot = none := by
        simp only [Value.okWide, Cell.okWide, Cell.ok, Tryz.underlying23, World.has] at ok
        exact ok.2.2.2.1
      subst hs
      exact ⟨[], Or.inr ⟨b, off, c, rfl, Or.inl rfl, fun i h => absurd h (Nat.not_lt_zero _)⟩, rfl, fun i h => absurd h (Nat.not_lt_zero _)⟩
  · obtain ⟨f, hf⟩ := choose_lt (n := rs.length) (p := fun i v => W.cell? ⟨b, off + i, none⟩ = some v ∧ ∀ h : i < rs.length, RowAt W v rs[i]) (fun i hi => by
      obtain ⟨v, h1, h2⟩ := hr i hi
      exact ⟨v, h1, fun _ => h2⟩)
    refine ⟨(List.range rs.length).map f, Or.inr ⟨b, off, c, by simp, Or.inr hb, fun i h => ?_⟩, by simp, fun i h g => ?_⟩
    · rw [List.getElem_map, List.getElem_range]
      exact (hf i (by simpa using h)).1
    · rw [List.getElem_map, List.getElem_range]
      exact (hf i g).2 g

set_option maxRecDepth 100000 in
theorem lifted (os : Os) (started : os.Started) (H : Type) (enc : TypeId × Value → H) :
    ReturnsInHanded {} Tryz.checked os 5 .any (Rows.tableMakesSpec.pre6 enc Tryz.prog Tryz.f5 Rows.tableMakesRow.domain false) (Rows.tableMakesSpec.post enc Tryz.prog Tryz.f5 false true false false) := by
  refine returnsInHanded_of_change_sized (C := Tryz.checked) own started (by kernel_rfl) Tryz.func5
    (ChangeSpec.witness6 (enc := enc) (C := Tryz.checked) false ⟨#[], #[.slice none 0 0, .slice none 0 0], []⟩ 8 (by kernel_rfl) (by kernel_rfl) (by kernel_rfl) (by kernel_rfl)) ?_
  intro W base args ds gs before hval0 hW hcnd hsz0 _
  have hval : ∀ (j : Nat) t v, Tryz.f5.params[j]? = some t → args[j]? = some v → Value.okWide Tryz.prog W .any base t v := hval0
  have hW' := hW
  obtain ⟨p, q, hA0, hV, rfl, hfz, hnd⟩ := hW
  have hA : DataW.TrodAll enc Tryz.prog W 0 (fun _ => true) true Tryz.f5.params.toList args.toList ds p := hA0
  rw [Tryz.params5] at hA hval
  have hsz : (DataW.weightsEach Tryz.prog (Tryz.f5.params.toList ++ Rows.tableMakesSpec.plain.varTypes Tryz.prog) (ds ++ gs)).all (· ≤ reachBytes) = true := hsz0
  rw [Tryz.params5] at hsz
  obtain ⟨v0, v1, d0, d1, p0, p1, rfl, rfl, rfl, h0, h1⟩ := trodAll_two hA
  obtain ⟨rfl, rfl⟩ := trodVars_none hV
  clear hA0 hval0 hsz0
  simp only [List.append_nil] at hW'
  have hlt0 : ∀ y ∈ p0, y.block < W.heap.size := fun y hy => by simpa using hW'.lt y (by simp [hy])
  have hlt1 : ∀ y ∈ p1, y.block < W.heap.size := fun y hy => by simpa using hW'.lt y (by simp [hy])
  have ok1 := hval 1 23 v1 rfl rfl
  obtain ⟨q0, n0, k0, rfl⟩ := okWide_slice Tryz.underlying22 (hval 0 22 v0 rfl rfl)
  obtain ⟨q1, n1, k1, rfl⟩ := okWide_slice Tryz.underlying23 ok1
  obtain ⟨f0, h0'⟩ := id h0
  obtain ⟨f1, h1'⟩ := id h1
  obtain ⟨vs, a1, a2, a3, a4⟩ := opens_strs h0' hlt0
  obtain ⟨xs, b1, b2, b3, b4, -, b6⟩ := opens_rows h1' hlt1
  obtain ⟨us, u1, u2⟩ := vals_of_arg ok1 b1
  have s1 := a4 (fun k hk => by
    have h := List.all_eq_true.1 hsz _ (DataW.weights_mem_each (j := 0) (t := 22) (d := d0) rfl rfl k hk)
    have h2 := reachBytes_lt
    have h3 : k ≤ reachBytes := by simpa using h
    omega)
  obtain ⟨s2, s3⟩ := b6 (fun k hk => by
    have h := List.all_eq_true.1 hsz _ (DataW.weights_mem_each (j := 1) (t := 23) (d := d1) rfl rfl k hk)
    have h2 := reachBytes_lt
    have h3 : k ≤ reachBytes := by simpa using h
    omega)
  refine (tmakes_any W a1 a3 a2 u1 u2 b2 b3 s1 s2 s3).mono fun e W' ⟨he, hg⟩ => ?_
  subst he
  have t0 : DataW.Trod enc Tryz.prog W' 0 (fun b => decide (b < W.heap.size)) true 22 _ d0 p0 := Below.trod laidOut (by kernel_rfl) (of_decide_eq_true (by kernel_rfl)) h0 hg hlt0
  have t1 : DataW.Trod enc Tryz.prog W' 0 (fun b => decide (b < W.heap.size)) true 23 _ d1 p1 := Below.trod laidOut (by kernel_rfl) (of_decide_eq_true (by kernel_rfl)) h1 hg hlt1
  exact ⟨_, rfl, post_new (pa := p0 ++ p1) (pv := []) hW' (fun _ _ _ => (trodAll_cons_mk (shut_bool Tryz.underlying4 _) trodAll_mk0)) (trodAll_mk2 t0 t1) (fun _ => rfl) (by simp) (hg.frame _)⟩

theorem proved : Rows.TableMakesSaid :=
  OpenClaim.holds_of_wide 5 Tryz.f5 rfl rfl rfl rfl rfl rfl rfl ⟨rfl, rfl, rfl, rfl, rfl⟩ rfl rfl rfl rfl rfl (by kernel_rfl) Tryz.func5 (by kernel_rfl)
    (of_decide_eq_true (by kernel_rfl)) (by unfold Func.isWrapper; first | (rw [if_pos (by decide +kernel)]; kernel_rfl) | (rw [if_neg (by decide +kernel)]; exact ⟨rfl, rfl⟩))
    (fun os started H enc _ => lifted os started H enc)

end Go.Proofs.YteipohpfaofchaaGreat.tableMakes
namespace Go.Proofs.YteipohpfaofchaaGreat
theorem tableMakes_holds : Rows.TableMakesSaid := tableMakes.proved
#print axioms tableMakes_holds
end Go.Proofs.YteipohpfaofchaaGreat
