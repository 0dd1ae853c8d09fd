/- The law RatNumbers of package custoslaw01, which names the numbers of errors and some fractions at the edge of 64 bits, returns true. No condition. -/
import Derived.Test.YtchfnmafladciaaLive
import Derived.ProofKit
import Derived.OpenShut
import Derived.Lib.SmallJoins
namespace Go.Proofs.Ytchfnmafladciaa.ratNumbers
open Go.ChangeShapes Go.WideShapes Go.ChangeAt Go.RowKit Go.Joins Go.Shelf
set_option linter.unusedVariables false

theorem of_c3 (w : World) : Calls Try.prog 9 #[.int .i64 (-9223372036854775808), .int .i64 (-1)] w fun e w' => e = .returned (.tuple #[.agg #[.int .i64 0, .int .i64 0], .int .i64 10]) ∧ Below w.heap.size w w' := by
  have h := of_all (-9223372036854775808) (-1) w (by decide) (by decide) (by decide) (by decide)
  rwa [show oN (-9223372036854775808) (-1) = 0 by decide +kernel, show oD (-9223372036854775808) (-1) = 0 by decide +kernel, show oE (-9223372036854775808) (-1) = 10 by decide +kernel] at h
theorem of_c4 (w : World) : Calls Try.prog 9 #[.int .i64 (-9223372036854775808), .int .i64 (-9223372036854775808)] w fun e w' => e = .returned (.tuple #[.agg #[.int .i64 1, .int .i64 1], .int .i64 0]) ∧ Below w.heap.size w w' := by
  have h := of_all (-9223372036854775808) (-9223372036854775808) w (by decide) (by decide) (by decide) (by decide)
  rwa [show oN (-9223372036854775808) (-9223372036854775808) = 1 by decide +kernel, show oD (-9223372036854775808) (-9223372036854775808) = 1 by decide +kernel, show oE (-9223372036854775808) (-9223372036854775808) = 0 by decide +kernel] at h
theorem add_c3 (w : World) : Calls Try.prog 10 #[.agg #[.int .i64 9223372036854775807, .int .i64 2], .agg #[.int .i64 9223372036854775807, .int .i64 2]] w fun e w' => e = .returned (.tuple #[.agg #[.int .i64 9223372036854775807, .int .i64 1], .int .i64 0]) ∧ Below w.heap.size w w' := by
  have h := add_all 9223372036854775807 2 9223372036854775807 2 w (by decide) (by decide) (by decide) (by decide) (by decide) (by decide) (by decide) (by decide)
  rwa [show tN 9223372036854775807 2 9223372036854775807 2 (9223372036854775807 * 2 + 9223372036854775807 * 2) (2 * 2) = 9223372036854775807 by decide +kernel, show tD 9223372036854775807 2 9223372036854775807 2 (9223372036854775807 * 2 + 9223372036854775807 * 2) (2 * 2) = 1 by decide +kernel, show tE 9223372036854775807 2 9223372036854775807 2 (9223372036854775807 * 2 + 9223372036854775807 * 2) (2 * 2) = 0 by decide +kernel] at h
theorem add_c4 (w : World) : Calls Try.prog 10 #[.agg #[.int .i64 2, .int .i64 4], .agg #[.int .i64 1, .int .i64 1]] w fun e w' => e = .returned (.tuple #[.agg #[.int .i64 0, .int .i64 0], .int .i64 1]) ∧ Below w.heap.size w w' := by
  have h := add_all 2 4 1 1 w (by decide) (by decide) (by decide) (by decide) (by decide) (by decide) (by decide) (by decide)
  rwa [show tN 2 4 1 1 (2 * 1 + 1 * 4) (4 * 1) = 0 by decide +kernel, show tD 2 4 1 1 (2 * 1 + 1 * 4) (4 * 1) = 0 by decide +kernel, show tE 2 4 1 1 (2 * 1 + 1 * 4) (4 * 1) = 1 by decide +kernel] at h

set_option maxHeartbeats 1000000 in
theorem walk (w : World) : Calls Try.prog 3 #[] w fun e w' => e = .returned (.bool true) ∧ Below w.heap.size w w' := by
  go_enter Try.func3, Try.ntmps3
  go_wp2_with fail
  refine (of_c3 _).mono ?_
  rintro e w1 ⟨rfl, hb1⟩
  have l1 := hb1.size
  go_wp2_with fail
  refine (of_c4 _).mono ?_
  rintro e w2 ⟨rfl, hb2⟩
  have g2 : Below w.heap.size w w2 := upon (by go_grown) hb2
  have l2 := g2.size
  go_wp2_with fail
  refine (add_c3 _).mono ?_
  rintro e w3 ⟨rfl, hb3⟩
  have g3 : Below w.heap.size w w3 := upon (by go_grown) hb3
  have l3 := g3.size
  have c30 := old hb3 (b := w2.heap.size) (o := 0) (v := .int .i64 1) (by simp [go_sem]) (by simp)
  have c31 := old hb3 (b := w2.heap.size) (o := 1) (v := .int .i64 1) (by simp [go_sem]) (by simp)
  have z3 := oldlt hb3 (b := w2.heap.size) (by simp)
  go_wp2_with fail
  refine (add_c4 _).mono ?_
  rintro e w4 ⟨rfl, hb4⟩
  have g4 : Below w.heap.size w w4 := upon (by go_grown) hb4
  have l4 := g4.size
  have c40 := old hb4 (b := w2.heap.size) (o := 0) (v := .int .i64 1) (by simp [go_sem, c30, z3]) (by simp; omega)
  have c41 := old hb4 (b := w2.heap.size) (o := 1) (v := .int .i64 1) (by simp [go_sem, c31, z3]) (by simp; omega)
  have z4 := oldlt hb4 (b := w2.heap.size) (by simp; omega)
  have c42 := old hb4 (b := w3.heap.size) (o := 0) (v := .int .i64 9223372036854775807) (by simp [go_sem]) (by simp)
  have c43 := old hb4 (b := w3.heap.size) (o := 1) (v := .int .i64 1) (by simp [go_sem]) (by simp)
  have y4 := oldlt hb4 (b := w3.heap.size) (by simp)
  clear c30 c31 z3
  go_wp2_with fail
  refine (live_any _).mono ?_
  rintro e w5 ⟨rfl, hb5⟩
  have g5 : Below w.heap.size w w5 := upon (by go_grown) hb5
  have c50 := old hb5 (b := w2.heap.size) (o := 0) (v := .int .i64 1) (by simp [go_sem, c40, z4]) (by simp; omega)
  have c51 := old hb5 (b := w2.heap.size) (o := 1) (v := .int .i64 1) (by simp [go_sem, c41, z4]) (by simp; omega)
  have c52 := old hb5 (b := w3.heap.size) (o := 0) (v := .int .i64 9223372036854775807) (by simp [go_sem, c42, y4]) (by simp; omega)
  have c53 := old hb5 (b := w3.heap.size) (o := 1) (v := .int .i64 1) (by simp [go_sem, c43, y4]) (by simp; omega)
  clear c40 c41 c42 c43
  go_wp2
  go_ret
  exact ⟨rfl, g5⟩


theorem own : ownKnob Try.prog.godebug = none := by kernel_rfl

/-- The row's end, where nothing that was there has turned and nothing is asked again. -/
theorem post_new {H : Type} {enc : TypeId × Value → H} {P : Program} {f : Func} {s : ChangeSpec} {apart fresh handsOn : Bool} {W W' : World} {args : Array Value} {v : Value} {ds gs : List (DataW H)} {before pa pv : List MemPlace}
    (hW : DataW.Whole enc P f.params.toList s.vars apart W args.toList ds gs before)
    (hres : ∀ (b : Nat) (sp : Nat → Bool) (hd : Bool), DataW.TrodAll enc P W' b sp hd f.resultTypes.toList (v.resultList f.resultTypes.size) (s.fn H (ds ++ gs)).results [])
    (hargs : ∀ sp : Nat → Bool, DataW.TrodAll enc P W' 0 sp true f.params.toList args.toList (s.fn H (ds ++ gs)).args pa)
    (hvars : ∀ sp : Nat → Bool, DataW.TrodVars enc P W' sp s.vars (s.fn H (ds ++ gs)).vars pv)
    (hps : before = pa ++ pv) (hk : W.keptBut W' (· ∈ before)) : s.post enc P f apart fresh handsOn false W args v W' :=
  ⟨ds, gs, before, [], pa, pv, hW, hres _ _ _, hargs _, hvars _, World.keptBut_mono (fun _ hp => ⟨hp, Or.inr (List.mem_append.1 (hps ▸ hp))⟩) hk, fun h => Bool.noConfusion h⟩

theorem bds {x : Int} (h : (Lit.int .i64 x).wf = true) : -9223372036854775808 ≤ x ∧ x ≤ 9223372036854775807 := by
  simp [Lit.wf, IntKind.min, IntKind.max, IntKind.signed, IntKind.bits] at h
  omega

set_option maxRecDepth 100000 in
theorem lifted (os : Os) (started : os.Started) (H : Type) (enc : TypeId × Value → H) :
    ReturnsInHanded {} Try.checked os 3 .any (Rows.ratNumbersSpec.pre6 enc Try.prog Try.f3 Rows.ratNumbersRow.domain false) (Rows.ratNumbersSpec.post enc Try.prog Try.f3 false true false false) := by
  refine returnsInHanded_of_change (C := Try.checked) own started (by kernel_rfl) Try.func3
    (ChangeSpec.witness6 (enc := enc) (C := Try.checked) false ⟨#[], #[], []⟩ 8 (by kernel_rfl) (by kernel_rfl) (by kernel_rfl) (by kernel_rfl)) ?_
  intro W base args ds gs before hval0 hW hcnd _
  have hval : ∀ (j : Nat) t v, Try.f3.params[j]? = some t → args[j]? = some v → Value.okWide Try.prog W .any base t v := hval0
  have hW' := hW
  obtain ⟨p, q, hA0, hV, rfl, hfz, hnd⟩ := hW
  have hA : DataW.TrodAll enc Try.prog W 0 (fun _ => true) true Try.f3.params.toList args.toList ds p := hA0
  rw [Try.params3] at hA hval
  obtain ⟨rfl, rfl, rfl⟩ := trodAll_none hA
  obtain ⟨rfl, rfl⟩ := trodVars_none hV
  clear hA0 hval0
  simp only [List.append_nil] at hW'
  refine (walk   W).mono fun e W' ⟨he, hg⟩ => ?_
  subst he
  exact ⟨_, rfl, post_new (pa := []) (pv := []) hW' (fun _ _ _ => (trodAll_cons_mk (shut_bool Try.underlying4 _) trodAll_mk0)) (fun sp => rfl) (fun _ => rfl) rfl (hg.frame _)⟩

theorem proved : Rows.RatNumbersSaid :=
  OpenClaim.holds_of_wide 3 Try.f3 rfl rfl rfl rfl rfl rfl rfl ⟨rfl, rfl, rfl, rfl, rfl⟩ rfl rfl rfl rfl rfl (by kernel_rfl) Try.func3 (by kernel_rfl)
    (of_decide_eq_true (by kernel_rfl)) (by unfold Func.isWrapper; first | (rw [if_pos (by decide +kernel)]; kernel_rfl) | (rw [if_neg (by decide +kernel)]; exact ⟨rfl, rfl⟩))
    (fun os started H enc _ => lifted os started H enc)

end Go.Proofs.Ytchfnmafladciaa.ratNumbers
namespace Go.Proofs.Ytchfnmafladciaa
theorem ratNumbers_holds : Rows.RatNumbersSaid := ratNumbers.proved
#print axioms ratNumbers_holds
end Go.Proofs.Ytchfnmafladciaa
