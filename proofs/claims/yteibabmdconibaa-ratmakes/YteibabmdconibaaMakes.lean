/- The law RatMakes of package custoslaw01 returns true for every two numbers of 64 bits: rat.Of makes the document's fraction of them, or its error. No condition. -/
import Derived.Test.YteibabmdconibaaSame
import Derived.ProofKit
import Derived.OpenShut
import Derived.Lib.SmallJoins
namespace Go.Proofs.Yteibabmdconibaa.ratMakes
open Go.ChangeShapes Go.WideShapes Go.ChangeAt Go.RowKit Go.Joins Go.Shelf
set_option linter.unusedVariables false

set_option maxHeartbeats 1000000 in
theorem walk (n d : Int) (h1 : -9223372036854775808 ≤ n) (h2 : n ≤ 9223372036854775807) (k1 : -9223372036854775808 ≤ d) (k2 : d ≤ 9223372036854775807) (w : World) : Calls Try.prog 4 #[.int .i64 n, .int .i64 d] w fun e w' => e = .returned (.bool true) ∧ Below w.heap.size w w' := by
  go_enter Try.func4, Try.ntmps4
  go_wp2_with fail
  refine (of_all n d _ h1 h2 k1 k2).mono ?_
  rintro e w1 ⟨rfl, hb1⟩
  have g1 : Below w.heap.size w w1 := upon (by go_grown) hb1
  have l1 := g1.size
  go_wp2_with fail
  refine (rOf_all n d _ h1 h2 k1 k2).mono ?_
  rintro e w2 ⟨rfl, hb2⟩
  have g2 : Below w.heap.size w w2 := upon (by go_grown) hb2
  have l2 := g2.size
  have ca2_0 := old hb2 (b := w1.heap.size) (o := 0) (v := .int .i64 (oN n d)) (by simp [go_sem]) (by go_size)
  have ca2_1 := old hb2 (b := w1.heap.size) (o := 1) (v := .int .i64 (oD n d)) (by simp [go_sem]) (by go_size)
  have za2 := oldlt hb2 (b := w1.heap.size) (by go_size)
  go_wp2_with fail
  refine (live_any _).mono ?_
  rintro e w3 ⟨rfl, hb3⟩
  have g3 : Below w.heap.size w w3 := upon (by go_grown) hb3
  have l3 := g3.size
  have ca3_0 := old hb3 (b := w1.heap.size) (o := 0) (v := .int .i64 (oN n d)) (by first | (with_reducible exact ca2_0) | simp [go_sem, ca2_0, za2]) (by go_size)
  have ca3_1 := old hb3 (b := w1.heap.size) (o := 1) (v := .int .i64 (oD n d)) (by first | (with_reducible exact ca2_1) | simp [go_sem, ca2_1, za2]) (by go_size)
  have za3 := oldlt hb3 (b := w1.heap.size) (by go_size)
  have cb3_0 := old hb3 (b := w2.heap.size) (o := 0) (v := .int .i64 (oN n d)) (by simp [go_sem]) (by go_size)
  have cb3_1 := old hb3 (b := w2.heap.size) (o := 1) (v := .int .i64 (oD n d)) (by simp [go_sem]) (by go_size)
  have zb3 := oldlt hb3 (b := w2.heap.size) (by go_size)
  clear ca2_0 ca2_1 za2
  go_wp2_with fail
  refine (lsame_any _ _ _).mono ?_
  rintro e w4 ⟨rfl, hb4⟩
  have g4 : Below w.heap.size w w4 := upon (by go_grown) hb4
  have l4 := g4.size
  clear ca3_0 ca3_1 za3 cb3_0 cb3_1 zb3
  go_wp2
  go_ret
  exact ⟨rfl, g4⟩


theorem own : ownKnob Try.prog.godebug = none := by kernel_rfl

/-- The row's end, where nothing that was there has turned and nothing is asked again. -/
theorem post_new {H : Type} {enc : TypeId × Value → H} {P : Program} {f : Func} {s : ChangeSpec} {apart fresh handsOn : Bool} {W W' : World} {args : Array Value} {v : Value} {ds gs : List (DataW H)} {before pa pv : List MemPlace}
    (hW : DataW.Whole enc P f.params.toList s.vars apart W args.toList ds gs before)
    (hres : ∀ (b : Nat) (sp : Nat → Bool) (hd : Bool), DataW.TrodAll enc P W' b sp hd f.resultTypes.toList (v.resultList f.resultTypes.size) (s.fn H (ds ++ gs)).results [])
    (hargs : ∀ sp : Nat → Bool, DataW.TrodAll enc P W' 0 sp true f.params.toList args.toList (s.fn H (ds ++ gs)).args pa)
    (hvars : ∀ sp : Nat → Bool, DataW.TrodVars enc P W' sp s.vars (s.fn H (ds ++ gs)).vars pv)
    (hps : before = pa ++ pv) (hk : W.keptBut W' (· ∈ before)) : s.post enc P f apart fresh handsOn false W args v W' :=
  ⟨ds, gs, before, [], pa, pv, hW, hres _ _ _, hargs _, hvars _, World.keptBut_mono (fun _ hp => ⟨hp, Or.inr (List.mem_append.1 (hps ▸ hp))⟩) hk, fun h => Bool.noConfusion h⟩

theorem bds {x : Int} (h : (Lit.int .i64 x).wf = true) : -9223372036854775808 ≤ x ∧ x ≤ 9223372036854775807 := by
  simp [Lit.wf, IntKind.min, IntKind.max, IntKind.signed, IntKind.bits] at h
  omega

set_option maxRecDepth 100000 in
theorem lifted (os : Os) (started : os.Started) (H : Type) (enc : TypeId × Value → H) :
    ReturnsInHanded {} Try.checked os 4 .any (Rows.ratMakesSpec.pre6 enc Try.prog Try.f4 Rows.ratMakesRow.domain false) (Rows.ratMakesSpec.post enc Try.prog Try.f4 false true false false) := by
  refine returnsInHanded_of_change (C := Try.checked) own started (by kernel_rfl) Try.func4
    (ChangeSpec.witness6 (enc := enc) (C := Try.checked) false ⟨#[], #[.int .i64 0, .int .i64 0], []⟩ 8 (by kernel_rfl) (by kernel_rfl) (by kernel_rfl) (by kernel_rfl)) ?_
  intro W base args ds gs before hval0 hW hcnd _
  have hval : ∀ (j : Nat) t v, Try.f4.params[j]? = some t → args[j]? = some v → Value.okWide Try.prog W .any base t v := hval0
  have hW' := hW
  obtain ⟨p, q, hA0, hV, rfl, hfz, hnd⟩ := hW
  have hA : DataW.TrodAll enc Try.prog W 0 (fun _ => true) true Try.f4.params.toList args.toList ds p := hA0
  rw [Try.params4] at hA hval
  obtain ⟨v0, vs0, d0, ds0, p0, q0, hargs, rfl, rfl, h0, r0⟩ := trodAll_cons hA
  obtain ⟨v1, vs1, d1, ds1, p1, q1, rfl, rfl, rfl, h1, r1⟩ := trodAll_cons r0
  obtain ⟨rfl, rfl, rfl⟩ := trodAll_nil r1
  obtain rfl : args = #[v0, v1] := by cases args; simp_all
  obtain ⟨rfl, rfl⟩ := trodVars_none hV
  obtain ⟨x0, rfl, rfl, rfl, wx0⟩ := open_int Try.underlying2 (hval 0 2 v0 rfl rfl) h0
  obtain ⟨x1, rfl, rfl, rfl, wx1⟩ := open_int Try.underlying2 (hval 1 2 v1 rfl rfl) h1
  clear hA0 hval0
  simp only [List.append_nil] at hW'
  refine (walk x0 x1 (bds wx0).1 (bds wx0).2 (bds wx1).1 (bds wx1).2 W).mono fun e W' ⟨he, hg⟩ => ?_
  subst he
  exact ⟨_, rfl, post_new (pa := []) (pv := []) hW' (fun _ _ _ => (trodAll_cons_mk (shut_bool Try.underlying4 _) trodAll_mk0)) (fun sp => (trodAll_cons_mk (shut_int Try.underlying2 wx0) (trodAll_cons_mk (shut_int Try.underlying2 wx1) trodAll_mk0))) (fun _ => rfl) rfl (hg.frame _)⟩

theorem proved : Rows.RatMakesSaid :=
  OpenClaim.holds_of_wide 4 Try.f4 rfl rfl rfl rfl rfl rfl rfl ⟨rfl, rfl, rfl, rfl, rfl⟩ rfl rfl rfl rfl rfl (by kernel_rfl) Try.func4 (by kernel_rfl)
    (of_decide_eq_true (by kernel_rfl)) (by unfold Func.isWrapper; first | (rw [if_pos (by decide +kernel)]; kernel_rfl) | (rw [if_neg (by decide +kernel)]; exact ⟨rfl, rfl⟩))
    (fun os started H enc _ => lifted os started H enc)

end Go.Proofs.Yteibabmdconibaa.ratMakes
namespace Go.Proofs.Yteibabmdconibaa
theorem ratMakes_holds : Rows.RatMakesSaid := ratMakes.proved
#print axioms ratMakes_holds
end Go.Proofs.Yteibabmdconibaa
