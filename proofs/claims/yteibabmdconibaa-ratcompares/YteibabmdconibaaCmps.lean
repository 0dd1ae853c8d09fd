/- The law RatCompares of package custoslaw01 returns true for every two fractions: rat.Compare tells how they stand to one another just as the document says. No condition. -/
import Derived.Test.YteibabmdconibaaSame
import Derived.Test.YteibabmdconibaaRef2
import Derived.ProofKit
import Derived.OpenShut
import Derived.Lib.SmallJoins
namespace Go.Proofs.Yteibabmdconibaa.ratCompares
open Go.ChangeShapes Go.WideShapes Go.ChangeAt Go.RowKit Go.Joins Go.Shelf
set_option linter.unusedVariables false

set_option maxRecDepth 100000 in
set_option maxHeartbeats 2000000 in
theorem walk (a b c d : Int) (ha : -9223372036854775808 ≤ a) (ha' : a ≤ 9223372036854775807) (hb : -9223372036854775808 ≤ b) (hb' : b ≤ 9223372036854775807) (hc : -9223372036854775808 ≤ c) (hc' : c ≤ 9223372036854775807) (hd : -9223372036854775808 ≤ d) (hd' : d ≤ 9223372036854775807) (w : World) : Calls Try.prog 7 #[.agg #[.int .i64 a, .int .i64 b], .agg #[.int .i64 c, .int .i64 d]] w fun e w' => e = .returned (.bool true) ∧ Below w.heap.size w w' := by
  go_enter Try.func7, Try.ntmps7
  go_upto_region 1 with fail
  refine wp_world ?_
  intro W0 hW0
  have A : Blk2 W0 (w.heap.size) (a) (b) := by rw [hW0]; constructor <;> simp (maxDischargeDepth := 12) [go_sem]
  have l_A : w.heap.size < W0.heap.size := by rw [hW0]; first | (simp; done) | (simp; omega)
  have B : Blk2 W0 (w.heap.size + 1) (c) (d) := by rw [hW0]; constructor <;> simp (maxDischargeDepth := 12) [go_sem]
  have l_B : w.heap.size + 1 < W0.heap.size := by rw [hW0]; first | (simp; done) | (simp; omega)
  have hB0 : Below w.heap.size w W0 := by rw [hW0]; exact (by repeat' (first | (with_reducible exact Below.refl _ _) | (with_reducible assumption) | (with_reducible refine bdrewN _ ?_) | (with_reducible refine Below.alloc ?_ ?_ _) | (with_reducible refine Below.setCell ?_ ?_ _) | (with_reducible refine Below.drew ?_) | go_size | (simp; omega)))
  clear hW0
  have HA : Hid (Blk2 W0 (w.heap.size) (a) (b)) := A
  have HB : Hid (Blk2 W0 (w.heap.size + 1) (c) (d)) := B
  clear A B
  obtain ⟨A_0, A_1, -, -⟩ := HA.out
  obtain ⟨B_0, B_1, -, -⟩ := HB.out
  go_cut [5] (fun p wx => p = .int .i64 (cmpV a b c d) ∧ Below W0.heap.size W0 wx)
  case first =>
    go_region_held3 (fun w' => w'.cell? ⟨w.heap.size, 0, none⟩ = some (.int .i64 a) ∧ w'.cell? ⟨w.heap.size, 1, none⟩ = some (.int .i64 b) ∧ w'.cell? ⟨w.heap.size + 1, 0, none⟩ = some (.int .i64 c) ∧ w'.cell? ⟨w.heap.size + 1, 1, none⟩ = some (.int .i64 d)) (exact ⟨bcl (n := W0.heap.size) (by go_grown) A_0 (by simp; try omega), bcl (n := W0.heap.size) (by go_grown) A_1 (by simp; try omega), bcl (n := W0.heap.size) (by go_grown) B_0 (by simp; try omega), bcl (n := W0.heap.size) (by go_grown) B_1 (by simp; try omega)⟩)
      (first
        | (go_at_call 15; refine (lref_ex _ _ _).mono ?_; rintro e w' ⟨rfl, c1, c2, rfl⟩)
        | (go_at_call 22; refine (rcmp_all _ _ _ _ _ (by omega) (by omega) (by omega) (by omega) (by omega) (by omega) (by omega) (by omega)).mono ?_; rintro e w1 ⟨rfl, hb1⟩; obtain ⟨hc1, hf1, hz1, hB1, hn1, hm1⟩ := bg (n := W0.heap.size) (W0 := W0) (by go_grown) (by go_size) hb1; clear hm1))
    all_goals
      go_wp2
      go_meet
      case rel => exact ⟨rfl, (by repeat' (first | (with_reducible exact Below.refl _ _) | (with_reducible assumption) | (with_reducible refine bdrewN _ ?_) | (with_reducible refine Below.alloc ?_ ?_ _) | (with_reducible refine Below.setCell ?_ ?_ _) | (with_reducible refine Below.drew ?_) | go_size | (simp; omega)))⟩
  case rest =>
    obtain ⟨rfl, st⟩ := hcut
    clear A_0 A_1 B_0 B_1
    have A : Blk2 wc (w.heap.size) (a) (b) := HA.out.below st l_A
    have l_A : w.heap.size < wc.heap.size := Nat.lt_of_lt_of_le l_A st.size
    have B : Blk2 wc (w.heap.size + 1) (c) (d) := HB.out.below st l_B
    have l_B : w.heap.size + 1 < wc.heap.size := Nat.lt_of_lt_of_le l_B st.size
    have hBwc : Below w.heap.size w wc := hB0.trans (st.mono hB0.size)
    clear hB0 st HA HB
    have HA : Hid (Blk2 wc (w.heap.size) (a) (b)) := A
    have HB : Hid (Blk2 wc (w.heap.size + 1) (c) (d)) := B
    clear A B
    obtain ⟨A_0, A_1, -, -⟩ := HA.out
    obtain ⟨B_0, B_1, -, -⟩ := HB.out
    go_wp2_with fail
    refine (live_any _).mono ?_
    rintro e w2 ⟨rfl, hb2⟩
    clear A_0 A_1 B_0 B_1
    have A2 := HA.out.below hb2 l_A
    have B2 := HB.out.below hb2 l_B
    have hB2 := hBwc.trans (hb2.mono hBwc.size)
    obtain ⟨A_0, A_1, -, -⟩ := A2
    obtain ⟨B_0, B_1, -, -⟩ := B2
    go_wp2_with fail
    refine (cmp_all a b c d _ ha ha' hb hb' hc hc' hd hd').mono ?_
    rintro e w3 ⟨rfl, hb3⟩
    have hB3 := hB2.trans (hb3.mono hB2.size)
    go_wp2
    go_ret
    exact ⟨rfl, hB3⟩
theorem cells_23 : Try.prog.cellsOf 23 = 2 := by kernel_rfl

theorem own : ownKnob Try.prog.godebug = none := by kernel_rfl

/-- The row's end, where nothing that was there has turned and nothing is asked again. -/
theorem post_new {H : Type} {enc : TypeId × Value → H} {P : Program} {f : Func} {s : ChangeSpec} {apart fresh handsOn : Bool} {W W' : World} {args : Array Value} {v : Value} {ds gs : List (DataW H)} {before pa pv : List MemPlace}
    (hW : DataW.Whole enc P f.params.toList s.vars apart W args.toList ds gs before)
    (hres : ∀ (b : Nat) (sp : Nat → Bool) (hd : Bool), DataW.TrodAll enc P W' b sp hd f.resultTypes.toList (v.resultList f.resultTypes.size) (s.fn H (ds ++ gs)).results [])
    (hargs : ∀ sp : Nat → Bool, DataW.TrodAll enc P W' 0 sp true f.params.toList args.toList (s.fn H (ds ++ gs)).args pa)
    (hvars : ∀ sp : Nat → Bool, DataW.TrodVars enc P W' sp s.vars (s.fn H (ds ++ gs)).vars pv)
    (hps : before = pa ++ pv) (hk : W.keptBut W' (· ∈ before)) : s.post enc P f apart fresh handsOn false W args v W' :=
  ⟨ds, gs, before, [], pa, pv, hW, hres _ _ _, hargs _, hvars _, World.keptBut_mono (fun _ hp => ⟨hp, Or.inr (List.mem_append.1 (hps ▸ hp))⟩) hk, fun h => Bool.noConfusion h⟩

theorem bds {x : Int} (h : (Lit.int .i64 x).wf = true) : -9223372036854775808 ≤ x ∧ x ≤ 9223372036854775807 := by
  simp [Lit.wf, IntKind.min, IntKind.max, IntKind.signed, IntKind.bits] at h
  omega

set_option maxRecDepth 100000 in
theorem lifted (os : Os) (started : os.Started) (H : Type) (enc : TypeId × Value → H) :
    ReturnsInHanded {} Try.checked os 7 .any (Rows.ratComparesSpec.pre6 enc Try.prog Try.f7 Rows.ratComparesRow.domain false) (Rows.ratComparesSpec.post enc Try.prog Try.f7 false true false false) := by
  refine returnsInHanded_of_change (C := Try.checked) own started (by kernel_rfl) Try.func7
    (ChangeSpec.witness6 (enc := enc) (C := Try.checked) false ⟨#[], #[.agg #[.int .i64 0, .int .i64 0], .agg #[.int .i64 0, .int .i64 0]], []⟩ 8 (by kernel_rfl) (by kernel_rfl) (by kernel_rfl) (by kernel_rfl)) ?_
  intro W base args ds gs before hval0 hW hcnd _
  have hval : ∀ (j : Nat) t v, Try.f7.params[j]? = some t → args[j]? = some v → Value.okWide Try.prog W .any base t v := hval0
  have hW' := hW
  obtain ⟨p, q, hA0, hV, rfl, hfz, hnd⟩ := hW
  have hA : DataW.TrodAll enc Try.prog W 0 (fun _ => true) true Try.f7.params.toList args.toList ds p := hA0
  rw [Try.params7] at hA hval
  obtain ⟨v0, vs0, d0, ds0, p0, q0, hargs, rfl, rfl, h0, r0⟩ := trodAll_cons hA
  obtain ⟨v1, vs1, d1, ds1, p1, q1, rfl, rfl, rfl, h1, r1⟩ := trodAll_cons r0
  obtain ⟨rfl, rfl, rfl⟩ := trodAll_nil r1
  obtain rfl : args = #[v0, v1] := by cases args; simp_all
  obtain ⟨rfl, rfl⟩ := trodVars_none hV
  obtain ⟨c0, c1, y0, y1, m0, rfl, rfl, rfl, hy0, hy1⟩ := open_agg2 Try.underlying23 (by kernel_rfl) (cells_23) (hval 0 23 v0 rfl rfl) h0
  obtain ⟨x0, e0, rfl, wx0⟩ := DataW.trod_int Try.underlying2 hy0
  obtain ⟨x1, e1, rfl, wx1⟩ := DataW.trod_int Try.underlying2 hy1
  simp at e0 e1
  subst e0 e1
  obtain ⟨c2, c3, y2, y3, m1, rfl, rfl, rfl, hy2, hy3⟩ := open_agg2 Try.underlying23 (by kernel_rfl) (cells_23) (hval 1 23 v1 rfl rfl) h1
  obtain ⟨x2, e2, rfl, wx2⟩ := DataW.trod_int Try.underlying2 hy2
  obtain ⟨x3, e3, rfl, wx3⟩ := DataW.trod_int Try.underlying2 hy3
  simp at e2 e3
  subst e2 e3
  clear hA0 hval0
  simp only [List.append_nil] at hW'
  refine (walk x0 x1 x2 x3 (bds wx0).1 (bds wx0).2 (bds wx1).1 (bds wx1).2 (bds wx2).1 (bds wx2).2 (bds wx3).1 (bds wx3).2 W).mono fun e W' ⟨he, hg⟩ => ?_
  subst he
  exact ⟨_, rfl, post_new (pa := []) (pv := []) hW' (fun _ _ _ => (trodAll_cons_mk (shut_bool Try.underlying4 _) trodAll_mk0)) (fun sp => (trodAll_cons_mk (shut_agg2 (y0 := (.lit (.int .i64 x0), [])) (y1 := (.lit (.int .i64 x1), [])) Try.underlying23 (by kernel_rfl) (cells_23) ⟨1, by simp [DataW.trod, Try.underlying2, wx0]⟩ ⟨1, by simp [DataW.trod, Try.underlying2, wx1]⟩) (trodAll_cons_mk (shut_agg2 (y0 := (.lit (.int .i64 x2), [])) (y1 := (.lit (.int .i64 x3), [])) Try.underlying23 (by kernel_rfl) (cells_23) ⟨1, by simp [DataW.trod, Try.underlying2, wx2]⟩ ⟨1, by simp [DataW.trod, Try.underlying2, wx3]⟩) trodAll_mk0))) (fun _ => rfl) rfl (hg.frame _)⟩

theorem proved : Rows.RatComparesSaid :=
  OpenClaim.holds_of_wide 7 Try.f7 rfl rfl rfl rfl rfl rfl rfl ⟨rfl, rfl, rfl, rfl, rfl⟩ rfl rfl rfl rfl rfl (by kernel_rfl) Try.func7 (by kernel_rfl)
    (of_decide_eq_true (by kernel_rfl)) (by unfold Func.isWrapper; first | (rw [if_pos (by decide +kernel)]; kernel_rfl) | (rw [if_neg (by decide +kernel)]; exact ⟨rfl, rfl⟩))
    (fun os started H enc _ => lifted os started H enc)

end Go.Proofs.Yteibabmdconibaa.ratCompares
namespace Go.Proofs.Yteibabmdconibaa
theorem ratCompares_holds : Rows.RatComparesSaid := ratCompares.proved
#print axioms ratCompares_holds
end Go.Proofs.Yteibabmdconibaa
