/- The law RatSums of package custoslaw01 returns true for every two fractions: rat.Add and rat.Sub tell what the document says, the fraction or its error. No condition. -/
import Derived.Test.YteibabmdconibaaSame
import Derived.Test.YteibabmdconibaaDocSum
import Derived.Deep.DeepCutAuto
import Derived.ProofKit
import Derived.OpenShut
import Derived.Lib.SmallJoins
namespace Go.Proofs.Yteibabmdconibaa.ratSums
open Go.ChangeShapes Go.WideShapes Go.ChangeAt Go.RowKit Go.Joins Go.Shelf
set_option linter.unusedVariables false

set_option maxRecDepth 100000 in
set_option maxHeartbeats 4000000 in
theorem walk (a b c d : Int) (ha : -9223372036854775808 ≤ a) (ha' : a ≤ 9223372036854775807) (hb : -9223372036854775808 ≤ b) (hb' : b ≤ 9223372036854775807) (hc : -9223372036854775808 ≤ c) (hc' : c ≤ 9223372036854775807) (hd : -9223372036854775808 ≤ d) (hd' : d ≤ 9223372036854775807) (w : World) : Calls Try.prog 5 #[.agg #[.int .i64 a, .int .i64 b], .agg #[.int .i64 c, .int .i64 d]] w fun e w' => e = .returned (.bool true) ∧ Below w.heap.size w w' := by
  go_enter Try.func5, Try.ntmps5
  go_upto_region 1 with fail
  refine wp_world ?_
  intro W0 hW0
  have A : Blk2 W0 (w.heap.size) (a) (b) := by rw [hW0]; constructor <;> simp (maxDischargeDepth := 12) [go_sem]
  have l_A : w.heap.size < W0.heap.size := by rw [hW0]; first | (simp; done) | (simp; omega)
  have B : Blk2 W0 (w.heap.size + 1) (c) (d) := by rw [hW0]; constructor <;> simp (maxDischargeDepth := 12) [go_sem]
  have l_B : w.heap.size + 1 < W0.heap.size := by rw [hW0]; first | (simp; done) | (simp; omega)
  have hB0 : Below w.heap.size w W0 := by rw [hW0]; exact (by repeat' (first | (with_reducible exact Below.refl _ _) | (with_reducible assumption) | (with_reducible refine bdrewN _ ?_) | (with_reducible refine Below.alloc ?_ ?_ _) | (with_reducible refine Below.setCell ?_ ?_ _) | (with_reducible refine Below.drew ?_) | go_size | (simp; omega)))
  clear hW0
  have HA : Hid (Blk2 W0 (w.heap.size) (a) (b)) := A
  have HB : Hid (Blk2 W0 (w.heap.size + 1) (c) (d)) := B
  clear A B
  obtain ⟨A_0, A_1, -, -⟩ := HA.out
  obtain ⟨B_0, B_1, -, -⟩ := HB.out
  go_wp2_with fail
  refine (add_all a b c d _ ha ha' hb hb' hc hc' hd hd').mono ?_
  rintro e w1 ⟨rfl, hb1⟩
  have hz1 := hb1.size
  clear A_0 A_1 B_0 B_1
  go_upto_region 2 with fail
  refine wp_world ?_
  intro W1 hW1
  have st1 : Below W0.heap.size W0 W1 := by rw [hW1]; exact (by repeat' (first | (with_reducible exact Below.refl _ _) | (with_reducible assumption) | (with_reducible refine bdrewN _ ?_) | (with_reducible refine Below.alloc ?_ ?_ _) | (with_reducible refine Below.setCell ?_ ?_ _) | (with_reducible refine Below.drew ?_) | go_size | (simp; omega)))
  have X : Blk2 W1 (w1.heap.size) (tN a b c d (a * d + c * b) (b * d)) (tD a b c d (a * d + c * b) (b * d)) := by rw [hW1]; constructor <;> simp (maxDischargeDepth := 12) [go_sem]
  have l_X : w1.heap.size < W1.heap.size := by rw [hW1]; simp
  clear hW1
  have A : Blk2 W1 (w.heap.size) (a) (b) := HA.out.below st1 l_A
  have l_A : w.heap.size < W1.heap.size := Nat.lt_of_lt_of_le l_A st1.size
  have B : Blk2 W1 (w.heap.size + 1) (c) (d) := HB.out.below st1 l_B
  have l_B : w.heap.size + 1 < W1.heap.size := Nat.lt_of_lt_of_le l_B st1.size
  have hBW1 : Below w.heap.size w W1 := hB0.trans (st1.mono hB0.size)
  clear hB0 st1 HA HB
  have HA : Hid (Blk2 W1 (w.heap.size) (a) (b)) := A
  have HB : Hid (Blk2 W1 (w.heap.size + 1) (c) (d)) := B
  have HX : Hid (Blk2 W1 (w1.heap.size) (tN a b c d (a * d + c * b) (b * d)) (tD a b c d (a * d + c * b) (b * d))) := X
  clear A B X
  obtain ⟨A_0, A_1, -, -⟩ := HA.out
  obtain ⟨B_0, B_1, -, -⟩ := HB.out
  go_cut [7, 8] (fun p f wx => ∃ bn : Nat, p = .pointer (some ⟨bn, 0, none⟩) ∧ f = .int .i64 (tE a b c d (a * d + c * b) (b * d)) ∧ W1.heap.size ≤ bn ∧ bn < wx.heap.size ∧ Blk2 wx bn (tN a b c d (a * d + c * b) (b * d)) (tD a b c d (a * d + c * b) (b * d)) ∧ Below W1.heap.size W1 wx)
  case first =>
    go_region_held3 (fun w' => w'.cell? ⟨w.heap.size, 0, none⟩ = some (.int .i64 (a)) ∧ w'.cell? ⟨w.heap.size, 1, none⟩ = some (.int .i64 (b)) ∧ w'.cell? ⟨w.heap.size + 1, 0, none⟩ = some (.int .i64 (c)) ∧ w'.cell? ⟨w.heap.size + 1, 1, none⟩ = some (.int .i64 (d))) (exact ⟨bcl (n := W1.heap.size) (by go_grown) A_0 (by simp; try omega), bcl (n := W1.heap.size) (by go_grown) A_1 (by simp; try omega), bcl (n := W1.heap.size) (by go_grown) B_0 (by simp; try omega), bcl (n := W1.heap.size) (by go_grown) B_1 (by simp; try omega)⟩)
      (first
        | (go_at_call 15; refine (lref_ex _ _ _).mono ?_; rintro e w' ⟨rfl, c1, c2, rfl⟩)
        | (go_at_call 14; refine (radd_all _ _ _ _ _ (by omega) (by omega) (by omega) (by omega) (by omega) (by omega) (by omega) (by omega)).mono ?_; rintro e w1 ⟨rfl, hb1⟩; obtain ⟨hc1, hf1, hz1, hB1, hn1, hm1⟩ := bg (n := W1.heap.size) (W0 := W1) (by go_grown) (by go_size) hb1; have z_A := hm1 (w.heap.size) l_A; have z_B := hm1 (w.heap.size + 1) l_B; clear hm1))
    all_goals
      go_wp2
      go_meet
      case rel =>
        refine ⟨_, rfl, rfl, ?_, ?_, ?_, ?_⟩
        · first | go_size | (simp; omega)
        · first | omega | (simp; done) | (simp; omega) | simp (maxDischargeDepth := 8) [go_sem, *]
        · constructor <;> simp (maxDischargeDepth := 8) [go_sem, *]
        · exact (by repeat' (first | (with_reducible exact Below.refl _ _) | (with_reducible assumption) | (with_reducible refine bdrewN _ ?_) | (with_reducible refine Below.alloc ?_ ?_ _) | (with_reducible refine Below.setCell ?_ ?_ _) | (with_reducible refine Below.drew ?_) | go_size | (simp; omega)))
  case rest =>
    obtain ⟨bP, rfl, rfl, n_P, l_P, P, st2⟩ := hcut
    clear A_0 A_1 B_0 B_1
    obtain ⟨V2, eV2⟩ : ∃ V2 : World, V2 = wc := ⟨_, rfl⟩
    rw [← eV2] at l_P P st2 ⊢
    clear eV2 wc
    have A : Blk2 V2 (w.heap.size) (a) (b) := HA.out.below st2 l_A
    have l_A : w.heap.size < V2.heap.size := Nat.lt_of_lt_of_le l_A st2.size
    have B : Blk2 V2 (w.heap.size + 1) (c) (d) := HB.out.below st2 l_B
    have l_B : w.heap.size + 1 < V2.heap.size := Nat.lt_of_lt_of_le l_B st2.size
    have X : Blk2 V2 (w1.heap.size) (tN a b c d (a * d + c * b) (b * d)) (tD a b c d (a * d + c * b) (b * d)) := HX.out.below st2 l_X
    have l_X : w1.heap.size < V2.heap.size := Nat.lt_of_lt_of_le l_X st2.size
    have hBV2 : Below w.heap.size w V2 := hBW1.trans (st2.mono hBW1.size)
    clear hBW1 st2 HA HB HX
    have HA : Hid (Blk2 V2 (w.heap.size) (a) (b)) := A
    have HB : Hid (Blk2 V2 (w.heap.size + 1) (c) (d)) := B
    have HX : Hid (Blk2 V2 (w1.heap.size) (tN a b c d (a * d + c * b) (b * d)) (tD a b c d (a * d + c * b) (b * d))) := X
    have HP : Hid (Blk2 V2 (bP) (tN a b c d (a * d + c * b) (b * d)) (tD a b c d (a * d + c * b) (b * d))) := P
    clear A B X P
    obtain ⟨A_0, A_1, -, -⟩ := HA.out
    obtain ⟨B_0, B_1, -, -⟩ := HB.out
    go_wp2_with fail
    refine (sub_all a b c d _ ha ha' hb hb' hc hc' hd hd').mono ?_
    rintro e w3 ⟨rfl, hb3⟩
    have hz3 := hb3.size
    clear A_0 A_1 B_0 B_1
    go_upto_region 4 with fail
    refine wp_world ?_
    intro W3 hW3
    have st3 : Below V2.heap.size V2 W3 := by rw [hW3]; exact (by repeat' (first | (with_reducible exact Below.refl _ _) | (with_reducible assumption) | (with_reducible refine bdrewN _ ?_) | (with_reducible refine Below.alloc ?_ ?_ _) | (with_reducible refine Below.setCell ?_ ?_ _) | (with_reducible refine Below.drew ?_) | go_size | (simp; omega)))
    have Y : Blk2 W3 (w3.heap.size) (tN a b c d (a * d - c * b) (b * d)) (tD a b c d (a * d - c * b) (b * d)) := by rw [hW3]; constructor <;> simp (maxDischargeDepth := 12) [go_sem]
    have l_Y : w3.heap.size < W3.heap.size := by rw [hW3]; simp
    clear hW3
    have A : Blk2 W3 (w.heap.size) (a) (b) := HA.out.below st3 l_A
    have l_A : w.heap.size < W3.heap.size := Nat.lt_of_lt_of_le l_A st3.size
    have B : Blk2 W3 (w.heap.size + 1) (c) (d) := HB.out.below st3 l_B
    have l_B : w.heap.size + 1 < W3.heap.size := Nat.lt_of_lt_of_le l_B st3.size
    have X : Blk2 W3 (w1.heap.size) (tN a b c d (a * d + c * b) (b * d)) (tD a b c d (a * d + c * b) (b * d)) := HX.out.below st3 l_X
    have l_X : w1.heap.size < W3.heap.size := Nat.lt_of_lt_of_le l_X st3.size
    have P : Blk2 W3 (bP) (tN a b c d (a * d + c * b) (b * d)) (tD a b c d (a * d + c * b) (b * d)) := HP.out.below st3 l_P
    have l_P : bP < W3.heap.size := Nat.lt_of_lt_of_le l_P st3.size
    have hBW3 : Below w.heap.size w W3 := hBV2.trans (st3.mono hBV2.size)
    clear hBV2 st3 HA HB HX HP
    have HA : Hid (Blk2 W3 (w.heap.size) (a) (b)) := A
    have HB : Hid (Blk2 W3 (w.heap.size + 1) (c) (d)) := B
    have HX : Hid (Blk2 W3 (w1.heap.size) (tN a b c d (a * d + c * b) (b * d)) (tD a b c d (a * d + c * b) (b * d))) := X
    have HP : Hid (Blk2 W3 (bP) (tN a b c d (a * d + c * b) (b * d)) (tD a b c d (a * d + c * b) (b * d))) := P
    have HY : Hid (Blk2 W3 (w3.heap.size) (tN a b c d (a * d - c * b) (b * d)) (tD a b c d (a * d - c * b) (b * d))) := Y
    clear A B X P Y
    obtain ⟨A_0, A_1, -, -⟩ := HA.out
    obtain ⟨B_0, B_1, -, -⟩ := HB.out
    go_cut [11, 12] (fun p f wx => ∃ bn : Nat, p = .pointer (some ⟨bn, 0, none⟩) ∧ f = .int .i64 (tE a b c d (a * d - c * b) (b * d)) ∧ W3.heap.size ≤ bn ∧ bn < wx.heap.size ∧ Blk2 wx bn (tN a b c d (a * d - c * b) (b * d)) (tD a b c d (a * d - c * b) (b * d)) ∧ Below W3.heap.size W3 wx)
    case first =>
      go_region_held3 (fun w' => w'.cell? ⟨w.heap.size, 0, none⟩ = some (.int .i64 (a)) ∧ w'.cell? ⟨w.heap.size, 1, none⟩ = some (.int .i64 (b)) ∧ w'.cell? ⟨w.heap.size + 1, 0, none⟩ = some (.int .i64 (c)) ∧ w'.cell? ⟨w.heap.size + 1, 1, none⟩ = some (.int .i64 (d))) (exact ⟨bcl (n := W3.heap.size) (by go_grown) A_0 (by simp; try omega), bcl (n := W3.heap.size) (by go_grown) A_1 (by simp; try omega), bcl (n := W3.heap.size) (by go_grown) B_0 (by simp; try omega), bcl (n := W3.heap.size) (by go_grown) B_1 (by simp; try omega)⟩)
        (first
          | (go_at_call 15; refine (lref_ex _ _ _).mono ?_; rintro e w' ⟨rfl, c1, c2, rfl⟩)
          | (go_at_call 17; refine (rsub_all _ _ _ _ _ (by omega) (by omega) (by omega) (by omega) (by omega) (by omega) (by omega) (by omega)).mono ?_; rintro e w1 ⟨rfl, hb1⟩; obtain ⟨hc1, hf1, hz1, hB1, hn1, hm1⟩ := bg (n := W3.heap.size) (W0 := W3) (by go_grown) (by go_size) hb1; have z_A := hm1 (w.heap.size) l_A; have z_B := hm1 (w.heap.size + 1) l_B; clear hm1))
      all_goals
        go_wp2
        go_meet
        case rel =>
          refine ⟨_, rfl, rfl, ?_, ?_, ?_, ?_⟩
          · first | go_size | (simp; omega)
          · first | omega | (simp; done) | (simp; omega) | simp (maxDischargeDepth := 8) [go_sem, *]
          · constructor <;> simp (maxDischargeDepth := 8) [go_sem, *]
          · exact (by repeat' (first | (with_reducible exact Below.refl _ _) | (with_reducible assumption) | (with_reducible refine bdrewN _ ?_) | (with_reducible refine Below.alloc ?_ ?_ _) | (with_reducible refine Below.setCell ?_ ?_ _) | (with_reducible refine Below.drew ?_) | go_size | (simp; omega)))
    case rest =>
      obtain ⟨bQ, rfl, rfl, n_Q, l_Q, Q, st4⟩ := hcut
      clear A_0 A_1 B_0 B_1
      obtain ⟨V4, eV4⟩ : ∃ V4 : World, V4 = wc := ⟨_, rfl⟩
      rw [← eV4] at l_Q Q st4 ⊢
      clear eV4 wc
      have A : Blk2 V4 (w.heap.size) (a) (b) := HA.out.below st4 l_A
      have l_A : w.heap.size < V4.heap.size := Nat.lt_of_lt_of_le l_A st4.size
      have B : Blk2 V4 (w.heap.size + 1) (c) (d) := HB.out.below st4 l_B
      have l_B : w.heap.size + 1 < V4.heap.size := Nat.lt_of_lt_of_le l_B st4.size
      have X : Blk2 V4 (w1.heap.size) (tN a b c d (a * d + c * b) (b * d)) (tD a b c d (a * d + c * b) (b * d)) := HX.out.below st4 l_X
      have l_X : w1.heap.size < V4.heap.size := Nat.lt_of_lt_of_le l_X st4.size
      have P : Blk2 V4 (bP) (tN a b c d (a * d + c * b) (b * d)) (tD a b c d (a * d + c * b) (b * d)) := HP.out.below st4 l_P
      have l_P : bP < V4.heap.size := Nat.lt_of_lt_of_le l_P st4.size
      have Y : Blk2 V4 (w3.heap.size) (tN a b c d (a * d - c * b) (b * d)) (tD a b c d (a * d - c * b) (b * d)) := HY.out.below st4 l_Y
      have l_Y : w3.heap.size < V4.heap.size := Nat.lt_of_lt_of_le l_Y st4.size
      have hBV4 : Below w.heap.size w V4 := hBW3.trans (st4.mono hBW3.size)
      clear hBW3 st4 HA HB HX HP HY
      have HA : Hid (Blk2 V4 (w.heap.size) (a) (b)) := A
      have HB : Hid (Blk2 V4 (w.heap.size + 1) (c) (d)) := B
      have HX : Hid (Blk2 V4 (w1.heap.size) (tN a b c d (a * d + c * b) (b * d)) (tD a b c d (a * d + c * b) (b * d))) := X
      have HP : Hid (Blk2 V4 (bP) (tN a b c d (a * d + c * b) (b * d)) (tD a b c d (a * d + c * b) (b * d))) := P
      have HY : Hid (Blk2 V4 (w3.heap.size) (tN a b c d (a * d - c * b) (b * d)) (tD a b c d (a * d - c * b) (b * d))) := Y
      have HQ : Hid (Blk2 V4 (bQ) (tN a b c d (a * d - c * b) (b * d)) (tD a b c d (a * d - c * b) (b * d))) := Q
      clear A B X P Y Q
      go_wp2_with fail
      refine (live_any _).mono ?_
      rintro e w7 ⟨rfl, hb7⟩
      have X7 := HX.out.below hb7 l_X
      have P7 := HP.out.below hb7 l_P
      have Y7 : Hid _ := HY.out.below hb7 l_Y
      have Q7 : Hid _ := HQ.out.below hb7 l_Q
      have hB7 := hBV4.trans (hb7.mono hBV4.size)
      have hs7 := hb7.size
      obtain ⟨X_0, X_1, -, -⟩ := X7
      obtain ⟨P_0, P_1, -, -⟩ := P7
      go_wp2_with fail
      refine (lsame_any _ _ _).mono ?_
      rintro e w8 ⟨rfl, hb8⟩
      have Y8 := Y7.out.below hb8 (by omega)
      have Q8 := Q7.out.below hb8 (by omega)
      have hB8 := hB7.trans (hb8.mono hB7.size)
      clear X_0 X_1 P_0 P_1
      obtain ⟨Y_0, Y_1, -, -⟩ := Y8
      obtain ⟨Q_0, Q_1, -, -⟩ := Q8
      go_wp2_with fail
      refine (lsame_any _ _ _).mono ?_
      rintro e w9 ⟨rfl, hb9⟩
      have hB9 := hB8.trans (hb9.mono hB8.size)
      go_wp2
      go_ret
      exact ⟨rfl, hB9⟩

theorem cells_23 : Try.prog.cellsOf 23 = 2 := by kernel_rfl

theorem own : ownKnob Try.prog.godebug = none := by kernel_rfl

/-- The row's end, where nothing that was there has turned and nothing is asked again. -/
theorem post_new {H : Type} {enc : TypeId × Value → H} {P : Program} {f : Func} {s : ChangeSpec} {apart fresh handsOn : Bool} {W W' : World} {args : Array Value} {v : Value} {ds gs : List (DataW H)} {before pa pv : List MemPlace}
    (hW : DataW.Whole enc P f.params.toList s.vars apart W args.toList ds gs before)
    (hres : ∀ (b : Nat) (sp : Nat → Bool) (hd : Bool), DataW.TrodAll enc P W' b sp hd f.resultTypes.toList (v.resultList f.resultTypes.size) (s.fn H (ds ++ gs)).results [])
    (hargs : ∀ sp : Nat → Bool, DataW.TrodAll enc P W' 0 sp true f.params.toList args.toList (s.fn H (ds ++ gs)).args pa)
    (hvars : ∀ sp : Nat → Bool, DataW.TrodVars enc P W' sp s.vars (s.fn H (ds ++ gs)).vars pv)
    (hps : before = pa ++ pv) (hk : W.keptBut W' (· ∈ before)) : s.post enc P f apart fresh handsOn false W args v W' :=
  ⟨ds, gs, before, [], pa, pv, hW, hres _ _ _, hargs _, hvars _, World.keptBut_mono (fun _ hp => ⟨hp, Or.inr (List.mem_append.1 (hps ▸ hp))⟩) hk, fun h => Bool.noConfusion h⟩

theorem bds {x : Int} (h : (Lit.int .i64 x).wf = true) : -9223372036854775808 ≤ x ∧ x ≤ 9223372036854775807 := by
  simp [Lit.wf, IntKind.min, IntKind.max, IntKind.signed, IntKind.bits] at h
  omega

set_option maxRecDepth 100000 in
theorem lifted (os : Os) (started : os.Started) (H : Type) (enc : TypeId × Value → H) :
    ReturnsInHanded {} Try.checked os 5 .any (Rows.ratSumsSpec.pre6 enc Try.prog Try.f5 Rows.ratSumsRow.domain false) (Rows.ratSumsSpec.post enc Try.prog Try.f5 false true false false) := by
  refine returnsInHanded_of_change (C := Try.checked) own started (by kernel_rfl) Try.func5
    (ChangeSpec.witness6 (enc := enc) (C := Try.checked) false ⟨#[], #[.agg #[.int .i64 0, .int .i64 0], .agg #[.int .i64 0, .int .i64 0]], []⟩ 8 (by kernel_rfl) (by kernel_rfl) (by kernel_rfl) (by kernel_rfl)) ?_
  intro W base args ds gs before hval0 hW hcnd _
  have hval : ∀ (j : Nat) t v, Try.f5.params[j]? = some t → args[j]? = some v → Value.okWide Try.prog W .any base t v := hval0
  have hW' := hW
  obtain ⟨p, q, hA0, hV, rfl, hfz, hnd⟩ := hW
  have hA : DataW.TrodAll enc Try.prog W 0 (fun _ => true) true Try.f5.params.toList args.toList ds p := hA0
  rw [Try.params5] at hA hval
  obtain ⟨v0, vs0, d0, ds0, p0, q0, hargs, rfl, rfl, h0, r0⟩ := trodAll_cons hA
  obtain ⟨v1, vs1, d1, ds1, p1, q1, rfl, rfl, rfl, h1, r1⟩ := trodAll_cons r0
  obtain ⟨rfl, rfl, rfl⟩ := trodAll_nil r1
  obtain rfl : args = #[v0, v1] := by cases args; simp_all
  obtain ⟨rfl, rfl⟩ := trodVars_none hV
  obtain ⟨c0, c1, y0, y1, m0, rfl, rfl, rfl, hy0, hy1⟩ := open_agg2 Try.underlying23 (by kernel_rfl) (cells_23) (hval 0 23 v0 rfl rfl) h0
  obtain ⟨x0, e0, rfl, wx0⟩ := DataW.trod_int Try.underlying2 hy0
  obtain ⟨x1, e1, rfl, wx1⟩ := DataW.trod_int Try.underlying2 hy1
  simp at e0 e1
  subst e0 e1
  obtain ⟨c2, c3, y2, y3, m1, rfl, rfl, rfl, hy2, hy3⟩ := open_agg2 Try.underlying23 (by kernel_rfl) (cells_23) (hval 1 23 v1 rfl rfl) h1
  obtain ⟨x2, e2, rfl, wx2⟩ := DataW.trod_int Try.underlying2 hy2
  obtain ⟨x3, e3, rfl, wx3⟩ := DataW.trod_int Try.underlying2 hy3
  simp at e2 e3
  subst e2 e3
  clear hA0 hval0
  simp only [List.append_nil] at hW'
  refine (walk x0 x1 x2 x3 (bds wx0).1 (bds wx0).2 (bds wx1).1 (bds wx1).2 (bds wx2).1 (bds wx2).2 (bds wx3).1 (bds wx3).2 W).mono fun e W' ⟨he, hg⟩ => ?_
  subst he
  exact ⟨_, rfl, post_new (pa := []) (pv := []) hW' (fun _ _ _ => (trodAll_cons_mk (shut_bool Try.underlying4 _) trodAll_mk0)) (fun sp => (trodAll_cons_mk (shut_agg2 (y0 := (.lit (.int .i64 x0), [])) (y1 := (.lit (.int .i64 x1), [])) Try.underlying23 (by kernel_rfl) (cells_23) ⟨1, by simp [DataW.trod, Try.underlying2, wx0]⟩ ⟨1, by simp [DataW.trod, Try.underlying2, wx1]⟩) (trodAll_cons_mk (shut_agg2 (y0 := (.lit (.int .i64 x2), [])) (y1 := (.lit (.int .i64 x3), [])) Try.underlying23 (by kernel_rfl) (cells_23) ⟨1, by simp [DataW.trod, Try.underlying2, wx2]⟩ ⟨1, by simp [DataW.trod, Try.underlying2, wx3]⟩) trodAll_mk0))) (fun _ => rfl) rfl (hg.frame _)⟩

theorem proved : Rows.RatSumsSaid :=
  OpenClaim.holds_of_wide 5 Try.f5 rfl rfl rfl rfl rfl rfl rfl ⟨rfl, rfl, rfl, rfl, rfl⟩ rfl rfl rfl rfl rfl (by kernel_rfl) Try.func5 (by kernel_rfl)
    (of_decide_eq_true (by kernel_rfl)) (by unfold Func.isWrapper; first | (rw [if_pos (by decide +kernel)]; kernel_rfl) | (rw [if_neg (by decide +kernel)]; exact ⟨rfl, rfl⟩))
    (fun os started H enc _ => lifted os started H enc)

end Go.Proofs.Yteibabmdconibaa.ratSums
namespace Go.Proofs.Yteibabmdconibaa
theorem ratSums_holds : Rows.RatSumsSaid := ratSums.proved
#print axioms ratSums_holds
end Go.Proofs.Yteibabmdconibaa
