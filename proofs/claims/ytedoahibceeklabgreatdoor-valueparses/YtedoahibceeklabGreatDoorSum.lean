/- What rat.sum does. -/
import Derived.Test.YtedoahibceeklabGreatDoorOps
import Derived.Deep.DeepCutAuto
namespace Go.Proofs.YtedoahibceeklabGreatDoor
open Go.RowKit Go.Shelf

set_option maxHeartbeats 4000000 in
theorem sum_raw (xb yb bb : Bool) (xn xd yn yd g x1 y1 y2 A B T l D n : Int) (w : World)
    (hxn : 0 ≤ xn) (hxn' : xn < 18446744073709551616) (hyn : 0 ≤ yn) (hyn' : yn < 18446744073709551616) (hxd : 0 < xd) (hxd' : xd < 18446744073709551616) (hyd : 0 < yd) (hyd' : yd < 18446744073709551616)
    (eg : gc xd yd = g) (hg : 0 < g) (hg' : g < 18446744073709551616) (hng : ¬ g = 0)
    (t1 : IntKind.u64.wrap (yd.tdiv g) = y1) (hy1 : 0 ≤ y1) (hy1' : y1 < 18446744073709551616) (t2 : IntKind.u64.wrap (xd.tdiv g) = x1) (hx1 : 0 ≤ x1) (hx1' : x1 < 18446744073709551616)
    (eA : xn * y1 = A) (hA : 0 ≤ A) (eB : yn * x1 = B) (hB0 : 0 ≤ B) (hAB : A + B < 340282366920938463463374607431768211456)
    (eT : ssT xb A yb B = T) (ebb : ssB xb A yb B = bb) (hT : 0 ≤ T) (hT' : T < 340282366920938463463374607431768211456)
    (hTg : 0 ≤ T % g) (hTg' : T % g < 18446744073709551616) (el : gc (T % g) g = l) (hl : 0 < l) (hl' : l < 18446744073709551616) (hnl : ¬ l = 0)
    (t4 : IntKind.u64.wrap (yd.tdiv l) = y2) (hy2 : 0 ≤ y2) (hy2' : y2 < 18446744073709551616) (eD : x1 * y2 = D) (hD : 0 ≤ D) (hD' : D < 340282366920938463463374607431768211456) (en : T / l = n) (hn0 : 0 ≤ n) :
    Calls Tryz.prog 71 #[.agg #[.bool xb, .int .u64 xn, .int .u64 xd], .agg #[.bool yb, .int .u64 yn, .int .u64 yd]] w fun e w' => e = .returned (.tuple #[.agg #[.int .i64 (outN (sg bb n) D), .int .i64 (outD (sg bb n) D)], .int .i64 (outE (sg bb n) D)]) ∧ Below w.heap.size w w' := by
  go_enter Tryz.func71, Tryz.ntmps71
  go_upto_region 2 with (first
    | (go_at_call 68; refine (divisor_any _ _ _ (by omega) (by omega) (by omega) (by omega)).mono ?_; rintro e w' ⟨rfl, k, rfl⟩))
  obtain ⟨W0, eW⟩ : ∃ W0 : World, Hid (W0 = (((w.alloc (Obj.cells #[.bool xb, .int .u64 xn, .int .u64 xd] 101)).alloc (Obj.cells #[.bool yb, .int .u64 yn, .int .u64 yd] 101)).alloc (Obj.cells #[.int .i64 0, .int .i64 0] 55)).drewN k) := ⟨_, rfl⟩
  rw [← eW.out]
  have k0 : Below w.heap.size w W0 := by rw [eW.out]; refine bdrewN _ ?_; go_grown
  have cxb : W0.cell? ⟨w.heap.size, 0, none⟩ = some (.bool xb) := by rw [eW.out]; simp [go_sem]
  have cxn : W0.cell? ⟨w.heap.size, 1, none⟩ = some (.int .u64 xn) := by rw [eW.out]; simp [go_sem]
  have cxd : W0.cell? ⟨w.heap.size, 2, none⟩ = some (.int .u64 xd) := by rw [eW.out]; simp [go_sem]
  have cyb : W0.cell? ⟨w.heap.size + 1, 0, none⟩ = some (.bool yb) := by rw [eW.out]; simp [go_sem]
  have cyn : W0.cell? ⟨w.heap.size + 1, 1, none⟩ = some (.int .u64 yn) := by rw [eW.out]; simp [go_sem]
  have cyd : W0.cell? ⟨w.heap.size + 1, 2, none⟩ = some (.int .u64 yd) := by rw [eW.out]; simp [go_sem]
  have cr0 : W0.cell? ⟨w.heap.size + 1 + 1, 0, none⟩ = some (.int .i64 0) := by rw [eW.out]; simp [go_sem]
  have cr1 : W0.cell? ⟨w.heap.size + 1 + 1, 1, none⟩ = some (.int .i64 0) := by rw [eW.out]; simp [go_sem]
  have fr0 : W0.frozen? ⟨w.heap.size + 1 + 1, 0, none⟩ = false := by rw [eW.out]; simp [go_sem]
  have fr1 : W0.frozen? ⟨w.heap.size + 1 + 1, 1, none⟩ = false := by rw [eW.out]; simp [go_sem]
  have k1 : W0.heap.size = w.heap.size + 3 := by rw [eW.out]; simp
  clear eW
  go_cut [7, 8] (fun a b wx => ∃ bt : Nat, a = .bool bb ∧ b = .pointer (some ⟨bt, 0, none⟩) ∧ w.heap.size + 3 ≤ bt ∧ bt < wx.heap.size ∧ wx.cell? ⟨bt, 0, none⟩ = some (.int .u64 (hi T)) ∧ wx.cell? ⟨bt, 1, none⟩ = some (.int .u64 (lo T)) ∧ Below (w.heap.size + 3) W0 wx)
  case first =>
    go_region_held3 (fun w' => w'.cell? ⟨w.heap.size, 0, none⟩ = some (.bool xb) ∧ w'.cell? ⟨w.heap.size, 1, none⟩ = some (.int .u64 xn) ∧ w'.cell? ⟨w.heap.size, 2, none⟩ = some (.int .u64 xd) ∧ w'.cell? ⟨w.heap.size + 1, 0, none⟩ = some (.bool yb) ∧ w'.cell? ⟨w.heap.size + 1, 1, none⟩ = some (.int .u64 yn) ∧ w'.cell? ⟨w.heap.size + 1, 2, none⟩ = some (.int .u64 yd)) (simp [go_sem, *])
      (first
        | (go_at_call_of 91 y1; refine (times_any _ _ _ (by omega) (by omega) (by omega) (by omega)).mono ?_; rintro e w1 ⟨rfl, hb1⟩; obtain ⟨hc1, hf1, hz1, hB1, hn1, hm1⟩ := bg (n := w.heap.size + 3) (W0 := W0) (by go_grown) (by go_size) hb1; have za1 := hm1 w.heap.size (by omega); have zb1 := hm1 (w.heap.size + 1) (by omega); have zc1 := hm1 (w.heap.size + 1 + 1) (by omega); clear hm1)
        | (go_at_call_of 91 x1; refine (times_any _ _ _ (by omega) (by omega) (by omega) (by omega)).mono ?_; rintro e w2 ⟨rfl, hb2⟩; obtain ⟨hc2, hf2, hz2, hB2, hn2, hm2⟩ := bg (n := w.heap.size + 3) (W0 := W0) (by go_grown) (by go_size) hb2; have za2 := hm2 w.heap.size (by omega); have zb2 := hm2 (w.heap.size + 1) (by omega); have zc2 := hm2 (w.heap.size + 1 + 1) (by omega); clear hm2; have hy2 := fun i h => hz2 i (Nat.lt_of_lt_of_le (hz1 i h) (by go_size)))
        | (go_at_call 90; refine (signedSum_any _ _ A B _ hA hB0 hAB).mono ?_; rintro e w3 ⟨rfl, hb3⟩; obtain ⟨hc3, hf3, hz3, hB3, hn3, hm3⟩ := bg (n := w.heap.size + 3) (W0 := W0) (by go_grown) (by go_size) hb3; have za3 := hm3 w.heap.size (by omega); have zb3 := hm3 (w.heap.size + 1) (by omega); have zc3 := hm3 (w.heap.size + 1 + 1) (by omega); clear hm3; have hy3 := fun i h => hz3 i (Nat.lt_of_lt_of_le (hy2 i h) (by go_size))))
    all_goals
      go_wp2
      go_meet
      case rel =>
        refine ⟨_, rfl, rfl, ?_, ?_, ?_, ?_, ?_⟩
        · go_size
        · first | omega | (simp; done) | (simp; omega) | simp (maxDischargeDepth := 8) [go_sem, *]
        · simp (maxDischargeDepth := 8) [go_sem, *]
        · simp (maxDischargeDepth := 8) [go_sem, *]
        · go_grown
  case rest =>
    obtain ⟨bt, rfl, rfl, b1, b2, b3, b4, b5⟩ := hcut
    have b6 := b5.size
    rw [k1] at b6
    have cxbc := bcl b5 cxb (by simp; try omega)
    have cxnc := bcl b5 cxn (by simp; try omega)
    have cxdc := bcl b5 cxd (by simp; try omega)
    have cybc := bcl b5 cyb (by simp; try omega)
    have cync := bcl b5 cyn (by simp; try omega)
    have cydc := bcl b5 cyd (by simp; try omega)
    have cr0c := bcl b5 cr0 (by simp; try omega)
    have cr1c := bcl b5 cr1 (by simp; try omega)
    have fr0c := bfr b5 fr0 (by simp; try omega)
    have fr1c := bfr b5 fr1 (by simp; try omega)
    have hBB : Below w.heap.size w wc := k0.trans (b5.mono (by omega))
    clear cxb cxn cyb cyn cxbc cxnc cybc cync t1 eA eB eT ebb
    by_cases hA1 : l ≤ hi T
    · obtain ⟨o1, o2, o3⟩ := out_no (p := sg bb n) (q := D) (by have := kn_over hl hA1; rw [en] at this; unfold sg; split <;> omega)
      have O1 : Hid (outN (sg bb n) D = 0) := o1
      have O2 : Hid (outD (sg bb n) D = 0) := o2
      have O3 : Hid (outE (sg bb n) D = 10) := o3
      clear o1 o2 o3
      go_wp2_with (first
        | (go_at_call 92; refine (rem64_any T g _ hT hT' hg hg').mono ?_; rintro e w' ⟨rfl, k2, rfl⟩)
        | (go_at_call 68; refine (divisor_any (T % g) g _ (by omega) (by omega) (by omega) (by omega)).mono ?_; rintro e w' ⟨rfl, k3, rfl⟩))
      refine bodyPost_ret (by simp [results, Tryz.results71, go_sem, cr0c, cr1c]; try rfl) rfl ?_
      exact ⟨ret_frac O1.out.symm O2.out.symm O3.out.symm, by refine Below.setCell (Below.setCell (bdrewN _ hBB) ?_ _) ?_ _ <;> go_size⟩
    · have hlt : hi T < l := by omega
      have hn1 : n ≤ 18446744073709551615 := by have := kn_fits hl hlt; rw [en] at this; omega
      go_upto_region 7 with (first
        | (go_at_call 92; refine (rem64_any T g _ hT hT' hg hg').mono ?_; rintro e w' ⟨rfl, k2, rfl⟩)
        | (go_at_call 68; refine (divisor_any (T % g) g _ (by omega) (by omega) (by omega) (by omega)).mono ?_; rintro e w' ⟨rfl, k3, rfl⟩)
        | (go_at_call 93; refine (div64_any T l _ hT hl hl' hlt).mono ?_; rintro e w' ⟨rfl, k4, rfl⟩))
      obtain ⟨W2, eW2⟩ : ∃ W2 : World, Hid (W2 = wc.drewN (k2 + k3 + k4)) := ⟨_, rfl⟩
      rw [← eW2.out]
      have d5 : Below (w.heap.size + 3) W0 W2 := by rw [eW2.out]; exact bdrewN _ b5
      have d6 := d5.size
      rw [k1] at d6
      have y0' : w.heap.size < W2.heap.size := by omega
      have y1' : w.heap.size + 1 < W2.heap.size := by omega
      have y2' : w.heap.size + 1 + 1 < W2.heap.size := by omega
      have y3' : w.heap.size < W2.heap.size + 1 := by omega
      have y4' : w.heap.size + 1 < W2.heap.size + 1 := by omega
      have d7 : Below w.heap.size w W2 := by rw [eW2.out]; exact bdrewN _ hBB
      clear eW2 b1 b2 b3 b4 cxdc cydc cr0c cr1c fr0c fr1c eg el
      have cxdd := bcl d5 cxd (by simp; try omega)
      have cydd := bcl d5 cyd (by simp; try omega)
      go_cut [12] (fun a wx => ∃ bt : Nat, a = .pointer (some ⟨bt, 0, none⟩) ∧ w.heap.size + 3 ≤ bt ∧ bt < wx.heap.size ∧ wx.cell? ⟨bt, 0, none⟩ = some (.int .u64 (hi D)) ∧ wx.cell? ⟨bt, 1, none⟩ = some (.int .u64 (lo D)) ∧ Below (w.heap.size + 3) W0 wx)
      case first =>
        go_region_held3 (fun w' => w'.cell? ⟨w.heap.size, 2, none⟩ = some (.int .u64 xd) ∧ w'.cell? ⟨w.heap.size + 1, 2, none⟩ = some (.int .u64 yd)) (exact ⟨bcl (n := w.heap.size + 3) (by go_grown) cxd (by simp; try omega), bcl (n := w.heap.size + 3) (by go_grown) cyd (by simp; try omega)⟩)
          (first
            | (go_at_call 91; refine (times_any _ _ _ (by omega) (by omega) (by omega) (by omega)).mono ?_; rintro e w1 ⟨rfl, hb1⟩; obtain ⟨hc1, hf1, hz1, hB1, hn1, hm1⟩ := bg (n := w.heap.size + 3) (W0 := W0) (by go_grown) (by go_size) hb1; have za1 := hm1 w.heap.size (by omega); have zb1 := hm1 (w.heap.size + 1) (by omega); have zc1 := hm1 (w.heap.size + 1 + 1) (by omega); clear hm1))
        all_goals
          go_wp2
          go_meet
          case rel =>
            refine ⟨_, rfl, ?_, ?_, ?_, ?_, ?_⟩
            · go_size
            · first | omega | (simp; done) | (simp; omega) | simp (maxDischargeDepth := 8) [go_sem, *]
            · simp (maxDischargeDepth := 8) [go_sem, *]
            · simp (maxDischargeDepth := 8) [go_sem, *]
            · go_grown
      case rest =>
        obtain ⟨bd, rfl, q1, q2, q3, q4, q5⟩ := hcut
        have q6 := q5.size
        rw [k1] at q6
        have x0' : w.heap.size < wc.heap.size := by omega
        have x1' : w.heap.size + 1 < wc.heap.size := by omega
        have x2' : w.heap.size + 1 + 1 < wc.heap.size := by omega
        have hBD : Below w.heap.size w wc := k0.trans (q5.mono (by omega))
        have cr0d := bcl q5 cr0 (by simp; try omega)
        have cr1d := bcl q5 cr1 (by simp; try omega)
        have fr0d := bfr q5 fr0 (by simp; try omega)
        have fr1d := bfr q5 fr1 (by simp; try omega)
        clear cxd cyd cxdd cydd cr0 cr1 fr0 fr1 t2 t4 eD
        by_cases hD1 : hi D = 0
        · have eLo : lo D = D := by unfold hi at hD1; unfold lo; omega
          have hlo := lo_bd D
          have hD2 : D ≤ 18446744073709551615 := by omega
          clear hlo
          go_wp2_with (first
            | (go_at_call 69; refine (fit_any bb n D _ hn0 hn1 hD hD2).mono ?_; rintro e w5 ⟨rfl, hb5⟩; obtain ⟨hc5, hf5, hz5, hB5⟩ := bf (w := w) hBD hb5))
          refine bodyPost_ret (by simp [results, Tryz.results71, go_sem, hc5, cr0d, cr1d, x2']; try rfl) rfl ?_
          exact ⟨rfl, by go_grown⟩
        · obtain ⟨o1, o2, o3⟩ := out_no (p := sg bb n) (q := D) (by unfold hi at hD1; omega)
          have O1 : Hid (outN (sg bb n) D = 0) := o1
          have O2 : Hid (outD (sg bb n) D = 0) := o2
          have O3 : Hid (outE (sg bb n) D = 10) := o3
          have hD2 : (hi D != 0) = true := by simpa using hD1
          clear o1 o2 o3
          go_wp2
          refine bodyPost_ret (by simp [results, Tryz.results71, go_sem, cr0d, cr1d]; try rfl) rfl ?_
          exact ⟨ret_frac O1.out.symm O2.out.symm O3.out.symm, by go_grown⟩

end Go.Proofs.YtedoahibceeklabGreatDoor
