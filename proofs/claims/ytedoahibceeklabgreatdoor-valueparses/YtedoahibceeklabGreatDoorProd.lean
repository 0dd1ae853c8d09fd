/- What rat.product and rat.less do. -/
import Derived.Test.YtedoahibceeklabGreatDoorOps
import Derived.Deep.DeepCutAuto
namespace Go.Proofs.YtedoahibceeklabGreatDoor
open Go.RowKit Go.Shelf

set_option maxHeartbeats 4000000 in
theorem product_raw (xb yb bb : Bool) (xn xd yn yd f s a1 a2 a3 a4 C D : Int) (w : World)
    (hxn : 0 ≤ xn) (hxn' : xn < 18446744073709551616) (hyn : 0 ≤ yn) (hyn' : yn < 18446744073709551616) (hxd : 0 < xd) (hxd' : xd < 18446744073709551616) (hyd : 0 < yd) (hyd' : yd < 18446744073709551616)
    (ebb : (!(xb == yb)) = bb) (ef : gc xn yd = f) (hnf : ¬ f = 0) (es : gc yn xd = s) (hns : ¬ s = 0)
    (t1 : IntKind.u64.wrap (xn.tdiv f) = a1) (h1 : 0 ≤ a1) (h1' : a1 < 18446744073709551616) (t2 : IntKind.u64.wrap (yn.tdiv s) = a2) (h2 : 0 ≤ a2) (h2' : a2 < 18446744073709551616)
    (t3 : IntKind.u64.wrap (xd.tdiv s) = a3) (h3 : 0 ≤ a3) (h3' : a3 < 18446744073709551616) (t4 : IntKind.u64.wrap (yd.tdiv f) = a4) (h4 : 0 ≤ a4) (h4' : a4 < 18446744073709551616)
    (eC : a1 * a2 = C) (hC : 0 ≤ C) (eD : a3 * a4 = D) (hD : 0 ≤ D) :
    Calls Tryz.prog 73 #[.agg #[.bool xb, .int .u64 xn, .int .u64 xd], .agg #[.bool yb, .int .u64 yn, .int .u64 yd]] w fun e w' => e = .returned (.tuple #[.agg #[.int .i64 (outN (sg bb C) D), .int .i64 (outD (sg bb C) D)], .int .i64 (outE (sg bb C) D)]) ∧ Below w.heap.size w w' := by
  go_enter Tryz.func73, Tryz.ntmps73
  go_upto_region 1 with fail
  obtain ⟨W0, eW⟩ : ∃ W0 : World, Hid (W0 = ((w.alloc (Obj.cells #[.bool xb, .int .u64 xn, .int .u64 xd] 101)).alloc (Obj.cells #[.bool yb, .int .u64 yn, .int .u64 yd] 101)).alloc (Obj.cells #[.int .i64 0, .int .i64 0] 55)) := ⟨_, rfl⟩
  rw [← eW.out]
  have k0 : Below w.heap.size w W0 := by rw [eW.out]; go_grown
  have cxb : W0.cell? ⟨w.heap.size, 0, none⟩ = some (.bool xb) := by rw [eW.out]; simp [go_sem]
  have cxn : W0.cell? ⟨w.heap.size, 1, none⟩ = some (.int .u64 xn) := by rw [eW.out]; simp [go_sem]
  have cxd : W0.cell? ⟨w.heap.size, 2, none⟩ = some (.int .u64 xd) := by rw [eW.out]; simp [go_sem]
  have cyb : W0.cell? ⟨w.heap.size + 1, 0, none⟩ = some (.bool yb) := by rw [eW.out]; simp [go_sem]
  have cyn : W0.cell? ⟨w.heap.size + 1, 1, none⟩ = some (.int .u64 yn) := by rw [eW.out]; simp [go_sem]
  have cyd : W0.cell? ⟨w.heap.size + 1, 2, none⟩ = some (.int .u64 yd) := by rw [eW.out]; simp [go_sem]
  have cr0 : W0.cell? ⟨w.heap.size + 1 + 1, 0, none⟩ = some (.int .i64 0) := by rw [eW.out]; simp [go_sem]
  have cr1 : W0.cell? ⟨w.heap.size + 1 + 1, 1, none⟩ = some (.int .i64 0) := by rw [eW.out]; simp [go_sem]
  have fr0 : W0.frozen? ⟨w.heap.size + 1 + 1, 0, none⟩ = false := by rw [eW.out]; simp [go_sem]
  have fr1 : W0.frozen? ⟨w.heap.size + 1 + 1, 1, none⟩ = false := by rw [eW.out]; simp [go_sem]
  have k1 : W0.heap.size = w.heap.size + 3 := by rw [eW.out]; simp
  clear eW
  go_cut [6, 7] (fun a b wx => a = .int .u64 f ∧ b = .int .u64 s ∧ ∃ k, wx = W0.drewN k)
  case first =>
    go_region_held3 (fun w' => w'.cell? ⟨w.heap.size, 1, none⟩ = some (.int .u64 xn) ∧ w'.cell? ⟨w.heap.size, 2, none⟩ = some (.int .u64 xd) ∧ w'.cell? ⟨w.heap.size + 1, 1, none⟩ = some (.int .u64 yn) ∧ w'.cell? ⟨w.heap.size + 1, 2, none⟩ = some (.int .u64 yd)) (simp [go_sem, *])
      (first
        | (go_at_call 68; refine (divisor_any _ _ _ (by omega) (by omega) (by omega) (by omega)).mono ?_; rintro e w' ⟨rfl, k, rfl⟩))
    all_goals
      go_wp2
      go_meet
      case rel => exact ⟨rfl, rfl, _, rfl⟩
  case rest =>
    obtain ⟨rfl, rfl, k, hk⟩ := hcut
    have b5 : Below (w.heap.size + 3) W0 wc := by rw [hk]; exact bdrewN _ (Below.refl _ _)
    have b6 : wc.heap.size = w.heap.size + 3 := by rw [hk]; exact k1
    clear hk
    have cxnc := bcl b5 cxn (by simp; try omega)
    have cync := bcl b5 cyn (by simp; try omega)
    obtain ⟨W1, eW1⟩ : ∃ W1 : World, Hid (W1 = wc) := ⟨_, rfl⟩
    go_upto_region 2 with fail
    go_cut [8] (fun a wx => ∃ bn : Nat, a = .pointer (some ⟨bn, 0, none⟩) ∧ w.heap.size + 3 ≤ bn ∧ bn < wx.heap.size ∧ wx.cell? ⟨bn, 0, none⟩ = some (.int .u64 (hi C)) ∧ wx.cell? ⟨bn, 1, none⟩ = some (.int .u64 (lo C)) ∧ Below (w.heap.size + 3) W0 wx)
    case first =>
      go_region_held3 (fun w' => w'.cell? ⟨w.heap.size, 1, none⟩ = some (.int .u64 xn) ∧ w'.cell? ⟨w.heap.size + 1, 1, none⟩ = some (.int .u64 yn)) (exact ⟨bcl (n := w.heap.size + 3) (by go_grown) cxn (by simp; try omega), bcl (n := w.heap.size + 3) (by go_grown) cyn (by simp; try omega)⟩)
        (first
          | (go_at_call 91; refine (times_any _ _ _ (by omega) (by omega) (by omega) (by omega)).mono ?_; rintro e w1 ⟨rfl, hb1⟩; obtain ⟨hc1, hf1, hz1, hB1, hn1, hm1⟩ := bg (n := w.heap.size + 3) (W0 := W0) (by go_grown) (by go_size) hb1; have za1 := hm1 w.heap.size (by omega); have zb1 := hm1 (w.heap.size + 1) (by omega); have zc1 := hm1 (w.heap.size + 1 + 1) (by omega); clear hm1))
      all_goals
        go_wp2
        go_meet
        case rel =>
          refine ⟨_, rfl, ?_, ?_, ?_, ?_, ?_⟩
          · go_size
          · first | omega | (simp; done) | (simp; omega) | simp (maxDischargeDepth := 8) [go_sem, *]
          · simp (maxDischargeDepth := 8) [go_sem, *]
          · simp (maxDischargeDepth := 8) [go_sem, *]
          · go_grown
    case rest =>
      obtain ⟨bt, rfl, p1, p2, p3, p4, p5⟩ := hcut
      have p6 := p5.size
      rw [k1] at p6
      clear cxnc cync cxn cyn t1 t2 eC eW1 ef es
      go_upto_region 3 with fail
      have x0 : bt < wc.heap.size + 1 := by omega
      have y0' : w.heap.size < wc.heap.size := by omega
      have y1' : w.heap.size + 1 < wc.heap.size := by omega
      go_cut [9] (fun a wx => ∃ bn : Nat, a = .pointer (some ⟨bn, 0, none⟩) ∧ w.heap.size + 3 ≤ bn ∧ bn < wx.heap.size ∧ wx.cell? ⟨bn, 0, none⟩ = some (.int .u64 (hi D)) ∧ wx.cell? ⟨bn, 1, none⟩ = some (.int .u64 (lo D)) ∧ Below (w.heap.size + 3) W0 wx ∧ bt < wx.heap.size ∧ wx.cell? ⟨bt, 0, none⟩ = some (.int .u64 (hi C)) ∧ wx.cell? ⟨bt, 1, none⟩ = some (.int .u64 (lo C)))
      case first =>
        go_region_held3 (fun w' => w'.cell? ⟨w.heap.size, 2, none⟩ = some (.int .u64 xd) ∧ w'.cell? ⟨w.heap.size + 1, 2, none⟩ = some (.int .u64 yd)) (exact ⟨bcl (n := w.heap.size + 3) (by go_grown) cxd (by simp; try omega), bcl (n := w.heap.size + 3) (by go_grown) cyd (by simp; try omega)⟩)
          (first
            | (go_at_call 91; refine (times_any _ _ _ (by omega) (by omega) (by omega) (by omega)).mono ?_; rintro e w1 ⟨rfl, hb1⟩; obtain ⟨hc1, hf1, hz1, hB1, hn1, hm1⟩ := bg (n := w.heap.size + 3) (W0 := W0) (by go_grown) (by go_size) hb1; have za1 := hm1 w.heap.size (by omega); have zb1 := hm1 (w.heap.size + 1) (by omega); have zc1 := hm1 (w.heap.size + 1 + 1) (by omega); clear hm1; have zt := hz1 bt (by go_size); have zu0 := hc1 bt 0 (by go_size); have zu1 := hc1 bt 1 (by go_size)))
        all_goals
          go_wp2
          go_meet
          case rel =>
            refine ⟨_, rfl, ?_, ?_, ?_, ?_, ?_, ?_, ?_, ?_⟩
            · go_size
            · first | omega | (simp; done) | (simp; omega) | simp (maxDischargeDepth := 8) [go_sem, *]
            · simp (maxDischargeDepth := 8) [go_sem, *]
            · simp (maxDischargeDepth := 8) [go_sem, *]
            · go_grown
            · first | omega | (simp; done) | (simp; omega) | simp (maxDischargeDepth := 8) [go_sem, *]
            · simp (maxDischargeDepth := 8) [go_sem, *]
            · simp (maxDischargeDepth := 8) [go_sem, *]
      case rest =>
        obtain ⟨bu, rfl, q1, q2, q3, q4, q5, q7, q8, q9⟩ := hcut
        have q6 := q5.size
        rw [k1] at q6
        have x0' : w.heap.size < wc.heap.size := by omega
        have x1' : w.heap.size + 1 < wc.heap.size := by omega
        have x2' : w.heap.size + 1 + 1 < wc.heap.size := by omega
        have hBD : Below w.heap.size w wc := k0.trans (q5.mono (by omega))
        have cr0d := bcl q5 cr0 (by simp; try omega)
        have cr1d := bcl q5 cr1 (by simp; try omega)
        have fr0d := bfr q5 fr0 (by simp; try omega)
        have fr1d := bfr q5 fr1 (by simp; try omega)
        have cxbd := bcl q5 cxb (by simp; try omega)
        have cybd := bcl q5 cyb (by simp; try omega)
        clear cxd cyd cxb cyb cr0 cr1 fr0 fr1 t3 t4 eD p1 p2 p3 p4 p5 p6 y0' y1' x0
        by_cases hC1 : hi C = 0
        · by_cases hD1 : hi D = 0
          · have eLo : lo D = D := by unfold hi at hD1; unfold lo; omega
            have eLC : lo C = C := by unfold hi at hC1; unfold lo; omega
            have hlo := lo_bd D
            have hlC := lo_bd C
            have hD2 : D ≤ 18446744073709551615 := by omega
            have hC2 : C ≤ 18446744073709551615 := by omega
            clear hlo hlC
            go_wp2_with (first
              | (go_at_call 69; refine (fit_any bb C D _ hC hC2 hD hD2).mono ?_; rintro e w5 ⟨rfl, hb5⟩; obtain ⟨hc5, hf5, hz5, hB5⟩ := bf (w := w) hBD hb5))
            refine bodyPost_ret (by simp [results, Tryz.results73, go_sem, hc5, cr0d, cr1d, x2']; try rfl) rfl ?_
            exact ⟨rfl, by go_grown⟩
          · obtain ⟨o1, o2, o3⟩ := out_no (p := sg bb C) (q := D) (by unfold hi at hD1; omega)
            have O1 : Hid (outN (sg bb C) D = 0) := o1
            have O2 : Hid (outD (sg bb C) D = 0) := o2
            have O3 : Hid (outE (sg bb C) D = 10) := o3
            have hD2 : (hi D != 0) = true := by simpa using hD1
            clear o1 o2 o3
            go_wp2
            refine bodyPost_ret (by simp [results, Tryz.results73, go_sem, cr0d, cr1d]; try rfl) rfl ?_
            exact ⟨ret_frac O1.out.symm O2.out.symm O3.out.symm, by go_grown⟩
        · obtain ⟨o1, o2, o3⟩ := out_no (p := sg bb C) (q := D) (by unfold hi at hC1; unfold sg; split <;> omega)
          have O1 : Hid (outN (sg bb C) D = 0) := o1
          have O2 : Hid (outD (sg bb C) D = 0) := o2
          have O3 : Hid (outE (sg bb C) D = 10) := o3
          have hC2 : (hi C != 0) = true := by simpa using hC1
          clear o1 o2 o3
          go_wp2
          refine bodyPost_ret (by simp [results, Tryz.results73, go_sem, cr0d, cr1d]; try rfl) rfl ?_
          exact ⟨ret_frac O1.out.symm O2.out.symm O3.out.symm, by go_grown⟩

end Go.Proofs.YtedoahibceeklabGreatDoor
