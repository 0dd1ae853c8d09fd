/- What rat.Sub tells of any two fractions. -/
import Derived.Test.YtedoahibceeklabGreatDoorSplit
namespace Go.Proofs.YtedoahibceeklabGreatDoor
open Go.RowKit Go.Shelf

set_option maxHeartbeats 1000000 in
theorem sub_no1 (a b c d : Int) (w : World) (ha : -9223372036854775808 ≤ a) (ha' : a ≤ 9223372036854775807) (hb : -9223372036854775808 ≤ b) (hb' : b ≤ 9223372036854775807) (_hc : -9223372036854775808 ≤ c) (_hc' : c ≤ 9223372036854775807) (_hd : -9223372036854775808 ≤ d) (_hd' : d ≤ 9223372036854775807) (hm : mayB a b = false) :
    Calls Tryz.prog 51 #[.agg #[.int .i64 a, .int .i64 b], .agg #[.int .i64 c, .int .i64 d]] w fun e w' => e = .returned (.tuple #[.agg #[.int .i64 0, .int .i64 0], .int .i64 1]) ∧ Below w.heap.size w w' := by
  go_enter Tryz.func51, Tryz.ntmps51
  go_upto_region 1 with fail
  obtain ⟨W0, eW⟩ : ∃ W0 : World, Hid (W0 = ((w.alloc (Obj.cells #[.int .i64 a, .int .i64 b] 55)).alloc (Obj.cells #[.int .i64 c, .int .i64 d] 55)).alloc (Obj.cells #[.int .i64 0, .int .i64 0] 55)) := ⟨_, rfl⟩
  rw [← eW.out]
  have k0 : Below w.heap.size w W0 := by rw [eW.out]; go_grown
  have ca : W0.cell? ⟨w.heap.size, 0, none⟩ = some (.int .i64 a) := by rw [eW.out]; simp [go_sem]
  have cb : W0.cell? ⟨w.heap.size, 1, none⟩ = some (.int .i64 b) := by rw [eW.out]; simp [go_sem]
  have cc : W0.cell? ⟨w.heap.size + 1, 0, none⟩ = some (.int .i64 c) := by rw [eW.out]; simp [go_sem]
  have cd : W0.cell? ⟨w.heap.size + 1, 1, none⟩ = some (.int .i64 d) := by rw [eW.out]; simp [go_sem]
  have cr0 : W0.cell? ⟨w.heap.size + 1 + 1, 0, none⟩ = some (.int .i64 0) := by rw [eW.out]; simp [go_sem]
  have cr1 : W0.cell? ⟨w.heap.size + 1 + 1, 1, none⟩ = some (.int .i64 0) := by rw [eW.out]; simp [go_sem]
  have fr0 : W0.frozen? ⟨w.heap.size + 1 + 1, 0, none⟩ = false := by rw [eW.out]; simp [go_sem]
  have fr1 : W0.frozen? ⟨w.heap.size + 1 + 1, 1, none⟩ = false := by rw [eW.out]; simp [go_sem]
  have k1 : W0.heap.size = w.heap.size + 3 := by rw [eW.out]; simp
  clear eW
  go_wp2_with (first
    | (go_at_call 70; refine (may_any _ _ _ (by omega) (by omega) (by omega) (by omega)).mono ?_; rintro e w1 ⟨rfl, hb1⟩; obtain ⟨hB1, hn1⟩ := bg0 (n := w.heap.size + 3) (W0 := W0) (by go_grown) (by go_size) hb1; have za1 : w.heap.size < w1.heap.size := (by omega); have zb1 : w.heap.size + 1 < w1.heap.size := (by omega); have zc1 : w.heap.size + 1 + 1 < w1.heap.size := (by omega); have hE1 := hB1.mono (show w.heap.size + 2 ≤ w.heap.size + 3 from (by omega)); have ca_1 := bcl hB1 ca (by simp; try omega); have cb_1 := bcl hB1 cb (by simp; try omega); have cc_1 := bcl hB1 cc (by simp; try omega); have cd_1 := bcl hB1 cd (by simp; try omega); have cr0_1 := bcl hB1 cr0 (by simp; try omega); have cr1_1 := bcl hB1 cr1 (by simp; try omega); have fr0_1 := bfr hB1 fr0 (by simp; try omega); have fr1_1 := bfr hB1 fr1 (by simp; try omega)))
  have hBF : Below w.heap.size w w1 := k0.trans (hB1.mono (by omega))
  refine bodyPost_ret (by simp [results, Tryz.results51, go_sem, cr0_1, cr1_1]; try rfl) rfl ?_
  exact ⟨rfl, by go_grown⟩

set_option maxHeartbeats 1000000 in
theorem sub_no2 (a b c d : Int) (w : World) (ha : -9223372036854775808 ≤ a) (ha' : a ≤ 9223372036854775807) (hb : -9223372036854775808 ≤ b) (hb' : b ≤ 9223372036854775807) (hc : -9223372036854775808 ≤ c) (hc' : c ≤ 9223372036854775807) (hd : -9223372036854775808 ≤ d) (hd' : d ≤ 9223372036854775807) (hm0 : mayB a b = true) (hm : mayB c d = false) :
    Calls Tryz.prog 51 #[.agg #[.int .i64 a, .int .i64 b], .agg #[.int .i64 c, .int .i64 d]] w fun e w' => e = .returned (.tuple #[.agg #[.int .i64 0, .int .i64 0], .int .i64 1]) ∧ Below w.heap.size w w' := by
  go_enter Tryz.func51, Tryz.ntmps51
  go_upto_region 1 with fail
  obtain ⟨W0, eW⟩ : ∃ W0 : World, Hid (W0 = ((w.alloc (Obj.cells #[.int .i64 a, .int .i64 b] 55)).alloc (Obj.cells #[.int .i64 c, .int .i64 d] 55)).alloc (Obj.cells #[.int .i64 0, .int .i64 0] 55)) := ⟨_, rfl⟩
  rw [← eW.out]
  have k0 : Below w.heap.size w W0 := by rw [eW.out]; go_grown
  have ca : W0.cell? ⟨w.heap.size, 0, none⟩ = some (.int .i64 a) := by rw [eW.out]; simp [go_sem]
  have cb : W0.cell? ⟨w.heap.size, 1, none⟩ = some (.int .i64 b) := by rw [eW.out]; simp [go_sem]
  have cc : W0.cell? ⟨w.heap.size + 1, 0, none⟩ = some (.int .i64 c) := by rw [eW.out]; simp [go_sem]
  have cd : W0.cell? ⟨w.heap.size + 1, 1, none⟩ = some (.int .i64 d) := by rw [eW.out]; simp [go_sem]
  have cr0 : W0.cell? ⟨w.heap.size + 1 + 1, 0, none⟩ = some (.int .i64 0) := by rw [eW.out]; simp [go_sem]
  have cr1 : W0.cell? ⟨w.heap.size + 1 + 1, 1, none⟩ = some (.int .i64 0) := by rw [eW.out]; simp [go_sem]
  have fr0 : W0.frozen? ⟨w.heap.size + 1 + 1, 0, none⟩ = false := by rw [eW.out]; simp [go_sem]
  have fr1 : W0.frozen? ⟨w.heap.size + 1 + 1, 1, none⟩ = false := by rw [eW.out]; simp [go_sem]
  have k1 : W0.heap.size = w.heap.size + 3 := by rw [eW.out]; simp
  clear eW
  go_wp2_with (first
    | (go_at_call 70; refine (may_any _ _ _ (by omega) (by omega) (by omega) (by omega)).mono ?_; rintro e w1 ⟨rfl, hb1⟩; obtain ⟨hB1, hn1⟩ := bg0 (n := w.heap.size + 3) (W0 := W0) (by go_grown) (by go_size) hb1; have za1 : w.heap.size < w1.heap.size := (by omega); have zb1 : w.heap.size + 1 < w1.heap.size := (by omega); have zc1 : w.heap.size + 1 + 1 < w1.heap.size := (by omega); have hE1 := hB1.mono (show w.heap.size + 2 ≤ w.heap.size + 3 from (by omega)); have ca_1 := bcl hB1 ca (by simp; try omega); have cb_1 := bcl hB1 cb (by simp; try omega); have cc_1 := bcl hB1 cc (by simp; try omega); have cd_1 := bcl hB1 cd (by simp; try omega); have cr0_1 := bcl hB1 cr0 (by simp; try omega); have cr1_1 := bcl hB1 cr1 (by simp; try omega); have fr0_1 := bfr hB1 fr0 (by simp; try omega); have fr1_1 := bfr hB1 fr1 (by simp; try omega)))
  have hBF : Below w.heap.size w w1 := k0.trans (hB1.mono (by omega))
  refine bodyPost_ret (by simp [results, Tryz.results51, go_sem, cr0_1, cr1_1]; try rfl) rfl ?_
  exact ⟨rfl, by go_grown⟩

theorem sg_not (b : Bool) (n : Int) : sg (!b) n = - sg b n := by unfold sg; cases b <;> simp

set_option maxHeartbeats 4000000 in
theorem sub_yes (a b c d : Int) (w : World) (ha : -9223372036854775808 ≤ a) (ha' : a ≤ 9223372036854775807) (hb : -9223372036854775808 ≤ b) (hb' : b ≤ 9223372036854775807) (hc : -9223372036854775808 ≤ c) (hc' : c ≤ 9223372036854775807) (hd : -9223372036854775808 ≤ d) (hd' : d ≤ 9223372036854775807) (hm0 : mayB a b = true) (hm : mayB c d = true) :
    Calls Tryz.prog 51 #[.agg #[.int .i64 a, .int .i64 b], .agg #[.int .i64 c, .int .i64 d]] w fun e w' => e = .returned (.tuple #[.agg #[.int .i64 (rN (a * d - c * b) (b * d)), .int .i64 (rD (a * d - c * b) (b * d))], .int .i64 (rE (a * d - c * b) (b * d))]) ∧ Below w.heap.size w w' := by
  obtain ⟨m1, m2⟩ := may_of hm0
  obtain ⟨m3, m4⟩ := may_of hm
  have e1 : sz b = b := sz_of_nonneg (by omega)
  have e2 : sz d = d := sz_of_nonneg (by omega)
  have s1 := sz_nonneg a
  have s2 := sz_nonneg c
  have s3 := sz_le ha ha'
  have s4 := sz_le hc hc'
  have n1 : Nat.Coprime (sz a).toNat b.toNat := by unfold sz; simpa using m2
  have n2 : Nat.Coprime (sz c).toNat d.toNat := by unfold sz; simpa using m4
  have E1 : Hid (sg (decide (a < 0)) (sz a) = a) := by have := sg_sz a false; simpa [sg, Hid] using this
  have E2 : Hid (sg (decide (c < 0)) (sz c) = c) := by have := sg_sz c false; simpa [sg, Hid] using this
  have N1 : Hid (Nat.Coprime (sz a).toNat b.toNat) := n1
  have N2 : Hid (Nat.Coprime (sz c).toNat d.toNat) := n2
  clear n1 n2 m2 m4
  go_enter Tryz.func51, Tryz.ntmps51
  go_upto_region 1 with fail
  obtain ⟨W0, eW⟩ : ∃ W0 : World, Hid (W0 = ((w.alloc (Obj.cells #[.int .i64 a, .int .i64 b] 55)).alloc (Obj.cells #[.int .i64 c, .int .i64 d] 55)).alloc (Obj.cells #[.int .i64 0, .int .i64 0] 55)) := ⟨_, rfl⟩
  rw [← eW.out]
  have k0 : Below w.heap.size w W0 := by rw [eW.out]; go_grown
  have ca : W0.cell? ⟨w.heap.size, 0, none⟩ = some (.int .i64 a) := by rw [eW.out]; simp [go_sem]
  have cb : W0.cell? ⟨w.heap.size, 1, none⟩ = some (.int .i64 b) := by rw [eW.out]; simp [go_sem]
  have cc : W0.cell? ⟨w.heap.size + 1, 0, none⟩ = some (.int .i64 c) := by rw [eW.out]; simp [go_sem]
  have cd : W0.cell? ⟨w.heap.size + 1, 1, none⟩ = some (.int .i64 d) := by rw [eW.out]; simp [go_sem]
  have cr0 : W0.cell? ⟨w.heap.size + 1 + 1, 0, none⟩ = some (.int .i64 0) := by rw [eW.out]; simp [go_sem]
  have cr1 : W0.cell? ⟨w.heap.size + 1 + 1, 1, none⟩ = some (.int .i64 0) := by rw [eW.out]; simp [go_sem]
  have fr0 : W0.frozen? ⟨w.heap.size + 1 + 1, 0, none⟩ = false := by rw [eW.out]; simp [go_sem]
  have fr1 : W0.frozen? ⟨w.heap.size + 1 + 1, 1, none⟩ = false := by rw [eW.out]; simp [go_sem]
  have k1 : W0.heap.size = w.heap.size + 3 := by rw [eW.out]; simp
  clear eW
  go_upto_region 3 with (first
    | (go_at_call 70; refine (may_any _ _ _ (by omega) (by omega) (by omega) (by omega)).mono ?_; rintro e w1 ⟨rfl, hb1⟩; obtain ⟨hB1, hn1⟩ := bg0 (n := w.heap.size + 3) (W0 := W0) (by go_grown) (by go_size) hb1; have za1 : w.heap.size < w1.heap.size := (by omega); have zb1 : w.heap.size + 1 < w1.heap.size := (by omega); have zc1 : w.heap.size + 1 + 1 < w1.heap.size := (by omega); have hE1 := hB1.mono (show w.heap.size + 2 ≤ w.heap.size + 3 from (by omega)); have ca_1 := bcl hB1 ca (by simp; try omega); have cb_1 := bcl hB1 cb (by simp; try omega); have cc_1 := bcl hB1 cc (by simp; try omega); have cd_1 := bcl hB1 cd (by simp; try omega); have cr0_1 := bcl hB1 cr0 (by simp; try omega); have cr1_1 := bcl hB1 cr1 (by simp; try omega); have fr0_1 := bfr hB1 fr0 (by simp; try omega); have fr1_1 := bfr hB1 fr1 (by simp; try omega)))
  go_cut [6, 7] (fun p q wx => ∃ bx bz : Nat, p = .pointer (some ⟨bx, 0, none⟩) ∧ q = .pointer (some ⟨bz, 0, none⟩) ∧ bx ≠ bz ∧ w.heap.size + 3 ≤ bx ∧ w.heap.size + 3 ≤ bz ∧ bx < wx.heap.size ∧ bz < wx.heap.size
      ∧ wx.cell? ⟨bx, 0, none⟩ = some (.bool (decide (a < 0))) ∧ wx.cell? ⟨bx, 1, none⟩ = some (.int .u64 (sz a)) ∧ wx.cell? ⟨bx, 2, none⟩ = some (.int .u64 b)
      ∧ wx.cell? ⟨bz, 0, none⟩ = some (.bool (decide (c < 0))) ∧ wx.cell? ⟨bz, 1, none⟩ = some (.int .u64 (sz c)) ∧ wx.cell? ⟨bz, 2, none⟩ = some (.int .u64 d)
      ∧ wx.frozen? ⟨bz, 0, none⟩ = false ∧ wx.frozen? ⟨bz, 1, none⟩ = false ∧ wx.frozen? ⟨bz, 2, none⟩ = false ∧ Below (w.heap.size + 3) W0 wx)
  case first =>
    go_region_held3 (fun w' => w'.cell? ⟨w.heap.size, 0, none⟩ = some (.int .i64 a) ∧ w'.cell? ⟨w.heap.size, 1, none⟩ = some (.int .i64 b) ∧ w'.cell? ⟨w.heap.size + 1, 0, none⟩ = some (.int .i64 c) ∧ w'.cell? ⟨w.heap.size + 1, 1, none⟩ = some (.int .i64 d)) (exact ⟨bcl (n := w.heap.size + 2) (by go_grown) ca (by simp; try omega), bcl (n := w.heap.size + 2) (by go_grown) cb (by simp; try omega), bcl (n := w.heap.size + 2) (by go_grown) cc (by simp; try omega), bcl (n := w.heap.size + 2) (by go_grown) cd (by simp; try omega)⟩)
      (first
        | (go_at_call_of 72 a; refine (split_exact _ _ _ (by omega) (by omega) (by omega) (by omega)).mono ?_; rintro e w2 ⟨rfl, rfl⟩)
        | (go_at_call_of 72 c; refine (split_exact _ _ _ (by omega) (by omega) (by omega) (by omega)).mono ?_; rintro e w3 ⟨rfl, rfl⟩))
    all_goals
      go_wp2
      go_meet
      case rel =>
        refine ⟨_, _, rfl, rfl, ?_, ?_, ?_, ?_, ?_, ?_, ?_, ?_, ?_, ?_, ?_, ?_, ?_, ?_, ?_⟩
        · first | omega | (simp; done) | (simp; omega)
        · go_size
        · go_size
        · first | omega | (simp; done) | (simp; omega) | simp [go_sem]
        · first | omega | (simp; done) | (simp; omega) | simp [go_sem]
        · simp [go_sem]
        · simp [go_sem]
        · simp [go_sem]
        · simp [go_sem]
        · simp [go_sem]
        · simp [go_sem]
        · simp [go_sem]
        · simp [go_sem]
        · simp [go_sem]
        · go_grown
  case rest =>
    obtain ⟨bx, bz, rfl, rfl, r1, r2, r3, r4, r5, r6, r7, r8, r9, r10, r11, r12, r13, r14, r15⟩ := hcut
    have r16 := r15.size
    rw [k1] at r16
    have hBD : Below w.heap.size w wc := k0.trans (r15.mono (by omega))
    have cr0d := bcl r15 cr0 (by simp; try omega)
    have cr1d := bcl r15 cr1 (by simp; try omega)
    have fr0d := bfr r15 fr0 (by simp; try omega)
    have fr1d := bfr r15 fr1 (by simp; try omega)
    have x2' : w.heap.size + 1 + 1 < wc.heap.size := by omega
    have r17 : ¬ bz = bx := fun h => r1 h.symm
    have r18 : ¬ bz = w.heap.size + 1 + 1 := by omega
    have r19 : ¬ w.heap.size + 1 + 1 = bz := by omega
    have r20 : w.heap.size ≤ bz := by omega
    go_wp2_with (first
      | (go_at_call 71; refine (sum_any (decide (a < 0)) (!decide (c < 0)) (sz a) b (sz c) d _ s1 s3 s2 s4 m1 (by omega) m3 (by omega) N1.out N2.out).mono ?_; rintro e w5 ⟨rfl, hb5⟩; obtain ⟨hc5, hf5, hz5, hB5⟩ := bf (w := w) (by go_grown) hb5))
    refine bodyPost_ret (by simp [results, Tryz.results51, go_sem, hc5, cr0d, cr1d, x2']; try rfl) rfl ?_
    refine ⟨?_, by go_grown⟩
    simp only [sg_not, E1.out, E2.out, Int.neg_mul, ← Int.sub_eq_add_neg]

end Go.Proofs.YtedoahibceeklabGreatDoor
