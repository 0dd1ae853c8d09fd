/- What rat.Compare tells of any two fractions. -/
import Derived.Test.YtedoahibceeklabGreatDoorAny
namespace Go.Proofs.YtedoahibceeklabGreatDoor
open Go.RowKit Go.Shelf

theorem cmp_same (a b : Int) (w : World) :
    Calls Tryz.prog 54 #[.agg #[.int .i64 a, .int .i64 b], .agg #[.int .i64 a, .int .i64 b]] w fun e w' => e = .returned (.int .i64 0) ∧ Below w.heap.size w w' := by
  go_enter Tryz.func54, Tryz.ntmps54
  go_wp2
  go_ret
  exact ⟨rfl, by go_grown⟩

set_option maxHeartbeats 1000000 in
theorem cmp_no1A (a b c d : Int) (w : World) (ha : -9223372036854775808 ≤ a) (ha' : a ≤ 9223372036854775807) (hb : -9223372036854775808 ≤ b) (hb' : b ≤ 9223372036854775807) (_hc : -9223372036854775808 ≤ c) (_hc' : c ≤ 9223372036854775807) (_hd : -9223372036854775808 ≤ d) (_hd' : d ≤ 9223372036854775807) (hne : (a == c) = false) (hm : mayB a b = false) :
    Calls Tryz.prog 54 #[.agg #[.int .i64 a, .int .i64 b], .agg #[.int .i64 c, .int .i64 d]] w fun e w' => e = .returned (.int .i64 0) ∧ Below w.heap.size w w' := by
  go_enter Tryz.func54, Tryz.ntmps54
  go_upto_region 1 with fail
  obtain ⟨W0, eW⟩ : ∃ W0 : World, Hid (W0 = ((w.alloc (Obj.cells #[.int .i64 a, .int .i64 b] 55)).alloc (Obj.cells #[.int .i64 c, .int .i64 d] 55))) := ⟨_, rfl⟩
  rw [← eW.out]
  have k0 : Below w.heap.size w W0 := by rw [eW.out]; go_grown
  have ca : W0.cell? ⟨w.heap.size, 0, none⟩ = some (.int .i64 a) := by rw [eW.out]; simp [go_sem]
  have cb : W0.cell? ⟨w.heap.size, 1, none⟩ = some (.int .i64 b) := by rw [eW.out]; simp [go_sem]
  have cc : W0.cell? ⟨w.heap.size + 1, 0, none⟩ = some (.int .i64 c) := by rw [eW.out]; simp [go_sem]
  have cd : W0.cell? ⟨w.heap.size + 1, 1, none⟩ = some (.int .i64 d) := by rw [eW.out]; simp [go_sem]
  have k1 : W0.heap.size = w.heap.size + 2 := by rw [eW.out]; simp
  clear eW
  go_wp2_with (first
    | (go_at_call 70; refine (may_any _ _ _ (by omega) (by omega) (by omega) (by omega)).mono ?_; rintro e w1 ⟨rfl, hb1⟩; obtain ⟨hB1, hn1⟩ := bg0 (n := w.heap.size + 2) (W0 := W0) (by go_grown) (by go_size) hb1; have za1 : w.heap.size < w1.heap.size := (by omega); have zb1 : w.heap.size + 1 < w1.heap.size := (by omega); have ca_1 := bcl hB1 ca (by simp; try omega); have cb_1 := bcl hB1 cb (by simp; try omega); have cc_1 := bcl hB1 cc (by simp; try omega); have cd_1 := bcl hB1 cd (by simp; try omega)))
  have hBF : Below w.heap.size w w1 := k0.trans (hB1.mono (by omega))
  go_ret
  exact ⟨rfl, by go_grown⟩

set_option maxHeartbeats 1000000 in
theorem cmp_no2A (a b c d : Int) (w : World) (ha : -9223372036854775808 ≤ a) (ha' : a ≤ 9223372036854775807) (hb : -9223372036854775808 ≤ b) (hb' : b ≤ 9223372036854775807) (hc : -9223372036854775808 ≤ c) (hc' : c ≤ 9223372036854775807) (hd : -9223372036854775808 ≤ d) (hd' : d ≤ 9223372036854775807) (hne : (a == c) = false) (hm0 : mayB a b = true) (hm : mayB c d = false) :
    Calls Tryz.prog 54 #[.agg #[.int .i64 a, .int .i64 b], .agg #[.int .i64 c, .int .i64 d]] w fun e w' => e = .returned (.int .i64 0) ∧ Below w.heap.size w w' := by
  go_enter Tryz.func54, Tryz.ntmps54
  go_upto_region 1 with fail
  obtain ⟨W0, eW⟩ : ∃ W0 : World, Hid (W0 = ((w.alloc (Obj.cells #[.int .i64 a, .int .i64 b] 55)).alloc (Obj.cells #[.int .i64 c, .int .i64 d] 55))) := ⟨_, rfl⟩
  rw [← eW.out]
  have k0 : Below w.heap.size w W0 := by rw [eW.out]; go_grown
  have ca : W0.cell? ⟨w.heap.size, 0, none⟩ = some (.int .i64 a) := by rw [eW.out]; simp [go_sem]
  have cb : W0.cell? ⟨w.heap.size, 1, none⟩ = some (.int .i64 b) := by rw [eW.out]; simp [go_sem]
  have cc : W0.cell? ⟨w.heap.size + 1, 0, none⟩ = some (.int .i64 c) := by rw [eW.out]; simp [go_sem]
  have cd : W0.cell? ⟨w.heap.size + 1, 1, none⟩ = some (.int .i64 d) := by rw [eW.out]; simp [go_sem]
  have k1 : W0.heap.size = w.heap.size + 2 := by rw [eW.out]; simp
  clear eW
  go_wp2_with (first
    | (go_at_call 70; refine (may_any _ _ _ (by omega) (by omega) (by omega) (by omega)).mono ?_; rintro e w1 ⟨rfl, hb1⟩; obtain ⟨hB1, hn1⟩ := bg0 (n := w.heap.size + 2) (W0 := W0) (by go_grown) (by go_size) hb1; have za1 : w.heap.size < w1.heap.size := (by omega); have zb1 : w.heap.size + 1 < w1.heap.size := (by omega); have ca_1 := bcl hB1 ca (by simp; try omega); have cb_1 := bcl hB1 cb (by simp; try omega); have cc_1 := bcl hB1 cc (by simp; try omega); have cd_1 := bcl hB1 cd (by simp; try omega)))
  have hBF : Below w.heap.size w w1 := k0.trans (hB1.mono (by omega))
  go_ret
  exact ⟨rfl, by go_grown⟩

set_option maxHeartbeats 2000000 in
theorem cmp_yesA (a b c d : Int) (w : World) (ha : -9223372036854775808 ≤ a) (ha' : a ≤ 9223372036854775807) (hb : -9223372036854775808 ≤ b) (hb' : b ≤ 9223372036854775807) (hc : -9223372036854775808 ≤ c) (hc' : c ≤ 9223372036854775807) (hd : -9223372036854775808 ≤ d) (hd' : d ≤ 9223372036854775807) (hne : (a == c) = false) (hm0 : mayB a b = true) (hm : mayB c d = true) (L : Bool) (hL : lessB (decide (a < 0)) (sz a) b (decide (c < 0)) (sz c) d = L) :
    Calls Tryz.prog 54 #[.agg #[.int .i64 a, .int .i64 b], .agg #[.int .i64 c, .int .i64 d]] w fun e w' => e = .returned (.int .i64 (if L then -1 else 1)) ∧ Below w.heap.size w w' := by
  obtain ⟨m1, m2⟩ := may_of hm0
  obtain ⟨m3, m4⟩ := may_of hm
  have e1 : sz b = b := sz_of_nonneg (by omega)
  have e2 : sz d = d := sz_of_nonneg (by omega)
  have s1 := sz_nonneg a
  have s2 := sz_nonneg c
  have s3 := sz_le ha ha'
  have s4 := sz_le hc hc'
  have n1 : Nat.Coprime (sz a).toNat b.toNat := by unfold sz; simpa using m2
  have n2 : Nat.Coprime (sz c).toNat d.toNat := by unfold sz; simpa using m4
  have E1 : Hid (sg (decide (a < 0)) (sz a) = a) := by have := sg_sz a false; simpa [sg, Hid] using this
  have E2 : Hid (sg (decide (c < 0)) (sz c) = c) := by have := sg_sz c false; simpa [sg, Hid] using this
  have N1 : Hid (Nat.Coprime (sz a).toNat b.toNat) := n1
  have N2 : Hid (Nat.Coprime (sz c).toNat d.toNat) := n2
  clear n1 n2 m2 m4
  go_enter Tryz.func54, Tryz.ntmps54
  go_upto_region 1 with fail
  obtain ⟨W0, eW⟩ : ∃ W0 : World, Hid (W0 = ((w.alloc (Obj.cells #[.int .i64 a, .int .i64 b] 55)).alloc (Obj.cells #[.int .i64 c, .int .i64 d] 55))) := ⟨_, rfl⟩
  rw [← eW.out]
  have k0 : Below w.heap.size w W0 := by rw [eW.out]; go_grown
  have ca : W0.cell? ⟨w.heap.size, 0, none⟩ = some (.int .i64 a) := by rw [eW.out]; simp [go_sem]
  have cb : W0.cell? ⟨w.heap.size, 1, none⟩ = some (.int .i64 b) := by rw [eW.out]; simp [go_sem]
  have cc : W0.cell? ⟨w.heap.size + 1, 0, none⟩ = some (.int .i64 c) := by rw [eW.out]; simp [go_sem]
  have cd : W0.cell? ⟨w.heap.size + 1, 1, none⟩ = some (.int .i64 d) := by rw [eW.out]; simp [go_sem]
  have k1 : W0.heap.size = w.heap.size + 2 := by rw [eW.out]; simp
  clear eW
  go_upto_region 3 with (first
    | (go_at_call 70; refine (may_any _ _ _ (by omega) (by omega) (by omega) (by omega)).mono ?_; rintro e w1 ⟨rfl, hb1⟩; obtain ⟨hB1, hn1⟩ := bg0 (n := w.heap.size + 2) (W0 := W0) (by go_grown) (by go_size) hb1; have za1 : w.heap.size < w1.heap.size := (by omega); have zb1 : w.heap.size + 1 < w1.heap.size := (by omega); have ca_1 := bcl hB1 ca (by simp; try omega); have cb_1 := bcl hB1 cb (by simp; try omega); have cc_1 := bcl hB1 cc (by simp; try omega); have cd_1 := bcl hB1 cd (by simp; try omega)))
  go_region_held3 (fun w' => w'.cell? ⟨w.heap.size, 0, none⟩ = some (.int .i64 a) ∧ w'.cell? ⟨w.heap.size, 1, none⟩ = some (.int .i64 b) ∧ w'.cell? ⟨w.heap.size + 1, 0, none⟩ = some (.int .i64 c) ∧ w'.cell? ⟨w.heap.size + 1, 1, none⟩ = some (.int .i64 d)) (exact ⟨bcl (n := w.heap.size + 2) (by go_grown) ca (by simp; try omega), bcl (n := w.heap.size + 2) (by go_grown) cb (by simp; try omega), bcl (n := w.heap.size + 2) (by go_grown) cc (by simp; try omega), bcl (n := w.heap.size + 2) (by go_grown) cd (by simp; try omega)⟩)
    (first
      | (go_at_call_of 72 a; refine (split_any _ _ _ (by omega) (by omega) (by omega) (by omega)).mono ?_; rintro e w2 ⟨rfl, hb2⟩; obtain ⟨hB2, hn2⟩ := bg0 (n := w.heap.size + 2) (W0 := W0) (by go_grown) (by go_size) hb2; have za2 : w.heap.size < w2.heap.size := (by omega); have zb2 : w.heap.size + 1 < w2.heap.size := (by omega); have ca_2 := bcl hB2 ca (by simp; try omega); have cb_2 := bcl hB2 cb (by simp; try omega); have cc_2 := bcl hB2 cc (by simp; try omega); have cd_2 := bcl hB2 cd (by simp; try omega))
      | (go_at_call_of 72 c; refine (split_any _ _ _ (by omega) (by omega) (by omega) (by omega)).mono ?_; rintro e w3 ⟨rfl, hb3⟩; obtain ⟨hB3, hn3⟩ := bg0 (n := w.heap.size + 2) (W0 := W0) (by go_grown) (by go_size) hb3; have za3 : w.heap.size < w3.heap.size := (by omega); have zb3 : w.heap.size + 1 < w3.heap.size := (by omega); have ca_3 := bcl hB3 ca (by simp; try omega); have cb_3 := bcl hB3 cb (by simp; try omega); have cc_3 := bcl hB3 cc (by simp; try omega); have cd_3 := bcl hB3 cd (by simp; try omega))
      | (go_at_call 75; refine (less_any (decide (a < 0)) (decide (c < 0)) (sz a) b (sz c) d _ s1 (by omega) s2 (by omega) (by omega) (by omega) (by omega) (by omega)).mono ?_; rintro e w4 ⟨rfl, hb4⟩; obtain ⟨hB4, hn4⟩ := bg0 (n := w.heap.size + 2) (W0 := W0) (by go_grown) (by go_size) hb4; have za4 : w.heap.size < w4.heap.size := (by omega); have zb4 : w.heap.size + 1 < w4.heap.size := (by omega); have ca_4 := bcl hB4 ca (by simp; try omega); have cb_4 := bcl hB4 cb (by simp; try omega); have cc_4 := bcl hB4 cc (by simp; try omega); have cd_4 := bcl hB4 cd (by simp; try omega)))
  have hBF : Below w.heap.size w w4 := k0.trans (hB4.mono (by omega))
  cases L
  · go_wp2
    go_ret
    exact ⟨rfl, by go_grown⟩
  · go_wp2
    go_ret
    exact ⟨rfl, by go_grown⟩

set_option maxHeartbeats 1000000 in
theorem cmp_no1B (a b c d : Int) (w : World) (ha : -9223372036854775808 ≤ a) (ha' : a ≤ 9223372036854775807) (hb : -9223372036854775808 ≤ b) (hb' : b ≤ 9223372036854775807) (_hc : -9223372036854775808 ≤ c) (_hc' : c ≤ 9223372036854775807) (_hd : -9223372036854775808 ≤ d) (_hd' : d ≤ 9223372036854775807) (hac : (a == c) = true) (hne : (b == d) = false) (hm : mayB a b = false) :
    Calls Tryz.prog 54 #[.agg #[.int .i64 a, .int .i64 b], .agg #[.int .i64 c, .int .i64 d]] w fun e w' => e = .returned (.int .i64 0) ∧ Below w.heap.size w w' := by
  go_enter Tryz.func54, Tryz.ntmps54
  go_upto_region 1 with fail
  obtain ⟨W0, eW⟩ : ∃ W0 : World, Hid (W0 = ((w.alloc (Obj.cells #[.int .i64 a, .int .i64 b] 55)).alloc (Obj.cells #[.int .i64 c, .int .i64 d] 55))) := ⟨_, rfl⟩
  rw [← eW.out]
  have k0 : Below w.heap.size w W0 := by rw [eW.out]; go_grown
  have ca : W0.cell? ⟨w.heap.size, 0, none⟩ = some (.int .i64 a) := by rw [eW.out]; simp [go_sem]
  have cb : W0.cell? ⟨w.heap.size, 1, none⟩ = some (.int .i64 b) := by rw [eW.out]; simp [go_sem]
  have cc : W0.cell? ⟨w.heap.size + 1, 0, none⟩ = some (.int .i64 c) := by rw [eW.out]; simp [go_sem]
  have cd : W0.cell? ⟨w.heap.size + 1, 1, none⟩ = some (.int .i64 d) := by rw [eW.out]; simp [go_sem]
  have k1 : W0.heap.size = w.heap.size + 2 := by rw [eW.out]; simp
  clear eW
  go_wp2_with (first
    | (go_at_call 70; refine (may_any _ _ _ (by omega) (by omega) (by omega) (by omega)).mono ?_; rintro e w1 ⟨rfl, hb1⟩; obtain ⟨hB1, hn1⟩ := bg0 (n := w.heap.size + 2) (W0 := W0) (by go_grown) (by go_size) hb1; have za1 : w.heap.size < w1.heap.size := (by omega); have zb1 : w.heap.size + 1 < w1.heap.size := (by omega); have ca_1 := bcl hB1 ca (by simp; try omega); have cb_1 := bcl hB1 cb (by simp; try omega); have cc_1 := bcl hB1 cc (by simp; try omega); have cd_1 := bcl hB1 cd (by simp; try omega)))
  have hBF : Below w.heap.size w w1 := k0.trans (hB1.mono (by omega))
  go_ret
  exact ⟨rfl, by go_grown⟩

set_option maxHeartbeats 1000000 in
theorem cmp_no2B (a b c d : Int) (w : World) (ha : -9223372036854775808 ≤ a) (ha' : a ≤ 9223372036854775807) (hb : -9223372036854775808 ≤ b) (hb' : b ≤ 9223372036854775807) (hc : -9223372036854775808 ≤ c) (hc' : c ≤ 9223372036854775807) (hd : -9223372036854775808 ≤ d) (hd' : d ≤ 9223372036854775807) (hac : (a == c) = true) (hne : (b == d) = false) (hm0 : mayB a b = true) (hm : mayB c d = false) :
    Calls Tryz.prog 54 #[.agg #[.int .i64 a, .int .i64 b], .agg #[.int .i64 c, .int .i64 d]] w fun e w' => e = .returned (.int .i64 0) ∧ Below w.heap.size w w' := by
  go_enter Tryz.func54, Tryz.ntmps54
  go_upto_region 1 with fail
  obtain ⟨W0, eW⟩ : ∃ W0 : World, Hid (W0 = ((w.alloc (Obj.cells #[.int .i64 a, .int .i64 b] 55)).alloc (Obj.cells #[.int .i64 c, .int .i64 d] 55))) := ⟨_, rfl⟩
  rw [← eW.out]
  have k0 : Below w.heap.size w W0 := by rw [eW.out]; go_grown
  have ca : W0.cell? ⟨w.heap.size, 0, none⟩ = some (.int .i64 a) := by rw [eW.out]; simp [go_sem]
  have cb : W0.cell? ⟨w.heap.size, 1, none⟩ = some (.int .i64 b) := by rw [eW.out]; simp [go_sem]
  have cc : W0.cell? ⟨w.heap.size + 1, 0, none⟩ = some (.int .i64 c) := by rw [eW.out]; simp [go_sem]
  have cd : W0.cell? ⟨w.heap.size + 1, 1, none⟩ = some (.int .i64 d) := by rw [eW.out]; simp [go_sem]
  have k1 : W0.heap.size = w.heap.size + 2 := by rw [eW.out]; simp
  clear eW
  go_wp2_with (first
    | (go_at_call 70; refine (may_any _ _ _ (by omega) (by omega) (by omega) (by omega)).mono ?_; rintro e w1 ⟨rfl, hb1⟩; obtain ⟨hB1, hn1⟩ := bg0 (n := w.heap.size + 2) (W0 := W0) (by go_grown) (by go_size) hb1; have za1 : w.heap.size < w1.heap.size := (by omega); have zb1 : w.heap.size + 1 < w1.heap.size := (by omega); have ca_1 := bcl hB1 ca (by simp; try omega); have cb_1 := bcl hB1 cb (by simp; try omega); have cc_1 := bcl hB1 cc (by simp; try omega); have cd_1 := bcl hB1 cd (by simp; try omega)))
  have hBF : Below w.heap.size w w1 := k0.trans (hB1.mono (by omega))
  go_ret
  exact ⟨rfl, by go_grown⟩

set_option maxHeartbeats 2000000 in
theorem cmp_yesB (a b c d : Int) (w : World) (ha : -9223372036854775808 ≤ a) (ha' : a ≤ 9223372036854775807) (hb : -9223372036854775808 ≤ b) (hb' : b ≤ 9223372036854775807) (hc : -9223372036854775808 ≤ c) (hc' : c ≤ 9223372036854775807) (hd : -9223372036854775808 ≤ d) (hd' : d ≤ 9223372036854775807) (hac : (a == c) = true) (hne : (b == d) = false) (hm0 : mayB a b = true) (hm : mayB c d = true) (L : Bool) (hL : lessB (decide (a < 0)) (sz a) b (decide (c < 0)) (sz c) d = L) :
    Calls Tryz.prog 54 #[.agg #[.int .i64 a, .int .i64 b], .agg #[.int .i64 c, .int .i64 d]] w fun e w' => e = .returned (.int .i64 (if L then -1 else 1)) ∧ Below w.heap.size w w' := by
  obtain ⟨m1, m2⟩ := may_of hm0
  obtain ⟨m3, m4⟩ := may_of hm
  have e1 : sz b = b := sz_of_nonneg (by omega)
  have e2 : sz d = d := sz_of_nonneg (by omega)
  have s1 := sz_nonneg a
  have s2 := sz_nonneg c
  have s3 := sz_le ha ha'
  have s4 := sz_le hc hc'
  have n1 : Nat.Coprime (sz a).toNat b.toNat := by unfold sz; simpa using m2
  have n2 : Nat.Coprime (sz c).toNat d.toNat := by unfold sz; simpa using m4
  have E1 : Hid (sg (decide (a < 0)) (sz a) = a) := by have := sg_sz a false; simpa [sg, Hid] using this
  have E2 : Hid (sg (decide (c < 0)) (sz c) = c) := by have := sg_sz c false; simpa [sg, Hid] using this
  have N1 : Hid (Nat.Coprime (sz a).toNat b.toNat) := n1
  have N2 : Hid (Nat.Coprime (sz c).toNat d.toNat) := n2
  clear n1 n2 m2 m4
  go_enter Tryz.func54, Tryz.ntmps54
  go_upto_region 1 with fail
  obtain ⟨W0, eW⟩ : ∃ W0 : World, Hid (W0 = ((w.alloc (Obj.cells #[.int .i64 a, .int .i64 b] 55)).alloc (Obj.cells #[.int .i64 c, .int .i64 d] 55))) := ⟨_, rfl⟩
  rw [← eW.out]
  have k0 : Below w.heap.size w W0 := by rw [eW.out]; go_grown
  have ca : W0.cell? ⟨w.heap.size, 0, none⟩ = some (.int .i64 a) := by rw [eW.out]; simp [go_sem]
  have cb : W0.cell? ⟨w.heap.size, 1, none⟩ = some (.int .i64 b) := by rw [eW.out]; simp [go_sem]
  have cc : W0.cell? ⟨w.heap.size + 1, 0, none⟩ = some (.int .i64 c) := by rw [eW.out]; simp [go_sem]
  have cd : W0.cell? ⟨w.heap.size + 1, 1, none⟩ = some (.int .i64 d) := by rw [eW.out]; simp [go_sem]
  have k1 : W0.heap.size = w.heap.size + 2 := by rw [eW.out]; simp
  clear eW
  go_upto_region 3 with (first
    | (go_at_call 70; refine (may_any _ _ _ (by omega) (by omega) (by omega) (by omega)).mono ?_; rintro e w1 ⟨rfl, hb1⟩; obtain ⟨hB1, hn1⟩ := bg0 (n := w.heap.size + 2) (W0 := W0) (by go_grown) (by go_size) hb1; have za1 : w.heap.size < w1.heap.size := (by omega); have zb1 : w.heap.size + 1 < w1.heap.size := (by omega); have ca_1 := bcl hB1 ca (by simp; try omega); have cb_1 := bcl hB1 cb (by simp; try omega); have cc_1 := bcl hB1 cc (by simp; try omega); have cd_1 := bcl hB1 cd (by simp; try omega)))
  go_region_held3 (fun w' => w'.cell? ⟨w.heap.size, 0, none⟩ = some (.int .i64 a) ∧ w'.cell? ⟨w.heap.size, 1, none⟩ = some (.int .i64 b) ∧ w'.cell? ⟨w.heap.size + 1, 0, none⟩ = some (.int .i64 c) ∧ w'.cell? ⟨w.heap.size + 1, 1, none⟩ = some (.int .i64 d)) (exact ⟨bcl (n := w.heap.size + 2) (by go_grown) ca (by simp; try omega), bcl (n := w.heap.size + 2) (by go_grown) cb (by simp; try omega), bcl (n := w.heap.size + 2) (by go_grown) cc (by simp; try omega), bcl (n := w.heap.size + 2) (by go_grown) cd (by simp; try omega)⟩)
    (first
      | (go_at_call_of 72 a; refine (split_any _ _ _ (by omega) (by omega) (by omega) (by omega)).mono ?_; rintro e w2 ⟨rfl, hb2⟩; obtain ⟨hB2, hn2⟩ := bg0 (n := w.heap.size + 2) (W0 := W0) (by go_grown) (by go_size) hb2; have za2 : w.heap.size < w2.heap.size := (by omega); have zb2 : w.heap.size + 1 < w2.heap.size := (by omega); have ca_2 := bcl hB2 ca (by simp; try omega); have cb_2 := bcl hB2 cb (by simp; try omega); have cc_2 := bcl hB2 cc (by simp; try omega); have cd_2 := bcl hB2 cd (by simp; try omega))
      | (go_at_call_of 72 c; refine (split_any _ _ _ (by omega) (by omega) (by omega) (by omega)).mono ?_; rintro e w3 ⟨rfl, hb3⟩; obtain ⟨hB3, hn3⟩ := bg0 (n := w.heap.size + 2) (W0 := W0) (by go_grown) (by go_size) hb3; have za3 : w.heap.size < w3.heap.size := (by omega); have zb3 : w.heap.size + 1 < w3.heap.size := (by omega); have ca_3 := bcl hB3 ca (by simp; try omega); have cb_3 := bcl hB3 cb (by simp; try omega); have cc_3 := bcl hB3 cc (by simp; try omega); have cd_3 := bcl hB3 cd (by simp; try omega))
      | (go_at_call 75; refine (less_any (decide (a < 0)) (decide (c < 0)) (sz a) b (sz c) d _ s1 (by omega) s2 (by omega) (by omega) (by omega) (by omega) (by omega)).mono ?_; rintro e w4 ⟨rfl, hb4⟩; obtain ⟨hB4, hn4⟩ := bg0 (n := w.heap.size + 2) (W0 := W0) (by go_grown) (by go_size) hb4; have za4 : w.heap.size < w4.heap.size := (by omega); have zb4 : w.heap.size + 1 < w4.heap.size := (by omega); have ca_4 := bcl hB4 ca (by simp; try omega); have cb_4 := bcl hB4 cb (by simp; try omega); have cc_4 := bcl hB4 cc (by simp; try omega); have cd_4 := bcl hB4 cd (by simp; try omega)))
  have hBF : Below w.heap.size w w4 := k0.trans (hB4.mono (by omega))
  cases L
  · go_wp2
    go_ret
    exact ⟨rfl, by go_grown⟩
  · go_wp2
    go_ret
    exact ⟨rfl, by go_grown⟩

end Go.Proofs.YtedoahibceeklabGreatDoor
