/- math/bits.Div64 and Rem64: a number of 128 bits by one of 64. -/
import Derived.Test.YtedoahibceeklabGreatDoorWide
import Derived.Test.YtedoahibceeklabGreatDoorKnuth
import Derived.Laws.MathBits
namespace Go.Proofs.YtedoahibceeklabGreatDoor
open Go.RowKit Go.Shelf

theorem bl_zero (f : Nat) : Lib.bitLenAux f 0 = 0 := by cases f <;> simp [Lib.bitLenAux]
theorem bl_aux (f : Nat) : ∀ x : Nat, 0 < x → x < 2 ^ f → 1 ≤ Lib.bitLenAux f x ∧ Lib.bitLenAux f x ≤ f ∧ 2 ^ Lib.bitLenAux f x ≤ 2 * x ∧ x < 2 ^ Lib.bitLenAux f x := by
  induction f with
  | zero => intro x h1 h2; simp at h2; omega
  | succ f ih =>
    intro x h1 h2
    unfold Lib.bitLenAux
    rw [if_neg (by omega)]
    by_cases h : x / 2 = 0
    · have : x = 1 := by omega
      subst this
      rw [h, bl_zero]
      simp
    · obtain ⟨i1, i2, i3, i4⟩ := ih (x / 2) (by omega) (by rw [Nat.pow_succ] at h2; omega)
      generalize Lib.bitLenAux f (x / 2) = m at *
      have e : 2 ^ (1 + m) = 2 * 2 ^ m := by rw [Nat.pow_add]
      rw [e]
      omega
theorem lz (y : Int) (h0 : 0 < y) (h1 : y < 18446744073709551616) : ∃ s : Nat, s ≤ 63 ∧ 9223372036854775808 ≤ y * 2 ^ s ∧ y * 2 ^ s < 18446744073709551616 ∧
    ∀ w, Calls Tryz.prog 117 #[.int .u64 y] w fun e w' => e = .returned (.int .i64 (s : Int)) ∧ w' = w := by
  obtain ⟨i1, i2, i3, i4⟩ := bl_aux 64 y.toNat (by omega) (by omega)
  refine ⟨64 - Lib.bitLenAux 64 y.toNat, by omega, ?_, ?_, fun w => ?_⟩
  · have e : 2 ^ Lib.bitLenAux 64 y.toNat * 2 ^ (64 - Lib.bitLenAux 64 y.toNat) = 18446744073709551616 := by rw [← Nat.pow_add]; rw [show Lib.bitLenAux 64 y.toNat + (64 - Lib.bitLenAux 64 y.toNat) = 64 by omega]
    have h := Nat.mul_le_mul_right (2 ^ (64 - Lib.bitLenAux 64 y.toNat)) i3
    rw [e] at h
    generalize 64 - Lib.bitLenAux 64 y.toNat = s at *
    obtain ⟨n, rfl⟩ := Int.eq_ofNat_of_zero_le (Int.le_of_lt h0)
    simp only [Int.toNat_natCast] at h
    have e2 : ((n * 2 ^ s : Nat) : Int) = (n : Int) * 2 ^ s := by simp
    rw [← e2]
    have e3 : 2 * n * 2 ^ s = 2 * (n * 2 ^ s) := Nat.mul_assoc _ _ _
    omega
  · have e : 2 ^ Lib.bitLenAux 64 y.toNat * 2 ^ (64 - Lib.bitLenAux 64 y.toNat) = 18446744073709551616 := by rw [← Nat.pow_add]; rw [show Lib.bitLenAux 64 y.toNat + (64 - Lib.bitLenAux 64 y.toNat) = 64 by omega]
    have h := Nat.mul_lt_mul_of_pos_right i4 (Nat.two_pow_pos (64 - Lib.bitLenAux 64 y.toNat))
    rw [e] at h
    generalize 64 - Lib.bitLenAux 64 y.toNat = s at *
    obtain ⟨n, rfl⟩ := Int.eq_ofNat_of_zero_le (Int.le_of_lt h0)
    simp only [Int.toNat_natCast] at h
    have e2 : ((n * 2 ^ s : Nat) : Int) = (n : Int) * 2 ^ s := by simp
    rw [← e2]
    omega
  · refine (Tryz.bits_LeadingZeros64 y w (by omega) (by omega)).mono ?_
    rintro e w' ⟨rfl, rfl⟩
    refine ⟨ret_int ?_, rfl⟩
    have : Lib.bitLen y.toNat = Lib.bitLenAux 64 y.toNat := rfl
    rw [this]
    omega

set_option maxHeartbeats 400000 in
theorem div64_low (l y : Int) (w : World) (hl : 0 ≤ l) (hl' : l < 18446744073709551616) (hy : 0 < y) (hy' : y < 18446744073709551616) :
    Calls Tryz.prog 93 #[.int .u64 0, .int .u64 l, .int .u64 y] w fun e w' => e = .returned (.tuple #[.int .u64 (l / y), .int .u64 (l % y)]) ∧ ∃ k, w' = w.drewN k := by
  have h0 : (y == 0) = false := by simp; omega
  have h1 : ¬ y ≤ 0 := by omega
  have hne : ¬ y = 0 := by omega
  go_enter Tryz.func93, Tryz.ntmps93
  go_wp2
  go_quiet (fail)
  go_wp2
  go_ret2
  exact ⟨rfl, _, rfl⟩

set_option maxHeartbeats 2000000 in
theorem div64_core (h l y H L U V Y y1 y0 v1 v0 Q1 t Q0 R : Int) (s : Nat) (w : World) (hh : 0 < h) (_hl : 0 ≤ l) (_hl' : l < 18446744073709551616) (hy : h < y) (_hy' : y < 18446744073709551616)
    (hz : ∀ w, Calls Tryz.prog 117 #[.int .u64 y] w fun e w' => e = .returned (.int .i64 (s : Int)) ∧ w' = w)
    (hs : s ≤ 63) (hm : min s 64 = s) (hm2 : (64 - (s : Int)).toNat = 64 - s) (_hm3 : min (64 - s) 64 = 64 - s)
    (eY : y * 2 ^ s = Y) (hY : 0 < Y) (hY' : Y ≤ 18446744073709551615)
    (eH : h * 2 ^ s = H) (hH : 0 ≤ H) (hH' : H ≤ 18446744073709551615)
    (eL : l / 2 ^ (64 - s) = L) (eU : bits BinOp.or IntKind.u64 H L = U) (hU : 0 ≤ U) (hUY : U < Y)
    (eV : IntKind.u64.wrap (l * 2 ^ s) = V) (_hV : 0 ≤ V) (_hV' : V ≤ 18446744073709551615)
    (ey1 : Y / 4294967296 = y1) (hy1 : 2147483648 ≤ y1) (hy1' : y1 < 4294967296) (ey0 : bits BinOp.and IntKind.u64 Y 4294967295 = y0) (hy0 : 0 ≤ y0) (hy0' : y0 < 4294967296)
    (ev1 : V / 4294967296 = v1) (hv1 : 0 ≤ v1) (hv1' : v1 < 4294967296) (ev0 : bits BinOp.and IntKind.u64 V 4294967295 = v0) (hv0 : 0 ≤ v0) (hv0' : v0 < 4294967296)
    (aY : Hid (Y = y1 * 4294967296 + y0)) (aQ1 : Hid (Q1 = (U * 4294967296 + v1) / Y)) (aQ0 : Hid (Q0 = (t * 4294967296 + v0) / Y))
    (hQ1 : 0 ≤ Q1) (hQ1' : Q1 < 4294967296) (hQ0 : 0 ≤ Q0) (hQ0' : Q0 < 4294967296) (ht : 0 ≤ t) (htY : t < Y) (_hR : 0 ≤ R)
    (er1 : IntKind.u64.wrap (U - IntKind.u64.wrap (U / y1 * y1)) = U % y1) (et : IntKind.u64.wrap (IntKind.u64.wrap (IntKind.u64.wrap (U * 4294967296) + v1) - IntKind.u64.wrap (Q1 * Y)) = t)
    (er2 : IntKind.u64.wrap (t - IntKind.u64.wrap (t / y1 * y1)) = t % y1) (eR : IntKind.u64.wrap (IntKind.u64.wrap (IntKind.u64.wrap (t * 4294967296) + v0) - IntKind.u64.wrap (Q0 * Y)) = R) :
    Calls Tryz.prog 93 #[.int .u64 h, .int .u64 l, .int .u64 y] w fun e w' => e = .returned (.tuple #[.int .u64 (Q1 * 4294967296 + Q0), .int .u64 (R / 2 ^ s)]) ∧ w' = w := by
  have h0 : (y == 0) = false := by simp; omega
  have h1 : ¬ y ≤ h := by omega
  have h2 : (h == 0) = false := by simp; omega
  have hne : ¬ y1 = 0 := by omega
  have HZ : Hid (∀ w, Calls Tryz.prog 117 #[.int .u64 y] w fun e w' => e = .returned (.int .i64 (s : Int)) ∧ w' = w) := hz
  clear hz
  obtain ⟨p1, p2, p3, p4, p5, p6⟩ := kn_first aY.out hy1 hy0 hy0' hU hUY hv1 hv1'
  obtain ⟨q1, q2, q3, q4, q5, q6⟩ := kn_first aY.out hy1 hy0 hy0' ht htY hv0 hv0'
  rw [← aQ1.out] at p3
  rw [← aQ0.out] at q3
  have P4 : Hid (U / y1 * y1 + U % y1 = U) := p4
  have P5 : Hid (t / y1 * y1 + t % y1 = t) := q4
  clear p4 q4
  go_enter Tryz.func93, Tryz.ntmps93
  go_wp2_with (first
    | (go_at_call 117; refine (HZ.out _).mono ?_; rintro e w1 ⟨rfl, rfl⟩))
  clear HZ eY eH eL eU eV ey1 ey0 ev1 ev0 h0 h1 h2
  go_loop [15, 16] (fun a b => ∃ q r : Int, 0 ≤ q ∧ q ≤ 4294967297 ∧ 0 ≤ r ∧ r < 4294967296 ∧ Q1 ≤ q ∧ Hid (q * y1 + r = U) ∧ a = .int .u64 q ∧ b = .int .u64 r) (fun a _ => (intOf a).toNat)
  case atStart => exact ⟨U / y1, U % y1, p1, p2, p5, by omega, p3, P4, rfl, rfl⟩
  case round =>
    obtain ⟨q, r, i1, i2, i3, i4, i5, i6, rfl, rfl⟩ := hrel
    by_cases c1 : 4294967296 ≤ q
    · by_cases c3 : 4294967296 ≤ r + y1
      · have hq : q - 1 = Q1 := by
          have e := kn_break (u := U) (d := v1) (q := q - 1) (r := r + y1) aY.out hY (by have := i6.out; rw [Int.sub_mul]; omega) c3 (by omega) hy0 hy0' hv1
          rw [← aQ1.out] at e
          omega
        go_wp2
        go_loop [18, 16] (fun a b => ∃ q r : Int, 0 ≤ q ∧ q ≤ 4294967297 ∧ 0 ≤ r ∧ r < 4294967296 ∧ Q0 ≤ q ∧ Hid (q * y1 + r = t) ∧ a = .int .u64 q ∧ b = .int .u64 r) (fun a _ => (intOf a).toNat)
        case atStart => exact ⟨t / y1, t % y1, q1, q2, q5, by omega, q3, P5, rfl, rfl⟩
        case round =>
          obtain ⟨g, r, i1, i2, i3, i4, i5, i6, rfl, rfl⟩ := hrel
          by_cases c1 : 4294967296 ≤ g
          · by_cases c3 : 4294967296 ≤ r + y1
            · have hq : g - 1 = Q0 := by
                have e := kn_break (u := t) (d := v0) (q := g - 1) (r := r + y1) aY.out hY (by have := i6.out; rw [Int.sub_mul]; omega) c3 (by omega) hy0 hy0' hv0
                rw [← aQ0.out] at e
                omega
              go_wp2
              go_ret2
              exact ⟨rfl, rfl⟩
            · go_wp2
              exact ⟨⟨g - 1, r + y1, by omega, by omega, by omega, by omega, by omega, by have := i6.out; show (g - 1) * y1 + (r + y1) = t; rw [Int.sub_mul]; omega, rfl, rfl⟩, by simp [intOf]; omega⟩
          · obtain ⟨m1, m2⟩ := kn_mul_bd i1 (by omega) hy0 hy0'
            by_cases c2 : 4294967296 * r + v0 < g * y0
            · have hd : Q0 ≤ g - 1 := by
                have e := kn_down (d := v0) aY.out hY i6.out (by omega)
                rw [← aQ0.out] at e
                exact e
              by_cases c3 : 4294967296 ≤ r + y1
              · have hq : g - 1 = Q0 := by
                  have e := kn_break (u := t) (d := v0) (q := g - 1) (r := r + y1) aY.out hY (by have := i6.out; rw [Int.sub_mul]; omega) c3 (by omega) hy0 hy0' hv0
                  rw [← aQ0.out] at e
                  omega
                go_wp2
                go_ret2
                exact ⟨rfl, rfl⟩
              · go_wp2
                exact ⟨⟨g - 1, r + y1, by omega, by omega, by omega, by omega, by omega, by have := i6.out; show (g - 1) * y1 + (r + y1) = t; rw [Int.sub_mul]; omega, rfl, rfl⟩, by simp [intOf]; omega⟩
            · have hq : g = Q0 := by
                have e := kn_stop (d := v0) aY.out hY i6.out (by omega)
                rw [← aQ0.out] at e
                omega
              subst hq
              go_wp2
              go_ret2
              exact ⟨rfl, rfl⟩
      · go_wp2
        exact ⟨⟨q - 1, r + y1, by omega, by omega, by omega, by omega, by omega, by have := i6.out; show (q - 1) * y1 + (r + y1) = U; rw [Int.sub_mul]; omega, rfl, rfl⟩, by simp [intOf]; omega⟩
    · obtain ⟨m1, m2⟩ := kn_mul_bd i1 (by omega) hy0 hy0'
      by_cases c2 : 4294967296 * r + v1 < q * y0
      · have hd : Q1 ≤ q - 1 := by
          have e := kn_down (d := v1) aY.out hY i6.out (by omega)
          rw [← aQ1.out] at e
          exact e
        by_cases c3 : 4294967296 ≤ r + y1
        · have hq : q - 1 = Q1 := by
            have e := kn_break (u := U) (d := v1) (q := q - 1) (r := r + y1) aY.out hY (by have := i6.out; rw [Int.sub_mul]; omega) c3 (by omega) hy0 hy0' hv1
            rw [← aQ1.out] at e
            omega
          go_wp2
          go_loop [18, 16] (fun a b => ∃ q r : Int, 0 ≤ q ∧ q ≤ 4294967297 ∧ 0 ≤ r ∧ r < 4294967296 ∧ Q0 ≤ q ∧ Hid (q * y1 + r = t) ∧ a = .int .u64 q ∧ b = .int .u64 r) (fun a _ => (intOf a).toNat)
          case atStart => exact ⟨t / y1, t % y1, q1, q2, q5, by omega, q3, P5, rfl, rfl⟩
          case round =>
            obtain ⟨g, r, i1, i2, i3, i4, i5, i6, rfl, rfl⟩ := hrel
            by_cases c1 : 4294967296 ≤ g
            · by_cases c3 : 4294967296 ≤ r + y1
              · have hq : g - 1 = Q0 := by
                  have e := kn_break (u := t) (d := v0) (q := g - 1) (r := r + y1) aY.out hY (by have := i6.out; rw [Int.sub_mul]; omega) c3 (by omega) hy0 hy0' hv0
                  rw [← aQ0.out] at e
                  omega
                go_wp2
                go_ret2
                exact ⟨rfl, rfl⟩
              · go_wp2
                exact ⟨⟨g - 1, r + y1, by omega, by omega, by omega, by omega, by omega, by have := i6.out; show (g - 1) * y1 + (r + y1) = t; rw [Int.sub_mul]; omega, rfl, rfl⟩, by simp [intOf]; omega⟩
            · obtain ⟨m1, m2⟩ := kn_mul_bd i1 (by omega) hy0 hy0'
              by_cases c2 : 4294967296 * r + v0 < g * y0
              · have hd : Q0 ≤ g - 1 := by
                  have e := kn_down (d := v0) aY.out hY i6.out (by omega)
                  rw [← aQ0.out] at e
                  exact e
                by_cases c3 : 4294967296 ≤ r + y1
                · have hq : g - 1 = Q0 := by
                    have e := kn_break (u := t) (d := v0) (q := g - 1) (r := r + y1) aY.out hY (by have := i6.out; rw [Int.sub_mul]; omega) c3 (by omega) hy0 hy0' hv0
                    rw [← aQ0.out] at e
                    omega
                  go_wp2
                  go_ret2
                  exact ⟨rfl, rfl⟩
                · go_wp2
                  exact ⟨⟨g - 1, r + y1, by omega, by omega, by omega, by omega, by omega, by have := i6.out; show (g - 1) * y1 + (r + y1) = t; rw [Int.sub_mul]; omega, rfl, rfl⟩, by simp [intOf]; omega⟩
              · have hq : g = Q0 := by
                  have e := kn_stop (d := v0) aY.out hY i6.out (by omega)
                  rw [← aQ0.out] at e
                  omega
                subst hq
                go_wp2
                go_ret2
                exact ⟨rfl, rfl⟩
        · go_wp2
          exact ⟨⟨q - 1, r + y1, by omega, by omega, by omega, by omega, by omega, by have := i6.out; show (q - 1) * y1 + (r + y1) = U; rw [Int.sub_mul]; omega, rfl, rfl⟩, by simp [intOf]; omega⟩
      · have hq : q = Q1 := by
          have e := kn_stop (d := v1) aY.out hY i6.out (by omega)
          rw [← aQ1.out] at e
          omega
        subst hq
        go_wp2
        go_loop [18, 16] (fun a b => ∃ q r : Int, 0 ≤ q ∧ q ≤ 4294967297 ∧ 0 ≤ r ∧ r < 4294967296 ∧ Q0 ≤ q ∧ Hid (q * y1 + r = t) ∧ a = .int .u64 q ∧ b = .int .u64 r) (fun a _ => (intOf a).toNat)
        case atStart => exact ⟨t / y1, t % y1, q1, q2, q5, by omega, q3, P5, rfl, rfl⟩
        case round =>
          obtain ⟨g, r, i1, i2, i3, i4, i5, i6, rfl, rfl⟩ := hrel
          by_cases c1 : 4294967296 ≤ g
          · by_cases c3 : 4294967296 ≤ r + y1
            · have hq : g - 1 = Q0 := by
                have e := kn_break (u := t) (d := v0) (q := g - 1) (r := r + y1) aY.out hY (by have := i6.out; rw [Int.sub_mul]; omega) c3 (by omega) hy0 hy0' hv0
                rw [← aQ0.out] at e
                omega
              go_wp2
              go_ret2
              exact ⟨rfl, rfl⟩
            · go_wp2
              exact ⟨⟨g - 1, r + y1, by omega, by omega, by omega, by omega, by omega, by have := i6.out; show (g - 1) * y1 + (r + y1) = t; rw [Int.sub_mul]; omega, rfl, rfl⟩, by simp [intOf]; omega⟩
          · obtain ⟨m1, m2⟩ := kn_mul_bd i1 (by omega) hy0 hy0'
            by_cases c2 : 4294967296 * r + v0 < g * y0
            · have hd : Q0 ≤ g - 1 := by
                have e := kn_down (d := v0) aY.out hY i6.out (by omega)
                rw [← aQ0.out] at e
                exact e
              by_cases c3 : 4294967296 ≤ r + y1
              · have hq : g - 1 = Q0 := by
                  have e := kn_break (u := t) (d := v0) (q := g - 1) (r := r + y1) aY.out hY (by have := i6.out; rw [Int.sub_mul]; omega) c3 (by omega) hy0 hy0' hv0
                  rw [← aQ0.out] at e
                  omega
                go_wp2
                go_ret2
                exact ⟨rfl, rfl⟩
              · go_wp2
                exact ⟨⟨g - 1, r + y1, by omega, by omega, by omega, by omega, by omega, by have := i6.out; show (g - 1) * y1 + (r + y1) = t; rw [Int.sub_mul]; omega, rfl, rfl⟩, by simp [intOf]; omega⟩
            · have hq : g = Q0 := by
                have e := kn_stop (d := v0) aY.out hY i6.out (by omega)
                rw [← aQ0.out] at e
                omega
              subst hq
              go_wp2
              go_ret2
              exact ⟨rfl, rfl⟩

theorem kn_wrap {a b m : Int} (hb : 0 ≤ b) (hb' : b ≤ 18446744073709551615) (h : a = m + b) (_hm : 0 ≤ m) (_hm' : m ≤ 18446744073709551615) : IntKind.u64.wrap (a - IntKind.u64.wrap m) = b := by
  rw [IntKind.wrap_u64, IntKind.wrap_u64]; omega
theorem kn_wrap2 {a c d z t : Int} (ht : 0 ≤ t) (ht' : t ≤ 18446744073709551615) (h : a + d = z + t) (_hc : c = a) : IntKind.u64.wrap (IntKind.u64.wrap (IntKind.u64.wrap a + d) - IntKind.u64.wrap z) = t := by
  rw [IntKind.wrap_u64, IntKind.wrap_u64, IntKind.wrap_u64, IntKind.wrap_u64]; omega

theorem div64_high (h l y : Int) (w : World) (hh : 0 < h) (hl : 0 ≤ l) (hl' : l < 18446744073709551616) (hy : h < y) (hy' : y < 18446744073709551616) :
    Calls Tryz.prog 93 #[.int .u64 h, .int .u64 l, .int .u64 y] w fun e w' => e = .returned (.tuple #[.int .u64 ((h * 18446744073709551616 + l) / y), .int .u64 ((h * 18446744073709551616 + l) % y)]) ∧ w' = w := by
  obtain ⟨s, s1, s2, s3, hz⟩ := lz y (by omega) hy'
  have hp : (0 : Int) < 2 ^ s := Int.pow_pos (by decide)
  have hc : (0 : Int) < 2 ^ (64 - s) := Int.pow_pos (by decide)
  have hpc : (2 : Int) ^ (64 - s) * 2 ^ s = 18446744073709551616 := by rw [← Int.pow_add, show 64 - s + s = 64 by omega]; rfl
  generalize hP : (2 : Int) ^ s = p at *
  generalize hC : (2 : Int) ^ (64 - s) = c at *
  have eL : l / c = l * p / 18446744073709551616 := by rw [← hpc]; exact (Int.mul_ediv_mul_of_pos_left l c hp).symm
  have hlp : 0 ≤ l * p := Int.mul_nonneg hl (by omega)
  have hlp2 : l * p < 18446744073709551616 * p := Int.mul_lt_mul_of_pos_right hl' hp
  have hHp : 0 ≤ h * p := Int.mul_nonneg (by omega) (by omega)
  have hHY : h * p + p ≤ y * p := by
    have := Int.mul_le_mul_of_nonneg_right (show h + 1 ≤ y by omega) (Int.le_of_lt hp)
    rw [Int.add_mul] at this; omega
  have hLp : l * p / 18446744073709551616 < p := by rw [Int.ediv_lt_iff_lt_mul (by decide)]; omega
  have hL0 : 0 ≤ l * p / 18446744073709551616 := Int.ediv_nonneg hlp (by decide)
  have hjoin : bits BinOp.or IntKind.u64 (h * p) (l * p / 18446744073709551616) = h * p + l * p / 18446744073709551616 := by
    refine bits_join .u64 64 (by decide) (fun n h1 h2 => by rw [IntKind.wrap_u64]; omega) s _ _ hHp ?_ (by omega) hL0 (by rw [hP]; exact hLp) (by omega)
    rw [hP]; exact Int.mul_emod_left h p
  generalize eU : h * p + l * p / 18446744073709551616 = U at *
  generalize eV : l * p % 18446744073709551616 = V at *
  have hV : 0 ≤ V ∧ V < 18446744073709551616 := by omega
  have eX : (h * 18446744073709551616 + l) * p = U * 18446744073709551616 + V := by rw [Int.add_mul, Int.mul_right_comm]; omega
  generalize eY : y * p = Y at *
  have hU : 0 ≤ U ∧ U < Y := by omega
  obtain ⟨k1, k2⟩ := kn_two (u := U) (a := V / 4294967296) (b := V % 4294967296) (Y := Y) (by omega) (by omega) (by omega)
  have eV2 : V / 4294967296 * 4294967296 + V % 4294967296 = V := by omega
  rw [eV2, ← eX, ← eY] at k1 k2
  obtain ⟨k3, k4⟩ := kn_scale (h * 18446744073709551616 + l) y p hp
  rw [eY] at k1 k2 k3 k4
  have hY0 : 0 < Y := by omega
  have hm1 := Int.mul_ediv_add_emod (U * 4294967296 + V / 4294967296) Y
  have hm1a := Int.emod_lt_of_pos (U * 4294967296 + V / 4294967296) hY0
  have hm1b := Int.emod_nonneg (U * 4294967296 + V / 4294967296) (show Y ≠ 0 by omega)
  have hQ1 := kn_lt (d := V / 4294967296) hU.2 (by omega) hY0
  have hQ1b := kn_nonneg (d := V / 4294967296) hU.1 (by omega) hY0
  generalize eQ1 : (U * 4294967296 + V / 4294967296) / Y = Q1 at *
  generalize eT : (U * 4294967296 + V / 4294967296) % Y = t at *
  have hm2 := Int.mul_ediv_add_emod (t * 4294967296 + V % 4294967296) Y
  have hm2a := Int.emod_lt_of_pos (t * 4294967296 + V % 4294967296) hY0
  have hm2b := Int.emod_nonneg (t * 4294967296 + V % 4294967296) (show Y ≠ 0 by omega)
  have hQ0 := kn_lt (d := V % 4294967296) hm1a (by omega) hY0
  have hQ0b := kn_nonneg (d := V % 4294967296) hm1b (by omega) hY0
  generalize eQ0 : (t * 4294967296 + V % 4294967296) / Y = Q0 at *
  generalize eR : (t * 4294967296 + V % 4294967296) % Y = R at *
  have hy1 : 2147483648 ≤ Y / 4294967296 := by omega
  obtain ⟨p1, p2, p3, p4, p5, p6⟩ := kn_first (u := U) (d := V / 4294967296) (y1 := Y / 4294967296) (y0 := Y % 4294967296) (by omega) hy1 (by omega) (by omega) hU.1 hU.2 (by omega) (by omega)
  obtain ⟨q1, q2, q3, q4, q5, q6⟩ := kn_first (u := t) (d := V % 4294967296) (y1 := Y / 4294967296) (y0 := Y % 4294967296) (by omega) hy1 (by omega) (by omega) hm1b hm1a (by omega) (by omega)
  have r1 : 0 ≤ U / (Y / 4294967296) * (Y / 4294967296) := Int.mul_nonneg p1 (by omega)
  have r2 : 0 ≤ t / (Y / 4294967296) * (Y / 4294967296) := Int.mul_nonneg q1 (by omega)
  have core := div64_core h l y (h * p) (l * p / 18446744073709551616) U V Y (Y / 4294967296) (Y % 4294967296) (V / 4294967296) (V % 4294967296) Q1 t Q0 R s w hh hl hl' hy hy' hz s1 (by omega) (by omega) (by omega)
    (by rw [hP, eY]) hY0 (by omega) (by rw [hP]) hHp (by omega) (by rw [hC, eL]) hjoin hU.1 hU.2 (by rw [hP, IntKind.wrap_u64, eV]) hV.1 (by omega) rfl hy1 (by omega) (and_low32 Y (by omega) (by omega)) (by omega) (by omega) rfl (by omega) (by omega) (and_low32 V (by omega) (by omega)) (by omega) (by omega)
    (show Y = _ by omega) eQ1.symm eQ0.symm hQ1b hQ1 hQ0b hQ0 hm1b hm1a hm2b
    (kn_wrap p5 (by omega) (by omega) r1 (by omega)) (kn_wrap2 (c := U * 4294967296) hm1b (by omega) (by rw [Int.mul_comm Q1 Y]; omega) rfl)
    (kn_wrap q5 (by omega) (by omega) r2 (by omega)) (kn_wrap2 (c := t * 4294967296) hm2b (by omega) (by rw [Int.mul_comm Q0 Y]; omega) rfl)
  rw [hP] at core
  have f1 : Q1 * 4294967296 + Q0 = (h * 18446744073709551616 + l) / y := by rw [← k3]; exact k1.symm
  have f2 : R / p = (h * 18446744073709551616 + l) % y := by rw [← k4, k2]
  rw [f1, f2] at core
  exact core

theorem div64_any (x y : Int) (w : World) (hx : 0 ≤ x) (hy : 0 < y) (hy' : y < 18446744073709551616) (h : hi x < y) :
    Calls Tryz.prog 93 #[.int .u64 (hi x), .int .u64 (lo x), .int .u64 y] w fun e w' => e = .returned (.tuple #[.int .u64 (x / y), .int .u64 (x % y)]) ∧ ∃ k, w' = w.drewN k := by
  have hl := lo_bd x
  by_cases h0 : hi x = 0
  · have e : lo x = x := by unfold hi lo at *; omega
    rw [h0, e]
    exact div64_low x y w hx (by omega) hy hy'
  · have e := hi_lo x
    refine (div64_high (hi x) (lo x) y w (by unfold hi at *; omega) hl.1 hl.2 h hy').mono ?_
    rw [e]
    rintro e w' ⟨rfl, rfl⟩
    exact ⟨rfl, 0, rfl⟩

theorem rem64_any (x y : Int) (w : World) (hx : 0 ≤ x) (hx' : x < 340282366920938463463374607431768211456) (hy : 0 < y) (hy' : y < 18446744073709551616) :
    Calls Tryz.prog 92 #[.int .u64 (hi x), .int .u64 (lo x), .int .u64 y] w fun e w' => e = .returned (.int .u64 (x % y)) ∧ ∃ k, w' = w.drewN k := by
  have hb := hi_bd x hx hx'
  have hl := lo_bd x
  have hne : ¬ y = 0 := by omega
  have m1 := Int.emod_lt_of_pos (hi x) hy
  have m2 := Int.emod_nonneg (hi x) hne
  have e1 : hi (hi x % y * 18446744073709551616 + lo x) = hi x % y := by unfold hi at *; unfold lo at *; omega
  have e2 : lo (hi x % y * 18446744073709551616 + lo x) = lo x := by unfold hi at *; unfold lo at *; omega
  have c := fun w => div64_any (hi x % y * 18446744073709551616 + lo x) y w (by omega) hy hy' (by rw [e1]; exact m1)
  rw [e1, e2] at c
  have e3 : (hi x % y * 18446744073709551616 + lo x) % y = x % y := by
    have := hi_lo x
    have h2 := Int.mul_ediv_add_emod (hi x) y
    have : x = (hi x % y * 18446744073709551616 + lo x) + y * (hi x / y * 18446744073709551616) := by grind
    rw [this, Int.add_mul_emod_self_left]
    rw [← this]
  rw [e3] at c
  have C : Hid (∀ w, Calls Tryz.prog 93 #[.int .u64 (hi x % y), .int .u64 (lo x), .int .u64 y] w fun e w' => e = .returned (.tuple #[.int .u64 ((hi x % y * 18446744073709551616 + lo x) / y), .int .u64 (x % y)]) ∧ ∃ k, w' = w.drewN k) := c
  clear c e1 e2 e3
  go_enter Tryz.func92, Tryz.ntmps92
  go_wp2_with (first
    | (go_at_call 93; refine (C.out _).mono ?_; rintro e w1 ⟨rfl, k, rfl⟩))
  go_ret
  exact ⟨rfl, k, rfl⟩

end Go.Proofs.YtedoahibceeklabGreatDoor
