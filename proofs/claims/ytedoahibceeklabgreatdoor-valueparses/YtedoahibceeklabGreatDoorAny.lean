/- What rat.sum and rat.product tell of fractions that may be; which fractions may be. -/
import Derived.Test.YtedoahibceeklabGreatDoorSum
import Derived.Test.YtedoahibceeklabGreatDoorProd
import Derived.Test.YtedoahibceeklabGreatDoorLess
import Derived.Test.YtedoahibceeklabGreatDoorFrac
namespace Go.Proofs.YtedoahibceeklabGreatDoor
open Go.RowKit Go.Shelf

theorem bg0 {n : Nat} {W0 W w1 : World} (h0 : Below n W0 W) (hn : n ≤ W.heap.size) (hb : Below W.heap.size W w1) : Below n W0 w1 ∧ n ≤ w1.heap.size := ⟨h0.trans (hb.mono hn), Nat.le_trans hn hb.size⟩

theorem mul_bd {a b A B : Int} (ha : 0 ≤ a) (ha' : a ≤ A) (hb : 0 ≤ b) (hb' : b ≤ B) : 0 ≤ a * b ∧ a * b ≤ A * B :=
  ⟨Int.mul_nonneg ha hb, Int.mul_le_mul ha' hb' hb (by omega)⟩

theorem sum_any (xb yb : Bool) (xn xd yn yd : Int) (w : World) (hxn : 0 ≤ xn) (hxn' : xn ≤ 9223372036854775808) (hyn : 0 ≤ yn) (hyn' : yn ≤ 9223372036854775808) (hxd : 0 < xd) (hxd' : xd ≤ 9223372036854775808) (hyd : 0 < yd) (hyd' : yd ≤ 9223372036854775808)
    (hx : Nat.Coprime xn.toNat xd.toNat) (hy : Nat.Coprime yn.toNat yd.toNat) :
    Calls Tryz.prog 71 #[.agg #[.bool xb, .int .u64 xn, .int .u64 xd], .agg #[.bool yb, .int .u64 yn, .int .u64 yd]] w fun e w' =>
      e = .returned (.tuple #[.agg #[.int .i64 (rN (sg xb xn * yd + sg yb yn * xd) (xd * yd)), .int .i64 (rD (sg xb xn * yd + sg yb yn * xd) (xd * yd))], .int .i64 (rE (sg xb xn * yd + sg yb yn * xd) (xd * yd))]) ∧ Below w.heap.size w w' := by
  have hg := gc_pos xd yd hyd
  have hg' := gc_le xd yd hyd
  have hy1 : 0 ≤ yd / gc xd yd := Int.ediv_nonneg (by omega) (by omega)
  have hx1 : 0 ≤ xd / gc xd yd := Int.ediv_nonneg (by omega) (by omega)
  have hy1' := div_le_self yd _ (by omega) hg
  have hx1' := div_le_self xd _ (by omega) hg
  have hA := mul_bd hxn hxn' hy1 (Int.le_trans hy1' hyd')
  have hB := mul_bd hyn hyn' hx1 (Int.le_trans hx1' hxd')
  have hT := ss_bd xb (xn * (yd / gc xd yd)) yb (yn * (xd / gc xd yd)) hA.1 hB.1
  have hS := ss_sum xb (xn * (yd / gc xd yd)) yb (yn * (xd / gc xd yd))
  generalize hTe : ssT xb (xn * (yd / gc xd yd)) yb (yn * (xd / gc xd yd)) = T at *
  generalize hbe : ssB xb (xn * (yd / gc xd yd)) yb (yn * (xd / gc xd yd)) = bb at *
  have hm := Int.emod_lt_of_pos T hg
  have hm' := Int.emod_nonneg T (show gc xd yd ≠ 0 by omega)
  have hl := gc_pos (T % gc xd yd) (gc xd yd) hg
  have hl' := gc_le (T % gc xd yd) (gc xd yd) hg
  have hy2 : 0 ≤ yd / gc (T % gc xd yd) (gc xd yd) := Int.ediv_nonneg (by omega) (by omega)
  have hy2' := div_le_self yd _ (by omega) hl
  have hD := mul_bd hx1 (Int.le_trans hx1' hxd') hy2 (Int.le_trans hy2' hyd')
  have hn : 0 ≤ T / gc (T % gc xd yd) (gc xd yd) := Int.ediv_nonneg hT.1 (by omega)
  have raw := sum_raw xb yb bb xn xd yn yd (gc xd yd) (xd / gc xd yd) (yd / gc xd yd) (yd / gc (T % gc xd yd) (gc xd yd)) (xn * (yd / gc xd yd)) (yn * (xd / gc xd yd)) T (gc (T % gc xd yd) (gc xd yd)) (xd / gc xd yd * (yd / gc (T % gc xd yd) (gc xd yd))) (T / gc (T % gc xd yd) (gc xd yd)) w
    hxn (by omega) hyn (by omega) hxd (by omega) hyd (by omega) rfl hg (by omega) (by omega) (u64_tdiv _ _ (by omega) (by omega) hg) hy1 (by omega) (u64_tdiv _ _ (by omega) (by omega) hg) hx1 (by omega)
    rfl hA.1 rfl hB.1 (by omega) hTe hbe hT.1 (by omega) hm' (by omega) rfl hl (by omega) (by omega) (u64_tdiv _ _ (by omega) (by omega) hl) hy2 (by omega) rfl hD.1 (by omega) rfl hn
  obtain ⟨a, rfl⟩ := Int.eq_ofNat_of_zero_le hxn
  obtain ⟨b, rfl⟩ := Int.eq_ofNat_of_zero_le (Int.le_of_lt hxd)
  obtain ⟨c, rfl⟩ := Int.eq_ofNat_of_zero_le hyn
  obtain ⟨d, rfl⟩ := Int.eq_ofNat_of_zero_le (Int.le_of_lt hyd)
  obtain ⟨k1, k2, k3⟩ := sum_r xb yb bb a b c d T (by omega) (by omega) (by simpa using hx) (by simpa using hy) hT.1 hS
  rw [k1, k2, k3] at raw
  exact raw

theorem sg_mul (bb xb yb : Bool) (a c : Int) (h : (!(xb == yb)) = bb) : sg bb (a * c) = sg xb a * sg yb c := by
  subst h; unfold sg; cases xb <;> cases yb <;> simp [Int.neg_mul, Int.mul_neg]

theorem product_any (xb yb : Bool) (xn xd yn yd : Int) (w : World) (hxn : 0 ≤ xn) (hxn' : xn ≤ 9223372036854775808) (hyn : 0 ≤ yn) (hyn' : yn ≤ 9223372036854775808) (hxd : 0 < xd) (hxd' : xd ≤ 9223372036854775808) (hyd : 0 < yd) (hyd' : yd ≤ 9223372036854775808)
    (hx : Nat.Coprime xn.toNat xd.toNat) (hy : Nat.Coprime yn.toNat yd.toNat) :
    Calls Tryz.prog 73 #[.agg #[.bool xb, .int .u64 xn, .int .u64 xd], .agg #[.bool yb, .int .u64 yn, .int .u64 yd]] w fun e w' =>
      e = .returned (.tuple #[.agg #[.int .i64 (rN (sg xb xn * sg yb yn) (xd * yd)), .int .i64 (rD (sg xb xn * sg yb yn) (xd * yd))], .int .i64 (rE (sg xb xn * sg yb yn) (xd * yd))]) ∧ Below w.heap.size w w' := by
  have hf := gc_pos xn yd hyd
  have hs := gc_pos yn xd hxd
  have h1 : 0 ≤ xn / gc xn yd := Int.ediv_nonneg hxn (by omega)
  have h2 : 0 ≤ yn / gc yn xd := Int.ediv_nonneg hyn (by omega)
  have h3 : 0 ≤ xd / gc yn xd := Int.ediv_nonneg (by omega) (by omega)
  have h4 : 0 ≤ yd / gc xn yd := Int.ediv_nonneg (by omega) (by omega)
  have h1' := div_le_self xn _ hxn hf
  have h2' := div_le_self yn _ hyn hs
  have h3' := div_le_self xd _ (by omega) hs
  have h4' := div_le_self yd _ (by omega) hf
  have raw := product_raw xb yb (!(xb == yb)) xn xd yn yd (gc xn yd) (gc yn xd) (xn / gc xn yd) (yn / gc yn xd) (xd / gc yn xd) (yd / gc xn yd) (xn / gc xn yd * (yn / gc yn xd)) (xd / gc yn xd * (yd / gc xn yd)) w
    hxn (by omega) hyn (by omega) hxd (by omega) hyd (by omega) rfl rfl (by omega) rfl (by omega) (u64_tdiv _ _ hxn (by omega) hf) h1 (by omega) (u64_tdiv _ _ hyn (by omega) hs) h2 (by omega) (u64_tdiv _ _ (by omega) (by omega) hs) h3 (by omega) (u64_tdiv _ _ (by omega) (by omega) hf) h4 (by omega)
    rfl (Int.mul_nonneg h1 h2) rfl (Int.mul_nonneg h3 h4)
  obtain ⟨a, rfl⟩ := Int.eq_ofNat_of_zero_le hxn
  obtain ⟨b, rfl⟩ := Int.eq_ofNat_of_zero_le (Int.le_of_lt hxd)
  obtain ⟨c, rfl⟩ := Int.eq_ofNat_of_zero_le hyn
  obtain ⟨d, rfl⟩ := Int.eq_ofNat_of_zero_le (Int.le_of_lt hyd)
  obtain ⟨k1, k2, k3⟩ := prod_r (!(xb == yb)) xb yb a b c d (by omega) (by omega) (by simpa using hx) (by simpa using hy) (by rw [Int.natCast_mul]; exact sg_mul _ _ _ _ _ rfl)
  rw [k1, k2, k3] at raw
  exact raw

theorem may_of {n d : Int} (h : mayB n d = true) : 0 < d ∧ Nat.Coprime n.natAbs d.toNat := by
  unfold mayB oE oN oD at h
  by_cases hd : d = 0
  · simp [hd] at h
  · simp only [hd, if_false, Bool.and_eq_true, beq_iff_eq] at h
    obtain ⟨h1, h2, h3⟩ := h
    have hs : 0 < sz d := by unfold sz; omega
    have hg := gc_pos (sz (ofP n d)) (sz d) hs
    have hdv := gc_dvd_right (sz (ofP n d)) (sz d) (by omega)
    unfold rE outE at h1
    unfold rD outD at h3
    unfold rN outN at h2
    split at h1
    · rename_i hok
      rw [if_pos hok] at h2 h3
      have hp : 0 < d := by
        have : 0 ≤ sz d / gc (sz (ofP n d)) (sz d) := Int.ediv_nonneg (by omega) (by omega)
        omega
      have e1 : sz d = d := sz_of_nonneg (by omega)
      have e2 : ofP n d = n := by unfold ofP sg; simp [show ¬ d < 0 by omega]
      rw [e1, e2] at h3 hdv hg
      have e3 := Int.ediv_mul_cancel hdv
      rw [h3] at e3
      have e4 : gc (sz n) d = 1 := by
        have : d * gc (sz n) d = d * 1 := by rw [e3, Int.mul_one]
        exact Int.eq_of_mul_eq_mul_left (by omega) this
      refine ⟨hp, ?_⟩
      unfold gc sz at e4
      have : Nat.gcd ((n.natAbs : Int)).toNat d.toNat = 1 := by omega
      simpa using this
    · simp at h1

theorem may_intro {n d : Int} (h1 : -9223372036854775808 ≤ n) (h2 : n ≤ 9223372036854775807) (hd : 0 < d) (hd' : d ≤ 9223372036854775807) (hc : Nat.Coprime n.natAbs d.toNat) : mayB n d = true := by
  have e1 : sz d = d := sz_of_nonneg (by omega)
  have e2 : ofP n d = n := by unfold ofP sg; simp [show ¬ d < 0 by omega]
  have e3 : gc (sz n) d = 1 := by
    unfold gc sz
    have : Nat.gcd ((n.natAbs : Int)).toNat d.toNat = 1 := by simpa using hc
    omega
  obtain ⟨o1, o2, o3⟩ := out_yes h1 h2 hd'
  unfold mayB oE oN oD rE rN rD
  rw [e1, e2, e3]
  simp [show d ≠ 0 by omega, o1, o2, o3]

end Go.Proofs.YtedoahibceeklabGreatDoor
