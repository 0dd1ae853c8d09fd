/- The plain mathematics of sums and products of fractions in their least forms. No program in sight. -/
import Derived.Test.YtedoahibceeklabGreatDoorMath
namespace Go.Proofs.YtedoahibceeklabGreatDoor

theorem dvd_sg (d n : Int) (b : Bool) : d ∣ sg b n ↔ d ∣ n := by
  unfold sg; split
  · exact Int.dvd_neg
  · exact Iff.rfl

theorem gc_nat (a b : Nat) : gc (a : Int) (b : Int) = ((Nat.gcd a b : Nat) : Int) := by simp [gc]

theorem sz_nat (b : Bool) (n : Nat) : sz (sg b (n : Int)) = (n : Int) := by rw [sz_sg]; unfold sz; omega

/-- What is told of a fraction, told by any least form of it. -/
theorem r_of (b : Bool) (c p q : Nat) (P Q : Int) (hc : 0 < c) (hP : P = c * sg b p) (hQ : Q = c * q) (hco : Nat.Coprime p q) : rN P Q = outN (sg b p) q ∧ rD P Q = outD (sg b p) q ∧ rE P Q = outE (sg b p) q := by
  have e1 : P = sg b ((c * p : Nat) : Int) := by rw [hP]; unfold sg; split <;> simp [Int.mul_neg]
  have e2 : Q = ((c * q : Nat) : Int) := by rw [hQ]; simp
  have e3 : gc (sz P) Q = (c : Int) := by
    rw [e1, e2, sz_nat, gc_nat, Nat.gcd_mul_left, hco, Nat.mul_one]
  have hc' : (c : Int) ≠ 0 := by omega
  have e4 : P / (c : Int) = sg b p := by rw [hP]; exact Int.mul_ediv_cancel_left _ hc'
  have e5 : Q / (c : Int) = q := by rw [hQ]; exact Int.mul_ediv_cancel_left _ hc'
  unfold rN rD rE
  rw [e3, e4, e5]
  exact ⟨rfl, rfl, rfl⟩

theorem cop_T {T A B x : Nat} {a b c : Bool} (hT : sg c (T : Int) = sg a (A : Int) + sg b (B : Int)) (hB : x ∣ B) (hA : Nat.Coprime A x) : Nat.Coprime T x := by
  have h1 : Nat.gcd T x ∣ x := Nat.gcd_dvd_right T x
  have h2 : ((Nat.gcd T x : Nat) : Int) ∣ (T : Int) := Int.natCast_dvd_natCast.2 (Nat.gcd_dvd_left T x)
  have h3 : ((Nat.gcd T x : Nat) : Int) ∣ (B : Int) := Int.natCast_dvd_natCast.2 (Nat.dvd_trans h1 hB)
  rw [← dvd_sg _ _ c, hT] at h2
  rw [← dvd_sg _ _ b] at h3
  have h4 : ((Nat.gcd T x : Nat) : Int) ∣ sg a (A : Int) := (Int.dvd_iff_dvd_of_dvd_add h2).2 h3
  rw [dvd_sg] at h4
  have h5 : Nat.gcd T x ∣ A := Int.natCast_dvd_natCast.1 h4
  exact Nat.dvd_one.1 (hA ▸ Nat.dvd_gcd h5 h1)

theorem sum_cop {xn xd yn yd g x1 y1 T l g1 : Nat} {a b c : Bool} (hx : Nat.Coprime xn xd) (hy : Nat.Coprime yn yd) (hg : Nat.gcd xd yd = g) (hg0 : 0 < g) (ex : xd = g * x1) (ey : yd = g * y1)
    (hT : sg c (T : Int) = sg a ((xn * y1 : Nat) : Int) + sg b ((yn * x1 : Nat) : Int)) (hl : Nat.gcd T g = l) (hl0 : 0 < l) (eg : g = l * g1) : Nat.Coprime (T / l) (x1 * (y1 * g1)) := by
  have c1 : Nat.Coprime x1 y1 := by
    have : g * Nat.gcd x1 y1 = g * 1 := by rw [← Nat.gcd_mul_left, ← ex, ← ey, hg, Nat.mul_one]
    exact Nat.eq_of_mul_eq_mul_left hg0 this
  have d1 : x1 ∣ xd := ⟨g, by rw [ex, Nat.mul_comm]⟩
  have d2 : y1 ∣ yd := ⟨g, by rw [ey, Nat.mul_comm]⟩
  have c2 : Nat.Coprime xn x1 := Nat.Coprime.coprime_dvd_right d1 hx
  have c3 : Nat.Coprime yn y1 := Nat.Coprime.coprime_dvd_right d2 hy
  have t1 : Nat.Coprime T x1 := cop_T hT ⟨yn, Nat.mul_comm _ _⟩ (Nat.Coprime.mul_left c2 c1.symm)
  have t2 : Nat.Coprime T y1 := cop_T (a := b) (b := a) (by rw [hT, Int.add_comm]) ⟨xn, Nat.mul_comm _ _⟩ (Nat.Coprime.mul_left c3 c1)
  have dl : T / l ∣ T := Nat.div_dvd_of_dvd (hl ▸ Nat.gcd_dvd_left T g)
  have t3 : Nat.Coprime (T / l) g1 := by
    have h := Nat.coprime_div_gcd_div_gcd (m := T) (n := g) (by rw [hl]; exact hl0)
    rw [hl] at h
    have e : g / l = g1 := by rw [eg]; exact Nat.mul_div_cancel_left _ hl0
    rwa [e] at h
  exact Nat.Coprime.mul_right (Nat.Coprime.coprime_dvd_left dl t1) (Nat.Coprime.mul_right (Nat.Coprime.coprime_dvd_left dl t2) t3)

theorem prod_cop {xn xd yn yd f s : Nat} (hx : Nat.Coprime xn xd) (hy : Nat.Coprime yn yd) (hf : Nat.gcd xn yd = f) (hf0 : 0 < f) (hs : Nat.gcd yn xd = s) (hs0 : 0 < s) : Nat.Coprime (xn / f * (yn / s)) (xd / s * (yd / f)) := by
  have d1 : xn / f ∣ xn := Nat.div_dvd_of_dvd (hf ▸ Nat.gcd_dvd_left xn yd)
  have d2 : yd / f ∣ yd := Nat.div_dvd_of_dvd (hf ▸ Nat.gcd_dvd_right xn yd)
  have d3 : yn / s ∣ yn := Nat.div_dvd_of_dvd (hs ▸ Nat.gcd_dvd_left yn xd)
  have d4 : xd / s ∣ xd := Nat.div_dvd_of_dvd (hs ▸ Nat.gcd_dvd_right yn xd)
  have c1 : Nat.Coprime (xn / f) (yd / f) := by have h := Nat.coprime_div_gcd_div_gcd (m := xn) (n := yd) (by rw [hf]; exact hf0); rwa [hf] at h
  have c2 : Nat.Coprime (yn / s) (xd / s) := by have h := Nat.coprime_div_gcd_div_gcd (m := yn) (n := xd) (by rw [hs]; exact hs0); rwa [hs] at h
  have c3 : Nat.Coprime (xn / f) (xd / s) := Nat.Coprime.coprime_dvd_left d1 (Nat.Coprime.coprime_dvd_right d4 hx)
  have c4 : Nat.Coprime (yn / s) (yd / f) := Nat.Coprime.coprime_dvd_left d3 (Nat.Coprime.coprime_dvd_right d2 hy)
  exact Nat.Coprime.mul_left (Nat.Coprime.mul_right c3 c1) (Nat.Coprime.mul_right c2 c4)

theorem gc_emod (T g : Nat) : gc ((T : Int) % (g : Int)) (g : Int) = ((Nat.gcd T g : Nat) : Int) := by
  rw [← Int.natCast_emod, gc_nat, Nat.gcd_comm T g, Nat.gcd_rec g T]

/-- What sum tells is the least form of the sum. -/
theorem sum_r (xb yb bb : Bool) (xn xd yn yd : Nat) (T : Int) (hxd : 0 < xd) (_hyd : 0 < yd) (hx : Nat.Coprime xn xd) (hy : Nat.Coprime yn yd) (hT0 : 0 ≤ T)
    (hT : sg bb T = sg xb ((xn : Int) * ((yd : Int) / gc xd yd)) + sg yb ((yn : Int) * ((xd : Int) / gc xd yd))) :
    outN (sg bb (T / gc (T % gc xd yd) (gc xd yd))) ((xd : Int) / gc xd yd * ((yd : Int) / gc (T % gc xd yd) (gc xd yd))) = rN (sg xb xn * yd + sg yb yn * xd) (xd * yd) ∧
    outD (sg bb (T / gc (T % gc xd yd) (gc xd yd))) ((xd : Int) / gc xd yd * ((yd : Int) / gc (T % gc xd yd) (gc xd yd))) = rD (sg xb xn * yd + sg yb yn * xd) (xd * yd) ∧
    outE (sg bb (T / gc (T % gc xd yd) (gc xd yd))) ((xd : Int) / gc xd yd * ((yd : Int) / gc (T % gc xd yd) (gc xd yd))) = rE (sg xb xn * yd + sg yb yn * xd) (xd * yd) := by
  obtain ⟨T, rfl⟩ := Int.eq_ofNat_of_zero_le hT0
  rw [gc_nat] at hT ⊢
  rw [gc_emod]
  have hg0 : 0 < Nat.gcd xd yd := Nat.gcd_pos_of_pos_left _ hxd
  obtain ⟨x1, ex⟩ := Nat.gcd_dvd_left xd yd
  obtain ⟨y1, ey⟩ := Nat.gcd_dvd_right xd yd
  generalize hg : Nat.gcd xd yd = g at *
  have hl0 : 0 < Nat.gcd T g := Nat.gcd_pos_of_pos_right _ hg0
  obtain ⟨g1, eg⟩ := Nat.gcd_dvd_right T g
  obtain ⟨n, en⟩ := Nat.gcd_dvd_left T g
  generalize hl : Nat.gcd T g = l at *
  have f1 : (yd : Int) / (g : Int) = y1 := by rw [ey]; simp; exact Int.mul_ediv_cancel_left _ (by omega)
  have f2 : (xd : Int) / (g : Int) = x1 := by rw [ex]; simp; exact Int.mul_ediv_cancel_left _ (by omega)
  have f3 : (T : Int) / (l : Int) = n := by rw [en]; simp; exact Int.mul_ediv_cancel_left _ (by omega)
  have f3' : T / l = n := by rw [en]; exact Nat.mul_div_cancel_left _ hl0
  have f4 : (yd : Int) / (l : Int) = ((y1 * g1 : Nat) : Int) := by
    have : yd = l * (y1 * g1) := by rw [ey, eg]; grind
    rw [this]; simp; exact Int.mul_ediv_cancel_left _ (by omega)
  rw [f1, f2] at hT
  rw [f2, f3, f4]
  have hco := sum_cop hx hy hg hg0 ex ey (by simpa using hT) hl hl0 eg
  rw [f3'] at hco
  have key := r_of bb (g * l) n (x1 * (y1 * g1)) (sg xb xn * yd + sg yb yn * xd) (xd * yd) (Nat.mul_pos hg0 hl0) ?_ ?_ hco
  · obtain ⟨k1, k2, k3⟩ := key
    have e : (x1 : Int) * ((y1 * g1 : Nat) : Int) = ((x1 * (y1 * g1) : Nat) : Int) := by simp
    rw [e, k1, k2, k3]
    exact ⟨rfl, rfl, rfl⟩
  · have e1 : sg bb (T : Int) = l * sg bb n := by rw [en]; unfold sg; split <;> simp [Int.mul_neg]
    have e2 : ((g * l : Nat) : Int) * sg bb n = g * sg bb T := by rw [e1]; simp [Int.mul_assoc]
    rw [e2, hT]
    have e3 : (yd : Int) = g * y1 := by rw [ey]; simp
    have e4 : (xd : Int) = g * x1 := by rw [ex]; simp
    rw [e3, e4]
    unfold sg
    split <;> split <;> grind
  · have : xd * yd = g * l * (x1 * (y1 * g1)) := by subst ex; subst ey; subst eg; grind
    rw [← Int.natCast_mul, this]; simp

theorem prod_r (bb xb yb : Bool) (xn xd yn yd : Nat) (hxd : 0 < xd) (hyd : 0 < yd) (hx : Nat.Coprime xn xd) (hy : Nat.Coprime yn yd) (hb : sg bb ((xn * yn : Nat) : Int) = sg xb xn * sg yb yn) :
    outN (sg bb ((xn : Int) / gc xn yd * ((yn : Int) / gc yn xd))) ((xd : Int) / gc yn xd * ((yd : Int) / gc xn yd)) = rN (sg xb xn * sg yb yn) (xd * yd) ∧
    outD (sg bb ((xn : Int) / gc xn yd * ((yn : Int) / gc yn xd))) ((xd : Int) / gc yn xd * ((yd : Int) / gc xn yd)) = rD (sg xb xn * sg yb yn) (xd * yd) ∧
    outE (sg bb ((xn : Int) / gc xn yd * ((yn : Int) / gc yn xd))) ((xd : Int) / gc yn xd * ((yd : Int) / gc xn yd)) = rE (sg xb xn * sg yb yn) (xd * yd) := by
  rw [gc_nat, gc_nat, ← Int.natCast_ediv, ← Int.natCast_ediv, ← Int.natCast_ediv, ← Int.natCast_ediv, ← Int.natCast_mul, ← Int.natCast_mul]
  have hf0 : 0 < Nat.gcd xn yd := Nat.gcd_pos_of_pos_right _ hyd
  have hs0 : 0 < Nat.gcd yn xd := Nat.gcd_pos_of_pos_right _ hxd
  have e1 := Nat.div_mul_cancel (Nat.gcd_dvd_left xn yd)
  have e2 := Nat.div_mul_cancel (Nat.gcd_dvd_right xn yd)
  have e3 := Nat.div_mul_cancel (Nat.gcd_dvd_left yn xd)
  have e4 := Nat.div_mul_cancel (Nat.gcd_dvd_right yn xd)
  have hco := prod_cop hx hy rfl hf0 rfl hs0
  generalize Nat.gcd xn yd = f at *
  generalize Nat.gcd yn xd = s at *
  have key := r_of bb (f * s) _ _ (sg xb xn * sg yb yn) (xd * yd) (Nat.mul_pos hf0 hs0) ?_ ?_ hco
  · obtain ⟨k1, k2, k3⟩ := key
    rw [k1, k2, k3]
    exact ⟨rfl, rfl, rfl⟩
  · rw [← hb]
    have : xn * yn = f * s * (xn / f * (yn / s)) := by
      generalize xn / f = a at *; generalize yn / s = b at *; subst e1; subst e3; grind
    rw [this]; unfold sg; split <;> simp [Int.mul_neg]
  · have : xd * yd = f * s * (xd / s * (yd / f)) := by
      generalize xd / s = a at *; generalize yd / f = b at *; subst e2; subst e4; grind
    rw [← Int.natCast_mul, this]; simp

end Go.Proofs.YtedoahibceeklabGreatDoor
