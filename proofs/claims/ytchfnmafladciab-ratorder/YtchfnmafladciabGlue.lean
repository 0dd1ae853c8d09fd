/- What follows of fractions in their least forms: there and back, order. No program in sight but for the names of what is told. -/
import Derived.Test.YtchfnmafladciabPub
namespace Go.Proofs.Ytchfnmafladciab
open Go.RowKit

def Rng (x : Int) : Prop := -9223372036854775808 ≤ x ∧ x ≤ 9223372036854775807

theorem r_val {p q : Int} (hq : 0 < q) (h : rE p q = 0) : rN p q * q = p * rD p q ∧ mayB (rN p q) (rD p q) = true ∧ Rng (rN p q) ∧ Rng (rD p q) := by
  have hg := gc_pos (sz p) q hq
  have d1 := gc_dvd_left (sz p) q (sz_nonneg p)
  have d2 := gc_dvd_right (sz p) q (by omega)
  have d3 : gc (sz p) q ∣ p := by unfold sz at d1 ⊢; exact Int.dvd_natAbs.1 d1
  unfold rE outE at h
  split at h
  · rename_i hok
    have e1 : rN p q = p / gc (sz p) q := by unfold rN outN; rw [if_pos hok]
    have e2 : rD p q = q / gc (sz p) q := by unfold rD outD; rw [if_pos hok]
    rw [e1, e2]
    unfold okF at hok
    have hr : -9223372036854775808 ≤ p / gc (sz p) q ∧ p / gc (sz p) q ≤ 9223372036854775807 ∧ q / gc (sz p) q ≤ 9223372036854775807 := by simpa using hok
    have hcop : Nat.Coprime (p / gc (sz p) q).natAbs (q / gc (sz p) q).toNat := by
      have hgn : gc (sz p) q = ((Nat.gcd p.natAbs q.toNat : Nat) : Int) := by unfold gc sz; simp
      have hgp : 0 < Nat.gcd p.natAbs q.toNat := by omega
      have hc := Nat.coprime_div_gcd_div_gcd hgp
      have f1 : (p / gc (sz p) q).natAbs = p.natAbs / Nat.gcd p.natAbs q.toNat := by
        rw [Int.natAbs_ediv_of_dvd d3, hgn]; simp
      have f2 : (q / gc (sz p) q).toNat = q.toNat / Nat.gcd p.natAbs q.toNat := by
        rw [hgn]
        obtain ⟨m, rfl⟩ := Int.eq_ofNat_of_zero_le (Int.le_of_lt hq)
        simp only [Int.toNat_natCast, ← Int.natCast_ediv]
      rw [f1, f2]; exact hc
    obtain ⟨p', hp'⟩ := d3
    obtain ⟨q', hq'⟩ := d2
    have i1 : p / gc (sz p) q = p' := by
      have : gc (sz p) q * p' / gc (sz p) q = p' := Int.mul_ediv_cancel_left _ (by omega)
      rw [← hp'] at this; exact this
    have i2 : q / gc (sz p) q = q' := by
      have : gc (sz p) q * q' / gc (sz p) q = q' := Int.mul_ediv_cancel_left _ (by omega)
      rw [← hq'] at this; exact this
    rw [i1, i2] at hr hcop ⊢
    have hq0 : 0 < q' := by
      apply Int.lt_of_not_ge; intro hneg
      have : gc (sz p) q * q' ≤ 0 := Int.mul_nonpos_of_nonneg_of_nonpos (by omega) hneg
      omega
    refine ⟨?_, may_intro hr.1 hr.2.1 hq0 hr.2.2 hcop, ⟨hr.1, hr.2.1⟩, ⟨by omega, hr.2.2⟩⟩
    have a1 : p' * q = p' * (gc (sz p) q * q') := congrArg (p' * ·) hq'
    have a2 : p * q' = gc (sz p) q * p' * q' := congrArg (· * q') hp'
    rw [a1, a2]
    grind
  · simp at h

theorem r_eq {p q a b : Int} (hq : 0 < q) (ha : Rng a) (hb : Rng b) (hm : mayB a b = true) (h : p * b = a * q) : rN p q = a ∧ rD p q = b ∧ rE p q = 0 := by
  obtain ⟨hb0, hc⟩ := may_of hm
  have hn : p.natAbs * b.toNat = a.natAbs * q.toNat := by
    have := congrArg Int.natAbs h
    rw [Int.natAbs_mul, Int.natAbs_mul] at this
    rwa [show b.natAbs = b.toNat by omega, show q.natAbs = q.toNat by omega] at this
  have hd : b.toNat ∣ q.toNat := Nat.Coprime.dvd_of_dvd_mul_left hc.symm ⟨p.natAbs, by rw [← hn, Nat.mul_comm]⟩
  obtain ⟨k, hk⟩ := hd
  have hq1 : q = (k : Int) * (b.toNat : Nat) := by
    have : (q.toNat : Int) = ((b.toNat * k : Nat) : Int) := by rw [hk]
    rw [Int.natCast_mul, Int.mul_comm] at this
    omega
  have hb1 : ((b.toNat : Nat) : Int) = b := by omega
  have hsa : sg (decide (a < 0)) (a.natAbs : Int) = a := by have := sg_sz a false; simpa [sg, sz] using this
  have hk0 : 0 < k := by
    rcases Nat.eq_zero_or_pos k with h0 | h0
    · subst h0; simp at hq1; omega
    · exact h0
  have hp1 : p = (k : Int) * sg (decide (a < 0)) (a.natAbs : Int) := by
    rw [hsa]
    have : p * b = (k : Int) * a * b := by rw [h, hq1, hb1]; grind
    exact Int.eq_of_mul_eq_mul_right (by omega) this
  obtain ⟨k1, k2, k3⟩ := r_of (decide (a < 0)) k a.natAbs b.toNat p q hk0 hp1 hq1 hc
  rw [hsa, hb1] at k1 k2 k3
  obtain ⟨o1, o2, o3⟩ := out_yes ha.1 ha.2 hb.2
  rw [k1, k2, k3]
  exact ⟨o1, o2, o3⟩

theorem o_val {n d : Int} (h : oE n d = 0) : mayB (oN n d) (oD n d) = true ∧ Rng (oN n d) ∧ Rng (oD n d) := by
  unfold oE at h
  by_cases hd : d = 0
  · simp [hd] at h
  · rw [if_neg hd] at h
    have := r_val (by unfold sz; omega) h
    unfold oN oD
    rw [if_neg hd, if_neg hd]
    exact this.2

theorem t_comm (a b c d : Int) : both c d a b = both a b c d := by unfold both; exact Bool.and_comm _ _
theorem add_comm_t (a b c d : Int) : tN c d a b (c * b + a * d) (d * b) = tN a b c d (a * d + c * b) (b * d) ∧ tD c d a b (c * b + a * d) (d * b) = tD a b c d (a * d + c * b) (b * d) ∧ tE c d a b (c * b + a * d) (d * b) = tE a b c d (a * d + c * b) (b * d) := by
  unfold tN tD tE
  rw [t_comm, Int.add_comm (c * b), Int.mul_comm d b]
  exact ⟨rfl, rfl, rfl⟩
theorem mul_comm_t (a b c d : Int) : tN c d a b (c * a) (d * b) = tN a b c d (a * c) (b * d) ∧ tD c d a b (c * a) (d * b) = tD a b c d (a * c) (b * d) ∧ tE c d a b (c * a) (d * b) = tE a b c d (a * c) (b * d) := by
  unfold tN tD tE
  rw [t_comm, Int.mul_comm c a, Int.mul_comm d b]
  exact ⟨rfl, rfl, rfl⟩

/-- Added and taken away again. -/
theorem back_sum {a b c d : Int} (ha : Rng a) (hb : Rng b) (h1 : mayB a b = true) (h2 : mayB c d = true) (h : rE (a * d + c * b) (b * d) = 0) :
    rN (rN (a * d + c * b) (b * d) * d - c * rD (a * d + c * b) (b * d)) (rD (a * d + c * b) (b * d) * d) = a ∧ rD (rN (a * d + c * b) (b * d) * d - c * rD (a * d + c * b) (b * d)) (rD (a * d + c * b) (b * d) * d) = b ∧ rE (rN (a * d + c * b) (b * d) * d - c * rD (a * d + c * b) (b * d)) (rD (a * d + c * b) (b * d) * d) = 0 := by
  obtain ⟨p1, _⟩ := may_of h1
  obtain ⟨p2, _⟩ := may_of h2
  obtain ⟨v, m, _, _⟩ := r_val (Int.mul_pos p1 p2) h
  obtain ⟨p3, _⟩ := may_of m
  generalize rN (a * d + c * b) (b * d) = N at *
  generalize rD (a * d + c * b) (b * d) = D at *
  refine r_eq (Int.mul_pos p3 p2) ha hb h1 ?_
  have : N * (b * d) = (a * d + c * b) * D := v
  grind

/-- Multiplied and divided again. -/
theorem back_prod {a b c d : Int} (ha : Rng a) (hb : Rng b) (h1 : mayB a b = true) (h2 : mayB c d = true) (hc : c ≠ 0) (h : rE (a * c) (b * d) = 0) :
    rN (rN (a * c) (b * d) * sg (decide (c < 0)) d) (rD (a * c) (b * d) * sz c) = a ∧ rD (rN (a * c) (b * d) * sg (decide (c < 0)) d) (rD (a * c) (b * d) * sz c) = b ∧ rE (rN (a * c) (b * d) * sg (decide (c < 0)) d) (rD (a * c) (b * d) * sz c) = 0 := by
  obtain ⟨p1, _⟩ := may_of h1
  obtain ⟨p2, _⟩ := may_of h2
  obtain ⟨v, m, _, _⟩ := r_val (Int.mul_pos p1 p2) h
  obtain ⟨p3, _⟩ := may_of m
  generalize rN (a * c) (b * d) = N at *
  generalize rD (a * c) (b * d) = D at *
  have hs : 0 < sz c := by unfold sz; omega
  refine r_eq (Int.mul_pos p3 hs) ha hb h1 ?_
  have : N * (b * d) = (a * c) * D := v
  by_cases hn : c < 0
  · rw [sz_of_neg hn]; unfold sg; simp [hn]; grind
  · rw [sz_of_nonneg (by omega)]; unfold sg; simp [hn]; grind

end Go.Proofs.Ytchfnmafladciab
