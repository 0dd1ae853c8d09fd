/- What the inner functions of rat do: signedSum, sum, product, less. -/
import Derived.Test.YtedoahibceeklabGreatDoorDiv
namespace Go.Proofs.YtedoahibceeklabGreatDoor
open Go.RowKit Go.Shelf

/-- What a caller with k blocks of its own knows behind a callee that only makes new memory. -/
theorem bf2 {w W w1 : World} (h0 : Below w.heap.size w W) (hn : w.heap.size + 2 ≤ W.heap.size) (hb : Below W.heap.size W w1) :
    (∀ b o, b < W.heap.size → w1.cell? ⟨b, o, none⟩ = W.cell? ⟨b, o, none⟩) ∧ (∀ b o, b < W.heap.size → w1.frozen? ⟨b, o, none⟩ = W.frozen? ⟨b, o, none⟩) ∧ Below w.heap.size w w1 ∧ w.heap.size < w1.heap.size ∧ w.heap.size + 1 < w1.heap.size :=
  ⟨fun b o h => hb.cell (p := ⟨b, o, none⟩) h, fun b o h => hb.frozen (p := ⟨b, o, none⟩) h, h0.trans (hb.mono h0.size), by have := hb.size; omega, by have := hb.size; omega⟩
theorem bf3 {w W w1 : World} (h0 : Below w.heap.size w W) (hn : w.heap.size + 3 ≤ W.heap.size) (hb : Below W.heap.size W w1) :
    (∀ b o, b < W.heap.size → w1.cell? ⟨b, o, none⟩ = W.cell? ⟨b, o, none⟩) ∧ (∀ b o, b < W.heap.size → w1.frozen? ⟨b, o, none⟩ = W.frozen? ⟨b, o, none⟩) ∧ Below w.heap.size w w1 ∧ w.heap.size < w1.heap.size ∧ w.heap.size + 1 < w1.heap.size ∧ w.heap.size + 2 < w1.heap.size :=
  ⟨fun b o h => hb.cell (p := ⟨b, o, none⟩) h, fun b o h => hb.frozen (p := ⟨b, o, none⟩) h, h0.trans (hb.mono h0.size), by have := hb.size; omega, by have := hb.size; omega, by have := hb.size; omega⟩

theorem kn_over {T l : Int} (hl : 0 < l) (h : l ≤ hi T) : 18446744073709551616 ≤ T / l := by
  rw [Int.le_ediv_iff_mul_le hl]; unfold hi at h; omega
theorem kn_fits {T l : Int} (hl : 0 < l) (h : hi T < l) : T / l < 18446744073709551616 := by
  rw [Int.ediv_lt_iff_lt_mul hl]; unfold hi at h; omega

theorem bg {n : Nat} {W0 W w1 : World} (h0 : Below n W0 W) (hn : n ≤ W.heap.size) (hb : Below W.heap.size W w1) :
    (∀ b o, b < W.heap.size → w1.cell? ⟨b, o, none⟩ = W.cell? ⟨b, o, none⟩) ∧ (∀ b o, b < W.heap.size → w1.frozen? ⟨b, o, none⟩ = W.frozen? ⟨b, o, none⟩) ∧ (∀ i, i < W.heap.size → i < w1.heap.size) ∧ Below n W0 w1 ∧ n ≤ w1.heap.size ∧ (∀ i, i < n → i < w1.heap.size) :=
  ⟨fun b o h => hb.cell (p := ⟨b, o, none⟩) h, fun b o h => hb.frozen (p := ⟨b, o, none⟩) h, fun _ h => Nat.lt_of_lt_of_le h hb.size, h0.trans (hb.mono hn), Nat.le_trans hn hb.size, fun _ h => Nat.lt_of_lt_of_le h (Nat.le_trans hn hb.size)⟩
theorem bcl {n : Nat} {W0 wx : World} (h : Below n W0 wx) {a : Addr} {v : Value} (hv : W0.cell? a = some v) (ha : a.block < n) : wx.cell? a = some v := (h.cell ha).trans hv
theorem bfr {n : Nat} {W0 wx : World} (h : Below n W0 wx) {a : Addr} (hv : W0.frozen? a = false) (ha : a.block < n) : wx.frozen? a = false := (h.frozen ha).trans hv

/-- The sum of two numbers by signs and sizes. -/
def ssB (a : Bool) (x : Int) (b : Bool) (y : Int) : Bool := if a = b then a else if x < y then b else a
def ssT (a : Bool) (x : Int) (b : Bool) (y : Int) : Int := if a = b then x + y else if x < y then y - x else x - y
theorem ss_sum (a : Bool) (x : Int) (b : Bool) (y : Int) : sg (ssB a x b y) (ssT a x b y) = sg a x + sg b y := by
  unfold ssB ssT sg
  cases a <;> cases b <;> simp <;> (try split) <;> (try simp) <;> omega
theorem ss_bd (a : Bool) (x : Int) (b : Bool) (y : Int) (hx : 0 ≤ x) (hy : 0 ≤ y) : 0 ≤ ssT a x b y ∧ ssT a x b y ≤ x + y := by
  unfold ssT; split
  · omega
  · split <;> omega

theorem ret_ss {b b' : Bool} {t t' : Int} (h1 : b = b') (h2 : t = t') : Ending.returned (.tuple #[.bool b, .agg #[.int .u64 (hi t), .int .u64 (lo t)]]) = Ending.returned (.tuple #[.bool b', .agg #[.int .u64 (hi t'), .int .u64 (lo t')]]) := by rw [h1, h2]

set_option maxHeartbeats 1000000 in
theorem signedSum_any (a b : Bool) (x y : Int) (w : World) (hx : 0 ≤ x) (hy : 0 ≤ y) (hxy : x + y < 340282366920938463463374607431768211456) :
    Calls Tryz.prog 90 #[.bool a, .agg #[.int .u64 (hi x), .int .u64 (lo x)], .bool b, .agg #[.int .u64 (hi y), .int .u64 (lo y)]] w fun e w' =>
      e = .returned (.tuple #[.bool (ssB a x b y), .agg #[.int .u64 (hi (ssT a x b y)), .int .u64 (lo (ssT a x b y))]]) ∧ Below w.heap.size w w' := by
  by_cases hab : a = b
  · subst hab
    have HB : Hid (ssB a x a y = a) := by simp [Hid, ssB]
    have HT : Hid (ssT a x a y = x + y) := by simp [Hid, ssT]
    go_enter Tryz.func90, Tryz.ntmps90
    go_wp2_with (first
      | (go_at_call 114; refine (plus_any x y _ hx hy hxy).mono ?_; rintro e w1 ⟨rfl, hb⟩; obtain ⟨hc, hf, hB, z0, z1, z2⟩ := bf3 (w := w) (by go_grown) (by go_size) hb))
    refine bodyPost_ret (by simp [results, Tryz.results90, go_sem, hc]; try rfl) rfl ?_
    exact ⟨ret_ss HB.out.symm HT.out.symm, by go_grown⟩
  · have hne : (a == b) = false := by simpa using hab
    by_cases hlt : x < y
    · have hd : decide (x < y) = true := by simpa using hlt
      have HB : Hid (ssB a x b y = b) := by simp [Hid, ssB, hab, hlt]
      have HT : Hid (ssT a x b y = y - x) := by simp [Hid, ssT, hab, hlt]
      go_enter Tryz.func90, Tryz.ntmps90
      go_wp2_with (first
        | (go_at_call 94; refine (lower_any x y _).mono ?_; rintro e w1 ⟨rfl, hb⟩; obtain ⟨hc, hf, hB, z0, z1, z2⟩ := bf3 (w := w) (by go_grown) (by go_size) hb)
        | (go_at_call 115; refine (minus_any y x _ hx (by omega) (by omega)).mono ?_; rintro e w2 ⟨rfl, hb2⟩; obtain ⟨hc2, hf2, hB2, z3, z4, z5⟩ := bf3 (w := w) (by go_grown) (by go_size) hb2))
      refine bodyPost_ret (by simp [results, Tryz.results90, go_sem, hc, hc2, z2]; try rfl) rfl ?_
      exact ⟨ret_ss HB.out.symm HT.out.symm, by go_grown⟩
    · have hd : decide (x < y) = false := by simpa using hlt
      have HB : Hid (ssB a x b y = a) := by simp [Hid, ssB, hlt]
      have HT : Hid (ssT a x b y = x - y) := by simp [Hid, ssT, hab, hlt]
      go_enter Tryz.func90, Tryz.ntmps90
      go_wp2_with (first
        | (go_at_call 94; refine (lower_any x y _).mono ?_; rintro e w1 ⟨rfl, hb⟩; obtain ⟨hc, hf, hB, z0, z1, z2⟩ := bf3 (w := w) (by go_grown) (by go_size) hb)
        | (go_at_call 115; refine (minus_any x y _ hy (by omega) (by omega)).mono ?_; rintro e w2 ⟨rfl, hb2⟩; obtain ⟨hc2, hf2, hB2, z3, z4, z5⟩ := bf3 (w := w) (by go_grown) (by go_size) hb2))
      refine bodyPost_ret (by simp [results, Tryz.results90, go_sem, hc, hc2, z2]; try rfl) rfl ?_
      exact ⟨ret_ss HB.out.symm HT.out.symm, by go_grown⟩

end Go.Proofs.YtedoahibceeklabGreatDoor
