/- The document's product of two numbers of 64 bits. -/
import Derived.Test.YteipohpfaofchabGreatZ01
import Derived.Lib.AppendIntMem
import Derived.Lib.ItoaLen
import Derived.LoopN
import Derived.Lib.ConvBytes
import Derived.Lib.AtoiErrMem
import Derived.Deep.DeepCutAuto
import Derived.Laws.EntriesVeiled
import Derived.Handy
import Derived.ChangeKeysEq
import Derived.Deep.Cut

namespace Go.Proofs.YteipohpfaofchabGreat
open Go.RowKit

theorem wp_world {P : Program} {c : Code} {Q : Exit → Act → World → Prop} {a : Act} {w : World} (h : ∀ W, W = w → c.wp P Q a W) : c.wp P Q a w := h w rfl

/-- With k bits of a still to come: what is left, how often b goes in, and which bits of that are still 0. -/
structure Inv (a b : Int) (k : Nat) (t0 t1 t2 t3 R : Int) : Prop where
  rest : R = a / 2 ^ k % b
  times : t0 + t1 * 4294967296 + t2 * 18446744073709551616 + t3 * 79228162514264337593543950336 = a / 2 ^ k / b * 2 ^ k
  d0 : t0 % 2 ^ min k 32 = 0
  d1 : t1 % 2 ^ min (k - 32) 32 = 0
  d2 : t2 % 2 ^ min (k - 64) 32 = 0
  d3 : t3 % 2 ^ min (k - 96) 32 = 0

theorem inv_step0 (a b t0 t1 t2 t3 R : Int) (s : Nat) (hs : s < 32) (hb : 0 < b) (h0 : 0 ≤ t0) (h1 : t0 < 4294967296) (h : Inv a b (0 + s + 1) t0 t1 t2 t3 R) :
    (b ≤ 2 * R + g0 a / 2 ^ s % 2 → t0 + 2 ^ s < 4294967296 ∧ Inv a b (0 + s) (t0 + 2 ^ s) t1 t2 t3 (2 * R + g0 a / 2 ^ s % 2 - b)) ∧ (2 * R + g0 a / 2 ^ s % 2 < b → Inv a b (0 + s) t0 t1 t2 t3 (2 * R + g0 a / 2 ^ s % 2)) := by
  obtain ⟨hr, ht, q0, q1, q2, q3⟩ := h
  have hbit : a / 2 ^ (0 + s) % 2 = g0 a / 2 ^ s % 2 := by
    unfold g0
    rw [show 0 + s = s by omega]; exact bit_of a s hs
  have hx := half_step a (0 + s)
  rw [hbit] at hx
  have hb0 : 0 ≤ g0 a / 2 ^ s % 2 := by omega
  have hb1 : g0 a / 2 ^ s % 2 ≤ 1 := by omega
  have hp : (2 : Int) ^ (0 + s + 1) = 2 ^ (0 + s) * 2 := pow_succ_i _
  have hp2 : (2 : Int) ^ (0 + s) = 1 * 2 ^ s := by rw [Int.pow_add]; rfl
  have qe : min (0 + s + 1) 32 = s + 1 := by omega
  have qj := q0
  rw [qe] at qj
  obtain ⟨r1, r2, r3⟩ := dig_room t0 s hs h0 h1 qj
  obtain ⟨s1, s2⟩ := bit_step hb hx hb0 hb1
  rw [← hr] at s1 s2
  generalize g0 a / 2 ^ s % 2 = bit at *
  constructor
  · intro hc
    obtain ⟨u1, u2⟩ := s1 hc
    refine ⟨r1, ⟨u1.symm, ?_, (by rw [show min ((0 + s)) 32 = s by omega]; exact r2), (by rw [show min ((0 + s) - 32) 32 = 0 by omega]; simp), (by rw [show min ((0 + s) - 64) 32 = 0 by omega]; simp), (by rw [show min ((0 + s) - 96) 32 = 0 by omega]; simp)⟩⟩
    rw [u2]
    have : (2 * (a / 2 ^ (0 + s + 1) / b) + 1) * 2 ^ (0 + s) = a / 2 ^ (0 + s + 1) / b * 2 ^ (0 + s + 1) + 2 ^ (0 + s) := by rw [hp]; grind
    rw [this, ← ht, hp2]
    generalize (2 : Int) ^ s = p at *
    grind
  · intro hc
    obtain ⟨u1, u2⟩ := s2 hc
    refine ⟨u1.symm, ?_, (by rw [show min ((0 + s)) 32 = s by omega]; exact r3), (by rw [show min ((0 + s) - 32) 32 = 0 by omega]; simp), (by rw [show min ((0 + s) - 64) 32 = 0 by omega]; simp), (by rw [show min ((0 + s) - 96) 32 = 0 by omega]; simp)⟩
    rw [u2]
    have : 2 * (a / 2 ^ (0 + s + 1) / b) * 2 ^ (0 + s) = a / 2 ^ (0 + s + 1) / b * 2 ^ (0 + s + 1) := by rw [hp]; grind
    rw [this, ht]

theorem inv_step1 (a b t0 t1 t2 t3 R : Int) (s : Nat) (hs : s < 32) (hb : 0 < b) (h0 : 0 ≤ t1) (h1 : t1 < 4294967296) (h : Inv a b (32 + s + 1) t0 t1 t2 t3 R) :
    (b ≤ 2 * R + g1 a / 2 ^ s % 2 → t1 + 2 ^ s < 4294967296 ∧ Inv a b (32 + s) t0 (t1 + 2 ^ s) t2 t3 (2 * R + g1 a / 2 ^ s % 2 - b)) ∧ (2 * R + g1 a / 2 ^ s % 2 < b → Inv a b (32 + s) t0 t1 t2 t3 (2 * R + g1 a / 2 ^ s % 2)) := by
  obtain ⟨hr, ht, q0, q1, q2, q3⟩ := h
  have hbit : a / 2 ^ (32 + s) % 2 = g1 a / 2 ^ s % 2 := by
    unfold g1
    have e : a / 2 ^ (32 + s) = a / 4294967296 / 2 ^ s := by
      rw [Int.pow_add, ← Int.ediv_ediv_of_nonneg (by decide)]; rfl
    rw [e]; exact bit_of _ s hs
  have hx := half_step a (32 + s)
  rw [hbit] at hx
  have hb0 : 0 ≤ g1 a / 2 ^ s % 2 := by omega
  have hb1 : g1 a / 2 ^ s % 2 ≤ 1 := by omega
  have hp : (2 : Int) ^ (32 + s + 1) = 2 ^ (32 + s) * 2 := pow_succ_i _
  have hp2 : (2 : Int) ^ (32 + s) = 4294967296 * 2 ^ s := by rw [Int.pow_add]; rfl
  have qe : min ((32 + s + 1) - 32) 32 = s + 1 := by omega
  have qj := q1
  rw [qe] at qj
  obtain ⟨r1, r2, r3⟩ := dig_room t1 s hs h0 h1 qj
  obtain ⟨s1, s2⟩ := bit_step hb hx hb0 hb1
  rw [← hr] at s1 s2
  generalize g1 a / 2 ^ s % 2 = bit at *
  constructor
  · intro hc
    obtain ⟨u1, u2⟩ := s1 hc
    refine ⟨r1, ⟨u1.symm, ?_, (by rw [show min ((32 + s)) 32 = min ((32 + s + 1)) 32 by omega]; exact q0), (by rw [show min ((32 + s) - 32) 32 = s by omega]; exact r2), (by rw [show min ((32 + s) - 64) 32 = 0 by omega]; simp), (by rw [show min ((32 + s) - 96) 32 = 0 by omega]; simp)⟩⟩
    rw [u2]
    have : (2 * (a / 2 ^ (32 + s + 1) / b) + 1) * 2 ^ (32 + s) = a / 2 ^ (32 + s + 1) / b * 2 ^ (32 + s + 1) + 2 ^ (32 + s) := by rw [hp]; grind
    rw [this, ← ht, hp2]
    generalize (2 : Int) ^ s = p at *
    grind
  · intro hc
    obtain ⟨u1, u2⟩ := s2 hc
    refine ⟨u1.symm, ?_, (by rw [show min ((32 + s)) 32 = min ((32 + s + 1)) 32 by omega]; exact q0), (by rw [show min ((32 + s) - 32) 32 = s by omega]; exact r3), (by rw [show min ((32 + s) - 64) 32 = 0 by omega]; simp), (by rw [show min ((32 + s) - 96) 32 = 0 by omega]; simp)⟩
    rw [u2]
    have : 2 * (a / 2 ^ (32 + s + 1) / b) * 2 ^ (32 + s) = a / 2 ^ (32 + s + 1) / b * 2 ^ (32 + s + 1) := by rw [hp]; grind
    rw [this, ht]

theorem inv_step2 (a b t0 t1 t2 t3 R : Int) (s : Nat) (hs : s < 32) (hb : 0 < b) (h0 : 0 ≤ t2) (h1 : t2 < 4294967296) (h : Inv a b (64 + s + 1) t0 t1 t2 t3 R) :
    (b ≤ 2 * R + g2 a / 2 ^ s % 2 → t2 + 2 ^ s < 4294967296 ∧ Inv a b (64 + s) t0 t1 (t2 + 2 ^ s) t3 (2 * R + g2 a / 2 ^ s % 2 - b)) ∧ (2 * R + g2 a / 2 ^ s % 2 < b → Inv a b (64 + s) t0 t1 t2 t3 (2 * R + g2 a / 2 ^ s % 2)) := by
  obtain ⟨hr, ht, q0, q1, q2, q3⟩ := h
  have hbit : a / 2 ^ (64 + s) % 2 = g2 a / 2 ^ s % 2 := by
    unfold g2
    have e : a / 2 ^ (64 + s) = a / 18446744073709551616 / 2 ^ s := by
      rw [Int.pow_add, ← Int.ediv_ediv_of_nonneg (by decide)]; rfl
    rw [e]; exact bit_of _ s hs
  have hx := half_step a (64 + s)
  rw [hbit] at hx
  have hb0 : 0 ≤ g2 a / 2 ^ s % 2 := by omega
  have hb1 : g2 a / 2 ^ s % 2 ≤ 1 := by omega
  have hp : (2 : Int) ^ (64 + s + 1) = 2 ^ (64 + s) * 2 := pow_succ_i _
  have hp2 : (2 : Int) ^ (64 + s) = 18446744073709551616 * 2 ^ s := by rw [Int.pow_add]; rfl
  have qe : min ((64 + s + 1) - 64) 32 = s + 1 := by omega
  have qj := q2
  rw [qe] at qj
  obtain ⟨r1, r2, r3⟩ := dig_room t2 s hs h0 h1 qj
  obtain ⟨s1, s2⟩ := bit_step hb hx hb0 hb1
  rw [← hr] at s1 s2
  generalize g2 a / 2 ^ s % 2 = bit at *
  constructor
  · intro hc
    obtain ⟨u1, u2⟩ := s1 hc
    refine ⟨r1, ⟨u1.symm, ?_, (by rw [show min ((64 + s)) 32 = min ((64 + s + 1)) 32 by omega]; exact q0), (by rw [show min ((64 + s) - 32) 32 = min ((64 + s + 1) - 32) 32 by omega]; exact q1), (by rw [show min ((64 + s) - 64) 32 = s by omega]; exact r2), (by rw [show min ((64 + s) - 96) 32 = 0 by omega]; simp)⟩⟩
    rw [u2]
    have : (2 * (a / 2 ^ (64 + s + 1) / b) + 1) * 2 ^ (64 + s) = a / 2 ^ (64 + s + 1) / b * 2 ^ (64 + s + 1) + 2 ^ (64 + s) := by rw [hp]; grind
    rw [this, ← ht, hp2]
    generalize (2 : Int) ^ s = p at *
    grind
  · intro hc
    obtain ⟨u1, u2⟩ := s2 hc
    refine ⟨u1.symm, ?_, (by rw [show min ((64 + s)) 32 = min ((64 + s + 1)) 32 by omega]; exact q0), (by rw [show min ((64 + s) - 32) 32 = min ((64 + s + 1) - 32) 32 by omega]; exact q1), (by rw [show min ((64 + s) - 64) 32 = s by omega]; exact r3), (by rw [show min ((64 + s) - 96) 32 = 0 by omega]; simp)⟩
    rw [u2]
    have : 2 * (a / 2 ^ (64 + s + 1) / b) * 2 ^ (64 + s) = a / 2 ^ (64 + s + 1) / b * 2 ^ (64 + s + 1) := by rw [hp]; grind
    rw [this, ht]

theorem inv_step3 (a b t0 t1 t2 t3 R : Int) (s : Nat) (hs : s < 32) (hb : 0 < b) (h0 : 0 ≤ t3) (h1 : t3 < 4294967296) (h : Inv a b (96 + s + 1) t0 t1 t2 t3 R) :
    (b ≤ 2 * R + g3 a / 2 ^ s % 2 → t3 + 2 ^ s < 4294967296 ∧ Inv a b (96 + s) t0 t1 t2 (t3 + 2 ^ s) (2 * R + g3 a / 2 ^ s % 2 - b)) ∧ (2 * R + g3 a / 2 ^ s % 2 < b → Inv a b (96 + s) t0 t1 t2 t3 (2 * R + g3 a / 2 ^ s % 2)) := by
  obtain ⟨hr, ht, q0, q1, q2, q3⟩ := h
  have hbit : a / 2 ^ (96 + s) % 2 = g3 a / 2 ^ s % 2 := by
    unfold g3
    have e : a / 2 ^ (96 + s) = a / 79228162514264337593543950336 / 2 ^ s := by
      rw [Int.pow_add, ← Int.ediv_ediv_of_nonneg (by decide)]; rfl
    rw [e]; exact bit_of _ s hs
  have hx := half_step a (96 + s)
  rw [hbit] at hx
  have hb0 : 0 ≤ g3 a / 2 ^ s % 2 := by omega
  have hb1 : g3 a / 2 ^ s % 2 ≤ 1 := by omega
  have hp : (2 : Int) ^ (96 + s + 1) = 2 ^ (96 + s) * 2 := pow_succ_i _
  have hp2 : (2 : Int) ^ (96 + s) = 79228162514264337593543950336 * 2 ^ s := by rw [Int.pow_add]; rfl
  have qe : min ((96 + s + 1) - 96) 32 = s + 1 := by omega
  have qj := q3
  rw [qe] at qj
  obtain ⟨r1, r2, r3⟩ := dig_room t3 s hs h0 h1 qj
  obtain ⟨s1, s2⟩ := bit_step hb hx hb0 hb1
  rw [← hr] at s1 s2
  generalize g3 a / 2 ^ s % 2 = bit at *
  constructor
  · intro hc
    obtain ⟨u1, u2⟩ := s1 hc
    refine ⟨r1, ⟨u1.symm, ?_, (by rw [show min ((96 + s)) 32 = min ((96 + s + 1)) 32 by omega]; exact q0), (by rw [show min ((96 + s) - 32) 32 = min ((96 + s + 1) - 32) 32 by omega]; exact q1), (by rw [show min ((96 + s) - 64) 32 = min ((96 + s + 1) - 64) 32 by omega]; exact q2), (by rw [show min ((96 + s) - 96) 32 = s by omega]; exact r2)⟩⟩
    rw [u2]
    have : (2 * (a / 2 ^ (96 + s + 1) / b) + 1) * 2 ^ (96 + s) = a / 2 ^ (96 + s + 1) / b * 2 ^ (96 + s + 1) + 2 ^ (96 + s) := by rw [hp]; grind
    rw [this, ← ht, hp2]
    generalize (2 : Int) ^ s = p at *
    grind
  · intro hc
    obtain ⟨u1, u2⟩ := s2 hc
    refine ⟨u1.symm, ?_, (by rw [show min ((96 + s)) 32 = min ((96 + s + 1)) 32 by omega]; exact q0), (by rw [show min ((96 + s) - 32) 32 = min ((96 + s + 1) - 32) 32 by omega]; exact q1), (by rw [show min ((96 + s) - 64) 32 = min ((96 + s + 1) - 64) 32 by omega]; exact q2), (by rw [show min ((96 + s) - 96) 32 = s by omega]; exact r3)⟩
    rw [u2]
    have : 2 * (a / 2 ^ (96 + s + 1) / b) * 2 ^ (96 + s) = a / 2 ^ (96 + s + 1) / b * 2 ^ (96 + s + 1) := by rw [hp]; grind
    rw [this, ht]

end Go.Proofs.YteipohpfaofchabGreat

namespace Go.Proofs.YteipohpfaofchabGreat
open Go.RowKit Go.Shelf

/-- The table of the powers of ten lies as it was laid. -/
def Pow (w : World) : Prop := Lib.TabIs Tryz.prog w "internal/strconv.uint64pow10" .u64 Lib.pow10Tab
theorem Pow.below {w W : World} (h : Pow w) (hb : Below w.heap.size w W) : Pow W := Lib.tabBelow_of_tabIs h W hb

theorem below_grow (w : World) (k : Nat) (os : Array Obj) : Below w.heap.size w (Sort.grow (w.drewN k) os) :=
  ⟨rfl, rfl, rfl, by simp [Sort.grow], fun i hi => by simp [Sort.grow, Array.getElem?_append, hi]⟩

/-- A value's text. -/
def vtext (k n d : Int) (s : ByteArray) : List UInt8 := if k = 1 then Lib.itoa n else if k = 2 then Lib.itoa n ++ 47 :: Lib.itoa d else quoted s.data.toList

theorem chk_size {k n d : Int} {s : ByteArray} (h : chk k n d s = 0) : s.size ≤ 64 := by
  unfold chk at h
  split at h
  · cases h
  · split at h
    · cases h
    · omega

end Go.Proofs.YteipohpfaofchabGreat

namespace Go.Proofs.YteipohpfaofchabGreat
open Go.RowKit Go.Shelf

theorem isB_below {T e : TypeId} {B b : Nat} {bs : List Value} {w W : World} (h : Lib.IsBuilder T e B b bs w) (hb : Below w.heap.size w W) : Lib.IsBuilder T e B b bs W := by
  have go : ∀ p, Lib.BuilderAt T e B b p bs w → Lib.BuilderAt T e B b p bs W := by
    intro p h
    have hlt := h.lt
    obtain ⟨hB, v, hbk, hown, hne⟩ := h
    exact ⟨hB, v, (hb.block b hlt).trans hbk, hown.kept (row := none) ⟨hb.os, hb.tape, hb.output, hb.size, fun k hk _ => hb.block k hk⟩ (Classical.em _), hne⟩
  rcases h with h | h
  · exact Or.inl (go _ h)
  · exact Or.inr (go _ h)

/-- A block that holds a value, which may be written. -/
structure BlkV (W : World) (B : Nat) (k n d : Int) (s : ByteArray) : Prop where
  c0 : W.cell? ⟨B, 0, none⟩ = some (.int .i64 k)
  c1 : W.cell? ⟨B, 1, none⟩ = some (.int .i64 n)
  c2 : W.cell? ⟨B, 2, none⟩ = some (.int .i64 d)
  c3 : W.cell? ⟨B, 3, none⟩ = some (.string s)
  f0 : W.frozen? ⟨B, 0, none⟩ = false
  f1 : W.frozen? ⟨B, 1, none⟩ = false
  f2 : W.frozen? ⟨B, 2, none⟩ = false
  f3 : W.frozen? ⟨B, 3, none⟩ = false
theorem BlkV.below {W W' : World} {B m : Nat} {k n d : Int} {s : ByteArray} (h : BlkV W B k n d s) (hb : Below m W W') (hB : B < m) : BlkV W' B k n d s :=
  ⟨(hb.cell (p := ⟨B, 0, none⟩) hB).trans h.c0, (hb.cell (p := ⟨B, 1, none⟩) hB).trans h.c1, (hb.cell (p := ⟨B, 2, none⟩) hB).trans h.c2, (hb.cell (p := ⟨B, 3, none⟩) hB).trans h.c3,
   (hb.frozen (p := ⟨B, 0, none⟩) hB).trans h.f0, (hb.frozen (p := ⟨B, 1, none⟩) hB).trans h.f1, (hb.frozen (p := ⟨B, 2, none⟩) hB).trans h.f2, (hb.frozen (p := ⟨B, 3, none⟩) hB).trans h.f3⟩
theorem BlkV.four {W : World} {B : Nat} {k n d k' n' d' : Int} {s s' : ByteArray} (h : BlkV W B k n d s) : BlkV ((((W.setCell ⟨B, 0, none⟩ (.int .i64 k')).setCell ⟨B, 1, none⟩ (.int .i64 n')).setCell ⟨B, 2, none⟩ (.int .i64 d')).setCell ⟨B, 3, none⟩ (.string s')) B k' n' d' s' := by
  obtain ⟨c0, c1, c2, c3, f0, f1, f2, f3⟩ := h
  constructor <;> simp (maxDischargeDepth := 12) [go_sem, c0, c1, c2, c3, f0, f1, f2, f3]

end Go.Proofs.YteipohpfaofchabGreat

namespace Go.Proofs.YteipohpfaofchabGreat
open Go.RowKit Go.Shelf

theorem pure_A0 : pureB 3 0 0 ⟨#[65, 0]⟩ = true := by decide +kernel
theorem chk_A0 : chk 3 0 0 ⟨#[65, 0]⟩ = 0 := by decide +kernel
theorem quo_A0 : (vtext 3 0 0 ⟨#[65, 0]⟩).toArray = #[34, 65, 92, 120, 48, 48, 34] := by decide +kernel

end Go.Proofs.YteipohpfaofchabGreat

namespace Go.Proofs.YteipohpfaofchabGreat
open Go.RowKit Go.Shelf

end Go.Proofs.YteipohpfaofchabGreat

namespace Go.Proofs.YteipohpfaofchabGreat
open Go.RowKit Go.Shelf

set_option maxHeartbeats 400000 in
theorem split_exact (n d : Int) (w : World) (h1 : -9223372036854775808 ≤ n) (h2 : n ≤ 9223372036854775807) (g1 : -9223372036854775808 ≤ d) (g2 : d ≤ 9223372036854775807) :
    Calls Tryz.prog 169 #[.agg #[.int .i64 n, .int .i64 d]] w fun e w' => e = .returned (.agg #[.bool (decide (n < 0)), .int .u64 (sz n), .int .u64 (sz d)]) ∧
      w' = ((w.alloc (Obj.cells #[.int .i64 n, .int .i64 d] 146)).alloc (Obj.cells #[.bool (decide (n < 0)), .int .u64 (sz n), .int .u64 (sz d)] 170)).drew := by
  go_enter Tryz.func169, Tryz.ntmps169
  go_wp2
  go_region_held3 (fun w' => w'.cell? ⟨w.heap.size, 0, none⟩ = some (.int .i64 n) ∧ w'.cell? ⟨w.heap.size, 1, none⟩ = some (.int .i64 d)) (simp [go_sem])
    (first
      | (go_at_call 154; refine (size_any _ _ (by omega) (by omega)).mono ?_; rintro e w' ⟨rfl, rfl⟩))
  go_wp2
  go_returns
  exact ⟨rfl, rfl⟩

end Go.Proofs.YteipohpfaofchabGreat

namespace Go.Proofs.YteipohpfaofchabGreat
open Go.RowKit Go.Shelf

theorem sg_not (b : Bool) (n : Int) : sg (!b) n = - sg b n := by unfold sg; cases b <;> simp

end Go.Proofs.YteipohpfaofchabGreat

namespace Go.Proofs.YteipohpfaofchabGreat
open Go.RowKit Go.Shelf

theorem cmp_same (a b : Int) (w : World) :
    Calls Tryz.prog 158 #[.agg #[.int .i64 a, .int .i64 b], .agg #[.int .i64 a, .int .i64 b]] w fun e w' => e = .returned (.int .i64 0) ∧ Below w.heap.size w w' := by
  go_enter Tryz.func158, Tryz.ntmps158
  go_wp2
  go_ret
  exact ⟨rfl, by go_grown⟩

set_option maxHeartbeats 1000000 in
theorem cmp_no1A (a b c d : Int) (w : World) (ha : -9223372036854775808 ≤ a) (ha' : a ≤ 9223372036854775807) (hb : -9223372036854775808 ≤ b) (hb' : b ≤ 9223372036854775807) (_hc : -9223372036854775808 ≤ c) (_hc' : c ≤ 9223372036854775807) (_hd : -9223372036854775808 ≤ d) (_hd' : d ≤ 9223372036854775807) (hne : (a == c) = false) (hm : mayB a b = false) :
    Calls Tryz.prog 158 #[.agg #[.int .i64 a, .int .i64 b], .agg #[.int .i64 c, .int .i64 d]] w fun e w' => e = .returned (.int .i64 0) ∧ Below w.heap.size w w' := by
  go_enter Tryz.func158, Tryz.ntmps158
  go_upto_region 1 with fail
  obtain ⟨W0, eW⟩ : ∃ W0 : World, Hid (W0 = ((w.alloc (Obj.cells #[.int .i64 a, .int .i64 b] 146)).alloc (Obj.cells #[.int .i64 c, .int .i64 d] 146))) := ⟨_, rfl⟩
  rw [← eW.out]
  have k0 : Below w.heap.size w W0 := by rw [eW.out]; go_grown
  have ca : W0.cell? ⟨w.heap.size, 0, none⟩ = some (.int .i64 a) := by rw [eW.out]; simp [go_sem]
  have cb : W0.cell? ⟨w.heap.size, 1, none⟩ = some (.int .i64 b) := by rw [eW.out]; simp [go_sem]
  have cc : W0.cell? ⟨w.heap.size + 1, 0, none⟩ = some (.int .i64 c) := by rw [eW.out]; simp [go_sem]
  have cd : W0.cell? ⟨w.heap.size + 1, 1, none⟩ = some (.int .i64 d) := by rw [eW.out]; simp [go_sem]
  have k1 : W0.heap.size = w.heap.size + 2 := by rw [eW.out]; simp
  clear eW
  go_wp2_with (first
    | (go_at_call 167; refine (may_any _ _ _ (by omega) (by omega) (by omega) (by omega)).mono ?_; rintro e w1 ⟨rfl, hb1⟩; obtain ⟨hB1, hn1⟩ := bg0 (n := w.heap.size + 2) (W0 := W0) (by go_grown) (by go_size) hb1; have za1 : w.heap.size < w1.heap.size := (by omega); have zb1 : w.heap.size + 1 < w1.heap.size := (by omega); have ca_1 := bcl hB1 ca (by simp; try omega); have cb_1 := bcl hB1 cb (by simp; try omega); have cc_1 := bcl hB1 cc (by simp; try omega); have cd_1 := bcl hB1 cd (by simp; try omega)))
  have hBF : Below w.heap.size w w1 := k0.trans (hB1.mono (by omega))
  go_ret
  exact ⟨rfl, by go_grown⟩

set_option maxHeartbeats 1000000 in
theorem cmp_no2A (a b c d : Int) (w : World) (ha : -9223372036854775808 ≤ a) (ha' : a ≤ 9223372036854775807) (hb : -9223372036854775808 ≤ b) (hb' : b ≤ 9223372036854775807) (hc : -9223372036854775808 ≤ c) (hc' : c ≤ 9223372036854775807) (hd : -9223372036854775808 ≤ d) (hd' : d ≤ 9223372036854775807) (hne : (a == c) = false) (hm0 : mayB a b = true) (hm : mayB c d = false) :
    Calls Tryz.prog 158 #[.agg #[.int .i64 a, .int .i64 b], .agg #[.int .i64 c, .int .i64 d]] w fun e w' => e = .returned (.int .i64 0) ∧ Below w.heap.size w w' := by
  go_enter Tryz.func158, Tryz.ntmps158
  go_upto_region 1 with fail
  obtain ⟨W0, eW⟩ : ∃ W0 : World, Hid (W0 = ((w.alloc (Obj.cells #[.int .i64 a, .int .i64 b] 146)).alloc (Obj.cells #[.int .i64 c, .int .i64 d] 146))) := ⟨_, rfl⟩
  rw [← eW.out]
  have k0 : Below w.heap.size w W0 := by rw [eW.out]; go_grown
  have ca : W0.cell? ⟨w.heap.size, 0, none⟩ = some (.int .i64 a) := by rw [eW.out]; simp [go_sem]
  have cb : W0.cell? ⟨w.heap.size, 1, none⟩ = some (.int .i64 b) := by rw [eW.out]; simp [go_sem]
  have cc : W0.cell? ⟨w.heap.size + 1, 0, none⟩ = some (.int .i64 c) := by rw [eW.out]; simp [go_sem]
  have cd : W0.cell? ⟨w.heap.size + 1, 1, none⟩ = some (.int .i64 d) := by rw [eW.out]; simp [go_sem]
  have k1 : W0.heap.size = w.heap.size + 2 := by rw [eW.out]; simp
  clear eW
  go_wp2_with (first
    | (go_at_call 167; refine (may_any _ _ _ (by omega) (by omega) (by omega) (by omega)).mono ?_; rintro e w1 ⟨rfl, hb1⟩; obtain ⟨hB1, hn1⟩ := bg0 (n := w.heap.size + 2) (W0 := W0) (by go_grown) (by go_size) hb1; have za1 : w.heap.size < w1.heap.size := (by omega); have zb1 : w.heap.size + 1 < w1.heap.size := (by omega); have ca_1 := bcl hB1 ca (by simp; try omega); have cb_1 := bcl hB1 cb (by simp; try omega); have cc_1 := bcl hB1 cc (by simp; try omega); have cd_1 := bcl hB1 cd (by simp; try omega)))
  have hBF : Below w.heap.size w w1 := k0.trans (hB1.mono (by omega))
  go_ret
  exact ⟨rfl, by go_grown⟩

set_option maxHeartbeats 2000000 in
theorem cmp_yesA (a b c d : Int) (w : World) (ha : -9223372036854775808 ≤ a) (ha' : a ≤ 9223372036854775807) (hb : -9223372036854775808 ≤ b) (hb' : b ≤ 9223372036854775807) (hc : -9223372036854775808 ≤ c) (hc' : c ≤ 9223372036854775807) (hd : -9223372036854775808 ≤ d) (hd' : d ≤ 9223372036854775807) (hne : (a == c) = false) (hm0 : mayB a b = true) (hm : mayB c d = true) (L : Bool) (hL : lessB (decide (a < 0)) (sz a) b (decide (c < 0)) (sz c) d = L) :
    Calls Tryz.prog 158 #[.agg #[.int .i64 a, .int .i64 b], .agg #[.int .i64 c, .int .i64 d]] w fun e w' => e = .returned (.int .i64 (if L then -1 else 1)) ∧ Below w.heap.size w w' := by
  obtain ⟨m1, m2⟩ := may_of hm0
  obtain ⟨m3, m4⟩ := may_of hm
  have e1 : sz b = b := sz_of_nonneg (by omega)
  have e2 : sz d = d := sz_of_nonneg (by omega)
  have s1 := sz_nonneg a
  have s2 := sz_nonneg c
  have s3 := sz_le ha ha'
  have s4 := sz_le hc hc'
  have n1 : Nat.Coprime (sz a).toNat b.toNat := by unfold sz; simpa using m2
  have n2 : Nat.Coprime (sz c).toNat d.toNat := by unfold sz; simpa using m4
  have E1 : Hid (sg (decide (a < 0)) (sz a) = a) := by have := sg_sz a false; simpa [sg, Hid] using this
  have E2 : Hid (sg (decide (c < 0)) (sz c) = c) := by have := sg_sz c false; simpa [sg, Hid] using this
  have N1 : Hid (Nat.Coprime (sz a).toNat b.toNat) := n1
  have N2 : Hid (Nat.Coprime (sz c).toNat d.toNat) := n2
  clear n1 n2 m2 m4
  go_enter Tryz.func158, Tryz.ntmps158
  go_upto_region 1 with fail
  obtain ⟨W0, eW⟩ : ∃ W0 : World, Hid (W0 = ((w.alloc (Obj.cells #[.int .i64 a, .int .i64 b] 146)).alloc (Obj.cells #[.int .i64 c, .int .i64 d] 146))) := ⟨_, rfl⟩
  rw [← eW.out]
  have k0 : Below w.heap.size w W0 := by rw [eW.out]; go_grown
  have ca : W0.cell? ⟨w.heap.size, 0, none⟩ = some (.int .i64 a) := by rw [eW.out]; simp [go_sem]
  have cb : W0.cell? ⟨w.heap.size, 1, none⟩ = some (.int .i64 b) := by rw [eW.out]; simp [go_sem]
  have cc : W0.cell? ⟨w.heap.size + 1, 0, none⟩ = some (.int .i64 c) := by rw [eW.out]; simp [go_sem]
  have cd : W0.cell? ⟨w.heap.size + 1, 1, none⟩ = some (.int .i64 d) := by rw [eW.out]; simp [go_sem]
  have k1 : W0.heap.size = w.heap.size + 2 := by rw [eW.out]; simp
  clear eW
  go_upto_region 3 with (first
    | (go_at_call 167; refine (may_any _ _ _ (by omega) (by omega) (by omega) (by omega)).mono ?_; rintro e w1 ⟨rfl, hb1⟩; obtain ⟨hB1, hn1⟩ := bg0 (n := w.heap.size + 2) (W0 := W0) (by go_grown) (by go_size) hb1; have za1 : w.heap.size < w1.heap.size := (by omega); have zb1 : w.heap.size + 1 < w1.heap.size := (by omega); have ca_1 := bcl hB1 ca (by simp; try omega); have cb_1 := bcl hB1 cb (by simp; try omega); have cc_1 := bcl hB1 cc (by simp; try omega); have cd_1 := bcl hB1 cd (by simp; try omega)))
  go_region_held3 (fun w' => w'.cell? ⟨w.heap.size, 0, none⟩ = some (.int .i64 a) ∧ w'.cell? ⟨w.heap.size, 1, none⟩ = some (.int .i64 b) ∧ w'.cell? ⟨w.heap.size + 1, 0, none⟩ = some (.int .i64 c) ∧ w'.cell? ⟨w.heap.size + 1, 1, none⟩ = some (.int .i64 d)) (exact ⟨bcl (n := w.heap.size + 2) (by go_grown) ca (by simp; try omega), bcl (n := w.heap.size + 2) (by go_grown) cb (by simp; try omega), bcl (n := w.heap.size + 2) (by go_grown) cc (by simp; try omega), bcl (n := w.heap.size + 2) (by go_grown) cd (by simp; try omega)⟩)
    (first
      | (go_at_call_of 169 a; refine (split_any _ _ _ (by omega) (by omega) (by omega) (by omega)).mono ?_; rintro e w2 ⟨rfl, hb2⟩; obtain ⟨hB2, hn2⟩ := bg0 (n := w.heap.size + 2) (W0 := W0) (by go_grown) (by go_size) hb2; have za2 : w.heap.size < w2.heap.size := (by omega); have zb2 : w.heap.size + 1 < w2.heap.size := (by omega); have ca_2 := bcl hB2 ca (by simp; try omega); have cb_2 := bcl hB2 cb (by simp; try omega); have cc_2 := bcl hB2 cc (by simp; try omega); have cd_2 := bcl hB2 cd (by simp; try omega))
      | (go_at_call_of 169 c; refine (split_any _ _ _ (by omega) (by omega) (by omega) (by omega)).mono ?_; rintro e w3 ⟨rfl, hb3⟩; obtain ⟨hB3, hn3⟩ := bg0 (n := w.heap.size + 2) (W0 := W0) (by go_grown) (by go_size) hb3; have za3 : w.heap.size < w3.heap.size := (by omega); have zb3 : w.heap.size + 1 < w3.heap.size := (by omega); have ca_3 := bcl hB3 ca (by simp; try omega); have cb_3 := bcl hB3 cb (by simp; try omega); have cc_3 := bcl hB3 cc (by simp; try omega); have cd_3 := bcl hB3 cd (by simp; try omega))
      | (go_at_call 168; refine (less_any (decide (a < 0)) (decide (c < 0)) (sz a) b (sz c) d _ s1 (by omega) s2 (by omega) (by omega) (by omega) (by omega) (by omega)).mono ?_; rintro e w4 ⟨rfl, hb4⟩; obtain ⟨hB4, hn4⟩ := bg0 (n := w.heap.size + 2) (W0 := W0) (by go_grown) (by go_size) hb4; have za4 : w.heap.size < w4.heap.size := (by omega); have zb4 : w.heap.size + 1 < w4.heap.size := (by omega); have ca_4 := bcl hB4 ca (by simp; try omega); have cb_4 := bcl hB4 cb (by simp; try omega); have cc_4 := bcl hB4 cc (by simp; try omega); have cd_4 := bcl hB4 cd (by simp; try omega)))
  have hBF : Below w.heap.size w w4 := k0.trans (hB4.mono (by omega))
  cases L
  · go_wp2
    go_ret
    exact ⟨rfl, by go_grown⟩
  · go_wp2
    go_ret
    exact ⟨rfl, by go_grown⟩

set_option maxHeartbeats 1000000 in
theorem cmp_no1B (a b c d : Int) (w : World) (ha : -9223372036854775808 ≤ a) (ha' : a ≤ 9223372036854775807) (hb : -9223372036854775808 ≤ b) (hb' : b ≤ 9223372036854775807) (_hc : -9223372036854775808 ≤ c) (_hc' : c ≤ 9223372036854775807) (_hd : -9223372036854775808 ≤ d) (_hd' : d ≤ 9223372036854775807) (hac : (a == c) = true) (hne : (b == d) = false) (hm : mayB a b = false) :
    Calls Tryz.prog 158 #[.agg #[.int .i64 a, .int .i64 b], .agg #[.int .i64 c, .int .i64 d]] w fun e w' => e = .returned (.int .i64 0) ∧ Below w.heap.size w w' := by
  go_enter Tryz.func158, Tryz.ntmps158
  go_upto_region 1 with fail
  obtain ⟨W0, eW⟩ : ∃ W0 : World, Hid (W0 = ((w.alloc (Obj.cells #[.int .i64 a, .int .i64 b] 146)).alloc (Obj.cells #[.int .i64 c, .int .i64 d] 146))) := ⟨_, rfl⟩
  rw [← eW.out]
  have k0 : Below w.heap.size w W0 := by rw [eW.out]; go_grown
  have ca : W0.cell? ⟨w.heap.size, 0, none⟩ = some (.int .i64 a) := by rw [eW.out]; simp [go_sem]
  have cb : W0.cell? ⟨w.heap.size, 1, none⟩ = some (.int .i64 b) := by rw [eW.out]; simp [go_sem]
  have cc : W0.cell? ⟨w.heap.size + 1, 0, none⟩ = some (.int .i64 c) := by rw [eW.out]; simp [go_sem]
  have cd : W0.cell? ⟨w.heap.size + 1, 1, none⟩ = some (.int .i64 d) := by rw [eW.out]; simp [go_sem]
  have k1 : W0.heap.size = w.heap.size + 2 := by rw [eW.out]; simp
  clear eW
  go_wp2_with (first
    | (go_at_call 167; refine (may_any _ _ _ (by omega) (by omega) (by omega) (by omega)).mono ?_; rintro e w1 ⟨rfl, hb1⟩; obtain ⟨hB1, hn1⟩ := bg0 (n := w.heap.size + 2) (W0 := W0) (by go_grown) (by go_size) hb1; have za1 : w.heap.size < w1.heap.size := (by omega); have zb1 : w.heap.size + 1 < w1.heap.size := (by omega); have ca_1 := bcl hB1 ca (by simp; try omega); have cb_1 := bcl hB1 cb (by simp; try omega); have cc_1 := bcl hB1 cc (by simp; try omega); have cd_1 := bcl hB1 cd (by simp; try omega)))
  have hBF : Below w.heap.size w w1 := k0.trans (hB1.mono (by omega))
  go_ret
  exact ⟨rfl, by go_grown⟩

set_option maxHeartbeats 1000000 in
theorem cmp_no2B (a b c d : Int) (w : World) (ha : -9223372036854775808 ≤ a) (ha' : a ≤ 9223372036854775807) (hb : -9223372036854775808 ≤ b) (hb' : b ≤ 9223372036854775807) (hc : -9223372036854775808 ≤ c) (hc' : c ≤ 9223372036854775807) (hd : -9223372036854775808 ≤ d) (hd' : d ≤ 9223372036854775807) (hac : (a == c) = true) (hne : (b == d) = false) (hm0 : mayB a b = true) (hm : mayB c d = false) :
    Calls Tryz.prog 158 #[.agg #[.int .i64 a, .int .i64 b], .agg #[.int .i64 c, .int .i64 d]] w fun e w' => e = .returned (.int .i64 0) ∧ Below w.heap.size w w' := by
  go_enter Tryz.func158, Tryz.ntmps158
  go_upto_region 1 with fail
  obtain ⟨W0, eW⟩ : ∃ W0 : World, Hid (W0 = ((w.alloc (Obj.cells #[.int .i64 a, .int .i64 b] 146)).alloc (Obj.cells #[.int .i64 c, .int .i64 d] 146))) := ⟨_, rfl⟩
  rw [← eW.out]
  have k0 : Below w.heap.size w W0 := by rw [eW.out]; go_grown
  have ca : W0.cell? ⟨w.heap.size, 0, none⟩ = some (.int .i64 a) := by rw [eW.out]; simp [go_sem]
  have cb : W0.cell? ⟨w.heap.size, 1, none⟩ = some (.int .i64 b) := by rw [eW.out]; simp [go_sem]
  have cc : W0.cell? ⟨w.heap.size + 1, 0, none⟩ = some (.int .i64 c) := by rw [eW.out]; simp [go_sem]
  have cd : W0.cell? ⟨w.heap.size + 1, 1, none⟩ = some (.int .i64 d) := by rw [eW.out]; simp [go_sem]
  have k1 : W0.heap.size = w.heap.size + 2 := by rw [eW.out]; simp
  clear eW
  go_wp2_with (first
    | (go_at_call 167; refine (may_any _ _ _ (by omega) (by omega) (by omega) (by omega)).mono ?_; rintro e w1 ⟨rfl, hb1⟩; obtain ⟨hB1, hn1⟩ := bg0 (n := w.heap.size + 2) (W0 := W0) (by go_grown) (by go_size) hb1; have za1 : w.heap.size < w1.heap.size := (by omega); have zb1 : w.heap.size + 1 < w1.heap.size := (by omega); have ca_1 := bcl hB1 ca (by simp; try omega); have cb_1 := bcl hB1 cb (by simp; try omega); have cc_1 := bcl hB1 cc (by simp; try omega); have cd_1 := bcl hB1 cd (by simp; try omega)))
  have hBF : Below w.heap.size w w1 := k0.trans (hB1.mono (by omega))
  go_ret
  exact ⟨rfl, by go_grown⟩

set_option maxHeartbeats 2000000 in
theorem cmp_yesB (a b c d : Int) (w : World) (ha : -9223372036854775808 ≤ a) (ha' : a ≤ 9223372036854775807) (hb : -9223372036854775808 ≤ b) (hb' : b ≤ 9223372036854775807) (hc : -9223372036854775808 ≤ c) (hc' : c ≤ 9223372036854775807) (hd : -9223372036854775808 ≤ d) (hd' : d ≤ 9223372036854775807) (hac : (a == c) = true) (hne : (b == d) = false) (hm0 : mayB a b = true) (hm : mayB c d = true) (L : Bool) (hL : lessB (decide (a < 0)) (sz a) b (decide (c < 0)) (sz c) d = L) :
    Calls Tryz.prog 158 #[.agg #[.int .i64 a, .int .i64 b], .agg #[.int .i64 c, .int .i64 d]] w fun e w' => e = .returned (.int .i64 (if L then -1 else 1)) ∧ Below w.heap.size w w' := by
  obtain ⟨m1, m2⟩ := may_of hm0
  obtain ⟨m3, m4⟩ := may_of hm
  have e1 : sz b = b := sz_of_nonneg (by omega)
  have e2 : sz d = d := sz_of_nonneg (by omega)
  have s1 := sz_nonneg a
  have s2 := sz_nonneg c
  have s3 := sz_le ha ha'
  have s4 := sz_le hc hc'
  have n1 : Nat.Coprime (sz a).toNat b.toNat := by unfold sz; simpa using m2
  have n2 : Nat.Coprime (sz c).toNat d.toNat := by unfold sz; simpa using m4
  have E1 : Hid (sg (decide (a < 0)) (sz a) = a) := by have := sg_sz a false; simpa [sg, Hid] using this
  have E2 : Hid (sg (decide (c < 0)) (sz c) = c) := by have := sg_sz c false; simpa [sg, Hid] using this
  have N1 : Hid (Nat.Coprime (sz a).toNat b.toNat) := n1
  have N2 : Hid (Nat.Coprime (sz c).toNat d.toNat) := n2
  clear n1 n2 m2 m4
  go_enter Tryz.func158, Tryz.ntmps158
  go_upto_region 1 with fail
  obtain ⟨W0, eW⟩ : ∃ W0 : World, Hid (W0 = ((w.alloc (Obj.cells #[.int .i64 a, .int .i64 b] 146)).alloc (Obj.cells #[.int .i64 c, .int .i64 d] 146))) := ⟨_, rfl⟩
  rw [← eW.out]
  have k0 : Below w.heap.size w W0 := by rw [eW.out]; go_grown
  have ca : W0.cell? ⟨w.heap.size, 0, none⟩ = some (.int .i64 a) := by rw [eW.out]; simp [go_sem]
  have cb : W0.cell? ⟨w.heap.size, 1, none⟩ = some (.int .i64 b) := by rw [eW.out]; simp [go_sem]
  have cc : W0.cell? ⟨w.heap.size + 1, 0, none⟩ = some (.int .i64 c) := by rw [eW.out]; simp [go_sem]
  have cd : W0.cell? ⟨w.heap.size + 1, 1, none⟩ = some (.int .i64 d) := by rw [eW.out]; simp [go_sem]
  have k1 : W0.heap.size = w.heap.size + 2 := by rw [eW.out]; simp
  clear eW
  go_upto_region 3 with (first
    | (go_at_call 167; refine (may_any _ _ _ (by omega) (by omega) (by omega) (by omega)).mono ?_; rintro e w1 ⟨rfl, hb1⟩; obtain ⟨hB1, hn1⟩ := bg0 (n := w.heap.size + 2) (W0 := W0) (by go_grown) (by go_size) hb1; have za1 : w.heap.size < w1.heap.size := (by omega); have zb1 : w.heap.size + 1 < w1.heap.size := (by omega); have ca_1 := bcl hB1 ca (by simp; try omega); have cb_1 := bcl hB1 cb (by simp; try omega); have cc_1 := bcl hB1 cc (by simp; try omega); have cd_1 := bcl hB1 cd (by simp; try omega)))
  go_region_held3 (fun w' => w'.cell? ⟨w.heap.size, 0, none⟩ = some (.int .i64 a) ∧ w'.cell? ⟨w.heap.size, 1, none⟩ = some (.int .i64 b) ∧ w'.cell? ⟨w.heap.size + 1, 0, none⟩ = some (.int .i64 c) ∧ w'.cell? ⟨w.heap.size + 1, 1, none⟩ = some (.int .i64 d)) (exact ⟨bcl (n := w.heap.size + 2) (by go_grown) ca (by simp; try omega), bcl (n := w.heap.size + 2) (by go_grown) cb (by simp; try omega), bcl (n := w.heap.size + 2) (by go_grown) cc (by simp; try omega), bcl (n := w.heap.size + 2) (by go_grown) cd (by simp; try omega)⟩)
    (first
      | (go_at_call_of 169 a; refine (split_any _ _ _ (by omega) (by omega) (by omega) (by omega)).mono ?_; rintro e w2 ⟨rfl, hb2⟩; obtain ⟨hB2, hn2⟩ := bg0 (n := w.heap.size + 2) (W0 := W0) (by go_grown) (by go_size) hb2; have za2 : w.heap.size < w2.heap.size := (by omega); have zb2 : w.heap.size + 1 < w2.heap.size := (by omega); have ca_2 := bcl hB2 ca (by simp; try omega); have cb_2 := bcl hB2 cb (by simp; try omega); have cc_2 := bcl hB2 cc (by simp; try omega); have cd_2 := bcl hB2 cd (by simp; try omega))
      | (go_at_call_of 169 c; refine (split_any _ _ _ (by omega) (by omega) (by omega) (by omega)).mono ?_; rintro e w3 ⟨rfl, hb3⟩; obtain ⟨hB3, hn3⟩ := bg0 (n := w.heap.size + 2) (W0 := W0) (by go_grown) (by go_size) hb3; have za3 : w.heap.size < w3.heap.size := (by omega); have zb3 : w.heap.size + 1 < w3.heap.size := (by omega); have ca_3 := bcl hB3 ca (by simp; try omega); have cb_3 := bcl hB3 cb (by simp; try omega); have cc_3 := bcl hB3 cc (by simp; try omega); have cd_3 := bcl hB3 cd (by simp; try omega))
      | (go_at_call 168; refine (less_any (decide (a < 0)) (decide (c < 0)) (sz a) b (sz c) d _ s1 (by omega) s2 (by omega) (by omega) (by omega) (by omega) (by omega)).mono ?_; rintro e w4 ⟨rfl, hb4⟩; obtain ⟨hB4, hn4⟩ := bg0 (n := w.heap.size + 2) (W0 := W0) (by go_grown) (by go_size) hb4; have za4 : w.heap.size < w4.heap.size := (by omega); have zb4 : w.heap.size + 1 < w4.heap.size := (by omega); have ca_4 := bcl hB4 ca (by simp; try omega); have cb_4 := bcl hB4 cb (by simp; try omega); have cc_4 := bcl hB4 cc (by simp; try omega); have cd_4 := bcl hB4 cd (by simp; try omega)))
  have hBF : Below w.heap.size w w4 := k0.trans (hB4.mono (by omega))
  cases L
  · go_wp2
    go_ret
    exact ⟨rfl, by go_grown⟩
  · go_wp2
    go_ret
    exact ⟨rfl, by go_grown⟩

end Go.Proofs.YteipohpfaofchabGreat

namespace Go.Proofs.YteipohpfaofchabGreat
open Go.RowKit Go.Shelf

/-- What a call tells: N, D, the error: if both fractions may be that of p / q, else nothing and ErrArg. -/
def both (a b c d : Int) : Bool := mayB a b && mayB c d
def tN (a b c d p q : Int) : Int := if both a b c d then rN p q else 0
def tD (a b c d p q : Int) : Int := if both a b c d then rD p q else 0
def tE (a b c d p q : Int) : Int := if both a b c d then rE p q else 1

theorem both_true {a b c d : Int} : both a b c d = true ↔ mayB a b = true ∧ mayB c d = true := by simp [both]

theorem t_yes {a b c d : Int} (h1 : mayB a b = true) (h2 : mayB c d = true) (p q : Int) : tN a b c d p q = rN p q ∧ tD a b c d p q = rD p q ∧ tE a b c d p q = rE p q := by
  simp [tN, tD, tE, both, h1, h2]
theorem t_no1 {a b c d : Int} (h1 : mayB a b = false) (p q : Int) : tN a b c d p q = 0 ∧ tD a b c d p q = 0 ∧ tE a b c d p q = 1 := by
  simp [tN, tD, tE, both, h1]
theorem t_no2 {a b c d : Int} (h2 : mayB c d = false) (p q : Int) : tN a b c d p q = 0 ∧ tD a b c d p q = 0 ∧ tE a b c d p q = 1 := by
  simp [tN, tD, tE, both, h2]

theorem may_zero {d : Int} (h : mayB 0 d = true) : d = 1 := by
  obtain ⟨h1, h2⟩ := may_of h
  have : d.toNat = 1 := by simpa [Nat.Coprime] using h2
  omega
theorem may_01 : mayB 0 1 = true := by decide +kernel

theorem less_val (a b c d : Int) (hb : 0 < b) (hd : 0 < d) : lessB (decide (a < 0)) (sz a) b (decide (c < 0)) (sz c) d = decide (a * d < c * b) := by
  unfold lessB
  by_cases h1 : a < 0 <;> by_cases h2 : c < 0
  · rw [sz_of_neg h1, sz_of_neg h2]
    simp [h1, h2, Int.neg_mul]
  · have e1 : a * d < 0 := Int.mul_neg_of_neg_of_pos h1 hd
    have e2 : 0 ≤ c * b := Int.mul_nonneg (by omega) (by omega)
    simp [h1, h2]; omega
  · have e1 : 0 ≤ a * d := Int.mul_nonneg (by omega) (by omega)
    have e2 : c * b < 0 := Int.mul_neg_of_neg_of_pos h2 hb
    simp [h1, h2]; omega
  · rw [sz_of_nonneg (by omega), sz_of_nonneg (by omega)]
    simp [h1, h2]

/-- Two fractions that may be are of one worth only if they are the same. -/
theorem may_unique {a b c d : Int} (h1 : mayB a b = true) (h2 : mayB c d = true) (h : a * d = c * b) : a = c ∧ b = d := by
  obtain ⟨p1, c1⟩ := may_of h1
  obtain ⟨p2, c2⟩ := may_of h2
  have hn : a.natAbs * d.toNat = c.natAbs * b.toNat := by
    have := congrArg Int.natAbs h
    rw [Int.natAbs_mul, Int.natAbs_mul] at this
    rwa [show d.natAbs = d.toNat by omega, show b.natAbs = b.toNat by omega] at this
  have d1 : b.toNat ∣ d.toNat := Nat.Coprime.dvd_of_dvd_mul_left c1.symm ⟨c.natAbs, by rw [hn, Nat.mul_comm]⟩
  have d2 : d.toNat ∣ b.toNat := Nat.Coprime.dvd_of_dvd_mul_left c2.symm ⟨a.natAbs, by rw [← hn, Nat.mul_comm]⟩
  have e := Nat.dvd_antisymm d1 d2
  have e' : b = d := by omega
  subst e'
  exact ⟨Int.eq_of_mul_eq_mul_right (by omega) h, rfl⟩

/-- How two fractions stand to one another. -/
def cmpV (a b c d : Int) : Int := if both a b c d then (if a * d < c * b then -1 else if c * b < a * d then 1 else 0) else 0

theorem cmp_all (a b c d : Int) (w : World) (ha : -9223372036854775808 ≤ a) (ha' : a ≤ 9223372036854775807) (hb : -9223372036854775808 ≤ b) (hb' : b ≤ 9223372036854775807) (hc : -9223372036854775808 ≤ c) (hc' : c ≤ 9223372036854775807) (hd : -9223372036854775808 ≤ d) (hd' : d ≤ 9223372036854775807) :
    Calls Tryz.prog 158 #[.agg #[.int .i64 a, .int .i64 b], .agg #[.int .i64 c, .int .i64 d]] w fun e w' => e = .returned (.int .i64 (cmpV a b c d)) ∧ Below w.heap.size w w' := by
  by_cases hs : a = c ∧ b = d
  · obtain ⟨rfl, rfl⟩ := hs
    have e : cmpV a b a b = 0 := by unfold cmpV; simp
    rw [e]; exact cmp_same a b w
  · cases h1 : mayB a b
    · have e : cmpV a b c d = 0 := by simp [cmpV, both, h1]
      rw [e]
      by_cases hac : a = c
      · exact cmp_no1B a b c d w ha ha' hb hb' hc hc' hd hd' (by simpa using hac) (by simp; exact fun h => hs ⟨hac, h⟩) h1
      · exact cmp_no1A a b c d w ha ha' hb hb' hc hc' hd hd' (by simpa using hac) h1
    · cases h2 : mayB c d
      · have e : cmpV a b c d = 0 := by simp [cmpV, both, h2]
        rw [e]
        by_cases hac : a = c
        · exact cmp_no2B a b c d w ha ha' hb hb' hc hc' hd hd' (by simpa using hac) (by simp; exact fun h => hs ⟨hac, h⟩) h1 h2
        · exact cmp_no2A a b c d w ha ha' hb hb' hc hc' hd hd' (by simpa using hac) h1 h2
      · have hu : a * d ≠ c * b := fun h => hs (may_unique h1 h2 h)
        obtain ⟨p1, _⟩ := may_of h1
        obtain ⟨p2, _⟩ := may_of h2
        have hl := less_val a b c d p1 p2
        have e : cmpV a b c d = if decide (a * d < c * b) then -1 else 1 := by
          simp only [cmpV, both, h1, h2, Bool.and_true, if_true, decide_eq_true_eq]
          split
          · rfl
          · rw [if_pos (by omega)]
        rw [e]
        by_cases hac : a = c
        · exact cmp_yesB a b c d w ha ha' hb hb' hc hc' hd hd' (by simpa using hac) (by simp; exact fun h => hs ⟨hac, h⟩) h1 h2 _ hl
        · exact cmp_yesA a b c d w ha ha' hb hb' hc hc' hd hd' (by simpa using hac) h1 h2 _ hl

end Go.Proofs.YteipohpfaofchabGreat

namespace Go.Proofs.YteipohpfaofchabGreat
open Go.RowKit Go.Shelf

/-- A block that holds a fraction, which may be written. -/
structure BlkR (W : World) (B : Nat) (n d : Int) : Prop where
  c0 : W.cell? ⟨B, 0, none⟩ = some (.int .i64 n)
  c1 : W.cell? ⟨B, 1, none⟩ = some (.int .i64 d)
theorem BlkR.below {W W' : World} {B m : Nat} {n d : Int} (h : BlkR W B n d) (hb : Below m W W') (hB : B < m) : BlkR W' B n d :=
  ⟨(hb.cell (p := ⟨B, 0, none⟩) hB).trans h.c0, (hb.cell (p := ⟨B, 1, none⟩) hB).trans h.c1⟩

end Go.Proofs.YteipohpfaofchabGreat

namespace Go.Proofs.YteipohpfaofchabGreat
open Go.RowKit Go.Shelf

end Go.Proofs.YteipohpfaofchabGreat

namespace Go.Proofs.YteipohpfaofchabGreat
open Go.RowKit Go.Shelf

theorem keep8 {W W' : World} {P Q : Nat} {k n d k' n' d' : Int} {s s' : ByteArray} (hb : Below W.heap.size W W') (a0 : W.cell? ⟨P, 0, none⟩ = some (.int .i64 k)) (a1 : W.cell? ⟨P, 1, none⟩ = some (.int .i64 n)) (a2 : W.cell? ⟨P, 2, none⟩ = some (.int .i64 d)) (a3 : W.cell? ⟨P, 3, none⟩ = some (.string s)) (b0 : W.cell? ⟨Q, 0, none⟩ = some (.int .i64 k')) (b1 : W.cell? ⟨Q, 1, none⟩ = some (.int .i64 n')) (b2 : W.cell? ⟨Q, 2, none⟩ = some (.int .i64 d')) (b3 : W.cell? ⟨Q, 3, none⟩ = some (.string s')) (hP : P < W.heap.size) (hQ : Q < W.heap.size) :
    W'.cell? ⟨P, 0, none⟩ = some (.int .i64 k) ∧ W'.cell? ⟨P, 1, none⟩ = some (.int .i64 n) ∧ W'.cell? ⟨P, 2, none⟩ = some (.int .i64 d) ∧ W'.cell? ⟨P, 3, none⟩ = some (.string s) ∧ W'.cell? ⟨Q, 0, none⟩ = some (.int .i64 k') ∧ W'.cell? ⟨Q, 1, none⟩ = some (.int .i64 n') ∧ W'.cell? ⟨Q, 2, none⟩ = some (.int .i64 d') ∧ W'.cell? ⟨Q, 3, none⟩ = some (.string s') :=
  ⟨bcl hb a0 hP, bcl hb a1 hP, bcl hb a2 hP, bcl hb a3 hP, bcl hb b0 hQ, bcl hb b1 hQ, bcl hb b2 hQ, bcl hb b3 hQ⟩

end Go.Proofs.YteipohpfaofchabGreat

namespace Go.Proofs.YteipohpfaofchabGreat
open Go.RowKit Go.Shelf

set_option maxRecDepth 100000 in
set_option maxHeartbeats 2000000 in
theorem cmp_unlike (k n d : Int) (s : ByteArray) (k' n' d' : Int) (s' : ByteArray) (w : World) (h1 : -9223372036854775808 ≤ n) (h2 : n ≤ 9223372036854775807) (g1 : -9223372036854775808 ≤ d) (g2 : d ≤ 9223372036854775807) (h1' : -9223372036854775808 ≤ n') (h2' : n' ≤ 9223372036854775807) (g1' : -9223372036854775808 ≤ d') (g2' : d' ≤ 9223372036854775807) (c1 : chk k n d s = 0) (c2 : chk k' n' d' s' = 0) (hk : (k != k') = true) :
    Calls Tryz.prog 78 #[.agg #[.int .i64 k, .int .i64 n, .int .i64 d, .string s], .agg #[.int .i64 k', .int .i64 n', .int .i64 d', .string s']] w fun e w' => e = .returned (.int .i64 (Lib.compareInt k k')) ∧ Below w.heap.size w w' := by
  go_enter Tryz.func78, Tryz.ntmps78
  go_upto_region 1 with fail
  refine wp_world ?_
  intro W0 hW0
  have A0 : Hid (BlkV W0 w.heap.size k n d s) := by rw [hW0]; constructor <;> simp (maxDischargeDepth := 12) [go_sem]
  have B0 : Hid (BlkV W0 (w.heap.size + 1) k' n' d' s') := by rw [hW0]; constructor <;> simp (maxDischargeDepth := 12) [go_sem]
  have z0 : w.heap.size + 1 < W0.heap.size := by rw [hW0]; simp
  have K0 : Below w.heap.size w W0 := by rw [hW0]; go_grown
  clear hW0
  obtain ⟨a0, a1, a2, a3, -, -, -, -⟩ := A0.out
  go_wp2_with fail
  refine (check_any k n d s _ h1 h2 g1 g2).mono ?_
  rintro e w1 ⟨rfl, hb1⟩
  rw [c1]
  clear a0 a1 a2 a3
  have A1 : Hid (BlkV w1 w.heap.size k n d s) := A0.out.below hb1 (by omega)
  have B1 : Hid (BlkV w1 (w.heap.size + 1) k' n' d' s') := B0.out.below hb1 z0
  have z1 : w.heap.size + 1 < w1.heap.size := by have := hb1.size; omega
  have K1 : Below w.heap.size w w1 := K0.trans (hb1.mono K0.size)
  clear A0 B0 z0 K0 hb1
  obtain ⟨a0, a1, a2, a3, -, -, -, -⟩ := B1.out
  go_wp2_with fail
  refine (check_any k' n' d' s' _ h1' h2' g1' g2').mono ?_
  rintro e w2 ⟨rfl, hb2⟩
  rw [c2]
  clear a0 a1 a2 a3
  have A2 : Hid (BlkV w2 w.heap.size k n d s) := A1.out.below hb2 (by omega)
  have B2 : Hid (BlkV w2 (w.heap.size + 1) k' n' d' s') := B1.out.below hb2 z1
  have K2 : Below w.heap.size w w2 := K1.trans (hb2.mono K1.size)
  clear A1 B1 z1 K1 hb2
  obtain ⟨a0, a1, a2, a3, -, -, -, -⟩ := A2.out
  obtain ⟨b0, b1, b2, b3, -, -, -, -⟩ := B2.out
  go_wp2_with fail
  refine (Tryz.cmp_Compare_int k k' _).mono ?_
  rintro e w3 ⟨rfl, rfl⟩
  go_wp2
  go_ret
  exact ⟨rfl, K2⟩

set_option maxRecDepth 100000 in
set_option maxHeartbeats 2000000 in
theorem row_one (a : Addr) (c : Nat) (w : World) :
    Calls Tryz.prog 46 #[.slice (some a) 1 c, .slice none 0 0] w fun e w' => e = .returned (.int .i64 1) ∧ w' = w := by
  have e1 : Lib.compareInt 1 0 = 1 := by decide
  go_enter Tryz.func46, Tryz.ntmps46
  go_wp2
  refine wp_loop_rounds 1 ?_
  rw [rounds_succ]
  go_wp2_with fail
  refine (Tryz.cmp_Compare_int 1 0 _).mono ?_
  rintro e w3 ⟨rfl, rfl⟩
  rw [e1]
  go_wp2
  go_ret
  exact ⟨rfl, rfl⟩

end Go.Proofs.YteipohpfaofchabGreat

namespace Go.Proofs.YteipohpfaofchabGreat
open Go.RowKit Go.Shelf

theorem cmp_52 (w : World) : Calls Tryz.prog 78 #[.agg #[.int .i64 1, .int .i64 5, .int .i64 0, .string ⟨#[]⟩], .agg #[.int .i64 2, .int .i64 1, .int .i64 2, .string ⟨#[]⟩]] w fun e w' => e = .returned (.int .i64 (-1)) ∧ Below w.heap.size w w' :=
  cmp_unlike 1 5 0 ⟨#[]⟩ 2 1 2 ⟨#[]⟩ w (by decide) (by decide) (by decide) (by decide) (by decide) (by decide) (by decide) (by decide) (by decide +kernel) (by decide +kernel) (by decide)

theorem check_24 (w : World) : Calls Tryz.prog 77 #[.agg #[.int .i64 2, .int .i64 2, .int .i64 4, .string ⟨#[]⟩]] w fun e w' => e = .returned (.int .i64 20) ∧ Below w.heap.size w w' := by
  have h := check_any 2 2 4 ⟨#[]⟩ w (by decide) (by decide) (by decide) (by decide)
  rwa [show chk 2 2 4 ⟨#[]⟩ = 20 by decide +kernel] at h
theorem check_01 (w : World) : Calls Tryz.prog 77 #[.agg #[.int .i64 2, .int .i64 0, .int .i64 1, .string ⟨#[]⟩]] w fun e w' => e = .returned (.int .i64 0) ∧ Below w.heap.size w w' := by
  have h := check_any 2 0 1 ⟨#[]⟩ w (by decide) (by decide) (by decide) (by decide)
  rwa [show chk 2 0 1 ⟨#[]⟩ = 0 by decide +kernel] at h

end Go.Proofs.YteipohpfaofchabGreat

namespace Go.Proofs.YteipohpfaofchabGreat
open Go.RowKit Go.Shelf

end Go.Proofs.YteipohpfaofchabGreat

namespace Go.Proofs.YteipohpfaofchabGreat
open Go.RowKit

/-- A block of four digits, which may be written. -/
structure Blk (W : World) (B : Nat) (v0 v1 v2 v3 : Int) : Prop where
  c0 : W.cell? ⟨B, 0, none⟩ = some (.int .u64 v0)
  c1 : W.cell? ⟨B, 1, none⟩ = some (.int .u64 v1)
  c2 : W.cell? ⟨B, 2, none⟩ = some (.int .u64 v2)
  c3 : W.cell? ⟨B, 3, none⟩ = some (.int .u64 v3)
  f0 : W.frozen? ⟨B, 0, none⟩ = false
  f1 : W.frozen? ⟨B, 1, none⟩ = false
  f2 : W.frozen? ⟨B, 2, none⟩ = false
  f3 : W.frozen? ⟨B, 3, none⟩ = false

theorem Blk.below {W W' : World} {B n : Nat} {v0 v1 v2 v3 : Int} (h : Blk W B v0 v1 v2 v3) (hb : Below n W W') (hB : B < n) : Blk W' B v0 v1 v2 v3 :=
  ⟨(hb.cell (p := ⟨B, 0, none⟩) hB).trans h.c0, (hb.cell (p := ⟨B, 1, none⟩) hB).trans h.c1, (hb.cell (p := ⟨B, 2, none⟩) hB).trans h.c2, (hb.cell (p := ⟨B, 3, none⟩) hB).trans h.c3,
   (hb.frozen (p := ⟨B, 0, none⟩) hB).trans h.f0, (hb.frozen (p := ⟨B, 1, none⟩) hB).trans h.f1, (hb.frozen (p := ⟨B, 2, none⟩) hB).trans h.f2, (hb.frozen (p := ⟨B, 3, none⟩) hB).trans h.f3⟩

theorem Blk.set0 {W : World} {B : Nat} {v0 v1 v2 v3 : Int} (h : Blk W B v0 v1 v2 v3) (x : Int) : Blk (W.setCell ⟨B, 0, none⟩ (.int .u64 x)) B x v1 v2 v3 := by
  obtain ⟨c0, c1, c2, c3, f0, f1, f2, f3⟩ := h
  constructor <;> simp (maxDischargeDepth := 12) [go_sem, c0, c1, c2, c3, f0, f1, f2, f3]
theorem Blk.set1 {W : World} {B : Nat} {v0 v1 v2 v3 : Int} (h : Blk W B v0 v1 v2 v3) (x : Int) : Blk (W.setCell ⟨B, 1, none⟩ (.int .u64 x)) B v0 x v2 v3 := by
  obtain ⟨c0, c1, c2, c3, f0, f1, f2, f3⟩ := h
  constructor <;> simp (maxDischargeDepth := 12) [go_sem, c0, c1, c2, c3, f0, f1, f2, f3]
theorem Blk.set2 {W : World} {B : Nat} {v0 v1 v2 v3 : Int} (h : Blk W B v0 v1 v2 v3) (x : Int) : Blk (W.setCell ⟨B, 2, none⟩ (.int .u64 x)) B v0 v1 x v3 := by
  obtain ⟨c0, c1, c2, c3, f0, f1, f2, f3⟩ := h
  constructor <;> simp (maxDischargeDepth := 12) [go_sem, c0, c1, c2, c3, f0, f1, f2, f3]
theorem Blk.set3 {W : World} {B : Nat} {v0 v1 v2 v3 : Int} (h : Blk W B v0 v1 v2 v3) (x : Int) : Blk (W.setCell ⟨B, 3, none⟩ (.int .u64 x)) B v0 v1 v2 x := by
  obtain ⟨c0, c1, c2, c3, f0, f1, f2, f3⟩ := h
  constructor <;> simp (maxDischargeDepth := 12) [go_sem, c0, c1, c2, c3, f0, f1, f2, f3]
theorem Blk.other {W : World} {B C o : Nat} {v0 v1 v2 v3 : Int} {x : Value} (h : Blk W C v0 v1 v2 v3) (hne : C ≠ B) : Blk (W.setCell ⟨B, o, none⟩ x) C v0 v1 v2 v3 := by
  obtain ⟨c0, c1, c2, c3, f0, f1, f2, f3⟩ := h
  constructor <;> simp (maxDischargeDepth := 12) [go_sem, c0, c1, c2, c3, f0, f1, f2, f3]
theorem Blk.four {W : World} {B : Nat} {v0 v1 v2 v3 : Int} (h : Blk W B v0 v1 v2 v3) (x0 x1 x2 x3 : Int) : Blk ((((W.setCell ⟨B, 0, none⟩ (.int .u64 x0)).setCell ⟨B, 1, none⟩ (.int .u64 x1)).setCell ⟨B, 2, none⟩ (.int .u64 x2)).setCell ⟨B, 3, none⟩ (.int .u64 x3)) B x0 x1 x2 x3 :=
  (((h.set0 x0).set1 x1).set2 x2).set3 x3
theorem Blk.other4 {W : World} {B C : Nat} {v0 v1 v2 v3 : Int} {x0 x1 x2 x3 : Value} (h : Blk W C v0 v1 v2 v3) (hne : C ≠ B) : Blk ((((W.setCell ⟨B, 0, none⟩ x0).setCell ⟨B, 1, none⟩ x1).setCell ⟨B, 2, none⟩ x2).setCell ⟨B, 3, none⟩ x3) C v0 v1 v2 v3 :=
  (((h.other hne).other hne).other hne).other hne
theorem Blk.drew {W : World} {B : Nat} {v0 v1 v2 v3 : Int} (h : Blk W B v0 v1 v2 v3) : Blk W.drew B v0 v1 v2 v3 :=
  ⟨h.c0, h.c1, h.c2, h.c3, h.f0, h.f1, h.f2, h.f3⟩
theorem Blk.drewN {W : World} {B : Nat} {v0 v1 v2 v3 : Int} (h : Blk W B v0 v1 v2 v3) (n : Nat) : Blk (W.drewN n) B v0 v1 v2 v3 :=
  ⟨h.c0, h.c1, h.c2, h.c3, h.f0, h.f1, h.f2, h.f3⟩

theorem bcl2 {n : Nat} {W0 wx : World} (h : Below n W0 wx) {a : Addr} {v : Value} (hv : W0.cell? a = some v) (ha : a.block < n) : wx.cell? a = some v := (h.cell ha).trans hv
theorem bfr2 {n : Nat} {W0 wx : World} (h : Below n W0 wx) {a : Addr} (hv : W0.frozen? a = false) (ha : a.block < n) : wx.frozen? a = false := (h.frozen ha).trans hv

theorem inv_start (a b : Int) (ha : 0 ≤ a) (ha' : a < 340282366920938463463374607431768211456) : Inv a b 128 0 0 0 0 0 := by
  have e : a / 2 ^ 128 = 0 := Int.ediv_eq_zero_of_lt ha ha'
  refine ⟨by rw [e]; simp, by rw [e]; simp, by simp, by simp, by simp, by simp⟩

theorem dig_bit (R bit : Int) (hb0 : 0 ≤ bit) (hb1 : bit ≤ 1) : g0 (R + R) + bit = g0 (2 * R + bit) ∧ g1 (R + R) = g1 (2 * R + bit) ∧ g2 (R + R) = g2 (2 * R + bit) ∧ g3 (R + R) = g3 (2 * R + bit) := by
  unfold g0 g1 g2 g3; omega

theorem ret_two {a0 a1 a2 a3 b0 b1 b2 b3 a0' a1' a2' a3' b0' b1' b2' b3' : Int} (h0 : a0 = a0') (h1 : a1 = a1') (h2 : a2 = a2') (h3 : a3 = a3') (k0 : b0 = b0') (k1 : b1 = b1') (k2 : b2 = b2') (k3 : b3 = b3') : Ending.returned (.tuple #[.agg #[.int .u64 a0, .int .u64 a1, .int .u64 a2, .int .u64 a3], .agg #[.int .u64 b0, .int .u64 b1, .int .u64 b2, .int .u64 b3]]) = Ending.returned (.tuple #[.agg #[.int .u64 a0', .int .u64 a1', .int .u64 a2', .int .u64 a3'], .agg #[.int .u64 b0', .int .u64 b1', .int .u64 b2', .int .u64 b3']]) := by rw [h0, h1, h2, h3, k0, k1, k2, k3]

set_option maxRecDepth 100000 in
set_option maxHeartbeats 8000000 in
theorem rdiv_any (a b : Int) (w : World) (ha : 0 ≤ a) (ha' : a < 340282366920938463463374607431768211456) (hb : 0 < b) (hb' : b ≤ 170141183460469231731687303715884105728) :
    Calls Tryz.prog 172 #[.agg #[.int .u64 (g0 a), .int .u64 (g1 a), .int .u64 (g2 a), .int .u64 (g3 a)], .agg #[.int .u64 (g0 b), .int .u64 (g1 b), .int .u64 (g2 b), .int .u64 (g3 b)]] w fun e w' => e = .returned (.tuple #[.agg #[.int .u64 (g0 (a / b)), .int .u64 (g1 (a / b)), .int .u64 (g2 (a / b)), .int .u64 (g3 (a / b))], .agg #[.int .u64 (g0 (a % b)), .int .u64 (g1 (a % b)), .int .u64 (g2 (a % b)), .int .u64 (g3 (a % b))]]) ∧ Below w.heap.size w w' := by
  have z0 := g0_bd a
  have z1 := g1_bd a
  have z2 := g2_bd a
  have z3 := g3_bd a
  have y0 := g0_bd b
  have y1 := g1_bd b
  have y2 := g2_bd b
  have y3 := g3_bd b
  go_enter Tryz.func172, Tryz.ntmps172
  go_wp2
  go_loopw [8] (fun i wr => ∃ (k : Nat) (t0 t1 t2 t3 R : Int), k ≤ 128 ∧ 0 ≤ t0 ∧ t0 < 4294967296 ∧ 0 ≤ t1 ∧ t1 < 4294967296 ∧ 0 ≤ t2 ∧ t2 < 4294967296 ∧ 0 ≤ t3 ∧ t3 < 4294967296 ∧ Hid (Inv a b k t0 t1 t2 t3 R) ∧ (∃ i0 : Int, i0 = (k : Int) - 1 ∧ i = .int .i64 i0) ∧ Below w.heap.size w wr ∧ w.heap.size + 1 + 1 + 1 + 1 + 1 < wr.heap.size ∧ Blk wr (w.heap.size) (g0 (a)) (g1 (a)) (g2 (a)) (g3 (a)) ∧ Blk wr (w.heap.size + 1) (g0 (b)) (g1 (b)) (g2 (b)) (g3 (b)) ∧ Blk wr (w.heap.size + 1 + 1 + 1 + 1) (t0) (t1) (t2) (t3) ∧ Blk wr (w.heap.size + 1 + 1 + 1 + 1 + 1) (g0 (R)) (g1 (R)) (g2 (R)) (g3 (R)) ∧ Blk wr (w.heap.size + 1 + 1) (0) (0) (0) (0) ∧ Blk wr (w.heap.size + 1 + 1 + 1) (0) (0) (0) (0)) (fun i _ => (intOf i + 1).toNat)
  case atStart =>
    refine ⟨128, 0, 0, 0, 0, 0, by omega, by omega, by omega, by omega, by omega, by omega, by omega, by omega, by omega, inv_start a b ha ha', ⟨127, by decide, rfl⟩, by go_grown, by go_size, ?_, ?_, ?_, ?_, ?_, ?_⟩
    all_goals (constructor <;> simp (maxDischargeDepth := 12) [go_sem, show g0 0 = 0 by decide, show g1 0 = 0 by decide, show g2 0 = 0 by decide, show g3 0 = 0 by decide])
  case round =>
    obtain ⟨k, t0, t1, t2, t3, R, hk, p0, q0, p1, q1, p2, q2, p3, q3, hI, ⟨i0, hi0, rfl⟩, hBw, hsz, kA, kB, kT, kR, kX, kY⟩ := hrel
    by_cases hk0 : k = 0
    · subst hk0
      have hi1 : i0 < 0 := by omega
      have hi2 : (0 ≤ i0) = False := by simp; omega
      clear hi0
      obtain ⟨t0', t1', t2', t3'⟩ : Hid (g0 (a / b) = t0) ∧ Hid (g1 (a / b) = t1) ∧ Hid (g2 (a / b) = t2) ∧ Hid (g3 (a / b) = t3) := by
        have e := hI.out.times
        simp at e
        have := g_of t0 t1 t2 t3 ⟨p0, by omega⟩ ⟨p1, by omega⟩ ⟨p2, by omega⟩ ⟨p3, by omega⟩
        rw [e] at this; exact this
      have eR : Hid (R = a % b) := by have e := hI.out.rest; simp at e; exact e
      have kXX := kX
      obtain ⟨kX0, kX1, kX2, kX3, kX4, kX5, kX6, kX7⟩ := kX
      have kYY := kY
      obtain ⟨kY0, kY1, kY2, kY3, kY4, kY5, kY6, kY7⟩ := kY
      obtain ⟨kT0, kT1, kT2, kT3, -, -, -, -⟩ := kT
      obtain ⟨kR0, kR1, kR2, kR3, -, -, -, -⟩ := kR
      clear hI
      go_wp2
      go_region
      generalize hW : World.drew _ = W9
      have kX' : Blk W9 (w.heap.size + 1 + 1) t0 t1 t2 t3 := by rw [← hW]; exact ((kXX.four t0 t1 t2 t3).other4 (by omega)).drew
      have kY' : Blk W9 (w.heap.size + 1 + 1 + 1) (g0 R) (g1 R) (g2 R) (g3 R) := by rw [← hW]; exact ((kYY.other4 (by omega)).four _ _ _ _).drew
      have hB9 : Below w.heap.size w W9 := by rw [← hW]; repeat' (first | (with_reducible exact Below.refl _ _) | (with_reducible assumption) | (with_reducible refine bdrewN _ ?_) | (with_reducible refine Below.alloc ?_ ?_ _) | (with_reducible refine Below.setCell ?_ ?_ _) | (with_reducible refine Below.drew ?_) | go_size | (simp; omega))
      clear hW
      obtain ⟨x0, x1, x2, x3, -, -, -, -⟩ := kX'
      obtain ⟨x4, x5, x6, x7, -, -, -, -⟩ := kY'
      go_wp2
      refine bodyPost_ret (by simp [results, Tryz.results172, go_sem, x0, x1, x2, x3, x4, x5, x6, x7]; try rfl) rfl ?_
      exact ⟨ret_two t0'.out.symm t1'.out.symm t2'.out.symm t3'.out.symm (by rw [eR.out]) (by rw [eR.out]) (by rw [eR.out]) (by rw [eR.out]), hB9⟩
    · have hR : R = a / 2 ^ k % b := hI.out.rest
      have hR0 : 0 ≤ R := by rw [hR]; exact Int.emod_nonneg _ (by omega)
      have hR1 : R < b := by rw [hR]; exact Int.emod_lt_of_pos _ hb
      clear hR
      have hi1 : 0 ≤ i0 := by omega
      have hi3 : i0 ≤ 127 := by omega
      obtain ⟨s, hs, hks⟩ : ∃ s : Nat, s < 32 ∧ (k = 0 + s + 1 ∨ k = 32 + s + 1 ∨ k = 64 + s + 1 ∨ k = 96 + s + 1) := ⟨(k - 1) % 32, by omega, by omega⟩
      have hs' : (s : Int) < 32 := by omega
      have hp1 := pow_pos_i s
      have hp2 : (2 : Int) ^ s ≤ 2147483648 := by
        have : (2 : Int) ^ s * 2 ^ (31 - s) = 2147483648 := by rw [← Int.pow_add, show s + (31 - s) = 31 by omega]; rfl
        have h2 : (1 : Int) ≤ 2 ^ (31 - s) := pow_pos_i _
        have h3 : (2 : Int) ^ s * 1 ≤ 2 ^ s * 2 ^ (31 - s) := Int.mul_le_mul_of_nonneg_left h2 (by omega)
        omega
      rcases hks with rfl | rfl | rfl | rfl
      · obtain ⟨st1, st2⟩ := inv_step0 a b t0 t1 t2 t3 R s hs hb p0 q0 hI.out
        obtain ⟨bit, eB⟩ : ∃ bit : Int, g0 a / 2 ^ s % 2 = bit := ⟨_, rfl⟩
        have hb0 : 0 ≤ bit := by omega
        have hb1 : bit ≤ 1 := by omega
        obtain ⟨X, hX⟩ : ∃ X : Int, 2 * R + bit = X := ⟨_, rfl⟩
        have hX0 : 0 ≤ X := by omega
        have hX1 : X < 340282366920938463463374607431768211456 := by omega
        rw [eB, hX] at st1 st2
        have e1 : i0 / 32 = 0 := by omega
        have e3 : i0 % 32 = (s : Int) := by omega
        have e2 : IntKind.i64.wrap (i0.tdiv 32) = 0 := by rw [Int.tdiv_eq_ediv_of_nonneg hi1, e1]; rfl
        have e4 : IntKind.i64.wrap (i0.tmod 32) = (s : Int) := by rw [Int.tmod_eq_emod_of_nonneg hi1, e3]; go_arith
        obtain ⟨d0, d1, d2, d3⟩ := dig_bit R bit hb0 hb1
        rw [hX] at d0 d1 d2 d3
        have HB : Hid (i0 = (0 + s + 1 : Nat) - 1) := hi0
        clear hi0
        have K : Hid (Blk wr (w.heap.size) (g0 (a)) (g1 (a)) (g2 (a)) (g3 (a)) ∧ Blk wr (w.heap.size + 1) (g0 (b)) (g1 (b)) (g2 (b)) (g3 (b)) ∧ Blk wr (w.heap.size + 1 + 1 + 1 + 1) t0 t1 t2 t3 ∧ Blk wr (w.heap.size + 1 + 1) 0 0 0 0 ∧ Blk wr (w.heap.size + 1 + 1 + 1) 0 0 0 0) := ⟨kA, kB, kT, kX, kY⟩
        clear kA kB kT kX kY
        obtain ⟨kR0, kR1, kR2, kR3, kR4, kR5, kR6, kR7⟩ := kR
        go_wp2_with fail
        refine (rplus_any R R _ hR0 hR0 (by omega)).mono ?_
        rintro e w1 ⟨rfl, hb1⟩
        obtain ⟨n0, n1, n2, n3⟩ := (⟨bcl2 hb1 kR0 (by simp; omega), bcl2 hb1 kR1 (by simp; omega), bcl2 hb1 kR2 (by simp; omega), bcl2 hb1 kR3 (by simp; omega)⟩ : w1.cell? ⟨w.heap.size + 1 + 1 + 1 + 1 + 1, 0, none⟩ = some (.int .u64 (g0 R)) ∧ w1.cell? ⟨w.heap.size + 1 + 1 + 1 + 1 + 1, 1, none⟩ = some (.int .u64 (g1 R)) ∧ w1.cell? ⟨w.heap.size + 1 + 1 + 1 + 1 + 1, 2, none⟩ = some (.int .u64 (g2 R)) ∧ w1.cell? ⟨w.heap.size + 1 + 1 + 1 + 1 + 1, 3, none⟩ = some (.int .u64 (g3 R)))
        obtain ⟨f0, f1, f2, f3⟩ := (⟨bfr2 hb1 kR4 (by simp; omega), bfr2 hb1 kR5 (by simp; omega), bfr2 hb1 kR6 (by simp; omega), bfr2 hb1 kR7 (by simp; omega)⟩ : w1.frozen? ⟨w.heap.size + 1 + 1 + 1 + 1 + 1, 0, none⟩ = false ∧ w1.frozen? ⟨w.heap.size + 1 + 1 + 1 + 1 + 1, 1, none⟩ = false ∧ w1.frozen? ⟨w.heap.size + 1 + 1 + 1 + 1 + 1, 2, none⟩ = false ∧ w1.frozen? ⟨w.heap.size + 1 + 1 + 1 + 1 + 1, 3, none⟩ = false)
        go_wp2_with fail
        refine wp_world ?_
        intro W1 hW1
        have K1 : Blk W1 (w.heap.size) (g0 (a)) (g1 (a)) (g2 (a)) (g3 (a)) ∧ Blk W1 (w.heap.size + 1) (g0 (b)) (g1 (b)) (g2 (b)) (g3 (b)) ∧ Blk W1 (w.heap.size + 1 + 1 + 1 + 1) t0 t1 t2 t3 ∧ Blk W1 (w.heap.size + 1 + 1) 0 0 0 0 ∧ Blk W1 (w.heap.size + 1 + 1 + 1) 0 0 0 0 := by
          obtain ⟨u1, u2, u3, u4, u5⟩ := K.out
          rw [hW1]
          exact ⟨(u1.below hb1 (by omega)).other4 (by omega), (u2.below hb1 (by omega)).other4 (by omega), (u3.below hb1 (by omega)).other4 (by omega), (u4.below hb1 (by omega)).other4 (by omega), (u5.below hb1 (by omega)).other4 (by omega)⟩
        have K1R : Blk W1 (w.heap.size + 1 + 1 + 1 + 1 + 1) (g0 (R + R)) (g1 X) (g2 X) (g3 X) := by
          rw [hW1]; exact Blk.four ⟨n0, n1, n2, n3, f0, f1, f2, f3⟩ _ _ _ _
        have hB1 : Below w.heap.size w W1 := by
          have := hBw.trans (hb1.mono hBw.size)
          rw [hW1]; repeat' (first | (with_reducible exact Below.refl _ _) | (with_reducible assumption) | (with_reducible refine bdrewN _ ?_) | (with_reducible refine Below.alloc ?_ ?_ _) | (with_reducible refine Below.setCell ?_ ?_ _) | (with_reducible refine Below.drew ?_) | go_size | (simp; omega))
        have hs1 : w.heap.size + 1 + 1 + 1 + 1 + 1 < W1.heap.size := by
          have := hb1.size
          rw [hW1]; simp; omega
        clear hW1 n0 n1 n2 n3 f0 f1 f2 f3 kR0 kR1 kR2 kR3 kR4 kR5 kR6 kR7 hb1 K hBw hsz
        have KK : Hid (Blk W1 (w.heap.size) (g0 (a)) (g1 (a)) (g2 (a)) (g3 (a)) ∧ Blk W1 (w.heap.size + 1) (g0 (b)) (g1 (b)) (g2 (b)) (g3 (b)) ∧ Blk W1 (w.heap.size + 1 + 1 + 1 + 1) t0 t1 t2 t3 ∧ Blk W1 (w.heap.size + 1 + 1) 0 0 0 0 ∧ Blk W1 (w.heap.size + 1 + 1 + 1) 0 0 0 0) := K1
        have KR : Hid (Blk W1 (w.heap.size + 1 + 1 + 1 + 1 + 1) (g0 (R + R)) (g1 X) (g2 X) (g3 X)) := K1R
        obtain ⟨⟨v0, v1, v2, v3, -, -, -, -⟩, -⟩ := K1
        obtain ⟨r0, -, -, -, r4, -, -, -⟩ := K1R
        go_region
        generalize hW : World.setCell _ _ _ = W2
        have ev : IntKind.u64.wrap (g0 (R + R) + (g0 a / 2 ^ s).tmod 2) = g0 X := by
          have e := g0_bd a
          have : 0 ≤ g0 a / 2 ^ s := Int.ediv_nonneg e.1 (by omega)
          rw [Int.tmod_eq_emod_of_nonneg this, eB, d0]
          have := g0_bd X
          rw [IntKind.wrap_u64]; omega
        have K2R : Blk W2 (w.heap.size + 1 + 1 + 1 + 1 + 1) (g0 X) (g1 X) (g2 X) (g3 X) := by
          rw [← hW, ev]; exact KR.out.set0 _
        have K2 : Hid (Blk W2 (w.heap.size) (g0 (a)) (g1 (a)) (g2 (a)) (g3 (a)) ∧ Blk W2 (w.heap.size + 1) (g0 (b)) (g1 (b)) (g2 (b)) (g3 (b)) ∧ Blk W2 (w.heap.size + 1 + 1 + 1 + 1) t0 t1 t2 t3 ∧ Blk W2 (w.heap.size + 1 + 1) 0 0 0 0 ∧ Blk W2 (w.heap.size + 1 + 1 + 1) 0 0 0 0) := by
          obtain ⟨u1, u2, u3, u4, u5⟩ := KK.out
          rw [← hW]
          exact ⟨u1.other (by omega), u2.other (by omega), u3.other (by omega), u4.other (by omega), u5.other (by omega)⟩
        have hB2 : Below w.heap.size w W2 := by rw [← hW]; repeat' (first | (with_reducible exact Below.refl _ _) | (with_reducible assumption) | (with_reducible refine bdrewN _ ?_) | (with_reducible refine Below.alloc ?_ ?_ _) | (with_reducible refine Below.setCell ?_ ?_ _) | (with_reducible refine Below.drew ?_) | go_size | (simp; omega))
        have hs2 : w.heap.size + 1 + 1 + 1 + 1 + 1 < W2.heap.size := by rw [← hW]; simp; omega
        clear hW ev KK KR hB1 hs1 v0 v1 v2 v3 r0 r4 d0 d1 d2 d3
        have KR : Hid (Blk W2 (w.heap.size + 1 + 1 + 1 + 1 + 1) (g0 X) (g1 X) (g2 X) (g3 X)) := K2R
        obtain ⟨r0, r1, r2, r3, r4, r5, r6, r7⟩ := K2R
        obtain ⟨l0, l1, l2, l3, -, -, -, -⟩ := K2.out.2.1
        obtain ⟨c, ec⟩ : ∃ c : Int, Hid (cmpI X b = c) := ⟨_, rfl⟩
        by_cases hc : b ≤ X
        · have hc0 : 0 ≤ c := by rw [← ec.out]; unfold cmpI; split <;> (try split) <;> omega
          obtain ⟨y1, y2⟩ := st1 hc
          clear st1 st2
          go_wp2_with fail
          refine (rcompare_any X b _ hX0 hX1 (by omega) (by omega)).mono ?_
          rintro e w3 ⟨rfl, hb3⟩
          rw [ec.out]
          have hH : W2.drew.heap.size = W2.heap.size := rfl
          rw [hH] at hb3
          have hb4 : Below W2.heap.size W2 w3 := ⟨hb3.os, hb3.tape, hb3.output, hb3.size, hb3.block⟩
          have hB3 := hB2.trans (hb4.mono hB2.size)
          have hs3 := hb4.size
          have hs4 : w.heap.size + 1 + 1 + 1 + 1 + 1 < w3.heap.size := by omega
          have K3 : Hid (Blk w3 (w.heap.size) (g0 (a)) (g1 (a)) (g2 (a)) (g3 (a)) ∧ Blk w3 (w.heap.size + 1) (g0 (b)) (g1 (b)) (g2 (b)) (g3 (b)) ∧ Blk w3 (w.heap.size + 1 + 1 + 1 + 1) t0 t1 t2 t3 ∧ Blk w3 (w.heap.size + 1 + 1) 0 0 0 0 ∧ Blk w3 (w.heap.size + 1 + 1 + 1) 0 0 0 0) := by
            obtain ⟨u1, u2, u3, u4, u5⟩ := K2.out
            exact ⟨u1.below hb4 (by omega), u2.below hb4 (by omega), u3.below hb4 (by omega), u4.below hb4 (by omega), u5.below hb4 (by omega)⟩
          have K3R : Hid (Blk w3 (w.heap.size + 1 + 1 + 1 + 1 + 1) (g0 X) (g1 X) (g2 X) (g3 X)) := KR.out.below hb4 (by omega)
          clear hb3 hb4 hs3 hs2 hB2 K2 KR r0 r1 r2 r3 r4 r5 r6 r7 l0 l1 l2 l3 hH
          obtain ⟨r0, r1, r2, r3, -, -, -, -⟩ := K3R.out
          obtain ⟨l0, l1, l2, l3, -, -, -, -⟩ := K3.out.2.1
          go_wp2_with fail
          refine (rless_any X b _ (by omega) hc hX1).mono ?_
          rintro e w4 ⟨rfl, hb5⟩
          have hB4 := hB3.trans (hb5.mono hB3.size)
          have hs5 := hb5.size
          have K4 : Hid (Blk w4 (w.heap.size) (g0 (a)) (g1 (a)) (g2 (a)) (g3 (a)) ∧ Blk w4 (w.heap.size + 1) (g0 (b)) (g1 (b)) (g2 (b)) (g3 (b)) ∧ Blk w4 (w.heap.size + 1 + 1 + 1 + 1) t0 t1 t2 t3 ∧ Blk w4 (w.heap.size + 1 + 1) 0 0 0 0 ∧ Blk w4 (w.heap.size + 1 + 1 + 1) 0 0 0 0) := by
            obtain ⟨u1, u2, u3, u4, u5⟩ := K3.out
            exact ⟨u1.below hb5 (by omega), u2.below hb5 (by omega), u3.below hb5 (by omega), u4.below hb5 (by omega), u5.below hb5 (by omega)⟩
          have K4R : Hid (Blk w4 (w.heap.size + 1 + 1 + 1 + 1 + 1) (g0 X) (g1 X) (g2 X) (g3 X)) := K3R.out.below hb5 (by omega)
          have hs6 : w.heap.size + 1 + 1 + 1 + 1 + 1 < w4.heap.size := by omega
          clear hb5 hs5 hs4 hB3 K3 K3R r0 r1 r2 r3 l0 l1 l2 l3
          obtain ⟨r0, r1, r2, r3, r4, r5, r6, r7⟩ := K4R.out
          obtain ⟨l0, l1, l2, l3, l4, l5, l6, l7⟩ := K4.out.2.2.1
          obtain ⟨u1, u2, u3, u4, u5⟩ := K4.out
          have u6 := K4R.out
          go_wp2
          exact ⟨⟨0 + s, (t0 + 2 ^ s), t1, t2, t3, X - b, by omega, (by omega), y1, p1, q1, p2, q2, p3, q3, y2, ⟨i0 - 1, by have := HB.out; omega, rfl⟩, (by repeat' (first | (with_reducible exact Below.refl _ _) | (with_reducible assumption) | (with_reducible refine bdrewN _ ?_) | (with_reducible refine Below.alloc ?_ ?_ _) | (with_reducible refine Below.setCell ?_ ?_ _) | (with_reducible refine Below.drew ?_) | go_size | (simp; omega))), by simp; omega, (u1.other4 (by omega)).other (by omega), (u2.other4 (by omega)).other (by omega), (u3.other4 (by omega)).set0 _, (u6.four _ _ _ _).other (by omega), (u4.other4 (by omega)).other (by omega), (u5.other4 (by omega)).other (by omega)⟩, by simp [intOf]; omega⟩
        · have hc0 : (0 ≤ c) = False := by simp; rw [← ec.out]; unfold cmpI; split <;> (try split) <;> omega
          have hc1 : c < 0 := by simpa using hc0
          have y2 := st2 (by omega)
          clear st1 st2
          go_wp2_with fail
          refine (rcompare_any X b _ hX0 hX1 (by omega) (by omega)).mono ?_
          rintro e w3 ⟨rfl, hb3⟩
          rw [ec.out]
          obtain ⟨u1, u2, u3, u4, u5⟩ := K2.out
          have u6 := KR.out
          have hH : W2.drew.heap.size = W2.heap.size := rfl
          rw [hH] at hb3
          have hb4 : Below W2.heap.size W2 w3 := ⟨hb3.os, hb3.tape, hb3.output, hb3.size, hb3.block⟩
          have hB3 := hB2.trans (hb4.mono hB2.size)
          have hs3 := hb4.size
          go_wp2
          exact ⟨⟨0 + s, t0, t1, t2, t3, X, by omega, p0, q0, p1, q1, p2, q2, p3, q3, y2, ⟨i0 - 1, by have := HB.out; omega, rfl⟩, hB3, by omega, u1.below hb4 (by omega), u2.below hb4 (by omega), u3.below hb4 (by omega), u6.below hb4 (by omega), u4.below hb4 (by omega), u5.below hb4 (by omega)⟩, by simp [intOf]; omega⟩
      · obtain ⟨st1, st2⟩ := inv_step1 a b t0 t1 t2 t3 R s hs hb p1 q1 hI.out
        obtain ⟨bit, eB⟩ : ∃ bit : Int, g1 a / 2 ^ s % 2 = bit := ⟨_, rfl⟩
        have hb0 : 0 ≤ bit := by omega
        have hb1 : bit ≤ 1 := by omega
        obtain ⟨X, hX⟩ : ∃ X : Int, 2 * R + bit = X := ⟨_, rfl⟩
        have hX0 : 0 ≤ X := by omega
        have hX1 : X < 340282366920938463463374607431768211456 := by omega
        rw [eB, hX] at st1 st2
        have e1 : i0 / 32 = 1 := by omega
        have e3 : i0 % 32 = (s : Int) := by omega
        have e2 : IntKind.i64.wrap (i0.tdiv 32) = 1 := by rw [Int.tdiv_eq_ediv_of_nonneg hi1, e1]; rfl
        have e4 : IntKind.i64.wrap (i0.tmod 32) = (s : Int) := by rw [Int.tmod_eq_emod_of_nonneg hi1, e3]; go_arith
        obtain ⟨d0, d1, d2, d3⟩ := dig_bit R bit hb0 hb1
        rw [hX] at d0 d1 d2 d3
        have HB : Hid (i0 = (32 + s + 1 : Nat) - 1) := hi0
        clear hi0
        have K : Hid (Blk wr (w.heap.size) (g0 (a)) (g1 (a)) (g2 (a)) (g3 (a)) ∧ Blk wr (w.heap.size + 1) (g0 (b)) (g1 (b)) (g2 (b)) (g3 (b)) ∧ Blk wr (w.heap.size + 1 + 1 + 1 + 1) t0 t1 t2 t3 ∧ Blk wr (w.heap.size + 1 + 1) 0 0 0 0 ∧ Blk wr (w.heap.size + 1 + 1 + 1) 0 0 0 0) := ⟨kA, kB, kT, kX, kY⟩
        clear kA kB kT kX kY
        obtain ⟨kR0, kR1, kR2, kR3, kR4, kR5, kR6, kR7⟩ := kR
        go_wp2_with fail
        refine (rplus_any R R _ hR0 hR0 (by omega)).mono ?_
        rintro e w1 ⟨rfl, hb1⟩
        obtain ⟨n0, n1, n2, n3⟩ := (⟨bcl2 hb1 kR0 (by simp; omega), bcl2 hb1 kR1 (by simp; omega), bcl2 hb1 kR2 (by simp; omega), bcl2 hb1 kR3 (by simp; omega)⟩ : w1.cell? ⟨w.heap.size + 1 + 1 + 1 + 1 + 1, 0, none⟩ = some (.int .u64 (g0 R)) ∧ w1.cell? ⟨w.heap.size + 1 + 1 + 1 + 1 + 1, 1, none⟩ = some (.int .u64 (g1 R)) ∧ w1.cell? ⟨w.heap.size + 1 + 1 + 1 + 1 + 1, 2, none⟩ = some (.int .u64 (g2 R)) ∧ w1.cell? ⟨w.heap.size + 1 + 1 + 1 + 1 + 1, 3, none⟩ = some (.int .u64 (g3 R)))
        obtain ⟨f0, f1, f2, f3⟩ := (⟨bfr2 hb1 kR4 (by simp; omega), bfr2 hb1 kR5 (by simp; omega), bfr2 hb1 kR6 (by simp; omega), bfr2 hb1 kR7 (by simp; omega)⟩ : w1.frozen? ⟨w.heap.size + 1 + 1 + 1 + 1 + 1, 0, none⟩ = false ∧ w1.frozen? ⟨w.heap.size + 1 + 1 + 1 + 1 + 1, 1, none⟩ = false ∧ w1.frozen? ⟨w.heap.size + 1 + 1 + 1 + 1 + 1, 2, none⟩ = false ∧ w1.frozen? ⟨w.heap.size + 1 + 1 + 1 + 1 + 1, 3, none⟩ = false)
        go_wp2_with fail
        refine wp_world ?_
        intro W1 hW1
        have K1 : Blk W1 (w.heap.size) (g0 (a)) (g1 (a)) (g2 (a)) (g3 (a)) ∧ Blk W1 (w.heap.size + 1) (g0 (b)) (g1 (b)) (g2 (b)) (g3 (b)) ∧ Blk W1 (w.heap.size + 1 + 1 + 1 + 1) t0 t1 t2 t3 ∧ Blk W1 (w.heap.size + 1 + 1) 0 0 0 0 ∧ Blk W1 (w.heap.size + 1 + 1 + 1) 0 0 0 0 := by
          obtain ⟨u1, u2, u3, u4, u5⟩ := K.out
          rw [hW1]
          exact ⟨(u1.below hb1 (by omega)).other4 (by omega), (u2.below hb1 (by omega)).other4 (by omega), (u3.below hb1 (by omega)).other4 (by omega), (u4.below hb1 (by omega)).other4 (by omega), (u5.below hb1 (by omega)).other4 (by omega)⟩
        have K1R : Blk W1 (w.heap.size + 1 + 1 + 1 + 1 + 1) (g0 (R + R)) (g1 X) (g2 X) (g3 X) := by
          rw [hW1]; exact Blk.four ⟨n0, n1, n2, n3, f0, f1, f2, f3⟩ _ _ _ _
        have hB1 : Below w.heap.size w W1 := by
          have := hBw.trans (hb1.mono hBw.size)
          rw [hW1]; repeat' (first | (with_reducible exact Below.refl _ _) | (with_reducible assumption) | (with_reducible refine bdrewN _ ?_) | (with_reducible refine Below.alloc ?_ ?_ _) | (with_reducible refine Below.setCell ?_ ?_ _) | (with_reducible refine Below.drew ?_) | go_size | (simp; omega))
        have hs1 : w.heap.size + 1 + 1 + 1 + 1 + 1 < W1.heap.size := by
          have := hb1.size
          rw [hW1]; simp; omega
        clear hW1 n0 n1 n2 n3 f0 f1 f2 f3 kR0 kR1 kR2 kR3 kR4 kR5 kR6 kR7 hb1 K hBw hsz
        have KK : Hid (Blk W1 (w.heap.size) (g0 (a)) (g1 (a)) (g2 (a)) (g3 (a)) ∧ Blk W1 (w.heap.size + 1) (g0 (b)) (g1 (b)) (g2 (b)) (g3 (b)) ∧ Blk W1 (w.heap.size + 1 + 1 + 1 + 1) t0 t1 t2 t3 ∧ Blk W1 (w.heap.size + 1 + 1) 0 0 0 0 ∧ Blk W1 (w.heap.size + 1 + 1 + 1) 0 0 0 0) := K1
        have KR : Hid (Blk W1 (w.heap.size + 1 + 1 + 1 + 1 + 1) (g0 (R + R)) (g1 X) (g2 X) (g3 X)) := K1R
        obtain ⟨⟨v0, v1, v2, v3, -, -, -, -⟩, -⟩ := K1
        obtain ⟨r0, -, -, -, r4, -, -, -⟩ := K1R
        go_region
        generalize hW : World.setCell _ _ _ = W2
        have ev : IntKind.u64.wrap (g0 (R + R) + (g1 a / 2 ^ s).tmod 2) = g0 X := by
          have e := g1_bd a
          have : 0 ≤ g1 a / 2 ^ s := Int.ediv_nonneg e.1 (by omega)
          rw [Int.tmod_eq_emod_of_nonneg this, eB, d0]
          have := g0_bd X
          rw [IntKind.wrap_u64]; omega
        have K2R : Blk W2 (w.heap.size + 1 + 1 + 1 + 1 + 1) (g0 X) (g1 X) (g2 X) (g3 X) := by
          rw [← hW, ev]; exact KR.out.set0 _
        have K2 : Hid (Blk W2 (w.heap.size) (g0 (a)) (g1 (a)) (g2 (a)) (g3 (a)) ∧ Blk W2 (w.heap.size + 1) (g0 (b)) (g1 (b)) (g2 (b)) (g3 (b)) ∧ Blk W2 (w.heap.size + 1 + 1 + 1 + 1) t0 t1 t2 t3 ∧ Blk W2 (w.heap.size + 1 + 1) 0 0 0 0 ∧ Blk W2 (w.heap.size + 1 + 1 + 1) 0 0 0 0) := by
          obtain ⟨u1, u2, u3, u4, u5⟩ := KK.out
          rw [← hW]
          exact ⟨u1.other (by omega), u2.other (by omega), u3.other (by omega), u4.other (by omega), u5.other (by omega)⟩
        have hB2 : Below w.heap.size w W2 := by rw [← hW]; repeat' (first | (with_reducible exact Below.refl _ _) | (with_reducible assumption) | (with_reducible refine bdrewN _ ?_) | (with_reducible refine Below.alloc ?_ ?_ _) | (with_reducible refine Below.setCell ?_ ?_ _) | (with_reducible refine Below.drew ?_) | go_size | (simp; omega))
        have hs2 : w.heap.size + 1 + 1 + 1 + 1 + 1 < W2.heap.size := by rw [← hW]; simp; omega
        clear hW ev KK KR hB1 hs1 v0 v1 v2 v3 r0 r4 d0 d1 d2 d3
        have KR : Hid (Blk W2 (w.heap.size + 1 + 1 + 1 + 1 + 1) (g0 X) (g1 X) (g2 X) (g3 X)) := K2R
        obtain ⟨r0, r1, r2, r3, r4, r5, r6, r7⟩ := K2R
        obtain ⟨l0, l1, l2, l3, -, -, -, -⟩ := K2.out.2.1
        obtain ⟨c, ec⟩ : ∃ c : Int, Hid (cmpI X b = c) := ⟨_, rfl⟩
        by_cases hc : b ≤ X
        · have hc0 : 0 ≤ c := by rw [← ec.out]; unfold cmpI; split <;> (try split) <;> omega
          obtain ⟨y1, y2⟩ := st1 hc
          clear st1 st2
          go_wp2_with fail
          refine (rcompare_any X b _ hX0 hX1 (by omega) (by omega)).mono ?_
          rintro e w3 ⟨rfl, hb3⟩
          rw [ec.out]
          have hH : W2.drew.heap.size = W2.heap.size := rfl
          rw [hH] at hb3
          have hb4 : Below W2.heap.size W2 w3 := ⟨hb3.os, hb3.tape, hb3.output, hb3.size, hb3.block⟩
          have hB3 := hB2.trans (hb4.mono hB2.size)
          have hs3 := hb4.size
          have hs4 : w.heap.size + 1 + 1 + 1 + 1 + 1 < w3.heap.size := by omega
          have K3 : Hid (Blk w3 (w.heap.size) (g0 (a)) (g1 (a)) (g2 (a)) (g3 (a)) ∧ Blk w3 (w.heap.size + 1) (g0 (b)) (g1 (b)) (g2 (b)) (g3 (b)) ∧ Blk w3 (w.heap.size + 1 + 1 + 1 + 1) t0 t1 t2 t3 ∧ Blk w3 (w.heap.size + 1 + 1) 0 0 0 0 ∧ Blk w3 (w.heap.size + 1 + 1 + 1) 0 0 0 0) := by
            obtain ⟨u1, u2, u3, u4, u5⟩ := K2.out
            exact ⟨u1.below hb4 (by omega), u2.below hb4 (by omega), u3.below hb4 (by omega), u4.below hb4 (by omega), u5.below hb4 (by omega)⟩
          have K3R : Hid (Blk w3 (w.heap.size + 1 + 1 + 1 + 1 + 1) (g0 X) (g1 X) (g2 X) (g3 X)) := KR.out.below hb4 (by omega)
          clear hb3 hb4 hs3 hs2 hB2 K2 KR r0 r1 r2 r3 r4 r5 r6 r7 l0 l1 l2 l3 hH
          obtain ⟨r0, r1, r2, r3, -, -, -, -⟩ := K3R.out
          obtain ⟨l0, l1, l2, l3, -, -, -, -⟩ := K3.out.2.1
          go_wp2_with fail
          refine (rless_any X b _ (by omega) hc hX1).mono ?_
          rintro e w4 ⟨rfl, hb5⟩
          have hB4 := hB3.trans (hb5.mono hB3.size)
          have hs5 := hb5.size
          have K4 : Hid (Blk w4 (w.heap.size) (g0 (a)) (g1 (a)) (g2 (a)) (g3 (a)) ∧ Blk w4 (w.heap.size + 1) (g0 (b)) (g1 (b)) (g2 (b)) (g3 (b)) ∧ Blk w4 (w.heap.size + 1 + 1 + 1 + 1) t0 t1 t2 t3 ∧ Blk w4 (w.heap.size + 1 + 1) 0 0 0 0 ∧ Blk w4 (w.heap.size + 1 + 1 + 1) 0 0 0 0) := by
            obtain ⟨u1, u2, u3, u4, u5⟩ := K3.out
            exact ⟨u1.below hb5 (by omega), u2.below hb5 (by omega), u3.below hb5 (by omega), u4.below hb5 (by omega), u5.below hb5 (by omega)⟩
          have K4R : Hid (Blk w4 (w.heap.size + 1 + 1 + 1 + 1 + 1) (g0 X) (g1 X) (g2 X) (g3 X)) := K3R.out.below hb5 (by omega)
          have hs6 : w.heap.size + 1 + 1 + 1 + 1 + 1 < w4.heap.size := by omega
          clear hb5 hs5 hs4 hB3 K3 K3R r0 r1 r2 r3 l0 l1 l2 l3
          obtain ⟨r0, r1, r2, r3, r4, r5, r6, r7⟩ := K4R.out
          obtain ⟨l0, l1, l2, l3, l4, l5, l6, l7⟩ := K4.out.2.2.1
          obtain ⟨u1, u2, u3, u4, u5⟩ := K4.out
          have u6 := K4R.out
          go_wp2
          exact ⟨⟨32 + s, t0, (t1 + 2 ^ s), t2, t3, X - b, by omega, p0, q0, (by omega), y1, p2, q2, p3, q3, y2, ⟨i0 - 1, by have := HB.out; omega, rfl⟩, (by repeat' (first | (with_reducible exact Below.refl _ _) | (with_reducible assumption) | (with_reducible refine bdrewN _ ?_) | (with_reducible refine Below.alloc ?_ ?_ _) | (with_reducible refine Below.setCell ?_ ?_ _) | (with_reducible refine Below.drew ?_) | go_size | (simp; omega))), by simp; omega, (u1.other4 (by omega)).other (by omega), (u2.other4 (by omega)).other (by omega), (u3.other4 (by omega)).set1 _, (u6.four _ _ _ _).other (by omega), (u4.other4 (by omega)).other (by omega), (u5.other4 (by omega)).other (by omega)⟩, by simp [intOf]; omega⟩
        · have hc0 : (0 ≤ c) = False := by simp; rw [← ec.out]; unfold cmpI; split <;> (try split) <;> omega
          have hc1 : c < 0 := by simpa using hc0
          have y2 := st2 (by omega)
          clear st1 st2
          go_wp2_with fail
          refine (rcompare_any X b _ hX0 hX1 (by omega) (by omega)).mono ?_
          rintro e w3 ⟨rfl, hb3⟩
          rw [ec.out]
          obtain ⟨u1, u2, u3, u4, u5⟩ := K2.out
          have u6 := KR.out
          have hH : W2.drew.heap.size = W2.heap.size := rfl
          rw [hH] at hb3
          have hb4 : Below W2.heap.size W2 w3 := ⟨hb3.os, hb3.tape, hb3.output, hb3.size, hb3.block⟩
          have hB3 := hB2.trans (hb4.mono hB2.size)
          have hs3 := hb4.size
          go_wp2
          exact ⟨⟨32 + s, t0, t1, t2, t3, X, by omega, p0, q0, p1, q1, p2, q2, p3, q3, y2, ⟨i0 - 1, by have := HB.out; omega, rfl⟩, hB3, by omega, u1.below hb4 (by omega), u2.below hb4 (by omega), u3.below hb4 (by omega), u6.below hb4 (by omega), u4.below hb4 (by omega), u5.below hb4 (by omega)⟩, by simp [intOf]; omega⟩
      · obtain ⟨st1, st2⟩ := inv_step2 a b t0 t1 t2 t3 R s hs hb p2 q2 hI.out
        obtain ⟨bit, eB⟩ : ∃ bit : Int, g2 a / 2 ^ s % 2 = bit := ⟨_, rfl⟩
        have hb0 : 0 ≤ bit := by omega
        have hb1 : bit ≤ 1 := by omega
        obtain ⟨X, hX⟩ : ∃ X : Int, 2 * R + bit = X := ⟨_, rfl⟩
        have hX0 : 0 ≤ X := by omega
        have hX1 : X < 340282366920938463463374607431768211456 := by omega
        rw [eB, hX] at st1 st2
        have e1 : i0 / 32 = 2 := by omega
        have e3 : i0 % 32 = (s : Int) := by omega
        have e2 : IntKind.i64.wrap (i0.tdiv 32) = 2 := by rw [Int.tdiv_eq_ediv_of_nonneg hi1, e1]; rfl
        have e4 : IntKind.i64.wrap (i0.tmod 32) = (s : Int) := by rw [Int.tmod_eq_emod_of_nonneg hi1, e3]; go_arith
        obtain ⟨d0, d1, d2, d3⟩ := dig_bit R bit hb0 hb1
        rw [hX] at d0 d1 d2 d3
        have HB : Hid (i0 = (64 + s + 1 : Nat) - 1) := hi0
        clear hi0
        have K : Hid (Blk wr (w.heap.size) (g0 (a)) (g1 (a)) (g2 (a)) (g3 (a)) ∧ Blk wr (w.heap.size + 1) (g0 (b)) (g1 (b)) (g2 (b)) (g3 (b)) ∧ Blk wr (w.heap.size + 1 + 1 + 1 + 1) t0 t1 t2 t3 ∧ Blk wr (w.heap.size + 1 + 1) 0 0 0 0 ∧ Blk wr (w.heap.size + 1 + 1 + 1) 0 0 0 0) := ⟨kA, kB, kT, kX, kY⟩
        clear kA kB kT kX kY
        obtain ⟨kR0, kR1, kR2, kR3, kR4, kR5, kR6, kR7⟩ := kR
        go_wp2_with fail
        refine (rplus_any R R _ hR0 hR0 (by omega)).mono ?_
        rintro e w1 ⟨rfl, hb1⟩
        obtain ⟨n0, n1, n2, n3⟩ := (⟨bcl2 hb1 kR0 (by simp; omega), bcl2 hb1 kR1 (by simp; omega), bcl2 hb1 kR2 (by simp; omega), bcl2 hb1 kR3 (by simp; omega)⟩ : w1.cell? ⟨w.heap.size + 1 + 1 + 1 + 1 + 1, 0, none⟩ = some (.int .u64 (g0 R)) ∧ w1.cell? ⟨w.heap.size + 1 + 1 + 1 + 1 + 1, 1, none⟩ = some (.int .u64 (g1 R)) ∧ w1.cell? ⟨w.heap.size + 1 + 1 + 1 + 1 + 1, 2, none⟩ = some (.int .u64 (g2 R)) ∧ w1.cell? ⟨w.heap.size + 1 + 1 + 1 + 1 + 1, 3, none⟩ = some (.int .u64 (g3 R)))
        obtain ⟨f0, f1, f2, f3⟩ := (⟨bfr2 hb1 kR4 (by simp; omega), bfr2 hb1 kR5 (by simp; omega), bfr2 hb1 kR6 (by simp; omega), bfr2 hb1 kR7 (by simp; omega)⟩ : w1.frozen? ⟨w.heap.size + 1 + 1 + 1 + 1 + 1, 0, none⟩ = false ∧ w1.frozen? ⟨w.heap.size + 1 + 1 + 1 + 1 + 1, 1, none⟩ = false ∧ w1.frozen? ⟨w.heap.size + 1 + 1 + 1 + 1 + 1, 2, none⟩ = false ∧ w1.frozen? ⟨w.heap.size + 1 + 1 + 1 + 1 + 1, 3, none⟩ = false)
        go_wp2_with fail
        refine wp_world ?_
        intro W1 hW1
        have K1 : Blk W1 (w.heap.size) (g0 (a)) (g1 (a)) (g2 (a)) (g3 (a)) ∧ Blk W1 (w.heap.size + 1) (g0 (b)) (g1 (b)) (g2 (b)) (g3 (b)) ∧ Blk W1 (w.heap.size + 1 + 1 + 1 + 1) t0 t1 t2 t3 ∧ Blk W1 (w.heap.size + 1 + 1) 0 0 0 0 ∧ Blk W1 (w.heap.size + 1 + 1 + 1) 0 0 0 0 := by
          obtain ⟨u1, u2, u3, u4, u5⟩ := K.out
          rw [hW1]
          exact ⟨(u1.below hb1 (by omega)).other4 (by omega), (u2.below hb1 (by omega)).other4 (by omega), (u3.below hb1 (by omega)).other4 (by omega), (u4.below hb1 (by omega)).other4 (by omega), (u5.below hb1 (by omega)).other4 (by omega)⟩
        have K1R : Blk W1 (w.heap.size + 1 + 1 + 1 + 1 + 1) (g0 (R + R)) (g1 X) (g2 X) (g3 X) := by
          rw [hW1]; exact Blk.four ⟨n0, n1, n2, n3, f0, f1, f2, f3⟩ _ _ _ _
        have hB1 : Below w.heap.size w W1 := by
          have := hBw.trans (hb1.mono hBw.size)
          rw [hW1]; repeat' (first | (with_reducible exact Below.refl _ _) | (with_reducible assumption) | (with_reducible refine bdrewN _ ?_) | (with_reducible refine Below.alloc ?_ ?_ _) | (with_reducible refine Below.setCell ?_ ?_ _) | (with_reducible refine Below.drew ?_) | go_size | (simp; omega))
        have hs1 : w.heap.size + 1 + 1 + 1 + 1 + 1 < W1.heap.size := by
          have := hb1.size
          rw [hW1]; simp; omega
        clear hW1 n0 n1 n2 n3 f0 f1 f2 f3 kR0 kR1 kR2 kR3 kR4 kR5 kR6 kR7 hb1 K hBw hsz
        have KK : Hid (Blk W1 (w.heap.size) (g0 (a)) (g1 (a)) (g2 (a)) (g3 (a)) ∧ Blk W1 (w.heap.size + 1) (g0 (b)) (g1 (b)) (g2 (b)) (g3 (b)) ∧ Blk W1 (w.heap.size + 1 + 1 + 1 + 1) t0 t1 t2 t3 ∧ Blk W1 (w.heap.size + 1 + 1) 0 0 0 0 ∧ Blk W1 (w.heap.size + 1 + 1 + 1) 0 0 0 0) := K1
        have KR : Hid (Blk W1 (w.heap.size + 1 + 1 + 1 + 1 + 1) (g0 (R + R)) (g1 X) (g2 X) (g3 X)) := K1R
        obtain ⟨⟨v0, v1, v2, v3, -, -, -, -⟩, -⟩ := K1
        obtain ⟨r0, -, -, -, r4, -, -, -⟩ := K1R
        go_region
        generalize hW : World.setCell _ _ _ = W2
        have ev : IntKind.u64.wrap (g0 (R + R) + (g2 a / 2 ^ s).tmod 2) = g0 X := by
          have e := g2_bd a
          have : 0 ≤ g2 a / 2 ^ s := Int.ediv_nonneg e.1 (by omega)
          rw [Int.tmod_eq_emod_of_nonneg this, eB, d0]
          have := g0_bd X
          rw [IntKind.wrap_u64]; omega
        have K2R : Blk W2 (w.heap.size + 1 + 1 + 1 + 1 + 1) (g0 X) (g1 X) (g2 X) (g3 X) := by
          rw [← hW, ev]; exact KR.out.set0 _
        have K2 : Hid (Blk W2 (w.heap.size) (g0 (a)) (g1 (a)) (g2 (a)) (g3 (a)) ∧ Blk W2 (w.heap.size + 1) (g0 (b)) (g1 (b)) (g2 (b)) (g3 (b)) ∧ Blk W2 (w.heap.size + 1 + 1 + 1 + 1) t0 t1 t2 t3 ∧ Blk W2 (w.heap.size + 1 + 1) 0 0 0 0 ∧ Blk W2 (w.heap.size + 1 + 1 + 1) 0 0 0 0) := by
          obtain ⟨u1, u2, u3, u4, u5⟩ := KK.out
          rw [← hW]
          exact ⟨u1.other (by omega), u2.other (by omega), u3.other (by omega), u4.other (by omega), u5.other (by omega)⟩
        have hB2 : Below w.heap.size w W2 := by rw [← hW]; repeat' (first | (with_reducible exact Below.refl _ _) | (with_reducible assumption) | (with_reducible refine bdrewN _ ?_) | (with_reducible refine Below.alloc ?_ ?_ _) | (with_reducible refine Below.setCell ?_ ?_ _) | (with_reducible refine Below.drew ?_) | go_size | (simp; omega))
        have hs2 : w.heap.size + 1 + 1 + 1 + 1 + 1 < W2.heap.size := by rw [← hW]; simp; omega
        clear hW ev KK KR hB1 hs1 v0 v1 v2 v3 r0 r4 d0 d1 d2 d3
        have KR : Hid (Blk W2 (w.heap.size + 1 + 1 + 1 + 1 + 1) (g0 X) (g1 X) (g2 X) (g3 X)) := K2R
        obtain ⟨r0, r1, r2, r3, r4, r5, r6, r7⟩ := K2R
        obtain ⟨l0, l1, l2, l3, -, -, -, -⟩ := K2.out.2.1
        obtain ⟨c, ec⟩ : ∃ c : Int, Hid (cmpI X b = c) := ⟨_, rfl⟩
        by_cases hc : b ≤ X
        · have hc0 : 0 ≤ c := by rw [← ec.out]; unfold cmpI; split <;> (try split) <;> omega
          obtain ⟨y1, y2⟩ := st1 hc
          clear st1 st2
          go_wp2_with fail
          refine (rcompare_any X b _ hX0 hX1 (by omega) (by omega)).mono ?_
          rintro e w3 ⟨rfl, hb3⟩
          rw [ec.out]
          have hH : W2.drew.heap.size = W2.heap.size := rfl
          rw [hH] at hb3
          have hb4 : Below W2.heap.size W2 w3 := ⟨hb3.os, hb3.tape, hb3.output, hb3.size, hb3.block⟩
          have hB3 := hB2.trans (hb4.mono hB2.size)
          have hs3 := hb4.size
          have hs4 : w.heap.size + 1 + 1 + 1 + 1 + 1 < w3.heap.size := by omega
          have K3 : Hid (Blk w3 (w.heap.size) (g0 (a)) (g1 (a)) (g2 (a)) (g3 (a)) ∧ Blk w3 (w.heap.size + 1) (g0 (b)) (g1 (b)) (g2 (b)) (g3 (b)) ∧ Blk w3 (w.heap.size + 1 + 1 + 1 + 1) t0 t1 t2 t3 ∧ Blk w3 (w.heap.size + 1 + 1) 0 0 0 0 ∧ Blk w3 (w.heap.size + 1 + 1 + 1) 0 0 0 0) := by
            obtain ⟨u1, u2, u3, u4, u5⟩ := K2.out
            exact ⟨u1.below hb4 (by omega), u2.below hb4 (by omega), u3.below hb4 (by omega), u4.below hb4 (by omega), u5.below hb4 (by omega)⟩
          have K3R : Hid (Blk w3 (w.heap.size + 1 + 1 + 1 + 1 + 1) (g0 X) (g1 X) (g2 X) (g3 X)) := KR.out.below hb4 (by omega)
          clear hb3 hb4 hs3 hs2 hB2 K2 KR r0 r1 r2 r3 r4 r5 r6 r7 l0 l1 l2 l3 hH
          obtain ⟨r0, r1, r2, r3, -, -, -, -⟩ := K3R.out
          obtain ⟨l0, l1, l2, l3, -, -, -, -⟩ := K3.out.2.1
          go_wp2_with fail
          refine (rless_any X b _ (by omega) hc hX1).mono ?_
          rintro e w4 ⟨rfl, hb5⟩
          have hB4 := hB3.trans (hb5.mono hB3.size)
          have hs5 := hb5.size
          have K4 : Hid (Blk w4 (w.heap.size) (g0 (a)) (g1 (a)) (g2 (a)) (g3 (a)) ∧ Blk w4 (w.heap.size + 1) (g0 (b)) (g1 (b)) (g2 (b)) (g3 (b)) ∧ Blk w4 (w.heap.size + 1 + 1 + 1 + 1) t0 t1 t2 t3 ∧ Blk w4 (w.heap.size + 1 + 1) 0 0 0 0 ∧ Blk w4 (w.heap.size + 1 + 1 + 1) 0 0 0 0) := by
            obtain ⟨u1, u2, u3, u4, u5⟩ := K3.out
            exact ⟨u1.below hb5 (by omega), u2.below hb5 (by omega), u3.below hb5 (by omega), u4.below hb5 (by omega), u5.below hb5 (by omega)⟩
          have K4R : Hid (Blk w4 (w.heap.size + 1 + 1 + 1 + 1 + 1) (g0 X) (g1 X) (g2 X) (g3 X)) := K3R.out.below hb5 (by omega)
          have hs6 : w.heap.size + 1 + 1 + 1 + 1 + 1 < w4.heap.size := by omega
          clear hb5 hs5 hs4 hB3 K3 K3R r0 r1 r2 r3 l0 l1 l2 l3
          obtain ⟨r0, r1, r2, r3, r4, r5, r6, r7⟩ := K4R.out
          obtain ⟨l0, l1, l2, l3, l4, l5, l6, l7⟩ := K4.out.2.2.1
          obtain ⟨u1, u2, u3, u4, u5⟩ := K4.out
          have u6 := K4R.out
          go_wp2
          exact ⟨⟨64 + s, t0, t1, (t2 + 2 ^ s), t3, X - b, by omega, p0, q0, p1, q1, (by omega), y1, p3, q3, y2, ⟨i0 - 1, by have := HB.out; omega, rfl⟩, (by repeat' (first | (with_reducible exact Below.refl _ _) | (with_reducible assumption) | (with_reducible refine bdrewN _ ?_) | (with_reducible refine Below.alloc ?_ ?_ _) | (with_reducible refine Below.setCell ?_ ?_ _) | (with_reducible refine Below.drew ?_) | go_size | (simp; omega))), by simp; omega, (u1.other4 (by omega)).other (by omega), (u2.other4 (by omega)).other (by omega), (u3.other4 (by omega)).set2 _, (u6.four _ _ _ _).other (by omega), (u4.other4 (by omega)).other (by omega), (u5.other4 (by omega)).other (by omega)⟩, by simp [intOf]; omega⟩
        · have hc0 : (0 ≤ c) = False := by simp; rw [← ec.out]; unfold cmpI; split <;> (try split) <;> omega
          have hc1 : c < 0 := by simpa using hc0
          have y2 := st2 (by omega)
          clear st1 st2
          go_wp2_with fail
          refine (rcompare_any X b _ hX0 hX1 (by omega) (by omega)).mono ?_
          rintro e w3 ⟨rfl, hb3⟩
          rw [ec.out]
          obtain ⟨u1, u2, u3, u4, u5⟩ := K2.out
          have u6 := KR.out
          have hH : W2.drew.heap.size = W2.heap.size := rfl
          rw [hH] at hb3
          have hb4 : Below W2.heap.size W2 w3 := ⟨hb3.os, hb3.tape, hb3.output, hb3.size, hb3.block⟩
          have hB3 := hB2.trans (hb4.mono hB2.size)
          have hs3 := hb4.size
          go_wp2
          exact ⟨⟨64 + s, t0, t1, t2, t3, X, by omega, p0, q0, p1, q1, p2, q2, p3, q3, y2, ⟨i0 - 1, by have := HB.out; omega, rfl⟩, hB3, by omega, u1.below hb4 (by omega), u2.below hb4 (by omega), u3.below hb4 (by omega), u6.below hb4 (by omega), u4.below hb4 (by omega), u5.below hb4 (by omega)⟩, by simp [intOf]; omega⟩
      · obtain ⟨st1, st2⟩ := inv_step3 a b t0 t1 t2 t3 R s hs hb p3 q3 hI.out
        obtain ⟨bit, eB⟩ : ∃ bit : Int, g3 a / 2 ^ s % 2 = bit := ⟨_, rfl⟩
        have hb0 : 0 ≤ bit := by omega
        have hb1 : bit ≤ 1 := by omega
        obtain ⟨X, hX⟩ : ∃ X : Int, 2 * R + bit = X := ⟨_, rfl⟩
        have hX0 : 0 ≤ X := by omega
        have hX1 : X < 340282366920938463463374607431768211456 := by omega
        rw [eB, hX] at st1 st2
        have e1 : i0 / 32 = 3 := by omega
        have e3 : i0 % 32 = (s : Int) := by omega
        have e2 : IntKind.i64.wrap (i0.tdiv 32) = 3 := by rw [Int.tdiv_eq_ediv_of_nonneg hi1, e1]; rfl
        have e4 : IntKind.i64.wrap (i0.tmod 32) = (s : Int) := by rw [Int.tmod_eq_emod_of_nonneg hi1, e3]; go_arith
        obtain ⟨d0, d1, d2, d3⟩ := dig_bit R bit hb0 hb1
        rw [hX] at d0 d1 d2 d3
        have HB : Hid (i0 = (96 + s + 1 : Nat) - 1) := hi0
        clear hi0
        have K : Hid (Blk wr (w.heap.size) (g0 (a)) (g1 (a)) (g2 (a)) (g3 (a)) ∧ Blk wr (w.heap.size + 1) (g0 (b)) (g1 (b)) (g2 (b)) (g3 (b)) ∧ Blk wr (w.heap.size + 1 + 1 + 1 + 1) t0 t1 t2 t3 ∧ Blk wr (w.heap.size + 1 + 1) 0 0 0 0 ∧ Blk wr (w.heap.size + 1 + 1 + 1) 0 0 0 0) := ⟨kA, kB, kT, kX, kY⟩
        clear kA kB kT kX kY
        obtain ⟨kR0, kR1, kR2, kR3, kR4, kR5, kR6, kR7⟩ := kR
        go_wp2_with fail
        refine (rplus_any R R _ hR0 hR0 (by omega)).mono ?_
        rintro e w1 ⟨rfl, hb1⟩
        obtain ⟨n0, n1, n2, n3⟩ := (⟨bcl2 hb1 kR0 (by simp; omega), bcl2 hb1 kR1 (by simp; omega), bcl2 hb1 kR2 (by simp; omega), bcl2 hb1 kR3 (by simp; omega)⟩ : w1.cell? ⟨w.heap.size + 1 + 1 + 1 + 1 + 1, 0, none⟩ = some (.int .u64 (g0 R)) ∧ w1.cell? ⟨w.heap.size + 1 + 1 + 1 + 1 + 1, 1, none⟩ = some (.int .u64 (g1 R)) ∧ w1.cell? ⟨w.heap.size + 1 + 1 + 1 + 1 + 1, 2, none⟩ = some (.int .u64 (g2 R)) ∧ w1.cell? ⟨w.heap.size + 1 + 1 + 1 + 1 + 1, 3, none⟩ = some (.int .u64 (g3 R)))
        obtain ⟨f0, f1, f2, f3⟩ := (⟨bfr2 hb1 kR4 (by simp; omega), bfr2 hb1 kR5 (by simp; omega), bfr2 hb1 kR6 (by simp; omega), bfr2 hb1 kR7 (by simp; omega)⟩ : w1.frozen? ⟨w.heap.size + 1 + 1 + 1 + 1 + 1, 0, none⟩ = false ∧ w1.frozen? ⟨w.heap.size + 1 + 1 + 1 + 1 + 1, 1, none⟩ = false ∧ w1.frozen? ⟨w.heap.size + 1 + 1 + 1 + 1 + 1, 2, none⟩ = false ∧ w1.frozen? ⟨w.heap.size + 1 + 1 + 1 + 1 + 1, 3, none⟩ = false)
        go_wp2_with fail
        refine wp_world ?_
        intro W1 hW1
        have K1 : Blk W1 (w.heap.size) (g0 (a)) (g1 (a)) (g2 (a)) (g3 (a)) ∧ Blk W1 (w.heap.size + 1) (g0 (b)) (g1 (b)) (g2 (b)) (g3 (b)) ∧ Blk W1 (w.heap.size + 1 + 1 + 1 + 1) t0 t1 t2 t3 ∧ Blk W1 (w.heap.size + 1 + 1) 0 0 0 0 ∧ Blk W1 (w.heap.size + 1 + 1 + 1) 0 0 0 0 := by
          obtain ⟨u1, u2, u3, u4, u5⟩ := K.out
          rw [hW1]
          exact ⟨(u1.below hb1 (by omega)).other4 (by omega), (u2.below hb1 (by omega)).other4 (by omega), (u3.below hb1 (by omega)).other4 (by omega), (u4.below hb1 (by omega)).other4 (by omega), (u5.below hb1 (by omega)).other4 (by omega)⟩
        have K1R : Blk W1 (w.heap.size + 1 + 1 + 1 + 1 + 1) (g0 (R + R)) (g1 X) (g2 X) (g3 X) := by
          rw [hW1]; exact Blk.four ⟨n0, n1, n2, n3, f0, f1, f2, f3⟩ _ _ _ _
        have hB1 : Below w.heap.size w W1 := by
          have := hBw.trans (hb1.mono hBw.size)
          rw [hW1]; repeat' (first | (with_reducible exact Below.refl _ _) | (with_reducible assumption) | (with_reducible refine bdrewN _ ?_) | (with_reducible refine Below.alloc ?_ ?_ _) | (with_reducible refine Below.setCell ?_ ?_ _) | (with_reducible refine Below.drew ?_) | go_size | (simp; omega))
        have hs1 : w.heap.size + 1 + 1 + 1 + 1 + 1 < W1.heap.size := by
          have := hb1.size
          rw [hW1]; simp; omega
        clear hW1 n0 n1 n2 n3 f0 f1 f2 f3 kR0 kR1 kR2 kR3 kR4 kR5 kR6 kR7 hb1 K hBw hsz
        have KK : Hid (Blk W1 (w.heap.size) (g0 (a)) (g1 (a)) (g2 (a)) (g3 (a)) ∧ Blk W1 (w.heap.size + 1) (g0 (b)) (g1 (b)) (g2 (b)) (g3 (b)) ∧ Blk W1 (w.heap.size + 1 + 1 + 1 + 1) t0 t1 t2 t3 ∧ Blk W1 (w.heap.size + 1 + 1) 0 0 0 0 ∧ Blk W1 (w.heap.size + 1 + 1 + 1) 0 0 0 0) := K1
        have KR : Hid (Blk W1 (w.heap.size + 1 + 1 + 1 + 1 + 1) (g0 (R + R)) (g1 X) (g2 X) (g3 X)) := K1R
        obtain ⟨⟨v0, v1, v2, v3, -, -, -, -⟩, -⟩ := K1
        obtain ⟨r0, -, -, -, r4, -, -, -⟩ := K1R
        go_region
        generalize hW : World.setCell _ _ _ = W2
        have ev : IntKind.u64.wrap (g0 (R + R) + (g3 a / 2 ^ s).tmod 2) = g0 X := by
          have e := g3_bd a
          have : 0 ≤ g3 a / 2 ^ s := Int.ediv_nonneg e.1 (by omega)
          rw [Int.tmod_eq_emod_of_nonneg this, eB, d0]
          have := g0_bd X
          rw [IntKind.wrap_u64]; omega
        have K2R : Blk W2 (w.heap.size + 1 + 1 + 1 + 1 + 1) (g0 X) (g1 X) (g2 X) (g3 X) := by
          rw [← hW, ev]; exact KR.out.set0 _
        have K2 : Hid (Blk W2 (w.heap.size) (g0 (a)) (g1 (a)) (g2 (a)) (g3 (a)) ∧ Blk W2 (w.heap.size + 1) (g0 (b)) (g1 (b)) (g2 (b)) (g3 (b)) ∧ Blk W2 (w.heap.size + 1 + 1 + 1 + 1) t0 t1 t2 t3 ∧ Blk W2 (w.heap.size + 1 + 1) 0 0 0 0 ∧ Blk W2 (w.heap.size + 1 + 1 + 1) 0 0 0 0) := by
          obtain ⟨u1, u2, u3, u4, u5⟩ := KK.out
          rw [← hW]
          exact ⟨u1.other (by omega), u2.other (by omega), u3.other (by omega), u4.other (by omega), u5.other (by omega)⟩
        have hB2 : Below w.heap.size w W2 := by rw [← hW]; repeat' (first | (with_reducible exact Below.refl _ _) | (with_reducible assumption) | (with_reducible refine bdrewN _ ?_) | (with_reducible refine Below.alloc ?_ ?_ _) | (with_reducible refine Below.setCell ?_ ?_ _) | (with_reducible refine Below.drew ?_) | go_size | (simp; omega))
        have hs2 : w.heap.size + 1 + 1 + 1 + 1 + 1 < W2.heap.size := by rw [← hW]; simp; omega
        clear hW ev KK KR hB1 hs1 v0 v1 v2 v3 r0 r4 d0 d1 d2 d3
        have KR : Hid (Blk W2 (w.heap.size + 1 + 1 + 1 + 1 + 1) (g0 X) (g1 X) (g2 X) (g3 X)) := K2R
        obtain ⟨r0, r1, r2, r3, r4, r5, r6, r7⟩ := K2R
        obtain ⟨l0, l1, l2, l3, -, -, -, -⟩ := K2.out.2.1
        obtain ⟨c, ec⟩ : ∃ c : Int, Hid (cmpI X b = c) := ⟨_, rfl⟩
        by_cases hc : b ≤ X
        · have hc0 : 0 ≤ c := by rw [← ec.out]; unfold cmpI; split <;> (try split) <;> omega
          obtain ⟨y1, y2⟩ := st1 hc
          clear st1 st2
          go_wp2_with fail
          refine (rcompare_any X b _ hX0 hX1 (by omega) (by omega)).mono ?_
          rintro e w3 ⟨rfl, hb3⟩
          rw [ec.out]
          have hH : W2.drew.heap.size = W2.heap.size := rfl
          rw [hH] at hb3
          have hb4 : Below W2.heap.size W2 w3 := ⟨hb3.os, hb3.tape, hb3.output, hb3.size, hb3.block⟩
          have hB3 := hB2.trans (hb4.mono hB2.size)
          have hs3 := hb4.size
          have hs4 : w.heap.size + 1 + 1 + 1 + 1 + 1 < w3.heap.size := by omega
          have K3 : Hid (Blk w3 (w.heap.size) (g0 (a)) (g1 (a)) (g2 (a)) (g3 (a)) ∧ Blk w3 (w.heap.size + 1) (g0 (b)) (g1 (b)) (g2 (b)) (g3 (b)) ∧ Blk w3 (w.heap.size + 1 + 1 + 1 + 1) t0 t1 t2 t3 ∧ Blk w3 (w.heap.size + 1 + 1) 0 0 0 0 ∧ Blk w3 (w.heap.size + 1 + 1 + 1) 0 0 0 0) := by
            obtain ⟨u1, u2, u3, u4, u5⟩ := K2.out
            exact ⟨u1.below hb4 (by omega), u2.below hb4 (by omega), u3.below hb4 (by omega), u4.below hb4 (by omega), u5.below hb4 (by omega)⟩
          have K3R : Hid (Blk w3 (w.heap.size + 1 + 1 + 1 + 1 + 1) (g0 X) (g1 X) (g2 X) (g3 X)) := KR.out.below hb4 (by omega)
          clear hb3 hb4 hs3 hs2 hB2 K2 KR r0 r1 r2 r3 r4 r5 r6 r7 l0 l1 l2 l3 hH
          obtain ⟨r0, r1, r2, r3, -, -, -, -⟩ := K3R.out
          obtain ⟨l0, l1, l2, l3, -, -, -, -⟩ := K3.out.2.1
          go_wp2_with fail
          refine (rless_any X b _ (by omega) hc hX1).mono ?_
          rintro e w4 ⟨rfl, hb5⟩
          have hB4 := hB3.trans (hb5.mono hB3.size)
          have hs5 := hb5.size
          have K4 : Hid (Blk w4 (w.heap.size) (g0 (a)) (g1 (a)) (g2 (a)) (g3 (a)) ∧ Blk w4 (w.heap.size + 1) (g0 (b)) (g1 (b)) (g2 (b)) (g3 (b)) ∧ Blk w4 (w.heap.size + 1 + 1 + 1 + 1) t0 t1 t2 t3 ∧ Blk w4 (w.heap.size + 1 + 1) 0 0 0 0 ∧ Blk w4 (w.heap.size + 1 + 1 + 1) 0 0 0 0) := by
            obtain ⟨u1, u2, u3, u4, u5⟩ := K3.out
            exact ⟨u1.below hb5 (by omega), u2.below hb5 (by omega), u3.below hb5 (by omega), u4.below hb5 (by omega), u5.below hb5 (by omega)⟩
          have K4R : Hid (Blk w4 (w.heap.size + 1 + 1 + 1 + 1 + 1) (g0 X) (g1 X) (g2 X) (g3 X)) := K3R.out.below hb5 (by omega)
          have hs6 : w.heap.size + 1 + 1 + 1 + 1 + 1 < w4.heap.size := by omega
          clear hb5 hs5 hs4 hB3 K3 K3R r0 r1 r2 r3 l0 l1 l2 l3
          obtain ⟨r0, r1, r2, r3, r4, r5, r6, r7⟩ := K4R.out
          obtain ⟨l0, l1, l2, l3, l4, l5, l6, l7⟩ := K4.out.2.2.1
          obtain ⟨u1, u2, u3, u4, u5⟩ := K4.out
          have u6 := K4R.out
          go_wp2
          exact ⟨⟨96 + s, t0, t1, t2, (t3 + 2 ^ s), X - b, by omega, p0, q0, p1, q1, p2, q2, (by omega), y1, y2, ⟨i0 - 1, by have := HB.out; omega, rfl⟩, (by repeat' (first | (with_reducible exact Below.refl _ _) | (with_reducible assumption) | (with_reducible refine bdrewN _ ?_) | (with_reducible refine Below.alloc ?_ ?_ _) | (with_reducible refine Below.setCell ?_ ?_ _) | (with_reducible refine Below.drew ?_) | go_size | (simp; omega))), by simp; omega, (u1.other4 (by omega)).other (by omega), (u2.other4 (by omega)).other (by omega), (u3.other4 (by omega)).set3 _, (u6.four _ _ _ _).other (by omega), (u4.other4 (by omega)).other (by omega), (u5.other4 (by omega)).other (by omega)⟩, by simp [intOf]; omega⟩
        · have hc0 : (0 ≤ c) = False := by simp; rw [← ec.out]; unfold cmpI; split <;> (try split) <;> omega
          have hc1 : c < 0 := by simpa using hc0
          have y2 := st2 (by omega)
          clear st1 st2
          go_wp2_with fail
          refine (rcompare_any X b _ hX0 hX1 (by omega) (by omega)).mono ?_
          rintro e w3 ⟨rfl, hb3⟩
          rw [ec.out]
          obtain ⟨u1, u2, u3, u4, u5⟩ := K2.out
          have u6 := KR.out
          have hH : W2.drew.heap.size = W2.heap.size := rfl
          rw [hH] at hb3
          have hb4 : Below W2.heap.size W2 w3 := ⟨hb3.os, hb3.tape, hb3.output, hb3.size, hb3.block⟩
          have hB3 := hB2.trans (hb4.mono hB2.size)
          have hs3 := hb4.size
          go_wp2
          exact ⟨⟨96 + s, t0, t1, t2, t3, X, by omega, p0, q0, p1, q1, p2, q2, p3, q3, y2, ⟨i0 - 1, by have := HB.out; omega, rfl⟩, hB3, by omega, u1.below hb4 (by omega), u2.below hb4 (by omega), u3.below hb4 (by omega), u6.below hb4 (by omega), u4.below hb4 (by omega), u5.below hb4 (by omega)⟩, by simp [intOf]; omega⟩

end Go.Proofs.YteipohpfaofchabGreat

namespace Go.Proofs.YteipohpfaofchabGreat
open Go.RowKit

set_option maxRecDepth 100000 in
/-- '==' between two rows of four digits. -/
theorem eq_dig (w : World) (x0 x1 x2 x3 y0 y1 y2 y3 : Int) :
    Sem.run Tryz.prog (Op.equalIn 9999 161 (.agg #[.int .u64 x0, .int .u64 x1, .int .u64 x2, .int .u64 x3]) (.agg #[.int .u64 y0, .int .u64 y1, .int .u64 y2, .int .u64 y3])) w = .ok (x0 == y0 && (x1 == y1 && (x2 == y2 && x3 == y3))) w := by
  have hp : Tryz.prog.plainKey 119 = true := by kernel_rfl
  have hc : Tryz.prog.cellsOf 119 = 1 := by kernel_rfl
  obtain ⟨i, hi⟩ : ∃ i, Tryz.prog.info? 119 = some i := ⟨_, rfl⟩
  have P0 : ∀ (xs : Array Value) (o : Nat) (a : Value), xs[o]? = some a → (part 119 xs o).run Tryz.prog w = .ok a w := fun xs o a h => run_part_plain w hp h
  have E0 : ∀ a b : Int, (Op.equalIn 9998 119 (.int .u64 a) (.int .u64 b)).run Tryz.prog w = .ok (a == b) w := fun a b => run_equalIn_int w 9997 _ _ _ a b Tryz.underlying119
  rw [run_equalIn_array w 9998 _ _ Tryz.underlying161 hi, hc]
  simp only [show List.range 4 = [0, 1, 2, 3] from rfl, Op.eqItems, Sem.run_bind, Nat.mul_one]
  rw [P0 _ 0 (.int .u64 x0) rfl, Result.andThen_ok, P0 _ 0 (.int .u64 y0) rfl, Result.andThen_ok, E0, Result.andThen_ok]
  by_cases h0 : x0 = y0
  · by_cases h1 : x1 = y1
    · by_cases h2 : x2 = y2
      · by_cases h3 : x3 = y3
        · simp [h0, h1, h2, h3, P0, E0]
        · simp [h0, h1, h2, h3, P0, E0]
      · simp [h0, h1, h2, P0, E0]
    · simp [h0, h1, P0, E0]
  · simp [h0]

theorem eq_digT (w : World) (x0 x1 x2 x3 : Int) :
    Sem.run Tryz.prog (Op.equalIn 9999 161 (.agg #[.int .u64 x0, .int .u64 x1, .int .u64 x2, .int .u64 x3]) (.agg #[.int .u64 x0, .int .u64 x1, .int .u64 x2, .int .u64 x3])) w = .ok true w := by
  rw [eq_dig]; simp
theorem eq_digF (w : World) (x0 x1 x2 x3 y0 y1 y2 y3 : Int) (h : ¬ (x0 = y0 ∧ x1 = y1 ∧ x2 = y2 ∧ x3 = y3)) :
    Sem.run Tryz.prog (Op.equalIn 9999 161 (.agg #[.int .u64 x0, .int .u64 x1, .int .u64 x2, .int .u64 x3]) (.agg #[.int .u64 y0, .int .u64 y1, .int .u64 y2, .int .u64 y3])) w = .ok false w := by
  rw [eq_dig]
  have : (x0 == y0 && (x1 == y1 && (x2 == y2 && x3 == y3))) = false := by simpa using h
  rw [this]

/-- The number that lies in a block of four digits. -/
def cellI (W : World) (B o : Nat) : Int := match W.cell? ⟨B, o, none⟩ with | some v => intOf v | none => 0
def bigAt (W : World) (B : Nat) : Nat := (cellI W B 0 + cellI W B 1 * 4294967296 + cellI W B 2 * 18446744073709551616 + cellI W B 3 * 79228162514264337593543950336).toNat
theorem Blk.big {W : World} {B : Nat} {x : Int} (h : Blk W B (g0 x) (g1 x) (g2 x) (g3 x)) (h0 : 0 ≤ x) (h1 : x < 340282366920938463463374607431768211456) : bigAt W B = x.toNat := by
  obtain ⟨c0, c1, c2, c3, -, -, -, -⟩ := h
  have e := g_sum x h0 h1
  simp only [bigAt, cellI, c0, c1, c2, c3, intOf]
  rw [← e]

theorem g_zero : g0 0 = 0 ∧ g1 0 = 0 ∧ g2 0 = 0 ∧ g3 0 = 0 := by decide
theorem g_pos (x : Int) (h0 : 0 ≤ x) (h1 : x < 340282366920938463463374607431768211456) (h : x ≠ 0) : ¬ (g0 x = 0 ∧ g1 x = 0 ∧ g2 x = 0 ∧ g3 x = 0) := by
  unfold g0 g1 g2 g3; omega
theorem Blk.fresh {W : World} {T : TypeId} {x0 x1 x2 x3 : Int} : Blk (W.alloc (.cells #[.int .u64 x0, .int .u64 x1, .int .u64 x2, .int .u64 x3] T)) W.heap.size x0 x1 x2 x3 := by
  constructor <;> simp (maxDischargeDepth := 12) [go_sem]
theorem Blk.alloc {W : World} {B : Nat} {O : Obj} {x0 x1 x2 x3 : Int} (h : Blk W B x0 x1 x2 x3) (hB : B < W.heap.size) : Blk (W.alloc O) B x0 x1 x2 x3 :=
  h.below (n := W.heap.size) ⟨rfl, rfl, rfl, by simp, fun k hk => Below.heap_alloc _ _ _ (by omega)⟩ hB

set_option maxRecDepth 100000 in
set_option maxHeartbeats 4000000 in
theorem rcommon_any (a b : Int) (w : World) (ha : 0 ≤ a) (ha' : a < 340282366920938463463374607431768211456) (hb : 0 ≤ b) (hb' : b ≤ 170141183460469231731687303715884105728) :
    Calls Tryz.prog 171 #[.agg #[.int .u64 (g0 a), .int .u64 (g1 a), .int .u64 (g2 a), .int .u64 (g3 a)], .agg #[.int .u64 (g0 b), .int .u64 (g1 b), .int .u64 (g2 b), .int .u64 (g3 b)]] w fun e w' => e = .returned (.agg #[.int .u64 (g0 (gc a b)), .int .u64 (g1 (gc a b)), .int .u64 (g2 (gc a b)), .int .u64 (g3 (gc a b))]) ∧ Below w.heap.size w w' := by
  go_enter Tryz.func171, Tryz.ntmps171
  go_wp2
  go_loopw [9] (fun _ wr => ∃ x y : Int, 0 ≤ x ∧ x < 340282366920938463463374607431768211456 ∧ 0 ≤ y ∧ y ≤ 170141183460469231731687303715884105728 ∧ Hid (gc x y = gc a b) ∧ Below w.heap.size w wr ∧ w.heap.size + 1 + 1 + 1 < wr.heap.size ∧ Blk wr (w.heap.size) (g0 (x)) (g1 (x)) (g2 (x)) (g3 (x)) ∧ Blk wr (w.heap.size + 1) (g0 (y)) (g1 (y)) (g2 (y)) (g3 (y)) ∧ Blk wr (w.heap.size + 1 + 1) (0) (0) (0) (0) ∧ Blk wr (w.heap.size + 1 + 1 + 1) (0) (0) (0) (0)) (fun _ wr => bigAt wr (w.heap.size + 1))
  case atStart =>
    refine ⟨a, b, ha, ha', hb, hb', rfl, by go_grown, by go_size, ?_, ?_, ?_, ?_⟩
    all_goals (constructor <;> simp (maxDischargeDepth := 12) [go_sem])
  case round =>
    obtain ⟨x, y, hx, hx', hy, hy', hg, hBw, hsz, kX, kY, kO, kN⟩ := hrel
    by_cases hy0 : y = 0
    · subst hy0
      have hgx : Hid (gc a b = x) := by rw [← hg.out]; exact gc_zero x hx
      clear hg
      obtain ⟨c0, c1, c2, c3, -, -, -, -⟩ := kY
      rw [g_zero.1] at c0
      rw [g_zero.2.1] at c1
      rw [g_zero.2.2.1] at c2
      rw [g_zero.2.2.2] at c3
      obtain ⟨n0, n1, n2, n3, -, -, -, -⟩ := kN
      have kO' := kO
      obtain ⟨o0, o1, o2, o3, o4, o5, o6, o7⟩ := kO
      obtain ⟨x0, x1, x2, x3, -, -, -, -⟩ := kX
      have he := eq_digT wr 0 0 0 0
      go_wp2
      have hB9 : Below w.heap.size w ((((wr.setCell ⟨w.heap.size + 1 + 1, 0, none⟩ (.int .u64 (g0 x))).setCell ⟨w.heap.size + 1 + 1, 1, none⟩ (.int .u64 (g1 x))).setCell ⟨w.heap.size + 1 + 1, 2, none⟩ (.int .u64 (g2 x))).setCell ⟨w.heap.size + 1 + 1, 3, none⟩ (.int .u64 (g3 x))) := (by repeat' (first | (with_reducible exact Below.refl _ _) | (with_reducible assumption) | (with_reducible refine bdrewN _ ?_) | (with_reducible refine Below.alloc ?_ ?_ _) | (with_reducible refine Below.setCell ?_ ?_ _) | (with_reducible refine Below.drew ?_) | go_size | (simp; omega)))
      have kO2 := kO'.four (g0 x) (g1 x) (g2 x) (g3 x)
      generalize World.setCell _ _ _ = W9 at hB9 kO2 ⊢
      obtain ⟨v0, v1, v2, v3, -, -, -, -⟩ := kO2
      refine bodyPost_ret (by simp [results, Tryz.results171, go_sem, v0, v1, v2, v3]; try rfl) rfl ?_
      exact ⟨ret_big (by rw [hgx.out]) (by rw [hgx.out]) (by rw [hgx.out]) (by rw [hgx.out]), hB9⟩
    · have hd := g_pos y hy (by omega) hy0
      have he := eq_digF wr _ _ _ _ 0 0 0 0 hd
      clear hd
      have kX' : Hid (Blk wr (w.heap.size) (g0 x) (g1 x) (g2 x) (g3 x)) := kX
      have kY' : Hid (Blk wr (w.heap.size + 1) (g0 y) (g1 y) (g2 y) (g3 y)) := kY
      have kO' : Hid (Blk wr (w.heap.size + 1 + 1) 0 0 0 0) := kO
      have kN' : Hid (Blk wr (w.heap.size + 1 + 1 + 1) 0 0 0 0) := kN
      clear kO
      obtain ⟨x0, x1, x2, x3, -, -, -, -⟩ := kX
      obtain ⟨y0, y1, y2, y3, -, -, -, -⟩ := kY
      obtain ⟨n0, n1, n2, n3, -, -, -, -⟩ := kN
      go_wp2_with fail
      refine (rdiv_any x y _ hx hx' (by omega) hy').mono ?_
      rintro e w1 ⟨rfl, hb1⟩
      have hs1 := hb1.size
      have u0 := kX'.out.below hb1 (by omega)
      have u1 := kY'.out.below hb1 (by omega)
      have u2 := kO'.out.below hb1 (by omega)
      have u3 := kN'.out.below hb1 (by omega)
      have hB1 := hBw.trans (hb1.mono hBw.size)
      have hsz1 : w.heap.size + 1 + 1 + 1 < w1.heap.size := by omega
      have U : Hid (Blk w1 (w.heap.size) (g0 x) (g1 x) (g2 x) (g3 x) ∧ Blk w1 (w.heap.size + 1) (g0 y) (g1 y) (g2 y) (g3 y) ∧ Blk w1 (w.heap.size + 1 + 1) 0 0 0 0 ∧ Blk w1 (w.heap.size + 1 + 1 + 1) 0 0 0 0) := ⟨u0, u1, u2, u3⟩
      clear u2 u3 kX' hb1 hs1 hBw hsz x0 x1 x2 x3 y0 y1 y2 y3 n0 n1 n2 n3 he
      clear u0 u1
      go_upto_region 4 with fail
      refine wp_world ?_
      intro W1 hW1
      obtain ⟨u0, u1, u2, u3⟩ := U.out
      have v0 : Blk W1 (w.heap.size) (g0 x) (g1 x) (g2 x) (g3 x) := by rw [hW1]; exact (u0.alloc (by omega)).alloc (by simp; omega)
      have v1 : Blk W1 (w.heap.size + 1) (g0 y) (g1 y) (g2 y) (g3 y) := by rw [hW1]; exact (u1.alloc (by omega)).alloc (by simp; omega)
      have v2 : Blk W1 (w.heap.size + 1 + 1) 0 0 0 0 := by rw [hW1]; exact (u2.alloc (by omega)).alloc (by simp; omega)
      have v3 : Blk W1 (w.heap.size + 1 + 1 + 1) 0 0 0 0 := by rw [hW1]; exact (u3.alloc (by omega)).alloc (by simp; omega)
      have v4 : Blk W1 (w1.heap.size + 1) (g0 (x % y)) (g1 (x % y)) (g2 (x % y)) (g3 (x % y)) := by
        rw [hW1]; have := Blk.fresh (W := w1.alloc (.cells #[.int .u64 (g0 (x / y)), .int .u64 (g1 (x / y)), .int .u64 (g2 (x / y)), .int .u64 (g3 (x / y))] 163)) (T := 163) (x0 := g0 (x % y)) (x1 := g1 (x % y)) (x2 := g2 (x % y)) (x3 := g3 (x % y))
        simpa using this
      have hB2 : Below w.heap.size w W1 := by rw [hW1]; exact (by repeat' (first | (with_reducible exact Below.refl _ _) | (with_reducible assumption) | (with_reducible refine bdrewN _ ?_) | (with_reducible refine Below.alloc ?_ ?_ _) | (with_reducible refine Below.setCell ?_ ?_ _) | (with_reducible refine Below.drew ?_) | go_size | (simp; omega)))
      have hs2 : w.heap.size + 1 + 1 + 1 < W1.heap.size := by rw [hW1]; simp; omega
      clear hW1 u0 u1 u2 u3 U hB1
      have V : Hid (Blk W1 (w.heap.size) (g0 x) (g1 x) (g2 x) (g3 x) ∧ Blk W1 (w.heap.size + 1) (g0 y) (g1 y) (g2 y) (g3 y) ∧ Blk W1 (w.heap.size + 1 + 1) 0 0 0 0 ∧ Blk W1 (w.heap.size + 1 + 1 + 1) 0 0 0 0) := ⟨v0, v1, v2, v3⟩
      clear v2 v3
      have hne1 : w1.heap.size + 1 ≠ w.heap.size := by omega
      have hne2 : w1.heap.size + 1 ≠ w.heap.size + 1 := by omega
      obtain ⟨x0, x1, x2, x3, x4, x5, x6, x7⟩ := v0
      obtain ⟨y0, y1, y2, y3, y4, y5, y6, y7⟩ := v1
      obtain ⟨r0, r1, r2, r3, -, -, -, -⟩ := v4
      go_wp2
      obtain ⟨u0, u1, u2, u3⟩ := V.out
      have m0 := Int.emod_nonneg x hy0
      have m1 := Int.emod_lt_of_pos x (show 0 < y by omega)
      refine ⟨⟨y, x % y, hy, by omega, m0, by omega, (gc_step x y hx (by omega)).trans hg.out, (by repeat' (first | (with_reducible exact Below.refl _ _) | (with_reducible assumption) | (with_reducible refine bdrewN _ ?_) | (with_reducible refine Below.alloc ?_ ?_ _) | (with_reducible refine Below.setCell ?_ ?_ _) | (with_reducible refine Below.drew ?_) | go_size | (simp; omega))), by simp; omega, ?_, ?_, ?_, ?_⟩, ?_⟩
      · exact (u0.four _ _ _ _).other4 (by omega)
      · exact (u1.other4 (B := w.heap.size) (by omega)).four _ _ _ _
      · exact (u2.other4 (by omega)).other4 (by omega)
      · exact (u3.other4 (by omega)).other4 (by omega)
      refine Nat.lt_of_le_of_lt (Nat.le_of_eq (Blk.big (x := x % y) ((u1.other4 (B := w.heap.size) (by omega)).four _ _ _ _) m0 (by omega))) ?_
      rw [kY'.out.big hy (by omega)]
      omega

end Go.Proofs.YteipohpfaofchabGreat

namespace Go.Proofs.YteipohpfaofchabGreat
open Go.RowKit

/-- A block of two numbers, which may be written. -/
structure Blk2 (W : World) (B : Nat) (v0 v1 : Int) : Prop where
  c0 : W.cell? ⟨B, 0, none⟩ = some (.int .i64 v0)
  c1 : W.cell? ⟨B, 1, none⟩ = some (.int .i64 v1)
  f0 : W.frozen? ⟨B, 0, none⟩ = false
  f1 : W.frozen? ⟨B, 1, none⟩ = false
theorem Blk2.below {W W' : World} {B n : Nat} {v0 v1 : Int} (h : Blk2 W B v0 v1) (hb : Below n W W') (hB : B < n) : Blk2 W' B v0 v1 :=
  ⟨(hb.cell (p := ⟨B, 0, none⟩) hB).trans h.c0, (hb.cell (p := ⟨B, 1, none⟩) hB).trans h.c1, (hb.frozen (p := ⟨B, 0, none⟩) hB).trans h.f0, (hb.frozen (p := ⟨B, 1, none⟩) hB).trans h.f1⟩
theorem Blk2.two {W : World} {B : Nat} {v0 v1 : Int} (h : Blk2 W B v0 v1) (x0 x1 : Int) : Blk2 ((W.setCell ⟨B, 0, none⟩ (.int .i64 x0)).setCell ⟨B, 1, none⟩ (.int .i64 x1)) B x0 x1 := by
  obtain ⟨c0, c1, f0, f1⟩ := h
  constructor <;> simp (maxDischargeDepth := 12) [go_sem, c0, c1, f0, f1]
theorem below_self {n : Nat} {W W' : World} (h : Below n W W') (k : n = W.heap.size) : Below W.heap.size W W' := k ▸ h

theorem gc_part (n d : Int) (hn : 0 ≤ n) (hd : 0 < d) : 0 < gc n d ∧ gc n d ≤ d ∧ 0 ≤ n / gc n d ∧ n / gc n d ≤ n ∧ 0 < d / gc n d ∧ d / gc n d ≤ d ∧ (0 < n → 0 < n / gc n d) := by
  have h1 := gc_pos n d hd
  have h2 := gc_le n d hd
  have pos : ∀ m, 0 < m → gc n d ∣ m → 0 < m / gc n d := by
    intro m hm hk
    obtain ⟨c, hc⟩ := hk
    have hc0 : 0 < c := by
      rcases Int.lt_or_le 0 c with h | h
      · exact h
      · have := Int.mul_le_mul_of_nonneg_left h (Int.le_of_lt h1); omega
    have e : m / gc n d = c := by
      have : m / gc n d = gc n d * c / gc n d := congrArg (· / gc n d) hc
      rw [this, Int.mul_ediv_cancel_left _ (by omega)]
    omega
  exact ⟨h1, h2, Int.ediv_nonneg hn (by omega), div_le_self n _ hn h1, pos d hd (gc_dvd_right n d (by omega)), div_le_self d _ (by omega) h1, fun h => pos n h (gc_dvd_left n d hn)⟩

theorem low64 (x : Int) (h0 : 0 ≤ x) (h1 : x ≤ 18446744073709551615) : g1 x * 4294967296 + g0 x = x := by unfold g0 g1; omega

set_option maxRecDepth 100000 in
set_option maxHeartbeats 8000000 in
theorem rmade_raw (b : Bool) (n d G P Q c1 c2 N D E : Int) (w : World) (hn : 0 ≤ n) (hn' : n ≤ 170141183460469231731687303715884105728) (hd : 0 < d) (hd' : d ≤ 170141183460469231731687303715884105728)
    (eG : Hid (gc n d = G)) (eP : Hid (n / G = P)) (eQ : Hid (d / G = Q)) (hG : 0 < G) (hG' : G ≤ d) (hP : 0 ≤ P) (hP' : P ≤ n) (hQ : 0 < Q) (hQ' : Q ≤ d) (e1 : Hid (cmpI P 9223372036854775808 = c1)) (e2 : Hid (cmpI Q 9223372036854775808 = c2))
    (hcase : (0 ≤ c2 ∧ N = 0 ∧ D = 0 ∧ E = 10) ∨ (c2 < 0 ∧ 0 < c1 ∧ N = 0 ∧ D = 0 ∧ E = 10) ∨ (c2 < 0 ∧ c1 = 0 ∧ b = false ∧ N = 0 ∧ D = 0 ∧ E = 10) ∨ (c2 < 0 ∧ c1 = 0 ∧ b = true ∧ 0 < P ∧ P ≤ 9223372036854775808 ∧ Q < 9223372036854775808 ∧ N = -P ∧ D = Q ∧ E = 0) ∨ (c2 < 0 ∧ c1 < 0 ∧ b = false ∧ P < 9223372036854775808 ∧ Q < 9223372036854775808 ∧ N = P ∧ D = Q ∧ E = 0) ∨ (c2 < 0 ∧ c1 < 0 ∧ b = true ∧ 0 < P ∧ P < 9223372036854775808 ∧ Q < 9223372036854775808 ∧ N = -P ∧ D = Q ∧ E = 0)) :
    Calls Tryz.prog 165 #[.bool b, .agg #[.int .u64 (g0 n), .int .u64 (g1 n), .int .u64 (g2 n), .int .u64 (g3 n)], .agg #[.int .u64 (g0 d), .int .u64 (g1 d), .int .u64 (g2 d), .int .u64 (g3 d)]] w fun e w' => e = .returned (.tuple #[.agg #[.int .i64 N, .int .i64 D], .int .i64 E]) ∧ Below w.heap.size w w' := by
  go_enter Tryz.func165, Tryz.ntmps165
  go_upto_region 1 with fail
  refine wp_world ?_
  intro W0 hW0
  have hs0 : w.heap.size + 1 + 1 < W0.heap.size := by rw [hW0]; simp
  have bN : Blk W0 (w.heap.size) (g0 (n)) (g1 (n)) (g2 (n)) (g3 (n)) := by rw [hW0]; constructor <;> simp (maxDischargeDepth := 12) [go_sem]
  have bD : Blk W0 (w.heap.size + 1) (g0 (d)) (g1 (d)) (g2 (d)) (g3 (d)) := by rw [hW0]; constructor <;> simp (maxDischargeDepth := 12) [go_sem]
  have bR : Blk2 W0 (w.heap.size + 1 + 1) 0 0 := by rw [hW0]; constructor <;> simp (maxDischargeDepth := 12) [go_sem]
  have hB0 : Below w.heap.size w W0 := by rw [hW0]; exact (by repeat' (first | (with_reducible exact Below.refl _ _) | (with_reducible assumption) | (with_reducible refine bdrewN _ ?_) | (with_reducible refine Below.alloc ?_ ?_ _) | (with_reducible refine Below.setCell ?_ ?_ _) | (with_reducible refine Below.drew ?_) | go_size | (simp; omega)))
  clear hW0
  have HbN : Hid (Blk W0 (w.heap.size) (g0 (n)) (g1 (n)) (g2 (n)) (g3 (n))) := bN
  have HbD : Hid (Blk W0 (w.heap.size + 1) (g0 (d)) (g1 (d)) (g2 (d)) (g3 (d))) := bD
  have HbR : Hid (Blk2 W0 (w.heap.size + 1 + 1) (0) (0)) := bR
  clear bN bD bR
  obtain ⟨bD_0, bD_1, bD_2, bD_3, -, -, -, -⟩ := HbD.out
  obtain ⟨bN_0, bN_1, bN_2, bN_3, -, -, -, -⟩ := HbN.out
  go_wp2_with fail
  refine (rcommon_any n d _ hn (by omega) (by omega) hd').mono ?_
  rintro e w1 ⟨rfl, hb1⟩
  have hz1 := hb1.size
  clear bD_0 bD_1 bD_2 bD_3
  clear bN_0 bN_1 bN_2 bN_3
  rw [eG.out]
  go_upto_region 2 with fail
  refine wp_world ?_
  intro W1 hW1
  have hst1 : Below W0.heap.size W0 W1 := by rw [hW1]; exact (by repeat' (first | (with_reducible exact Below.refl _ _) | (with_reducible assumption) | (with_reducible refine bdrewN _ ?_) | (with_reducible refine Below.alloc ?_ ?_ _) | (with_reducible refine Below.setCell ?_ ?_ _) | (with_reducible refine Below.drew ?_) | go_size | (simp; omega)))
  have hB1 : Below w.heap.size w W1 := hB0.trans (hst1.mono hB0.size)
  have hs1 : w.heap.size + 1 + 1 < W1.heap.size := by have := hst1.size; omega
  have bN : Blk W1 (w.heap.size) (g0 (n)) (g1 (n)) (g2 (n)) (g3 (n)) := HbN.out.below hst1 (by omega)
  have bD : Blk W1 (w.heap.size + 1) (g0 (d)) (g1 (d)) (g2 (d)) (g3 (d)) := HbD.out.below hst1 (by omega)
  have bR : Blk2 W1 (w.heap.size + 1 + 1) (0) (0) := HbR.out.below hst1 (by omega)
  have bG : Blk W1 (w1.heap.size) (g0 (G)) (g1 (G)) (g2 (G)) (g3 (G)) := by rw [hW1]; constructor <;> simp (maxDischargeDepth := 12) [go_sem]
  have hl_bG : w1.heap.size < W1.heap.size := by rw [hW1]; first | (simp; done) | (simp; omega)
  clear hW1 hst1 hb1 hB0 hs0 hz1 HbN HbD HbR
  have HbN : Hid (Blk W1 (w.heap.size) (g0 (n)) (g1 (n)) (g2 (n)) (g3 (n))) := bN
  have HbD : Hid (Blk W1 (w.heap.size + 1) (g0 (d)) (g1 (d)) (g2 (d)) (g3 (d))) := bD
  have HbR : Hid (Blk2 W1 (w.heap.size + 1 + 1) (0) (0)) := bR
  have HbG : Hid (Blk W1 (w1.heap.size) (g0 (G)) (g1 (G)) (g2 (G)) (g3 (G))) := bG
  clear bN bD bR bG
  obtain ⟨bG_0, bG_1, bG_2, bG_3, -, -, -, -⟩ := HbG.out
  obtain ⟨bN_0, bN_1, bN_2, bN_3, -, -, -, -⟩ := HbN.out
  go_wp2_with fail
  refine (rdiv_any n G _ hn (by omega) hG (by omega)).mono ?_
  rintro e w2 ⟨rfl, hb2⟩
  have hz2 := hb2.size
  clear bG_0 bG_1 bG_2 bG_3
  clear bN_0 bN_1 bN_2 bN_3
  rw [eP.out]
  go_upto_region 3 with fail
  refine wp_world ?_
  intro W2 hW2
  have hst2 : Below W1.heap.size W1 W2 := by rw [hW2]; exact (by repeat' (first | (with_reducible exact Below.refl _ _) | (with_reducible assumption) | (with_reducible refine bdrewN _ ?_) | (with_reducible refine Below.alloc ?_ ?_ _) | (with_reducible refine Below.setCell ?_ ?_ _) | (with_reducible refine Below.drew ?_) | go_size | (simp; omega)))
  have hB2 : Below w.heap.size w W2 := hB1.trans (hst2.mono hB1.size)
  have hs2 : w.heap.size + 1 + 1 < W2.heap.size := by have := hst2.size; omega
  have bN : Blk W2 (w.heap.size) (g0 (n)) (g1 (n)) (g2 (n)) (g3 (n)) := HbN.out.below hst2 (by omega)
  have bD : Blk W2 (w.heap.size + 1) (g0 (d)) (g1 (d)) (g2 (d)) (g3 (d)) := HbD.out.below hst2 (by omega)
  have bR : Blk2 W2 (w.heap.size + 1 + 1) (0) (0) := HbR.out.below hst2 (by omega)
  have bG : Blk W2 (w1.heap.size) (g0 (G)) (g1 (G)) (g2 (G)) (g3 (G)) := HbG.out.below hst2 (by omega)
  have bP : Blk W2 (w2.heap.size) (g0 (P)) (g1 (P)) (g2 (P)) (g3 (P)) := by rw [hW2]; constructor <;> simp (maxDischargeDepth := 12) [go_sem]
  have hl_bP : w2.heap.size < W2.heap.size := by rw [hW2]; first | (simp; done) | (simp; omega)
  have bX : Blk W2 (w2.heap.size + 1) (g0 (n % G)) (g1 (n % G)) (g2 (n % G)) (g3 (n % G)) := by rw [hW2]; constructor <;> simp (maxDischargeDepth := 12) [go_sem]
  have hl_bX : w2.heap.size + 1 < W2.heap.size := by rw [hW2]; first | (simp; done) | (simp; omega)
  have hl_bG : w1.heap.size < W2.heap.size := by have := hst2.size; omega
  clear hW2 hst2 hb2 hB1 hs1 hz2 HbN HbD HbR HbG
  have HbN : Hid (Blk W2 (w.heap.size) (g0 (n)) (g1 (n)) (g2 (n)) (g3 (n))) := bN
  have HbD : Hid (Blk W2 (w.heap.size + 1) (g0 (d)) (g1 (d)) (g2 (d)) (g3 (d))) := bD
  have HbR : Hid (Blk2 W2 (w.heap.size + 1 + 1) (0) (0)) := bR
  have HbG : Hid (Blk W2 (w1.heap.size) (g0 (G)) (g1 (G)) (g2 (G)) (g3 (G))) := bG
  have HbP : Hid (Blk W2 (w2.heap.size) (g0 (P)) (g1 (P)) (g2 (P)) (g3 (P))) := bP
  have HbX : Hid (Blk W2 (w2.heap.size + 1) (g0 (n % G)) (g1 (n % G)) (g2 (n % G)) (g3 (n % G))) := bX
  clear bN bD bR bG bP bX
  obtain ⟨bD_0, bD_1, bD_2, bD_3, -, -, -, -⟩ := HbD.out
  obtain ⟨bG_0, bG_1, bG_2, bG_3, -, -, -, -⟩ := HbG.out
  go_wp2_with fail
  refine (rdiv_any d G _ (by omega) (by omega) hG (by omega)).mono ?_
  rintro e w3 ⟨rfl, hb3⟩
  have hz3 := hb3.size
  clear bD_0 bD_1 bD_2 bD_3
  clear bG_0 bG_1 bG_2 bG_3
  rw [eQ.out]
  go_upto_region 4 with fail
  refine wp_world ?_
  intro W3 hW3
  have hst3 : Below W2.heap.size W2 W3 := by rw [hW3]; exact (by repeat' (first | (with_reducible exact Below.refl _ _) | (with_reducible assumption) | (with_reducible refine bdrewN _ ?_) | (with_reducible refine Below.alloc ?_ ?_ _) | (with_reducible refine Below.setCell ?_ ?_ _) | (with_reducible refine Below.drew ?_) | go_size | (simp; omega)))
  have hB3 : Below w.heap.size w W3 := hB2.trans (hst3.mono hB2.size)
  have hs3 : w.heap.size + 1 + 1 < W3.heap.size := by have := hst3.size; omega
  have bN : Blk W3 (w.heap.size) (g0 (n)) (g1 (n)) (g2 (n)) (g3 (n)) := HbN.out.below hst3 (by omega)
  have bD : Blk W3 (w.heap.size + 1) (g0 (d)) (g1 (d)) (g2 (d)) (g3 (d)) := HbD.out.below hst3 (by omega)
  have bR : Blk2 W3 (w.heap.size + 1 + 1) (0) (0) := HbR.out.below hst3 (by omega)
  have bG : Blk W3 (w1.heap.size) (g0 (G)) (g1 (G)) (g2 (G)) (g3 (G)) := HbG.out.below hst3 (by omega)
  have bP : Blk W3 (w2.heap.size) (g0 (P)) (g1 (P)) (g2 (P)) (g3 (P)) := HbP.out.below hst3 (by omega)
  have bX : Blk W3 (w2.heap.size + 1) (g0 (n % G)) (g1 (n % G)) (g2 (n % G)) (g3 (n % G)) := HbX.out.below hst3 (by omega)
  have bQ : Blk W3 (w3.heap.size) (g0 (Q)) (g1 (Q)) (g2 (Q)) (g3 (Q)) := by rw [hW3]; constructor <;> simp (maxDischargeDepth := 12) [go_sem]
  have hl_bQ : w3.heap.size < W3.heap.size := by rw [hW3]; first | (simp; done) | (simp; omega)
  have bY : Blk W3 (w3.heap.size + 1) (g0 (d % G)) (g1 (d % G)) (g2 (d % G)) (g3 (d % G)) := by rw [hW3]; constructor <;> simp (maxDischargeDepth := 12) [go_sem]
  have hl_bY : w3.heap.size + 1 < W3.heap.size := by rw [hW3]; first | (simp; done) | (simp; omega)
  have hl_bG : w1.heap.size < W3.heap.size := by have := hst3.size; omega
  have hl_bP : w2.heap.size < W3.heap.size := by have := hst3.size; omega
  have hl_bX : w2.heap.size + 1 < W3.heap.size := by have := hst3.size; omega
  clear hW3 hst3 hb3 hB2 hs2 hz3 HbN HbD HbR HbG HbP HbX
  have HbN : Hid (Blk W3 (w.heap.size) (g0 (n)) (g1 (n)) (g2 (n)) (g3 (n))) := bN
  have HbD : Hid (Blk W3 (w.heap.size + 1) (g0 (d)) (g1 (d)) (g2 (d)) (g3 (d))) := bD
  have HbR : Hid (Blk2 W3 (w.heap.size + 1 + 1) (0) (0)) := bR
  have HbG : Hid (Blk W3 (w1.heap.size) (g0 (G)) (g1 (G)) (g2 (G)) (g3 (G))) := bG
  have HbP : Hid (Blk W3 (w2.heap.size) (g0 (P)) (g1 (P)) (g2 (P)) (g3 (P))) := bP
  have HbX : Hid (Blk W3 (w2.heap.size + 1) (g0 (n % G)) (g1 (n % G)) (g2 (n % G)) (g3 (n % G))) := bX
  have HbQ : Hid (Blk W3 (w3.heap.size) (g0 (Q)) (g1 (Q)) (g2 (Q)) (g3 (Q))) := bQ
  have HbY : Hid (Blk W3 (w3.heap.size + 1) (g0 (d % G)) (g1 (d % G)) (g2 (d % G)) (g3 (d % G))) := bY
  clear bN bD bR bG bP bX bQ bY
  go_wp2_with fail
  refine (rof_any 9223372036854775808 _ (by omega) (by omega)).mono ?_
  rintro e w4 ⟨rfl, hb4⟩
  have hz4 := hb4.size
  go_upto_region 5 with fail
  refine wp_world ?_
  intro W4 hW4
  have hst4 : Below W3.heap.size W3 W4 := by rw [hW4]; exact (by repeat' (first | (with_reducible exact Below.refl _ _) | (with_reducible assumption) | (with_reducible refine bdrewN _ ?_) | (with_reducible refine Below.alloc ?_ ?_ _) | (with_reducible refine Below.setCell ?_ ?_ _) | (with_reducible refine Below.drew ?_) | go_size | (simp; omega)))
  have hB4 : Below w.heap.size w W4 := hB3.trans (hst4.mono hB3.size)
  have hs4 : w.heap.size + 1 + 1 < W4.heap.size := by have := hst4.size; omega
  have bN : Blk W4 (w.heap.size) (g0 (n)) (g1 (n)) (g2 (n)) (g3 (n)) := HbN.out.below hst4 (by omega)
  have bD : Blk W4 (w.heap.size + 1) (g0 (d)) (g1 (d)) (g2 (d)) (g3 (d)) := HbD.out.below hst4 (by omega)
  have bR : Blk2 W4 (w.heap.size + 1 + 1) (0) (0) := HbR.out.below hst4 (by omega)
  have bG : Blk W4 (w1.heap.size) (g0 (G)) (g1 (G)) (g2 (G)) (g3 (G)) := HbG.out.below hst4 (by omega)
  have bP : Blk W4 (w2.heap.size) (g0 (P)) (g1 (P)) (g2 (P)) (g3 (P)) := HbP.out.below hst4 (by omega)
  have bX : Blk W4 (w2.heap.size + 1) (g0 (n % G)) (g1 (n % G)) (g2 (n % G)) (g3 (n % G)) := HbX.out.below hst4 (by omega)
  have bQ : Blk W4 (w3.heap.size) (g0 (Q)) (g1 (Q)) (g2 (Q)) (g3 (Q)) := HbQ.out.below hst4 (by omega)
  have bY : Blk W4 (w3.heap.size + 1) (g0 (d % G)) (g1 (d % G)) (g2 (d % G)) (g3 (d % G)) := HbY.out.below hst4 (by omega)
  have bM : Blk W4 (w4.heap.size) (g0 (9223372036854775808)) (g1 (9223372036854775808)) (g2 (9223372036854775808)) (g3 (9223372036854775808)) := by rw [hW4]; constructor <;> simp (maxDischargeDepth := 12) [go_sem]
  have hl_bM : w4.heap.size < W4.heap.size := by rw [hW4]; first | (simp; done) | (simp; omega)
  have hl_bG : w1.heap.size < W4.heap.size := by have := hst4.size; omega
  have hl_bP : w2.heap.size < W4.heap.size := by have := hst4.size; omega
  have hl_bX : w2.heap.size + 1 < W4.heap.size := by have := hst4.size; omega
  have hl_bQ : w3.heap.size < W4.heap.size := by have := hst4.size; omega
  have hl_bY : w3.heap.size + 1 < W4.heap.size := by have := hst4.size; omega
  clear hW4 hst4 hb4 hB3 hs3 hz4 HbN HbD HbR HbG HbP HbX HbQ HbY
  have HbN : Hid (Blk W4 (w.heap.size) (g0 (n)) (g1 (n)) (g2 (n)) (g3 (n))) := bN
  have HbD : Hid (Blk W4 (w.heap.size + 1) (g0 (d)) (g1 (d)) (g2 (d)) (g3 (d))) := bD
  have HbR : Hid (Blk2 W4 (w.heap.size + 1 + 1) (0) (0)) := bR
  have HbG : Hid (Blk W4 (w1.heap.size) (g0 (G)) (g1 (G)) (g2 (G)) (g3 (G))) := bG
  have HbP : Hid (Blk W4 (w2.heap.size) (g0 (P)) (g1 (P)) (g2 (P)) (g3 (P))) := bP
  have HbX : Hid (Blk W4 (w2.heap.size + 1) (g0 (n % G)) (g1 (n % G)) (g2 (n % G)) (g3 (n % G))) := bX
  have HbQ : Hid (Blk W4 (w3.heap.size) (g0 (Q)) (g1 (Q)) (g2 (Q)) (g3 (Q))) := bQ
  have HbY : Hid (Blk W4 (w3.heap.size + 1) (g0 (d % G)) (g1 (d % G)) (g2 (d % G)) (g3 (d % G))) := bY
  have HbM : Hid (Blk W4 (w4.heap.size) (g0 (9223372036854775808)) (g1 (9223372036854775808)) (g2 (9223372036854775808)) (g3 (9223372036854775808))) := bM
  clear bN bD bR bG bP bX bQ bY bM
  obtain ⟨bM_0, bM_1, bM_2, bM_3, -, -, -, -⟩ := HbM.out
  obtain ⟨bP_0, bP_1, bP_2, bP_3, -, -, -, -⟩ := HbP.out
  go_wp2_with fail
  refine (rcompare_any P 9223372036854775808 _ hP (by omega) (by omega) (by omega)).mono ?_
  rintro e w5 ⟨rfl, hb5⟩
  have hz5 := hb5.size
  clear bM_0 bM_1 bM_2 bM_3
  clear bP_0 bP_1 bP_2 bP_3
  rw [e1.out]
  go_upto_region 6 with fail
  refine wp_world ?_
  intro W5 hW5
  have hst5 : Below W4.heap.size W4 W5 := by rw [hW5]; exact (by repeat' (first | (with_reducible exact Below.refl _ _) | (with_reducible assumption) | (with_reducible refine bdrewN _ ?_) | (with_reducible refine Below.alloc ?_ ?_ _) | (with_reducible refine Below.setCell ?_ ?_ _) | (with_reducible refine Below.drew ?_) | go_size | (simp; omega)))
  have hB5 : Below w.heap.size w W5 := hB4.trans (hst5.mono hB4.size)
  have hs5 : w.heap.size + 1 + 1 < W5.heap.size := by have := hst5.size; omega
  have bN : Blk W5 (w.heap.size) (g0 (n)) (g1 (n)) (g2 (n)) (g3 (n)) := HbN.out.below hst5 (by omega)
  have bD : Blk W5 (w.heap.size + 1) (g0 (d)) (g1 (d)) (g2 (d)) (g3 (d)) := HbD.out.below hst5 (by omega)
  have bR : Blk2 W5 (w.heap.size + 1 + 1) (0) (0) := HbR.out.below hst5 (by omega)
  have bG : Blk W5 (w1.heap.size) (g0 (G)) (g1 (G)) (g2 (G)) (g3 (G)) := HbG.out.below hst5 (by omega)
  have bP : Blk W5 (w2.heap.size) (g0 (P)) (g1 (P)) (g2 (P)) (g3 (P)) := HbP.out.below hst5 (by omega)
  have bX : Blk W5 (w2.heap.size + 1) (g0 (n % G)) (g1 (n % G)) (g2 (n % G)) (g3 (n % G)) := HbX.out.below hst5 (by omega)
  have bQ : Blk W5 (w3.heap.size) (g0 (Q)) (g1 (Q)) (g2 (Q)) (g3 (Q)) := HbQ.out.below hst5 (by omega)
  have bY : Blk W5 (w3.heap.size + 1) (g0 (d % G)) (g1 (d % G)) (g2 (d % G)) (g3 (d % G)) := HbY.out.below hst5 (by omega)
  have bM : Blk W5 (w4.heap.size) (g0 (9223372036854775808)) (g1 (9223372036854775808)) (g2 (9223372036854775808)) (g3 (9223372036854775808)) := HbM.out.below hst5 (by omega)
  have hl_bG : w1.heap.size < W5.heap.size := by have := hst5.size; omega
  have hl_bP : w2.heap.size < W5.heap.size := by have := hst5.size; omega
  have hl_bX : w2.heap.size + 1 < W5.heap.size := by have := hst5.size; omega
  have hl_bQ : w3.heap.size < W5.heap.size := by have := hst5.size; omega
  have hl_bY : w3.heap.size + 1 < W5.heap.size := by have := hst5.size; omega
  have hl_bM : w4.heap.size < W5.heap.size := by have := hst5.size; omega
  clear hW5 hst5 hb5 hB4 hs4 hz5 HbN HbD HbR HbG HbP HbX HbQ HbY HbM
  have HbN : Hid (Blk W5 (w.heap.size) (g0 (n)) (g1 (n)) (g2 (n)) (g3 (n))) := bN
  have HbD : Hid (Blk W5 (w.heap.size + 1) (g0 (d)) (g1 (d)) (g2 (d)) (g3 (d))) := bD
  have HbR : Hid (Blk2 W5 (w.heap.size + 1 + 1) (0) (0)) := bR
  have HbG : Hid (Blk W5 (w1.heap.size) (g0 (G)) (g1 (G)) (g2 (G)) (g3 (G))) := bG
  have HbP : Hid (Blk W5 (w2.heap.size) (g0 (P)) (g1 (P)) (g2 (P)) (g3 (P))) := bP
  have HbX : Hid (Blk W5 (w2.heap.size + 1) (g0 (n % G)) (g1 (n % G)) (g2 (n % G)) (g3 (n % G))) := bX
  have HbQ : Hid (Blk W5 (w3.heap.size) (g0 (Q)) (g1 (Q)) (g2 (Q)) (g3 (Q))) := bQ
  have HbY : Hid (Blk W5 (w3.heap.size + 1) (g0 (d % G)) (g1 (d % G)) (g2 (d % G)) (g3 (d % G))) := bY
  have HbM : Hid (Blk W5 (w4.heap.size) (g0 (9223372036854775808)) (g1 (9223372036854775808)) (g2 (9223372036854775808)) (g3 (9223372036854775808))) := bM
  clear bN bD bR bG bP bX bQ bY bM
  obtain ⟨bM_0, bM_1, bM_2, bM_3, -, -, -, -⟩ := HbM.out
  obtain ⟨bQ_0, bQ_1, bQ_2, bQ_3, -, -, -, -⟩ := HbQ.out
  go_wp2_with fail
  refine (rcompare_any Q 9223372036854775808 _ (by omega) (by omega) (by omega) (by omega)).mono ?_
  rintro e w6 ⟨rfl, hb6⟩
  have hz6 := hb6.size
  clear bM_0 bM_1 bM_2 bM_3
  clear bQ_0 bQ_1 bQ_2 bQ_3
  rw [e2.out]
  go_upto_region 7 with fail
  refine wp_world ?_
  intro W6 hW6
  have hst6 : Below W5.heap.size W5 W6 := by rw [hW6]; exact (by repeat' (first | (with_reducible exact Below.refl _ _) | (with_reducible assumption) | (with_reducible refine bdrewN _ ?_) | (with_reducible refine Below.alloc ?_ ?_ _) | (with_reducible refine Below.setCell ?_ ?_ _) | (with_reducible refine Below.drew ?_) | go_size | (simp; omega)))
  have hB6 : Below w.heap.size w W6 := hB5.trans (hst6.mono hB5.size)
  have hs6 : w.heap.size + 1 + 1 < W6.heap.size := by have := hst6.size; omega
  have bN : Blk W6 (w.heap.size) (g0 (n)) (g1 (n)) (g2 (n)) (g3 (n)) := HbN.out.below hst6 (by omega)
  have bD : Blk W6 (w.heap.size + 1) (g0 (d)) (g1 (d)) (g2 (d)) (g3 (d)) := HbD.out.below hst6 (by omega)
  have bR : Blk2 W6 (w.heap.size + 1 + 1) (0) (0) := HbR.out.below hst6 (by omega)
  have bG : Blk W6 (w1.heap.size) (g0 (G)) (g1 (G)) (g2 (G)) (g3 (G)) := HbG.out.below hst6 (by omega)
  have bP : Blk W6 (w2.heap.size) (g0 (P)) (g1 (P)) (g2 (P)) (g3 (P)) := HbP.out.below hst6 (by omega)
  have bX : Blk W6 (w2.heap.size + 1) (g0 (n % G)) (g1 (n % G)) (g2 (n % G)) (g3 (n % G)) := HbX.out.below hst6 (by omega)
  have bQ : Blk W6 (w3.heap.size) (g0 (Q)) (g1 (Q)) (g2 (Q)) (g3 (Q)) := HbQ.out.below hst6 (by omega)
  have bY : Blk W6 (w3.heap.size + 1) (g0 (d % G)) (g1 (d % G)) (g2 (d % G)) (g3 (d % G)) := HbY.out.below hst6 (by omega)
  have bM : Blk W6 (w4.heap.size) (g0 (9223372036854775808)) (g1 (9223372036854775808)) (g2 (9223372036854775808)) (g3 (9223372036854775808)) := HbM.out.below hst6 (by omega)
  have hl_bG : w1.heap.size < W6.heap.size := by have := hst6.size; omega
  have hl_bP : w2.heap.size < W6.heap.size := by have := hst6.size; omega
  have hl_bX : w2.heap.size + 1 < W6.heap.size := by have := hst6.size; omega
  have hl_bQ : w3.heap.size < W6.heap.size := by have := hst6.size; omega
  have hl_bY : w3.heap.size + 1 < W6.heap.size := by have := hst6.size; omega
  have hl_bM : w4.heap.size < W6.heap.size := by have := hst6.size; omega
  clear hW6 hst6 hb6 hB5 hs5 hz6 HbN HbD HbR HbG HbP HbX HbQ HbY HbM
  have bRR : Hid (Blk2 W6 (w.heap.size + 1 + 1) 0 0) := bR
  obtain ⟨bR0, bR1, bR2, bR3⟩ := bR
  obtain ⟨bP0, bP1, bP2, bP3, -, -, -, -⟩ := bP
  obtain ⟨bQ0, bQ1, bQ2, bQ3, -, -, -, -⟩ := bQ
  have zP0 := g0_bd P; have zP1 := g1_bd P; have zQ0 := g0_bd Q; have zQ1 := g1_bd Q
  clear bN bD bG bX bY bM
  rcases hcase with ⟨h2, rfl, rfl, rfl⟩ | ⟨h2, h1, rfl, rfl, rfl⟩ | ⟨h2, rfl, rfl, rfl, rfl, rfl⟩ | ⟨h2, rfl, rfl, hP3, hP2, hQ2, hN, hD, rfl⟩ | ⟨h2, h1, rfl, hP2, hQ2, hN, hD, rfl⟩ | ⟨h2, h1, rfl, hP3, hP2, hQ2, hN, hD, rfl⟩
  · skip
    go_wp2
    generalize hW9 : World.setCell _ _ _ = W9
    have b9 := bRR.out.two (0) (0)
    rw [hW9] at b9
    have hB9 : Below w.heap.size w W9 := by rw [← hW9]; exact (by repeat' (first | (with_reducible exact Below.refl _ _) | (with_reducible assumption) | (with_reducible refine bdrewN _ ?_) | (with_reducible refine Below.alloc ?_ ?_ _) | (with_reducible refine Below.setCell ?_ ?_ _) | (with_reducible refine Below.drew ?_) | go_size | (simp; omega)))
    clear hW9
    obtain ⟨x0, x1, -, -⟩ := b9
    refine bodyPost_ret (by simp [results, Tryz.results165, go_sem, x0, x1]; try rfl) rfl ?_
    exact ⟨rfl, hB9⟩
  · have h2f : (0 ≤ c2) = False := by simp; omega
    go_wp2
    generalize hW9 : World.setCell _ _ _ = W9
    have b9 := bRR.out.two (0) (0)
    rw [hW9] at b9
    have hB9 : Below w.heap.size w W9 := by rw [← hW9]; exact (by repeat' (first | (with_reducible exact Below.refl _ _) | (with_reducible assumption) | (with_reducible refine bdrewN _ ?_) | (with_reducible refine Below.alloc ?_ ?_ _) | (with_reducible refine Below.setCell ?_ ?_ _) | (with_reducible refine Below.drew ?_) | go_size | (simp; omega)))
    clear hW9
    obtain ⟨x0, x1, -, -⟩ := b9
    refine bodyPost_ret (by simp [results, Tryz.results165, go_sem, x0, x1]; try rfl) rfl ?_
    exact ⟨rfl, hB9⟩
  · have h2f : (0 ≤ c2) = False := by simp; omega
    go_wp2
    generalize hW9 : World.setCell _ _ _ = W9
    have b9 := bRR.out.two (0) (0)
    rw [hW9] at b9
    have hB9 : Below w.heap.size w W9 := by rw [← hW9]; exact (by repeat' (first | (with_reducible exact Below.refl _ _) | (with_reducible assumption) | (with_reducible refine bdrewN _ ?_) | (with_reducible refine Below.alloc ?_ ?_ _) | (with_reducible refine Below.setCell ?_ ?_ _) | (with_reducible refine Below.drew ?_) | go_size | (simp; omega)))
    clear hW9
    obtain ⟨x0, x1, -, -⟩ := b9
    refine bodyPost_ret (by simp [results, Tryz.results165, go_sem, x0, x1]; try rfl) rfl ?_
    exact ⟨rfl, hB9⟩
  · have hN : Hid (N = _) := hN
    have hD : Hid (D = Q) := hD
    have h2f : (0 ≤ c2) = False := by simp; omega
    have xP := low64 P (by omega) (by omega)
    have xQ := low64 Q (by omega) (by omega)
    go_wp2
    generalize hW9 : World.setCell _ _ _ = W9
    have b9 := bRR.out.two (-(P - 1) - 1) (Q)
    rw [hW9] at b9
    have hB9 : Below w.heap.size w W9 := by rw [← hW9]; exact (by repeat' (first | (with_reducible exact Below.refl _ _) | (with_reducible assumption) | (with_reducible refine bdrewN _ ?_) | (with_reducible refine Below.alloc ?_ ?_ _) | (with_reducible refine Below.setCell ?_ ?_ _) | (with_reducible refine Below.drew ?_) | go_size | (simp; omega)))
    clear hW9
    obtain ⟨x0, x1, -, -⟩ := b9
    refine bodyPost_ret (by simp [results, Tryz.results165, go_sem, x0, x1]; try rfl) rfl ?_
    exact ⟨ret_frac (by rw [hN.out]; omega) (by rw [hD.out]) rfl, hB9⟩
  · have hN : Hid (N = _) := hN
    have hD : Hid (D = Q) := hD
    have h2f : (0 ≤ c2) = False := by simp; omega
    have h1f : (0 < c1) = False := by simp; omega
    have h1e : (c1 = 0) = False := by simp; omega
    have h1b : (c1 == 0) = false := by simp; omega
    have xP := low64 P (by omega) (by omega)
    have xQ := low64 Q (by omega) (by omega)
    go_wp2
    generalize hW9 : World.setCell _ _ _ = W9
    have b9 := bRR.out.two (P) (Q)
    rw [hW9] at b9
    have hB9 : Below w.heap.size w W9 := by rw [← hW9]; exact (by repeat' (first | (with_reducible exact Below.refl _ _) | (with_reducible assumption) | (with_reducible refine bdrewN _ ?_) | (with_reducible refine Below.alloc ?_ ?_ _) | (with_reducible refine Below.setCell ?_ ?_ _) | (with_reducible refine Below.drew ?_) | go_size | (simp; omega)))
    clear hW9
    obtain ⟨x0, x1, -, -⟩ := b9
    refine bodyPost_ret (by simp [results, Tryz.results165, go_sem, x0, x1]; try rfl) rfl ?_
    exact ⟨ret_frac (by rw [hN.out]) (by rw [hD.out]) rfl, hB9⟩
  · have hN : Hid (N = _) := hN
    have hD : Hid (D = Q) := hD
    have h2f : (0 ≤ c2) = False := by simp; omega
    have h1f : (0 < c1) = False := by simp; omega
    have h1e : (c1 = 0) = False := by simp; omega
    have h1b : (c1 == 0) = false := by simp; omega
    have xP := low64 P (by omega) (by omega)
    have xQ := low64 Q (by omega) (by omega)
    go_wp2
    generalize hW9 : World.setCell _ _ _ = W9
    have b9 := bRR.out.two (-(P - 1) - 1) (Q)
    rw [hW9] at b9
    have hB9 : Below w.heap.size w W9 := by rw [← hW9]; exact (by repeat' (first | (with_reducible exact Below.refl _ _) | (with_reducible assumption) | (with_reducible refine bdrewN _ ?_) | (with_reducible refine Below.alloc ?_ ?_ _) | (with_reducible refine Below.setCell ?_ ?_ _) | (with_reducible refine Below.drew ?_) | go_size | (simp; omega)))
    clear hW9
    obtain ⟨x0, x1, -, -⟩ := b9
    refine bodyPost_ret (by simp [results, Tryz.results165, go_sem, x0, x1]; try rfl) rfl ?_
    exact ⟨ret_frac (by rw [hN.out]; omega) (by rw [hD.out]) rfl, hB9⟩

theorem rmade_any (b : Bool) (n d : Int) (w : World) (hn : 0 ≤ n) (hn' : n ≤ 170141183460469231731687303715884105728) (hd : 0 < d) (hd' : d ≤ 170141183460469231731687303715884105728) (hbn : b = true → 0 < n) :
    Calls Tryz.prog 165 #[.bool b, .agg #[.int .u64 (g0 n), .int .u64 (g1 n), .int .u64 (g2 n), .int .u64 (g3 n)], .agg #[.int .u64 (g0 d), .int .u64 (g1 d), .int .u64 (g2 d), .int .u64 (g3 d)]] w fun e w' => e = .returned (.tuple #[.agg #[.int .i64 (outN (sg b (n / gc n d)) (d / gc n d)), .int .i64 (outD (sg b (n / gc n d)) (d / gc n d))], .int .i64 (outE (sg b (n / gc n d)) (d / gc n d))]) ∧ Below w.heap.size w w' := by
  obtain ⟨q1, q2, q3, q4, q5, q6, q7⟩ := gc_part n d hn hd
  refine rmade_raw b n d (gc n d) (n / gc n d) (d / gc n d) _ _ _ _ _ w hn hn' hd hd' rfl rfl rfl q1 q2 q3 q4 q5 q6 rfl rfl ?_
  generalize n / gc n d = P at *
  generalize d / gc n d = Q at *
  unfold cmpI
  cases b
  · by_cases a1 : P ≤ 9223372036854775807 ∧ Q ≤ 9223372036854775807
    · obtain ⟨e1, e2, e3⟩ := out_yes (p := P) (q := Q) (by omega) a1.1 a1.2
      have e1' : outN (sg false P) Q = P := e1
      have e2' : outD (sg false P) Q = Q := e2
      have e3' : outE (sg false P) Q = 0 := e3
      rw [e1', e2', e3', if_pos (show P < 9223372036854775808 by omega), if_pos (show Q < 9223372036854775808 by omega)]
      simp; omega
    · obtain ⟨e1, e2, e3⟩ := out_no (p := P) (q := Q) (by omega)
      have e1' : outN (sg false P) Q = 0 := e1
      have e2' : outD (sg false P) Q = 0 := e2
      have e3' : outE (sg false P) Q = 10 := e3
      rw [e1', e2', e3']
      split <;> split <;> (try split) <;> (try split) <;> simp <;> omega
  · have hp := q7 (hbn rfl)
    by_cases a1 : P ≤ 9223372036854775808 ∧ Q ≤ 9223372036854775807
    · obtain ⟨e1, e2, e3⟩ := out_yes (p := -P) (q := Q) (by omega) (by omega) a1.2
      have e1' : outN (sg true P) Q = -P := e1
      have e2' : outD (sg true P) Q = Q := e2
      have e3' : outE (sg true P) Q = 0 := e3
      rw [e1', e2', e3', if_pos (show Q < 9223372036854775808 by omega)]
      split <;> (try split) <;> simp <;> omega
    · obtain ⟨e1, e2, e3⟩ := out_no (p := -P) (q := Q) (by omega)
      have e1' : outN (sg true P) Q = 0 := e1
      have e2' : outD (sg true P) Q = 0 := e2
      have e3' : outE (sg true P) Q = 10 := e3
      rw [e1', e2', e3']
      split <;> split <;> (try split) <;> (try split) <;> simp <;> omega

end Go.Proofs.YteipohpfaofchabGreat

namespace Go.Proofs.YteipohpfaofchabGreat
open Go.RowKit

set_option maxHeartbeats 400000 in
theorem rof_ex (n : Int) (w : World) (h1 : 0 ≤ n) (h2 : n ≤ 18446744073709551615) :
    Calls Tryz.prog 164 #[.int .u64 n] w fun e w' => e = .returned (.agg #[.int .u64 (g0 n), .int .u64 (g1 n), .int .u64 0, .int .u64 0]) ∧ ∃ c1 c2 : Array Value, w' = (w.alloc (.cells c1 163)).alloc (.cells c2 163) := by
  go_enter Tryz.func164, Tryz.ntmps164
  go_wp2
  go_returns
  exact ⟨ret_big (by unfold g0; rfl) (by unfold g1; omega) rfl rfl, _, _, rfl⟩

set_option maxRecDepth 100000 in
set_option maxHeartbeats 4000000 in
theorem rtimes_raw (x y a0 a1 b0 b1 A B C D N1 N2 N3 : Int) (w : World) (hx : 0 ≤ x) (hx' : x ≤ 18446744073709551615) (hy : 0 ≤ y) (hy' : y ≤ 18446744073709551615) (e0 : g0 x = a0) (e1 : g1 x = a1) (f0 : g0 y = b0) (f1 : g1 y = b1)
    (eA : a0 * b0 = A) (eB : a0 * b1 = B) (eC : a1 * b0 = C) (eD : a1 * b1 = D) (hA : 0 ≤ A) (hA' : A ≤ 18446744065119617025) (hB : 0 ≤ B) (hB' : B ≤ 18446744065119617025) (hC : 0 ≤ C) (hC' : C ≤ 18446744065119617025) (hD : 0 ≤ D) (hD' : D ≤ 18446744065119617025)
    (eN1 : B + A / 4294967296 = N1) (hN1 : 0 ≤ N1) (hN1' : N1 ≤ 18446744073709551615) (eN2 : N1 % 4294967296 + C = N2) (hN2 : 0 ≤ N2) (hN2' : N2 ≤ 18446744073709551615) (eN3 : N1 / 4294967296 + D + N2 / 4294967296 = N3) (hN3 : 0 ≤ N3) (hN3' : N3 ≤ 18446744073709551615) :
    Calls Tryz.prog 151 #[.int .u64 x, .int .u64 y] w fun e w' => e = .returned (.agg #[.int .u64 (A % 4294967296), .int .u64 (N2 % 4294967296), .int .u64 (N3 % 4294967296), .int .u64 (N3 / 4294967296)]) ∧ Below w.heap.size w w' := by
  go_enter Tryz.func151, Tryz.ntmps151
  go_wp2_with fail
  refine (rof_ex x _ hx hx').mono ?_
  rintro e w1 ⟨rfl, c1, c2, rfl⟩
  go_wp2_with fail
  refine (rof_ex y _ hy hy').mono ?_
  rintro e w1 ⟨rfl, c3, c4, rfl⟩
  go_wp2
  refine wp_loop_rounds 3 ?_
  rw [rounds_succ]
  go_wp2
  refine wp_loop_rounds 3 ?_
  rw [rounds_succ]
  go_wp2
  go_quiet (fail)
  go_wp2
  rw [rounds_succ]
  go_wp2
  go_quiet (fail)
  go_wp2
  rw [rounds_succ]
  go_wp2
  rw [rounds_succ]
  go_wp2
  refine wp_loop_rounds 3 ?_
  rw [rounds_succ]
  go_wp2
  go_quiet (fail)
  go_wp2
  rw [rounds_succ]
  go_wp2
  go_quiet (fail)
  go_wp2
  rw [rounds_succ]
  refine wp_world ?_
  intro W hW
  have o0 : W.cell? ⟨w.heap.size + 1 + 1 + 1 + 1 + 1 + 1 + 1, 0, none⟩ = some (.int .u64 (A % 4294967296)) := by rw [hW]; simp (maxDischargeDepth := 12) [go_sem]
  have o1 : W.cell? ⟨w.heap.size + 1 + 1 + 1 + 1 + 1 + 1 + 1, 1, none⟩ = some (.int .u64 (N2 % 4294967296)) := by rw [hW]; simp (maxDischargeDepth := 12) [go_sem]
  have o2 : W.cell? ⟨w.heap.size + 1 + 1 + 1 + 1 + 1 + 1 + 1, 2, none⟩ = some (.int .u64 (N3 % 4294967296)) := by rw [hW]; simp (maxDischargeDepth := 12) [go_sem]
  have o3 : W.cell? ⟨w.heap.size + 1 + 1 + 1 + 1 + 1 + 1 + 1, 3, none⟩ = some (.int .u64 (0)) := by rw [hW]; simp (maxDischargeDepth := 12) [go_sem]
  have p3 : W.frozen? ⟨w.heap.size + 1 + 1 + 1 + 1 + 1 + 1 + 1, 3, none⟩ = false := by rw [hW]; simp (maxDischargeDepth := 12) [go_sem]
  have r0 : W.cell? ⟨w.heap.size, 0, none⟩ = some (.int .u64 0) := by rw [hW]; simp (maxDischargeDepth := 12) [go_sem]
  have s0 : W.frozen? ⟨w.heap.size, 0, none⟩ = false := by rw [hW]; simp (maxDischargeDepth := 12) [go_sem]
  have r1 : W.cell? ⟨w.heap.size, 1, none⟩ = some (.int .u64 0) := by rw [hW]; simp (maxDischargeDepth := 12) [go_sem]
  have s1 : W.frozen? ⟨w.heap.size, 1, none⟩ = false := by rw [hW]; simp (maxDischargeDepth := 12) [go_sem]
  have r2 : W.cell? ⟨w.heap.size, 2, none⟩ = some (.int .u64 0) := by rw [hW]; simp (maxDischargeDepth := 12) [go_sem]
  have s2 : W.frozen? ⟨w.heap.size, 2, none⟩ = false := by rw [hW]; simp (maxDischargeDepth := 12) [go_sem]
  have r3 : W.cell? ⟨w.heap.size, 3, none⟩ = some (.int .u64 0) := by rw [hW]; simp (maxDischargeDepth := 12) [go_sem]
  have s3 : W.frozen? ⟨w.heap.size, 3, none⟩ = false := by rw [hW]; simp (maxDischargeDepth := 12) [go_sem]
  have hBW : Below w.heap.size w W := by rw [hW]; repeat' (first | (with_reducible exact Below.refl _ _) | (with_reducible assumption) | (with_reducible refine bdrewN _ ?_) | (with_reducible refine Below.alloc ?_ ?_ _) | (with_reducible refine Below.setCell ?_ ?_ _) | (with_reducible refine Below.drew ?_) | go_size)
  clear hW eA eB eC eD eN1 eN2 eN3 e0 e1 f0 f1
  go_wp2
  rw [rounds_succ]
  go_wp2
  refine bodyPost_ret (by simp [results, Tryz.results151, go_sem, r0, r1, r2, r3]; try rfl) rfl ?_
  exact ⟨rfl, by repeat' (first | (with_reducible exact Below.refl _ _) | (with_reducible assumption) | (with_reducible refine bdrewN _ ?_) | (with_reducible refine Below.alloc ?_ ?_ _) | (with_reducible refine Below.setCell ?_ ?_ _) | (with_reducible refine Below.drew ?_) | go_size)⟩

theorem rtimes_any (x y : Int) (w : World) (hx : 0 ≤ x) (hx' : x ≤ 18446744073709551615) (hy : 0 ≤ y) (hy' : y ≤ 18446744073709551615) :
    Calls Tryz.prog 151 #[.int .u64 x, .int .u64 y] w fun e w' => e = .returned (.agg #[.int .u64 (g0 (x * y)), .int .u64 (g1 (x * y)), .int .u64 (g2 (x * y)), .int .u64 (g3 (x * y))]) ∧ Below w.heap.size w w' := by
  have a0 := g0_bd x; have a1 := g1_bd x; have b0 := g0_bd y; have b1 := g1_bd y
  have ex : x = g0 x + g1 x * 4294967296 := by unfold g0 g1; omega
  have ey : y = g0 y + g1 y * 4294967296 := by unfold g0 g1; omega
  have A := mul_bd a0.1 a0.2 b0.1 b0.2; have B := mul_bd a0.1 a0.2 b1.1 b1.2; have C := mul_bd a1.1 a1.2 b0.1 b0.2; have D := mul_bd a1.1 a1.2 b1.1 b1.2
  have exy : x * y = g0 x * g0 y + (g0 x * g1 y + g1 x * g0 y) * 4294967296 + g1 x * g1 y * 18446744073709551616 := by
    have h1 : x * y = (g0 x + g1 x * 4294967296) * (g0 y + g1 y * 4294967296) := by rw [← ex, ← ey]
    rw [h1]; grind
  have raw := rtimes_raw x y (g0 x) (g1 x) (g0 y) (g1 y) (g0 x * g0 y) (g0 x * g1 y) (g1 x * g0 y) (g1 x * g1 y) (g0 x * g1 y + g0 x * g0 y / 4294967296) ((g0 x * g1 y + g0 x * g0 y / 4294967296) % 4294967296 + g1 x * g0 y) ((g0 x * g1 y + g0 x * g0 y / 4294967296) / 4294967296 + g1 x * g1 y + ((g0 x * g1 y + g0 x * g0 y / 4294967296) % 4294967296 + g1 x * g0 y) / 4294967296) w hx hx' hy hy' rfl rfl rfl rfl rfl rfl rfl rfl A.1 (by omega) B.1 (by omega) C.1 (by omega) D.1 (by omega) rfl (by omega) (by omega) rfl (by omega) (by omega) rfl (by omega) (by omega)
  refine raw.mono ?_
  rintro e w' ⟨rfl, hb⟩
  generalize g0 x * g0 y = P at *
  generalize g0 x * g1 y = Q at *
  generalize g1 x * g0 y = R at *
  generalize g1 x * g1 y = S at *
  clear raw ex ey a0 a1 b0 b1
  have e : x * y = P % 4294967296 + ((Q + P / 4294967296) % 4294967296 + R) % 4294967296 * 4294967296 + ((Q + P / 4294967296) / 4294967296 + S + ((Q + P / 4294967296) % 4294967296 + R) / 4294967296) % 4294967296 * 18446744073709551616 + ((Q + P / 4294967296) / 4294967296 + S + ((Q + P / 4294967296) % 4294967296 + R) / 4294967296) / 4294967296 * 79228162514264337593543950336 := by
    rw [exy]; clear hb; omega
  obtain ⟨k0, k1, k2, k3⟩ := g_of (P % 4294967296) (((Q + P / 4294967296) % 4294967296 + R) % 4294967296) (((Q + P / 4294967296) / 4294967296 + S + ((Q + P / 4294967296) % 4294967296 + R) / 4294967296) % 4294967296) (((Q + P / 4294967296) / 4294967296 + S + ((Q + P / 4294967296) % 4294967296 + R) / 4294967296) / 4294967296) (by omega) (by omega) (by omega) (by omega)
  rw [← e] at k0 k1 k2 k3
  exact ⟨ret_big k0.symm k1.symm k2.symm k3.symm, hb⟩

end Go.Proofs.YteipohpfaofchabGreat
