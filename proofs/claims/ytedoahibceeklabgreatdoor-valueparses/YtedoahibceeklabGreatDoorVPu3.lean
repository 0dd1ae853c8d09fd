/- strconv.ParseUint of two bytes, to the base 16, of 8 bits: what it tells. -/
import Derived.Test.YtedoahibceeklabGreatDoorVPu2
namespace Go.Proofs.YtedoahibceeklabGreatDoor
open Go.RowKit Go.Shelf
set_option linter.unusedVariables false

/-- What two bytes say to the base 16. -/
def hex2 (a b : UInt8) : Option UInt8 := if hexv a < 16 ∧ hexv b < 16 then some (UInt8.ofNat (16 * hexv a + hexv b)) else none


/-- Internal ParseUint of two bytes. -/
theorem ipu_yes (a b : UInt8) (w : World) (hh : (hexv a < 16 ∧ hexv b < 16)) :
    Calls Tryz.prog 85 #[.string ⟨#[a, b]⟩, .int .i64 16, .int .i64 8] w fun e w' => e = .returned (.tuple #[.int .u64 ((16 * hexv a + hexv b : Nat) : Int), .nilIface]) ∧ Below w.heap.size w w' := by
  rcases cls a with ⟨h1, h2, h3, h9⟩ | ⟨h1, h2, h3, h4, h9⟩ | ⟨h1, h2, h3, h4, h9⟩ | ⟨h1, h2, h3, h4, h9⟩ | ⟨h1, h2, h3, h4⟩
  · rcases cls b with ⟨g1, g2, g3, g9⟩ | ⟨g1, g2, g3, g4, g9⟩ | ⟨g1, g2, g3, g4, g9⟩ | ⟨g1, g2, g3, g4, g9⟩ | ⟨g1, g2, g3, g4⟩
    · have h := pu_dig_dig a b w h1 h2 h9 g1 g2 g9
      rw [show (a.toNat - 48 : Int) * 16 + (b.toNat - 48 : Int) = ((16 * hexv a + hexv b : Nat) : Int) by omega] at h
      exact h
    · have h := pu_dig_hex a b w h1 h2 h9 g1 g2 g3 g9
      rw [show (a.toNat - 48 : Int) * 16 + (low8 b - 97 + 10) = ((16 * hexv a + hexv b : Nat) : Int) by omega] at h
      exact h
    · exfalso; omega
    · exfalso; omega
    · exfalso; omega
  · rcases cls b with ⟨g1, g2, g3, g9⟩ | ⟨g1, g2, g3, g4, g9⟩ | ⟨g1, g2, g3, g4, g9⟩ | ⟨g1, g2, g3, g4, g9⟩ | ⟨g1, g2, g3, g4⟩
    · have h := pu_hex_dig a b w h1 h2 h3 h9 g1 g2 g9
      rw [show (low8 a - 97 + 10) * 16 + (b.toNat - 48 : Int) = ((16 * hexv a + hexv b : Nat) : Int) by omega] at h
      exact h
    · have h := pu_hex_hex a b w h1 h2 h3 h9 g1 g2 g3 g9
      rw [show (low8 a - 97 + 10) * 16 + (low8 b - 97 + 10) = ((16 * hexv a + hexv b : Nat) : Int) by omega] at h
      exact h
    · exfalso; omega
    · exfalso; omega
    · exfalso; omega
  · exfalso; omega
  · exfalso; omega
  · exfalso; omega
/-- Internal ParseUint of two bytes. -/
theorem ipu_no (a b : UInt8) (w : World) (hh : ¬ (hexv a < 16 ∧ hexv b < 16)) :
    Calls Tryz.prog 85 #[.string ⟨#[a, b]⟩, .int .i64 16, .int .i64 8] w fun e w' => e = .returned (.tuple #[.int .u64 0, .iface 115 (.int .i64 2)]) ∧ Below w.heap.size w w' := by
  rcases cls a with ⟨h1, h2, h3, h9⟩ | ⟨h1, h2, h3, h4, h9⟩ | ⟨h1, h2, h3, h4, h9⟩ | ⟨h1, h2, h3, h4, h9⟩ | ⟨h1, h2, h3, h4⟩
  · rcases cls b with ⟨g1, g2, g3, g9⟩ | ⟨g1, g2, g3, g4, g9⟩ | ⟨g1, g2, g3, g4, g9⟩ | ⟨g1, g2, g3, g4, g9⟩ | ⟨g1, g2, g3, g4⟩
    · exact absurd ⟨by omega, by omega⟩ hh
    · exact absurd ⟨by omega, by omega⟩ hh
    · exact pu_dig_let a b w h1 h2 h9 g1 g2 g3 g9
    · exact pu_dig_lss a b w h1 h2 h9 g1 g2 g3 g9
    · exact pu_dig_gtr a b w h1 h2 h9 g1 g2 g3
  · rcases cls b with ⟨g1, g2, g3, g9⟩ | ⟨g1, g2, g3, g4, g9⟩ | ⟨g1, g2, g3, g4, g9⟩ | ⟨g1, g2, g3, g4, g9⟩ | ⟨g1, g2, g3, g4⟩
    · exact absurd ⟨by omega, by omega⟩ hh
    · exact absurd ⟨by omega, by omega⟩ hh
    · exact pu_hex_let a b w h1 h2 h3 h9 g1 g2 g3 g9
    · exact pu_hex_lss a b w h1 h2 h3 h9 g1 g2 g3 g9
    · exact pu_hex_gtr a b w h1 h2 h3 h9 g1 g2 g3
  · exact pu_let a b w h1 h2 h3 h9
  · exact pu_lss a b w h1 h2 h3 h9
  · exact pu_gtr a b w h1 h2 h3

/-- The two errors of strconv lie as interface values. -/
structure Errs (w : World) : Prop where
  syn : ∃ ev, w.cell? ⟨1, 0, none⟩ = some ev ∧ (ev = .nilIface ∨ ∃ te pe, ev = .iface te pe)
  rng : ∃ ev, w.cell? ⟨2, 0, none⟩ = some ev ∧ (ev = .nilIface ∨ ∃ te pe, ev = .iface te pe)
theorem Errs.below {w W : World} (h : Errs w) (hb : Below w.heap.size w W) (hs : 8 ≤ w.heap.size) : Errs W := by
  obtain ⟨⟨e1, c1, d1⟩, ⟨e2, c2, d2⟩⟩ := h
  exact ⟨⟨e1, (hb.cell (p := ⟨_, 0, none⟩) (by show 1 < w.heap.size; omega)).trans c1, d1⟩, ⟨e2, (hb.cell (p := ⟨_, 0, none⟩) (by show 2 < w.heap.size; omega)).trans c2, d2⟩⟩

set_option maxRecDepth 100000 in
set_option maxHeartbeats 2000000 in
theorem pu_yes (a b : UInt8) (w : World) (h : hexv a < 16 ∧ hexv b < 16) :
    Calls Tryz.prog 83 #[.string ⟨#[a, b]⟩, .int .i64 16, .int .i64 8] w fun e w' => e = .returned (.tuple #[.int .u64 ((16 * hexv a + hexv b : Nat) : Int), .nilIface]) ∧ Below w.heap.size w w' := by
  obtain ⟨v, ev⟩ : ∃ v : Int, Hid (((16 * hexv a + hexv b : Nat) : Int) = v) := ⟨_, rfl⟩
  have H : Hid (∀ W : World, Calls Tryz.prog 85 #[.string ⟨#[a, b]⟩, .int .i64 16, .int .i64 8] W fun e w' => e = .returned (.tuple #[.int .u64 v, .nilIface]) ∧ Below W.heap.size W w') := fun W => by
    have q := ipu_yes a b W h
    rw [ev.out] at q
    exact q
  rw [ev.out]
  clear h ev
  go_enter Tryz.func83, Tryz.ntmps83
  go_wp2_with fail
  refine (H.out _).mono ?_
  rintro e w1 ⟨rfl, hb⟩
  go_wp2
  go_ret2
  exact ⟨rfl, hb⟩

set_option maxRecDepth 100000 in
set_option maxHeartbeats 2000000 in
theorem pu_no (a b : UInt8) (w : World) (h : ¬ (hexv a < 16 ∧ hexv b < 16)) (he : Errs w) (hs : 8 ≤ w.heap.size) :
    Calls Tryz.prog 83 #[.string ⟨#[a, b]⟩, .int .i64 16, .int .i64 8] w fun e w' => ∃ p, e = .returned (.tuple #[.int .u64 0, .iface 116 p]) ∧ Below w.heap.size w w' := by
  have H : Hid (∀ W : World, Calls Tryz.prog 85 #[.string ⟨#[a, b]⟩, .int .i64 16, .int .i64 8] W fun e w' => e = .returned (.tuple #[.int .u64 0, .iface 115 (.int .i64 2)]) ∧ Below W.heap.size W w') := fun W => by
    exact ipu_no a b W h
  clear h
  go_enter Tryz.func83, Tryz.ntmps83
  go_wp2_with fail
  refine (H.out _).mono ?_
  rintro e w1 ⟨rfl, hb⟩
  obtain ⟨⟨ev, hv, hev⟩, -⟩ := he.below hb hs
  have hsz : (⟨#[a, b]⟩ : ByteArray).size ≤ 281474976710656 := by show 2 ≤ _; decide
  go_wp2_with fail
  refine (Tryz.strconv_toError_syntax _ _ 16 8 ev _ hsz hv hev).mono ?_
  rintro e w2 ⟨N, rfl, -, -, hb2⟩
  go_wp2
  go_ret2
  exact ⟨_, rfl, hb.trans (hb2.mono hb.size)⟩

end Go.Proofs.YtedoahibceeklabGreatDoor
