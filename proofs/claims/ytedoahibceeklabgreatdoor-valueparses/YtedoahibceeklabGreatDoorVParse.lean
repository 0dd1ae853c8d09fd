/- Parse at one text. -/
import Derived.Test.YtedoahibceeklabGreatDoorVText
import Derived.LoopN
import Derived.Lib.ConvBytes
import Derived.Lib.AtoiErrMem
namespace Go.Proofs.YtedoahibceeklabGreatDoor
open Go.RowKit Go.Shelf

set_option maxRecDepth 100000 in
set_option maxHeartbeats 2000000 in
theorem pu_00 (w : World) :
    Calls Tryz.prog 85 #[.string ⟨#[48, 48]⟩, .int .i64 16, .int .i64 8] w fun e w' => e = .returned (.tuple #[.int .u64 0, .nilIface]) ∧ Below w.heap.size w w' := by
  have hcv := Lib.run_convert_string_bytes (P := Tryz.prog) w 9 66 5 ⟨#[48, 48]⟩ Tryz.underlying9 Tryz.underlying66 Tryz.underlying5
  have hB0 : (Lib.bytesWorld w 5 ⟨#[48, 48]⟩).cell? ⟨w.heap.size, 0, none⟩ = some (.int .u8 48) := Lib.bytesWorld_cell w 5 ⟨#[48, 48]⟩ 0 (by decide)
  have hB1 : (Lib.bytesWorld w 5 ⟨#[48, 48]⟩).cell? ⟨w.heap.size, 1, none⟩ = some (.int .u8 48) := Lib.bytesWorld_cell w 5 ⟨#[48, 48]⟩ 1 (by decide)
  have hbb := Lib.bytesWorld_below w 5 ⟨#[48, 48]⟩
  generalize Lib.bytesWorld w 5 ⟨#[48, 48]⟩ = W1 at *
  go_enter Tryz.func85, Tryz.ntmps85
  go_wp2
  refine wp_loop_rounds 4 ?_
  rw [rounds_succ]
  go_wp2
  rw [rounds_succ]
  go_wp2
  rw [rounds_succ]
  go_wp2
  go_ret2
  exact ⟨rfl, hbb⟩

set_option maxRecDepth 100000 in
set_option maxHeartbeats 1000000 in
theorem pub_00 (w : World) :
    Calls Tryz.prog 83 #[.string ⟨#[48, 48]⟩, .int .i64 16, .int .i64 8] w fun e w' => e = .returned (.tuple #[.int .u64 0, .nilIface]) ∧ Below w.heap.size w w' := by
  go_enter Tryz.func83, Tryz.ntmps83
  go_wp2_with fail
  refine (pu_00 _).mono ?_
  rintro e w1 ⟨rfl, hb⟩
  go_wp2
  go_ret2
  exact ⟨rfl, hb⟩

set_option maxRecDepth 100000 in
set_option maxHeartbeats 1000000 in
theorem unesc_x00 (w : World) :
    Calls Tryz.prog 63 #[.string ⟨#[120, 48, 48]⟩] w fun e w' => e = .returned (.tuple #[.int .u8 0, .int .i64 3, .bool true]) ∧ Below w.heap.size w w' := by
  go_enter Tryz.func63, Tryz.ntmps63
  have e1 : (⟨#[120, 48, 48]⟩ : ByteArray).extract 1 3 = ⟨#[48, 48]⟩ := by decide
  have j0 : ((⟨#[120, 48, 48]⟩ : ByteArray)[0]'(by decide)).toNat = 120 := rfl
  go_wp2_with fail
  refine (pub_00 _).mono ?_
  rintro e w1 ⟨rfl, hb⟩
  go_wp2
  go_region
  go_wp2
  refine bodyPost_ret (by simp [results, Tryz.results63, go_sem]; try rfl) rfl ?_
  exact ⟨rfl, hb.drew⟩

theorem isB_below {T e : TypeId} {B b : Nat} {bs : List Value} {w W : World} (h : Lib.IsBuilder T e B b bs w) (hb : Below w.heap.size w W) : Lib.IsBuilder T e B b bs W := by
  have go : ∀ p, Lib.BuilderAt T e B b p bs w → Lib.BuilderAt T e B b p bs W := by
    intro p h
    have hlt := h.lt
    obtain ⟨hB, v, hbk, hown, hne⟩ := h
    exact ⟨hB, v, (hb.block b hlt).trans hbk, hown.kept (row := none) ⟨hb.os, hb.tape, hb.output, hb.size, fun k hk _ => hb.block k hk⟩ (Classical.em _), hne⟩
  rcases h with h | h
  · exact Or.inl (go _ h)
  · exact Or.inr (go _ h)

set_option maxRecDepth 100000 in
set_option maxHeartbeats 2000000 in
theorem unq_Ax00 (w : World) :
    Calls Tryz.prog 45 #[.string ⟨#[65, 92, 120, 48, 48, 34]⟩] w fun e w' => e = .returned (.tuple #[.string ⟨#[65, 0]⟩, .bool true]) ∧ Below w.heap.size w w' := by
  have t1 : (Lib.trimSuffix [65, 92, 120, 48, 48, 34] [34]).toArray = #[65, 92, 120, 48, 48] := by decide
  have t2 : Lib.hasSuffix [65, 92, 120, 48, 48, 34] [34] = true := by decide
  have j0 : ((⟨#[65, 92, 120, 48, 48]⟩ : ByteArray)[0]'(by decide)).toNat = 65 := rfl
  have j1 : ((⟨#[65, 92, 120, 48, 48]⟩ : ByteArray)[1]'(by decide)).toNat = 92 := rfl
  have e1 : (⟨#[65, 92, 120, 48, 48]⟩ : ByteArray).extract 2 5 = ⟨#[120, 48, 48]⟩ := by decide
  have CS : ∀ W : World, Calls Tryz.prog 62 #[.string ⟨#[65, 92, 120, 48, 48, 34]⟩, .string ⟨#[34]⟩] W fun e w' => e = .returned (.tuple #[.string ⟨#[65, 92, 120, 48, 48]⟩, .bool true]) ∧ w' = W := fun W => by
    have h := Tryz.strings_CutSuffix ⟨#[65, 92, 120, 48, 48, 34]⟩ ⟨#[34]⟩ W (by decide)
    rw [show (⟨#[65, 92, 120, 48, 48, 34]⟩ : ByteArray).data.toList = [65, 92, 120, 48, 48, 34] from rfl, show (⟨#[34]⟩ : ByteArray).data.toList = [34] from rfl, t1, t2] at h
    exact h
  have CS' : Hid (∀ W : World, Calls Tryz.prog 62 #[.string ⟨#[65, 92, 120, 48, 48, 34]⟩, .string ⟨#[34]⟩] W fun e w' => e = .returned (.tuple #[.string ⟨#[65, 92, 120, 48, 48]⟩, .bool true]) ∧ w' = W) := CS
  clear CS t1 t2
  go_enter Tryz.func45, Tryz.ntmps45
  go_wp2_with fail
  refine (CS'.out _).mono ?_
  rintro e w' ⟨rfl, rfl⟩
  go_wp2
  have h0 : Hid (Lib.IsBuilder 84 5 w'.heap.size w'.heap.size (Lib.byteCells []) (w'.alloc (.cells #[.pointer none, .slice none 0 0] 84))) := Lib.fresh_isBuilder _ _ w'
  have k0 : Below w'.heap.size w' (w'.alloc (.cells #[.pointer none, .slice none 0 0] 84)) := (Below.refl _ _).alloc (Nat.le_refl _) _
  generalize w'.alloc (.cells #[.pointer none, .slice none 0 0] 84) = W0 at *
  refine wp_loop_rounds 5 ?_
  rw [rounds_succ]
  go_wp2_with fail
  refine (wbyte w'.heap.size w'.heap.size _ _ _ h0.out (by simp [Lib.byteCells]) k0.size).mono ?_
  rintro e w1 ⟨rfl, h1, hb1⟩
  have h1' : Hid (Lib.IsBuilder 84 5 w'.heap.size w'.heap.size (Lib.byteCells [65]) w1) := Or.inr h1
  have k1 := k0.trans hb1
  clear h1 h0
  go_wp2
  rw [rounds_succ]
  go_wp2_with fail
  refine (unesc_x00 _).mono ?_
  rintro e w2 ⟨rfl, hb2⟩
  have h2' : Hid (Lib.IsBuilder 84 5 w'.heap.size w'.heap.size (Lib.byteCells [65]) w2) := isB_below h1'.out hb2
  have k2 := k1.trans (hb2.mono k1.size)
  clear h1' hb1 k0
  go_wp2_with fail
  refine (wbyte w'.heap.size w'.heap.size _ _ _ h2'.out (by simp [Lib.byteCells]) k2.size).mono ?_
  rintro e w3 ⟨rfl, h3, hb3⟩
  have h3' : Hid (Lib.IsBuilder 84 5 w'.heap.size w'.heap.size (Lib.byteCells [65, 0]) w3) := Or.inr h3
  have k3 := k2.trans hb3
  clear h2' h3 hb2
  go_wp2
  rw [rounds_succ]
  go_wp2_with fail
  refine (Tryz.Builder_String_any w'.heap.size w'.heap.size _ _ h3'.out k3.size).mono ?_
  rintro e w4 ⟨rfl, hb4⟩
  go_wp2
  go_ret2
  exact ⟨rfl, k3.trans hb4⟩

/-- A block that holds a value, which may be written. -/
structure BlkV (W : World) (B : Nat) (k n d : Int) (s : ByteArray) : Prop where
  c0 : W.cell? ⟨B, 0, none⟩ = some (.int .i64 k)
  c1 : W.cell? ⟨B, 1, none⟩ = some (.int .i64 n)
  c2 : W.cell? ⟨B, 2, none⟩ = some (.int .i64 d)
  c3 : W.cell? ⟨B, 3, none⟩ = some (.string s)
  f0 : W.frozen? ⟨B, 0, none⟩ = false
  f1 : W.frozen? ⟨B, 1, none⟩ = false
  f2 : W.frozen? ⟨B, 2, none⟩ = false
  f3 : W.frozen? ⟨B, 3, none⟩ = false
theorem BlkV.below {W W' : World} {B m : Nat} {k n d : Int} {s : ByteArray} (h : BlkV W B k n d s) (hb : Below m W W') (hB : B < m) : BlkV W' B k n d s :=
  ⟨(hb.cell (p := ⟨B, 0, none⟩) hB).trans h.c0, (hb.cell (p := ⟨B, 1, none⟩) hB).trans h.c1, (hb.cell (p := ⟨B, 2, none⟩) hB).trans h.c2, (hb.cell (p := ⟨B, 3, none⟩) hB).trans h.c3,
   (hb.frozen (p := ⟨B, 0, none⟩) hB).trans h.f0, (hb.frozen (p := ⟨B, 1, none⟩) hB).trans h.f1, (hb.frozen (p := ⟨B, 2, none⟩) hB).trans h.f2, (hb.frozen (p := ⟨B, 3, none⟩) hB).trans h.f3⟩
theorem BlkV.four {W : World} {B : Nat} {k n d k' n' d' : Int} {s s' : ByteArray} (h : BlkV W B k n d s) : BlkV ((((W.setCell ⟨B, 0, none⟩ (.int .i64 k')).setCell ⟨B, 1, none⟩ (.int .i64 n')).setCell ⟨B, 2, none⟩ (.int .i64 d')).setCell ⟨B, 3, none⟩ (.string s')) B k' n' d' s' := by
  obtain ⟨c0, c1, c2, c3, f0, f1, f2, f3⟩ := h
  constructor <;> simp (maxDischargeDepth := 12) [go_sem, c0, c1, c2, c3, f0, f1, f2, f3]

set_option maxRecDepth 100000 in
set_option maxHeartbeats 2000000 in
theorem guess_Ax00 (w : World) :
    Calls Tryz.prog 30 #[.string ⟨#[34, 65, 92, 120, 48, 48, 34]⟩] w fun e w' => e = .returned (.tuple #[.agg #[.int .i64 3, .int .i64 0, .int .i64 0, .string ⟨#[65, 0]⟩], .bool true]) ∧ Below w.heap.size w w' := by
  have e1 : (⟨#[34, 65, 92, 120, 48, 48, 34]⟩ : ByteArray).extract 1 7 = ⟨#[65, 92, 120, 48, 48, 34]⟩ := by decide
  have e2 : (⟨#[34, 65, 92, 120, 48, 48, 34]⟩ : ByteArray).extract 0 1 = ⟨#[34]⟩ := by decide
  go_enter Tryz.func30, Tryz.ntmps30
  go_wp2_with (first | (go_at_call 44; go_in) | (go_at_call 61; go_in))
  refine (unq_Ax00 _).mono ?_
  rintro e w1 ⟨rfl, hb⟩
  have bR : BlkV w1 w.heap.size 0 0 0 ⟨#[]⟩ := BlkV.below (by constructor <;> simp (maxDischargeDepth := 12) [go_sem]) hb (by simp)
  obtain ⟨hc, hf, hz, hB⟩ := bf (w := w) (by go_grown) hb
  have bRR : Hid (BlkV w1 w.heap.size 0 0 0 ⟨#[]⟩) := bR
  clear hc hf
  obtain ⟨r0, r1, r2, r3, r4, r5, r6, r7⟩ := bR
  go_wp2
  generalize hW9 : World.setCell _ _ _ = W9
  have b9 : BlkV W9 w.heap.size 3 0 0 ⟨#[65, 0]⟩ := by rw [← hW9]; exact bRR.out.four
  have hB9 : Below w.heap.size w W9 := by rw [← hW9]; exact (((hB.setCell (by simp) _).setCell (by simp) _).setCell (by simp) _).setCell (by simp) _
  clear hW9
  obtain ⟨x0, x1, x2, x3, -, -, -, -⟩ := b9
  refine bodyPost_ret (by simp [results, Tryz.results30, go_sem, x0, x1, x2, x3]; try rfl) rfl ?_
  exact ⟨rfl, hB9⟩

end Go.Proofs.YtedoahibceeklabGreatDoor
