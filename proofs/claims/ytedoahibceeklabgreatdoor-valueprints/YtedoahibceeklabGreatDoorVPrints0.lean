/- The law ValuePrints: its walk. -/
import Derived.Test.YtedoahibceeklabGreatDoorVLive
import Derived.Test.YtedoahibceeklabGreatDoorVDocPrint
namespace Go.Proofs.YtedoahibceeklabGreatDoor
open Go.RowKit Go.Shelf
set_option linter.unusedVariables false

set_option maxRecDepth 100000 in
set_option maxHeartbeats 4000000 in
theorem prints_walk (k n d : Int) (s : ByteArray) (h1 : -9223372036854775808 ≤ n) (h2 : n ≤ 9223372036854775807) (g1 : -9223372036854775808 ≤ d) (g2 : d ≤ 9223372036854775807) (w : World) (ht : Pow w) :
    Calls Tryz.prog 4 #[.agg #[.int .i64 k, .int .i64 n, .int .i64 d, .string s]] w fun e w' => e = .returned (.bool true) ∧ Below w.heap.size w w' := by
  obtain ⟨T, eT⟩ : ∃ T : ByteArray, Hid ((⟨(if chk k n d s = 0 then vtext k n d s else []).toArray⟩ : ByteArray) = T) := ⟨_, rfl⟩
  obtain ⟨C, eC⟩ : ∃ C : Int, Hid (chk k n d s = C) := ⟨_, rfl⟩
  have r1 : Hid (∀ W : World, Pow W → Calls Tryz.prog 14 #[.agg #[.int .i64 k, .int .i64 n, .int .i64 d, .string s]] W fun e w' => e = .returned (.tuple #[.string T, .int .i64 C]) ∧ Below W.heap.size W w') := fun W hW => by
    have h := print_any k n d s W h1 h2 g1 g2 hW
    rw [eT.out, eC.out] at h
    exact h
  have r2 : Hid (∀ W : World, Calls Tryz.prog 15 #[.agg #[.int .i64 k, .int .i64 n, .int .i64 d, .string s]] W fun e w' => e = .returned (.tuple #[.string T, .int .i64 C]) ∧ Below W.heap.size W w') := fun W => by
    have h := dprint_any k n d s W h1 h2 g1 g2
    rw [eT.out, eC.out] at h
    exact h
  clear eT eC h1 h2 g1 g2
  go_enter Tryz.func4, Tryz.ntmps4
  go_upto_region 1 with fail
  refine wp_world ?_
  intro W0 hW0
  have A0 : Hid (BlkV W0 w.heap.size k n d s) := by rw [hW0]; constructor <;> simp (maxDischargeDepth := 12) [go_sem]
  have z0 : w.heap.size < W0.heap.size := by rw [hW0]; simp
  have K0 : Below w.heap.size w W0 := by rw [hW0]; go_grown
  clear hW0
  obtain ⟨a0, a1, a2, a3, -, -, -, -⟩ := A0.out
  go_wp2_with fail
  refine (r1.out _ (ht.below K0)).mono ?_
  rintro e w1 ⟨rfl, hb⟩
  clear a0 a1 a2 a3
  have A1 : Hid (BlkV w1 w.heap.size k n d s) := A0.out.below hb z0
  have K1 : Below w.heap.size w w1 := K0.trans (hb.mono K0.size)
  clear hb A0 z0 K0
  obtain ⟨a0, a1, a2, a3, -, -, -, -⟩ := A1.out
  go_wp2_with fail
  refine (r2.out _).mono ?_
  rintro e w2 ⟨rfl, hb⟩
  have K2 : Below w.heap.size w w2 := K1.trans (hb.mono K1.size)
  clear hb A1 K1 a0 a1 a2 a3
  go_wp2_with fail
  refine (live_any _ (ht.below K2)).mono ?_
  rintro e w3 ⟨rfl, hb⟩
  go_wp2
  go_ret
  exact ⟨rfl, K2.trans (hb.mono K2.size)⟩

end Go.Proofs.YtedoahibceeklabGreatDoor
