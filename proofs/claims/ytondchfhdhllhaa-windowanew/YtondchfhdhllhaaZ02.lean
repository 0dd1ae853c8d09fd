/- live: what a few calls answer, over texts. -/
import Derived.Test.YtondchfhdhllhaaZ01
import Derived.ArgAppend

namespace Go.Proofs.Ytondchfhdhllhaa
open Go.RowKit Go.Shelf
set_option linter.unusedVariables false

theorem allfinS {f : ByteArray → ByteArray → ByteArray} {w : World} {bw : Nat} {op : Value} {nt : ByteArray} {c : Int} {X Y : List (ByteArray)} {F : Nat → Prop} {ok : Nat → ByteArray → Prop} {G : Nat → Prop} {I : Nat → World → Prop} {n : Nat} {w1 w3 w4 : World} {va vb : Value} {sm : ByteArray} {c' : Int} {n' : Nat} (O : OpS op f ok G I) (H : StS f op nt ok G I w bw c n X Y F) (hF : ∀ k, F k → k < w.heap.size) (hb0 : Below w.heap.size w w1) (HW : WinS f w1 bw op nt c X Y F va vb sm) (hI : I n' w3) (hf : Fr (fun k => k = bw ∨ G k) w1 w3)
    (hb : w3.heap[bw]? = some (.cells #[op, .string nt, .int .i64 c', va, vb, .string sm] 67 (0, 0))) (f4 : Fr (fun k => k = w.heap.size) w3 w4) : Hid (StS f op nt ok G I w4 bw c' n' X Y (FF F w w4) ∧ Fr (fun k => F k ∨ G k) w w4) := by
  have hG : ∀ k, G k → k < w.heap.size := fun k g => O.glt _ _ _ H.st g
  have hbw := hF _ HW.fw
  have ra := f4.row (hf.row HW.ra (fun k e h => h.elim (fun q => row_ne HW.ra HW.blk (by decide) (q ▸ e)) (fun q => H.dis k (HW.fa k e) q))) (fun k e q => by have := hF k (HW.fa k e); omega)
  have rb := f4.row (hf.row HW.rb (fun k e h => h.elim (fun q => row_ne HW.rb HW.blk (by decide) (q ▸ e)) (fun q => H.dis k (HW.fb k e) q))) (fun k e q => by have := hF k (HW.fb k e); omega)
  have FA : Fr (fun k => F k ∨ G k) w w4 := ((Fr.of_below hb0).trans hf (fun i h => Or.inl (h.elim (fun q => Or.inl (q ▸ HW.fw)) Or.inr))).trans f4 (fun i q => Or.inr (by omega))
  refine ⟨⟨⟨va, vb, sm, ⟨f4.heap hb (by omega), ra, rb, HW.sum, HW.lim, Or.inl HW.fw, fun k e => Or.inl (HW.fa k e), fun k e => Or.inl (HW.fb k e), ?_⟩⟩, O.stay _ _ _ _ hI f4 (fun k g q => by have := hG k g; omega), H.okX, H.okY, ?_, H.lim⟩, FA⟩
  · intro k h
    rcases h with h | h
    · exact Nat.lt_of_lt_of_le (hF k h) FA.size
    · exact h.2
  · intro k h g
    rcases h with h | h
    · exact H.dis k h g
    · have := hG k g; omega

set_option maxRecDepth 100000 in
set_option maxHeartbeats 8000000 in
theorem allS_none {f : ByteArray → ByteArray → ByteArray} {w : World} {bw : Nat} {op : Value} {nt : ByteArray} {c : Int} {F : Nat → Prop} {ok : Nat → ByteArray → Prop} {G : Nat → Prop} {I : Nat → World → Prop} {n : Nat} (O : OpS op f ok G I) (H : StS f op nt ok G I w bw c n [] [] F) :
    Calls Try.prog 27 #[.pointer (some ⟨bw, 0, none⟩)] w fun e w' => e = .returned (.string nt) ∧ Below w.heap.size w w' := by
  obtain ⟨va, vb, sm, H1⟩ := H.win
  have hF := H1.ft
  have hlim := H.lim
  have hbw : bw < w.heap.size := hF _ H1.fw
  have HL : Hid (∀ W, Below w.heap.size w W → Calls Try.prog 28 #[.pointer (some ⟨bw, 0, none⟩)] W fun e w' => e = .returned (.int .i64 ((0 + 0 : Nat) : Int)) ∧ Below W.heap.size W w') := fun W hW =>
    (lenS_any (H1.fr (Fr.of_below (P := fun _ => False) hW) (fun _ _ h => h))).mono (fun e w' h => ⟨h.1, by obtain ⟨q, rfl⟩ := h.2; exact Below.drewN (Below.refl _ _) q⟩)
  go_enter Try.func27, Try.ntmps27
  go_wp2_with fail
  refine (HL.out _ (by go_grown)).mono ?_
  rintro e w1 ⟨rfl, hb1⟩
  have hb0 : Below w.heap.size w w1 := hb1
  have HW1 : Hid (WinS f w1 bw op nt c [] [] F va vb sm) := H1.fr (Fr.of_below (P := fun _ => False) hb0) (fun _ _ h => h)
  obtain ⟨pa, ca, hpa⟩ := row_form HW1.out.ra
  obtain ⟨pb, cb, hpb⟩ := row_form HW1.out.rb
  have yl : w1.cell? ⟨bw, 3, none⟩ = some (.slice pa 0 ca) := by rw [Lib.cell_of_heap HW1.out.blk, hpa]; rfl
  have yb : w1.cell? ⟨bw, 4, none⟩ = some (.slice pb 0 cb) := by rw [Lib.cell_of_heap HW1.out.blk, hpb]; rfl
  clear hpa hpb
  have yn0 : w1.cell? ⟨bw, 1, none⟩ = some (.string nt) := (Lib.cell_of_heap HW1.out.blk _).trans rfl
  have ys0 : w1.cell? ⟨bw, 5, none⟩ = some (.string sm) := (Lib.cell_of_heap HW1.out.blk _).trans rfl
  clear hb1 HL
  go_wp2
  refine bodyPost_ret (by simp [results, Try.results27, go_sem]; try rfl) rfl ?_
  exact ⟨rfl, hb0⟩

set_option maxRecDepth 100000 in
set_option maxHeartbeats 8000000 in
theorem allS_b {f : ByteArray → ByteArray → ByteArray} {w : World} {bw : Nat} {op : Value} {nt : ByteArray} {c : Int} {y : ByteArray} {yr : List (ByteArray)} {F : Nat → Prop} {ok : Nat → ByteArray → Prop} {G : Nat → Prop} {I : Nat → World → Prop} {n : Nat} (O : OpS op f ok G I) (H : StS f op nt ok G I w bw c n [] (y :: yr) F) :
    Calls Try.prog 27 #[.pointer (some ⟨bw, 0, none⟩)] w fun e w' => e = .returned (.string (sumL f y yr)) ∧ Below w.heap.size w w' := by
  obtain ⟨va, vb, sm, H1⟩ := H.win
  have hF := H1.ft
  have hlim := H.lim
  have hbw : bw < w.heap.size := hF _ H1.fw
  have HL : Hid (∀ W, Below w.heap.size w W → Calls Try.prog 28 #[.pointer (some ⟨bw, 0, none⟩)] W fun e w' => e = .returned (.int .i64 ((0 + (yr.length + 1) : Nat) : Int)) ∧ Below W.heap.size W w') := fun W hW =>
    (lenS_any (H1.fr (Fr.of_below (P := fun _ => False) hW) (fun _ _ h => h))).mono (fun e w' h => ⟨h.1, by obtain ⟨q, rfl⟩ := h.2; exact Below.drewN (Below.refl _ _) q⟩)
  obtain ⟨mm, hmm⟩ : ∃ mm : Nat, Hid (0 + (yr.length + 1) = mm) := ⟨_, rfl⟩
  have hmm0 : ¬ ((mm : Int) = 0) := by have := hmm.out; omega
  rw [hmm.out] at HL
  go_enter Try.func27, Try.ntmps27
  go_wp2_with fail
  refine (HL.out _ (by go_grown)).mono ?_
  rintro e w1 ⟨rfl, hb1⟩
  have hb0 : Below w.heap.size w w1 := hb1
  have HW1 : Hid (WinS f w1 bw op nt c [] (y :: yr) F va vb sm) := H1.fr (Fr.of_below (P := fun _ => False) hb0) (fun _ _ h => h)
  obtain ⟨pa, ca, hpa⟩ := row_form HW1.out.ra
  obtain ⟨pb, cb, hpb⟩ := row_form HW1.out.rb
  have yl : w1.cell? ⟨bw, 3, none⟩ = some (.slice pa 0 ca) := by rw [Lib.cell_of_heap HW1.out.blk, hpa]; rfl
  have yb : w1.cell? ⟨bw, 4, none⟩ = some (.slice pb (yr.length + 1) cb) := by rw [Lib.cell_of_heap HW1.out.blk, hpb]; rfl
  clear hpa hpb
  have yn0 : w1.cell? ⟨bw, 1, none⟩ = some (.string nt) := (Lib.cell_of_heap HW1.out.blk _).trans rfl
  have ys0 : w1.cell? ⟨bw, 5, none⟩ = some (.string sm) := (Lib.cell_of_heap HW1.out.blk _).trans rfl
  have hyl : ¬ ((yr.length : Int) + 1 = 0) := by omega
  have hsm : Hid (sm = sumL f y yr) := H1.sum y yr rfl
  clear hb1 HL
  go_wp2
  refine bodyPost_ret (by simp [results, Try.results27, go_sem]; try rfl) rfl ?_
  exact ⟨by rw [hsm.out], hb0⟩

set_option maxRecDepth 100000 in
set_option maxHeartbeats 8000000 in
theorem allS_a {f : ByteArray → ByteArray → ByteArray} {w : World} {bw : Nat} {op : Value} {nt : ByteArray} {c : Int} {x : ByteArray} {xr : List (ByteArray)} {F : Nat → Prop} {ok : Nat → ByteArray → Prop} {G : Nat → Prop} {I : Nat → World → Prop} {n : Nat} (O : OpS op f ok G I) (H : StS f op nt ok G I w bw c n (x :: xr) [] F) :
    Calls Try.prog 27 #[.pointer (some ⟨bw, 0, none⟩)] w fun e w' => e = .returned (.string (sumR f x xr)) ∧ Below w.heap.size w w' := by
  obtain ⟨va, vb, sm, H1⟩ := H.win
  have hF := H1.ft
  have hlim := H.lim
  have hbw : bw < w.heap.size := hF _ H1.fw
  have HL : Hid (∀ W, Below w.heap.size w W → Calls Try.prog 28 #[.pointer (some ⟨bw, 0, none⟩)] W fun e w' => e = .returned (.int .i64 (((xr.length + 1) + 0 : Nat) : Int)) ∧ Below W.heap.size W w') := fun W hW =>
    (lenS_any (H1.fr (Fr.of_below (P := fun _ => False) hW) (fun _ _ h => h))).mono (fun e w' h => ⟨h.1, by obtain ⟨q, rfl⟩ := h.2; exact Below.drewN (Below.refl _ _) q⟩)
  obtain ⟨mm, hmm⟩ : ∃ mm : Nat, Hid ((xr.length + 1) + 0 = mm) := ⟨_, rfl⟩
  have hmm0 : ¬ ((mm : Int) = 0) := by have := hmm.out; omega
  rw [hmm.out] at HL
  go_enter Try.func27, Try.ntmps27
  go_wp2_with fail
  refine (HL.out _ (by go_grown)).mono ?_
  rintro e w1 ⟨rfl, hb1⟩
  have hb0 : Below w.heap.size w w1 := hb1
  have HW1 : Hid (WinS f w1 bw op nt c (x :: xr) [] F va vb sm) := H1.fr (Fr.of_below (P := fun _ => False) hb0) (fun _ _ h => h)
  obtain ⟨pa, ca, hpa⟩ := row_form HW1.out.ra
  obtain ⟨pb, cb, hpb⟩ := row_form HW1.out.rb
  have yl : w1.cell? ⟨bw, 3, none⟩ = some (.slice pa (xr.length + 1) ca) := by rw [Lib.cell_of_heap HW1.out.blk, hpa]; rfl
  have yb : w1.cell? ⟨bw, 4, none⟩ = some (.slice pb 0 cb) := by rw [Lib.cell_of_heap HW1.out.blk, hpb]; rfl
  clear hpa hpb
  have yn0 : w1.cell? ⟨bw, 1, none⟩ = some (.string nt) := (Lib.cell_of_heap HW1.out.blk _).trans rfl
  have ys0 : w1.cell? ⟨bw, 5, none⟩ = some (.string sm) := (Lib.cell_of_heap HW1.out.blk _).trans rfl
  have hxl : ¬ ((xr.length : Int) + 1 = 0) := by omega
  have HSA : Hid (∀ U', Below w1.heap.size w1 U' → Calls Try.prog 39 #[.pointer (some ⟨bw, 0, none⟩)] U' fun e w' => e = .returned (.string (sumR f x xr)) ∧ Below U'.heap.size U' w') := fun U' h' => sumAS_any (HW1.out.fr (Fr.of_below (P := fun _ => False) h') (fun _ _ h => h))
  clear hb1 HL
  go_wp2_with (go_at_call 39; refine (HSA.out _ (Below.refl _ w1)).mono ?_; rintro e w2 ⟨rfl, hb2⟩)
  refine bodyPost_ret (by simp [results, Try.results27, go_sem]; try rfl) rfl ?_
  have hb3 : Below w.heap.size w w2 := hb0.trans (hb2.mono hb0.size)
  exact ⟨rfl, hb3⟩

set_option maxRecDepth 100000 in
set_option maxHeartbeats 8000000 in
theorem allS_ab {f : ByteArray → ByteArray → ByteArray} {w : World} {bw : Nat} {op : Value} {nt : ByteArray} {c : Int} {x : ByteArray} {xr : List (ByteArray)} {y : ByteArray} {yr : List (ByteArray)} {F : Nat → Prop} {ok : Nat → ByteArray → Prop} {G : Nat → Prop} {I : Nat → World → Prop} {n : Nat} (O : OpS op f ok G I) (H : StS f op nt ok G I w bw c n (x :: xr) (y :: yr) F) :
    Calls Try.prog 27 #[.pointer (some ⟨bw, 0, none⟩)] w fun e w' => e = .returned (.string (f (sumR f x xr) (sumL f y yr))) ∧ Hid (StS f op nt ok G I w' bw (wrap64 (c + 1)) (n + 1) (x :: xr) (y :: yr) (FF F w w') ∧ Fr (fun k => F k ∨ G k) w w') := by
  obtain ⟨va, vb, sm, H1⟩ := H.win
  have hF := H1.ft
  have hlim := H.lim
  have hbw : bw < w.heap.size := hF _ H1.fw
  have HL : Hid (∀ W, Below w.heap.size w W → Calls Try.prog 28 #[.pointer (some ⟨bw, 0, none⟩)] W fun e w' => e = .returned (.int .i64 (((xr.length + 1) + (yr.length + 1) : Nat) : Int)) ∧ Below W.heap.size W w') := fun W hW =>
    (lenS_any (H1.fr (Fr.of_below (P := fun _ => False) hW) (fun _ _ h => h))).mono (fun e w' h => ⟨h.1, by obtain ⟨q, rfl⟩ := h.2; exact Below.drewN (Below.refl _ _) q⟩)
  obtain ⟨mm, hmm⟩ : ∃ mm : Nat, Hid ((xr.length + 1) + (yr.length + 1) = mm) := ⟨_, rfl⟩
  have hmm0 : ¬ ((mm : Int) = 0) := by have := hmm.out; omega
  rw [hmm.out] at HL
  go_enter Try.func27, Try.ntmps27
  go_wp2_with fail
  refine (HL.out _ (by go_grown)).mono ?_
  rintro e w1 ⟨rfl, hb1⟩
  have hb0 : Below w.heap.size w w1 := hb1
  have HW1 : Hid (WinS f w1 bw op nt c (x :: xr) (y :: yr) F va vb sm) := H1.fr (Fr.of_below (P := fun _ => False) hb0) (fun _ _ h => h)
  obtain ⟨pa, ca, hpa⟩ := row_form HW1.out.ra
  obtain ⟨pb, cb, hpb⟩ := row_form HW1.out.rb
  have yl : w1.cell? ⟨bw, 3, none⟩ = some (.slice pa (xr.length + 1) ca) := by rw [Lib.cell_of_heap HW1.out.blk, hpa]; rfl
  have yb : w1.cell? ⟨bw, 4, none⟩ = some (.slice pb (yr.length + 1) cb) := by rw [Lib.cell_of_heap HW1.out.blk, hpb]; rfl
  clear hpa hpb
  have yn0 : w1.cell? ⟨bw, 1, none⟩ = some (.string nt) := (Lib.cell_of_heap HW1.out.blk _).trans rfl
  have ys0 : w1.cell? ⟨bw, 5, none⟩ = some (.string sm) := (Lib.cell_of_heap HW1.out.blk _).trans rfl
  have hxl : ¬ ((xr.length : Int) + 1 = 0) := by omega
  have hyl : ¬ ((yr.length : Int) + 1 = 0) := by omega
  have hsm : Hid (sm = sumL f y yr) := H1.sum y yr rfl
  have HSA : Hid (∀ U', Below w1.heap.size w1 U' → Calls Try.prog 39 #[.pointer (some ⟨bw, 0, none⟩)] U' fun e w' => e = .returned (.string (sumR f x xr)) ∧ Below U'.heap.size U' w') := fun U' h' => sumAS_any (HW1.out.fr (Fr.of_below (P := fun _ => False) h') (fun _ _ h => h))
  clear hb1 HL
  have HI1 : Hid (I n w1) := O.stay _ _ _ _ H.st (Fr.of_below (P := fun _ => False) hb0) (fun _ _ h => h)
  have hll : xr.length + 1 + (yr.length + 1) ≤ 4096 := by simpa using hlim
  have hokx : ok (xr.length + 1) (sumR f x xr) := ok_sumR O.okf x xr (H.okX x (by simp)) (fun z hz => H.okX z (by simp [hz])) (by omega)
  have hoky : ok (1 + yr.length) sm := by rw [hsm.out]; exact ok_sumL O.okf yr y 1 (H.okY y (by simp)) (fun z hz => H.okY z (by simp [hz])) (by omega)
  obtain ⟨t, ht⟩ : ∃ t, Hid (sumR f x xr = t) := ⟨_, rfl⟩
  rw [ht.out] at HSA hokx
  have HJ : Hid (∀ U', Below w1.heap.size w1 U' → Calls Try.prog 37 #[.pointer (some ⟨bw, 0, none⟩), (.string t), (.string sm)] U' fun e w' => e = .returned (.string (f t sm)) ∧ Hid (I (n + 1) w' ∧ Fr (fun k => k = bw ∨ G k) w1 w' ∧
      w'.heap[bw]? = some (.cells #[op, .string nt, .int .i64 (wrap64 (c + 1)), va, vb, .string sm] 67 (0, 0)))) := fun U' h' =>
    (joinS_any O t sm hokx hoky (by omega) (HW1.out.fr (Fr.of_below (P := fun _ => False) h') (fun _ _ h => h)) (O.stay _ _ _ _ HI1.out (Fr.of_below (P := fun _ => False) h') (fun _ _ h => h)) H.dis).mono (fun e w' h => ⟨h.1, h.2.1, (Fr.of_below h').trans h.2.2.1 (fun i e => Or.inl e), h.2.2.2⟩)
  have hbW1 : bw < w1.heap.size := lt_heap HW1.out.blk
  go_wp2
  go_region_with (first | (go_at_call 39; refine (HSA.out _ (Below.refl _ w1).drew).mono ?_; rintro e w2 ⟨rfl, hb2'⟩; have hb2 : Below w1.heap.size w1 w2 := ⟨hb2'.os, hb2'.tape, hb2'.output, hb2'.size, hb2'.block⟩; clear hb2'; have js0 := (hb2.cell (p := ⟨bw, 5, none⟩) hbW1).trans ys0) | (go_at_call 37; refine (HJ.out _ hb2).mono ?_; rintro e w3 ⟨rfl, hJ⟩))
  all_goals (
    go_wp2
    refine bodyPost_ret (by simp [results, Try.results27, go_sem]; try rfl) rfl ?_
    refine ⟨by rw [hsm.out, ht.out], ?_⟩
    have f4 : Fr (fun k => k = w.heap.size) w3 _ := Fr.refl _ w3
    exact allfinS O H hF hb0 HW1.out hJ.out.1 hJ.out.2.1 hJ.out.2.2 f4)
end Go.Proofs.Ytondchfhdhllhaa

namespace Go.Proofs.Ytondchfhdhllhaa
open Go.RowKit Go.Shelf
set_option linter.unusedVariables false

/-- The window in block bw has the things L, in order; its blocks are of F. -/
def PQS (f : ByteArray → ByteArray → ByteArray) (op : Value) (nt : ByteArray) (ok : Nat → ByteArray → Prop) (w : World) (bw : Nat) (L : List (ByteArray)) (F : Nat → Prop) : Prop := ∃ X Y c n, X ++ Y = L ∧ StS f op nt ok (fun _ => False) (fun _ _ => True) w bw c n X Y F
/-- .. behind a call. -/
def QNS (f : ByteArray → ByteArray → ByteArray) (op : Value) (nt : ByteArray) (ok : Nat → ByteArray → Prop) (w w' : World) (bw : Nat) (L : List (ByteArray)) (F : Nat → Prop) : Prop := ∃ F', PQS f op nt ok w' bw L F' ∧ (∀ k, F' k → F k ∨ w.heap.size ≤ k) ∧ Fr F w w'
theorem PQS.fr {f : ByteArray → ByteArray → ByteArray} {op : Value} {nt : ByteArray} {ok : Nat → ByteArray → Prop} {w : World} {bw : Nat} {L : List (ByteArray)} {F : Nat → Prop} {w' : World} {P : Nat → Prop} (O : OpS op f ok (fun _ => False) (fun _ _ => True)) (H : PQS f op nt ok w bw L F) (h : Fr P w w') (hp : ∀ k, F k → ¬ P k) : PQS f op nt ok w' bw L F := by
  obtain ⟨X, Y, c, n, e, H⟩ := H
  exact ⟨X, Y, c, n, e, H.fr O h hp (fun _ g => g.elim)⟩
theorem PQS.lt {f : ByteArray → ByteArray → ByteArray} {op : Value} {nt : ByteArray} {ok : Nat → ByteArray → Prop} {w : World} {bw : Nat} {L : List (ByteArray)} {F : Nat → Prop} (H : PQS f op nt ok w bw L F) : (∀ k, F k → k < w.heap.size) ∧ F bw := by
  obtain ⟨X, Y, c, n, e, H⟩ := H
  obtain ⟨va, vb, sm, H1⟩ := H.win
  exact ⟨H1.ft, H1.fw⟩
theorem PQS.len {f : ByteArray → ByteArray → ByteArray} {op : Value} {nt : ByteArray} {ok : Nat → ByteArray → Prop} {w : World} {bw : Nat} {L : List (ByteArray)} {F : Nat → Prop} (H : PQS f op nt ok w bw L F) : L.length ≤ 4096 := by
  obtain ⟨X, Y, c, n, rfl, H⟩ := H
  have := H.lim
  simpa using this
theorem PQS.ok {f : ByteArray → ByteArray → ByteArray} {op : Value} {nt : ByteArray} {ok : Nat → ByteArray → Prop} {w : World} {bw : Nat} {L : List (ByteArray)} {F : Nat → Prop} (H : PQS f op nt ok w bw L F) : ∀ x ∈ L, ok 1 x := by
  obtain ⟨X, Y, c, n, rfl, H⟩ := H
  intro x hx
  rcases List.mem_append.1 hx with h | h
  · exact H.okX x h
  · exact H.okY x h
theorem qnS_of {f : ByteArray → ByteArray → ByteArray} {op : Value} {nt : ByteArray} {ok : Nat → ByteArray → Prop} {w : World} {bw : Nat} {F : Nat → Prop} {w' : World} {X Y L' : List (ByteArray)} {c : Int} {n : Nat} (hF : ∀ k, F k → k < w.heap.size) (e : X ++ Y = L') (h : StS f op nt ok (fun _ => False) (fun _ _ => True) w' bw c n X Y (FF F w w') ∧ Fr (fun k => F k ∨ False) w w') : QNS f op nt ok w w' bw L' F :=
  ⟨_, ⟨X, Y, c, n, e, h.1⟩, fun k h => h.elim Or.inl (fun q => Or.inr q.1), h.2.mono (fun k h => h.elim Or.inl (fun h => h.elim))⟩
theorem qnS_below {f : ByteArray → ByteArray → ByteArray} {op : Value} {nt : ByteArray} {ok : Nat → ByteArray → Prop} {w : World} {bw : Nat} {L : List (ByteArray)} {F : Nat → Prop} {w' : World} (O : OpS op f ok (fun _ => False) (fun _ _ => True)) (H : PQS f op nt ok w bw L F) (h : Below w.heap.size w w') : QNS f op nt ok w w' bw L F :=
  ⟨F, H.fr O (Fr.of_below (P := fun _ => False) h) (fun _ _ h => h), fun _ h => Or.inl h, Fr.of_below h⟩
theorem QNS.trans {f : ByteArray → ByteArray → ByteArray} {op : Value} {nt : ByteArray} {ok : Nat → ByteArray → Prop} {w : World} {bw : Nat} {F : Nat → Prop} {w1 w2 : World} {L2 : List (ByteArray)} {F1 : Nat → Prop} (h : ∀ k, F1 k → F k ∨ w.heap.size ≤ k) (hf : Fr F w w1) (h2 : QNS f op nt ok w1 w2 bw L2 F1) : QNS f op nt ok w w2 bw L2 F := by
  obtain ⟨F2, a, b, c⟩ := h2
  exact ⟨F2, a, fun k hk => (b k hk).elim (h k) (fun q => Or.inr (Nat.le_trans hf.size q)), hf.trans c (fun i e => h i e)⟩

theorem qnewS {f : ByteArray → ByteArray → ByteArray} {ok : Nat → ByteArray → Prop} {K : FuncId} {caps : Array Value} (O : OpS (.func (.func K) #[] caps) f ok (fun _ => False) (fun _ _ => True)) (nt : ByteArray) (w : World) :
    Calls Try.prog 22 #[.func (.func K) #[] caps, (.string nt)] w fun e w' => ∃ bw, e = .returned (.pointer (some ⟨bw, 0, none⟩)) ∧ Hid (w.heap.size ≤ bw ∧ Below w.heap.size w w' ∧ PQS f (.func (.func K) #[] caps) nt ok w' bw [] (fun k => k = bw)) :=
  (newS_any f K caps nt w).mono fun e w' ⟨bw, h1, h2, h3, h4⟩ => ⟨bw, h1, h2, h3, [], [], 0, 0, rfl, ⟨⟨_, _, _, h4⟩, trivial, (fun x h => by cases h), (fun x h => by cases h), fun _ _ h => h, by simp⟩⟩
theorem qpushS {f : ByteArray → ByteArray → ByteArray} {op : Value} {nt : ByteArray} {ok : Nat → ByteArray → Prop} {w : World} {bw : Nat} {L : List (ByteArray)} {F : Nat → Prop} (O : OpS op f ok (fun _ => False) (fun _ _ => True)) (H : PQS f op nt ok w bw L F) (x : ByteArray) (hx : ok 1 x) (hl : L.length < 4096) :
    Calls Try.prog 24 #[.pointer (some ⟨bw, 0, none⟩), (.string x)] w fun e w' => e = .returned (.int .i64 0) ∧ Hid (QNS f op nt ok w w' bw (L ++ [x]) F) := by
  have hF := H.lt.1
  obtain ⟨X, Y, c, n, rfl, H⟩ := H
  rw [List.length_append] at hl
  cases Y with
  | nil => exact (pushS_first O x hx H (by simpa using hl)).mono fun e w' h => ⟨h.1, qnS_of hF (by simp) h.2.out⟩
  | cons y r => exact (pushS_more O x hx H (by simpa using hl)).mono fun e w' h => ⟨h.1, qnS_of hF (by simp) h.2.out⟩
theorem qpop0S {f : ByteArray → ByteArray → ByteArray} {op : Value} {nt : ByteArray} {ok : Nat → ByteArray → Prop} {w : World} {bw : Nat} {F : Nat → Prop} (O : OpS op f ok (fun _ => False) (fun _ _ => True)) (H : PQS f op nt ok w bw [] F) :
    Calls Try.prog 25 #[.pointer (some ⟨bw, 0, none⟩)] w fun e w' => e = .returned (.tuple #[.string ⟨#[]⟩, .int .i64 110]) ∧ Hid (QNS f op nt ok w w' bw [] F) := by
  have H0 := H
  obtain ⟨X, Y, c, n, e, H⟩ := H
  obtain ⟨rfl, rfl⟩ := List.append_eq_nil_iff.1 e
  exact (popS_none H).mono fun e w' h => ⟨h.1, qnS_below O H0 h.2⟩
theorem qpopS {f : ByteArray → ByteArray → ByteArray} {op : Value} {nt : ByteArray} {ok : Nat → ByteArray → Prop} {w : World} {bw : Nat} {L : List (ByteArray)} {F : Nat → Prop} (O : OpS op f ok (fun _ => False) (fun _ _ => True)) {x : ByteArray} (H : PQS f op nt ok w bw (x :: L) F) :
    Calls Try.prog 25 #[.pointer (some ⟨bw, 0, none⟩)] w fun e w' => e = .returned (.tuple #[(.string x), .int .i64 0]) ∧ Hid (QNS f op nt ok w w' bw L F) := by
  have hF := H.lt.1
  obtain ⟨X, Y, c, n, e, H⟩ := H
  cases X with
  | nil =>
    rw [List.nil_append] at e
    subst e
    exact (popS_turn O H).mono fun e w' h => ⟨h.1, qnS_of hF (by simp) h.2.out⟩
  | cons a X =>
    rw [List.cons_append] at e
    injection e with e1 e2
    subst e1
    exact (popS_some O H).mono fun e w' h => ⟨h.1, qnS_of hF e2 h.2.out⟩
theorem qall0S {f : ByteArray → ByteArray → ByteArray} {op : Value} {nt : ByteArray} {ok : Nat → ByteArray → Prop} {w : World} {bw : Nat} {F : Nat → Prop} (O : OpS op f ok (fun _ => False) (fun _ _ => True)) (H : PQS f op nt ok w bw [] F) :
    Calls Try.prog 27 #[.pointer (some ⟨bw, 0, none⟩)] w fun e w' => e = .returned (.string nt) ∧ Hid (QNS f op nt ok w w' bw [] F) := by
  have H0 := H
  obtain ⟨X, Y, c, n, e, H⟩ := H
  obtain ⟨rfl, rfl⟩ := List.append_eq_nil_iff.1 e
  exact (allS_none O H).mono fun e w' h => ⟨h.1, qnS_below O H0 h.2⟩
theorem qallS {f : ByteArray → ByteArray → ByteArray} {op : Value} {nt : ByteArray} {ok : Nat → ByteArray → Prop} {w : World} {bw : Nat} {L : List (ByteArray)} {F : Nat → Prop} (O : OpS op f ok (fun _ => False) (fun _ _ => True)) (ha : ∀ a b c, f (f a b) c = f a (f b c)) {x : ByteArray} (H : PQS f op nt ok w bw (x :: L) F) :
    Calls Try.prog 27 #[.pointer (some ⟨bw, 0, none⟩)] w fun e w' => e = .returned (.string (sumL f x L)) ∧ Hid (QNS f op nt ok w w' bw (x :: L) F) := by
  have hF := H.lt.1
  have H0 := H
  obtain ⟨X, Y, c, n, e, H⟩ := H
  cases X with
  | nil =>
    rw [List.nil_append] at e
    subst e
    exact (allS_b O H).mono fun e w' h => ⟨h.1, qnS_below O H0 h.2⟩
  | cons a X =>
    rw [List.cons_append] at e
    injection e with e1 e2
    subst e1
    cases Y with
    | nil =>
      rw [List.append_nil] at e2
      subst e2
      rw [← sumR_L f ha]
      exact (allS_a O H).mono fun e w' h => ⟨h.1, qnS_below O H0 h.2⟩
    | cons y r =>
      subst e2
      rw [sum_app f ha]
      exact (allS_ab O H).mono fun e w' h => ⟨h.1, qnS_of hF (by simp) h.2.out⟩
theorem qlenS {f : ByteArray → ByteArray → ByteArray} {op : Value} {nt : ByteArray} {ok : Nat → ByteArray → Prop} {w : World} {bw : Nat} {L : List (ByteArray)} {F : Nat → Prop} (O : OpS op f ok (fun _ => False) (fun _ _ => True)) (H : PQS f op nt ok w bw L F) :
    Calls Try.prog 28 #[.pointer (some ⟨bw, 0, none⟩)] w fun e w' => e = .returned (.int .i64 (L.length : Nat)) ∧ Hid (QNS f op nt ok w w' bw L F) := by
  have H0 := H
  obtain ⟨X, Y, c, n, rfl, H⟩ := H
  obtain ⟨va, vb, sm, H1⟩ := H.win
  rw [List.length_append]
  exact (lenS_any H1).mono fun e w' h => ⟨h.1, by obtain ⟨q, rfl⟩ := h.2; exact qnS_below O H0 (Below.drewN (Below.refl _ _) q)⟩
end Go.Proofs.Ytondchfhdhllhaa

namespace Go.Proofs.Ytondchfhdhllhaa
open Go.RowKit Go.Shelf
set_option linter.unusedVariables false

/-- All of the window lies from B on; what lay below lies as it lay in w. -/
def LQS (f : ByteArray → ByteArray → ByteArray) (op : Value) (nt : ByteArray) (ok : Nat → ByteArray → Prop) (B : Nat) (w W : World) (bw : Nat) (L : List (ByteArray)) : Prop := ∃ F, PQS f op nt ok W bw L F ∧ (∀ k, F k → B ≤ k) ∧ Below B w W ∧ B ≤ W.heap.size
theorem LQS.below {f : ByteArray → ByteArray → ByteArray} {op : Value} {nt : ByteArray} {ok : Nat → ByteArray → Prop} {B : Nat} {w W : World} {bw : Nat} {L : List (ByteArray)} (H : LQS f op nt ok B w W bw L) : Below B w W := by obtain ⟨F, h1, h2, h3, h4⟩ := H; exact h3
theorem LQS.len {f : ByteArray → ByteArray → ByteArray} {op : Value} {nt : ByteArray} {ok : Nat → ByteArray → Prop} {B : Nat} {w W : World} {bw : Nat} {L : List (ByteArray)} (H : LQS f op nt ok B w W bw L) : L.length ≤ 4096 := by obtain ⟨F, h1, h2, h3, h4⟩ := H; exact h1.len
theorem LQS.later {f : ByteArray → ByteArray → ByteArray} {op : Value} {nt : ByteArray} {ok : Nat → ByteArray → Prop} {B : Nat} {w W : World} {bw : Nat} {L : List (ByteArray)} {W' : World} (O : OpS op f ok (fun _ => False) (fun _ _ => True)) (H : LQS f op nt ok B w W bw L) (h : Below W.heap.size W W') : LQS f op nt ok B w W' bw L := by
  obtain ⟨F, h1, h2, h3, h4⟩ := H
  exact ⟨F, h1.fr O (Fr.of_below (P := fun _ => False) h) (fun _ _ h => h), h2, h3.trans (h.mono h4), Nat.le_trans h4 h.size⟩
theorem lqS_of {f : ByteArray → ByteArray → ByteArray} {op : Value} {nt : ByteArray} {ok : Nat → ByteArray → Prop} {B : Nat} {w W : World} {bw : Nat} {W' : World} {L' : List (ByteArray)} {F : Nat → Prop} (h2 : ∀ k, F k → B ≤ k) (h3 : Below B w W) (h4 : B ≤ W.heap.size) (q : QNS f op nt ok W W' bw L' F) : LQS f op nt ok B w W' bw L' := by
  obtain ⟨F', q1, q2, q3⟩ := q
  exact ⟨F', q1, fun k h => (q2 k h).elim (h2 k) (fun q => Nat.le_trans h4 q), h3.trans (q3.below h4 h2), Nat.le_trans h4 q3.size⟩
theorem lnewS {f : ByteArray → ByteArray → ByteArray} {ok : Nat → ByteArray → Prop} {B : Nat} {K : FuncId} {caps : Array Value} (O : OpS (.func (.func K) #[] caps) f ok (fun _ => False) (fun _ _ => True)) (nt : ByteArray) (w W : World) (hB : B ≤ W.heap.size) (hb : Below B w W) :
    Calls Try.prog 22 #[.func (.func K) #[] caps, (.string nt)] W fun e w' => ∃ bw, e = .returned (.pointer (some ⟨bw, 0, none⟩)) ∧ Hid (LQS f (.func (.func K) #[] caps) nt ok B w w' bw [] ∧ W.heap.size ≤ bw ∧ Below W.heap.size W w') :=
  (qnewS O nt W).mono fun e w' ⟨bw, h1, h2⟩ => ⟨bw, h1, ⟨_, h2.out.2.2, fun k h => by have := h2.out.1; omega, hb.trans (h2.out.2.1.mono hB), Nat.le_trans hB h2.out.2.1.size⟩, h2.out.1, h2.out.2.1⟩
theorem lpushS {f : ByteArray → ByteArray → ByteArray} {op : Value} {nt : ByteArray} {ok : Nat → ByteArray → Prop} {B : Nat} {w W : World} {bw : Nat} {L : List (ByteArray)} (O : OpS op f ok (fun _ => False) (fun _ _ => True))  (H : LQS f op nt ok B w W bw L) (x : ByteArray) (hx : ok 1 x) (hl : L.length < 4096) :
    Calls Try.prog 24 #[.pointer (some ⟨bw, 0, none⟩), (.string x)] W fun e w' => e = .returned (.int .i64 0) ∧ Hid (LQS f op nt ok B w w' bw (L ++ [x])) := by
  obtain ⟨F, h1, h2, h3, h4⟩ := H
  exact (qpushS O h1 x hx hl).mono fun e w' h => ⟨h.1, lqS_of h2 h3 h4 h.2.out⟩
theorem lpop0S {f : ByteArray → ByteArray → ByteArray} {op : Value} {nt : ByteArray} {ok : Nat → ByteArray → Prop} {B : Nat} {w W : World} {bw : Nat} (O : OpS op f ok (fun _ => False) (fun _ _ => True))  (H : LQS f op nt ok B w W bw [])  :
    Calls Try.prog 25 #[.pointer (some ⟨bw, 0, none⟩)] W fun e w' => e = .returned (.tuple #[.string ⟨#[]⟩, .int .i64 110]) ∧ Hid (LQS f op nt ok B w w' bw []) := by
  obtain ⟨F, h1, h2, h3, h4⟩ := H
  exact (qpop0S O h1).mono fun e w' h => ⟨h.1, lqS_of h2 h3 h4 h.2.out⟩
theorem lpopS {f : ByteArray → ByteArray → ByteArray} {op : Value} {nt : ByteArray} {ok : Nat → ByteArray → Prop} {B : Nat} {w W : World} {bw : Nat} {L : List (ByteArray)} (O : OpS op f ok (fun _ => False) (fun _ _ => True)) {x : ByteArray} (H : LQS f op nt ok B w W bw (x :: L))  :
    Calls Try.prog 25 #[.pointer (some ⟨bw, 0, none⟩)] W fun e w' => e = .returned (.tuple #[(.string x), .int .i64 0]) ∧ Hid (LQS f op nt ok B w w' bw L) := by
  obtain ⟨F, h1, h2, h3, h4⟩ := H
  exact (qpopS O h1).mono fun e w' h => ⟨h.1, lqS_of h2 h3 h4 h.2.out⟩
theorem lall0S {f : ByteArray → ByteArray → ByteArray} {op : Value} {nt : ByteArray} {ok : Nat → ByteArray → Prop} {B : Nat} {w W : World} {bw : Nat} (O : OpS op f ok (fun _ => False) (fun _ _ => True))  (H : LQS f op nt ok B w W bw [])  :
    Calls Try.prog 27 #[.pointer (some ⟨bw, 0, none⟩)] W fun e w' => e = .returned (.string nt) ∧ Hid (LQS f op nt ok B w w' bw []) := by
  obtain ⟨F, h1, h2, h3, h4⟩ := H
  exact (qall0S O h1).mono fun e w' h => ⟨h.1, lqS_of h2 h3 h4 h.2.out⟩
theorem lallS {f : ByteArray → ByteArray → ByteArray} {op : Value} {nt : ByteArray} {ok : Nat → ByteArray → Prop} {B : Nat} {w W : World} {bw : Nat} {L : List (ByteArray)} (O : OpS op f ok (fun _ => False) (fun _ _ => True)) (ha : ∀ a b c, f (f a b) c = f a (f b c)) {x : ByteArray} (H : LQS f op nt ok B w W bw (x :: L))  :
    Calls Try.prog 27 #[.pointer (some ⟨bw, 0, none⟩)] W fun e w' => e = .returned (.string (sumL f x L)) ∧ Hid (LQS f op nt ok B w w' bw (x :: L)) := by
  obtain ⟨F, h1, h2, h3, h4⟩ := H
  exact (qallS O ha h1).mono fun e w' h => ⟨h.1, lqS_of h2 h3 h4 h.2.out⟩
theorem llenS {f : ByteArray → ByteArray → ByteArray} {op : Value} {nt : ByteArray} {ok : Nat → ByteArray → Prop} {B : Nat} {w W : World} {bw : Nat} {L : List (ByteArray)} (O : OpS op f ok (fun _ => False) (fun _ _ => True))  (H : LQS f op nt ok B w W bw L)  :
    Calls Try.prog 28 #[.pointer (some ⟨bw, 0, none⟩)] W fun e w' => e = .returned (.int .i64 (L.length : Nat)) ∧ Hid (LQS f op nt ok B w w' bw L) := by
  obtain ⟨F, h1, h2, h3, h4⟩ := H
  exact (qlenS O h1).mono fun e w' h => ⟨h.1, lqS_of h2 h3 h4 h.2.out⟩
end Go.Proofs.Ytondchfhdhllhaa

namespace Go.Proofs.Ytondchfhdhllhaa
open Go.RowKit Go.Shelf
set_option linter.unusedVariables false

def celT (x : Int × Int) : List Value := [.int .u64 x.1, .int .u64 x.2]
def flT (L : List (Int × Int)) : List Value := L.flatMap celT
def tcT (p : (Int × Int) × (Int × Int)) : List Value := celT p.1 ++ celT p.2
def tflT (L : List ((Int × Int) × (Int × Int))) : List Value := L.flatMap tcT
/-- The window in block bw: the things ahead X, those behind Y; F holds of its blocks. -/
structure WinT (f : Int × Int → Int × Int → Int × Int) (w : World) (bw : Nat) (op : Value) (nt : Int × Int) (c : Int) (X Y : List (Int × Int)) (F : Nat → Prop) (va vb : Value) (sm : Int × Int) : Prop where
  blk : w.heap[bw]? = some (.cells #[op, .int .u64 nt.1, .int .u64 nt.2, .int .i64 c, va, vb, .int .u64 sm.1, .int .u64 sm.2] 60 (0, 0))
  ra : w.ownsRow 0 63 4 va X.length (tflT (tls f X).reverse)
  rb : w.ownsRow 0 26 2 vb Y.length (flT Y)
  sum : ∀ x r, Y = x :: r → sm = sumL f x r
  lim : X.length + Y.length ≤ 8192
  fw : F bw
  fa : ∀ k, va.ownBlock = some k → F k
  fb : ∀ k, vb.ownBlock = some k → F k
  ft : ∀ k, F k → k < w.heap.size

section
variable {f : Int × Int → Int × Int → Int × Int} {w w' : World} {bw : Nat} {op : Value} {nt : Int × Int} {c : Int} {X Y : List (Int × Int)} {F F' P : Nat → Prop} {va vb : Value} {sm : Int × Int}
theorem WinT.fr (H : WinT f w bw op nt c X Y F va vb sm) (h : Fr P w w') (hp : ∀ k, F k → ¬ P k) : WinT f w' bw op nt c X Y F va vb sm :=
  ⟨h.heap H.blk (hp _ H.fw), h.row H.ra (fun k e => hp _ (H.fa k e)), h.row H.rb (fun k e => hp _ (H.fb k e)), H.sum, H.lim, H.fw, H.fa, H.fb, fun k hk => Nat.lt_of_lt_of_le (H.ft k hk) h.size⟩
theorem WinT.wide (H : WinT f w bw op nt c X Y F va vb sm) (h : ∀ k, F k → F' k) (ht : ∀ k, F' k → k < w.heap.size) : WinT f w bw op nt c X Y F' va vb sm :=
  ⟨H.blk, H.ra, H.rb, H.sum, H.lim, h _ H.fw, fun k e => h _ (H.fa k e), fun k e => h _ (H.fb k e), ht⟩
end

end Go.Proofs.Ytondchfhdhllhaa

namespace Go.Proofs.Ytondchfhdhllhaa
open Go.RowKit Go.Shelf
set_option linter.unusedVariables false

/-- Texts put together. -/
def catF (x y : ByteArray) : ByteArray := x ++ y
def catOk (i : Nat) (x : ByteArray) : Prop := x.size ≤ i * 1000
theorem cat_assoc (a b c : ByteArray) : catF (catF a b) c = catF a (catF b c) := by simp [catF, ByteArray.append_assoc]
theorem cat_okf (i j : Nat) (x y : ByteArray) (hx : catOk i x) (hy : catOk j y) (_ : i + j ≤ 8192) : catOk (i + j) (catF x y) := by
  simp only [catOk, catF, ByteArray.size_append] at *
  omega
set_option maxRecDepth 100000 in
theorem cat_live (x y : ByteArray) (w : World) (h : ¬ 9223372036854775807 < x.size + y.size) : Calls Try.prog 31 #[.string x, .string y] w fun e w' => e = .returned (.string (catF x y)) ∧ w' = w := by
  go_enter Try.func31, Try.ntmps31
  go_wp2
  go_ret
  exact ⟨rfl, rfl⟩
theorem opS_live : OpS (.func (.func 31) #[] #[]) catF catOk (fun _ => False) (fun _ _ => True) where
  form := ⟨_, _, rfl, enters_of Try.func31 (by kernel_rfl) rfl, fun n i j x y w hx hy hij _ => (cat_live x y w (by unfold catOk at hx hy; omega)).mono fun e w' h => ⟨h.1, trivial, by rw [h.2]; exact Fr.refl _ _⟩⟩
  okf := cat_okf
  stay := fun _ _ _ _ _ _ _ => trivial
  glt := fun _ _ _ _ h => h.elim
set_option maxRecDepth 100000 in
theorem cat_anew1 (x y : ByteArray) (w : World) (h : ¬ 9223372036854775807 < x.size + y.size) : Calls Try.prog 23 #[.string x, .string y] w fun e w' => e = .returned (.string (catF x y)) ∧ w' = w := by
  go_enter Try.func23, Try.ntmps23
  go_wp2
  go_ret
  exact ⟨rfl, rfl⟩
theorem opS_anew1 : OpS (.func (.func 23) #[] #[]) catF catOk (fun _ => False) (fun _ _ => True) where
  form := ⟨_, _, rfl, enters_of Try.func23 (by kernel_rfl) rfl, fun n i j x y w hx hy hij _ => (cat_anew1 x y w (by unfold catOk at hx hy; omega)).mono fun e w' h => ⟨h.1, trivial, by rw [h.2]; exact Fr.refl _ _⟩⟩
  okf := cat_okf
  stay := fun _ _ _ _ _ _ _ => trivial
  glt := fun _ _ _ _ h => h.elim
set_option maxRecDepth 100000 in
theorem cat_anew2 (x y : ByteArray) (w : World) (h : ¬ 9223372036854775807 < x.size + y.size) : Calls Try.prog 26 #[.string x, .string y] w fun e w' => e = .returned (.string (catF x y)) ∧ w' = w := by
  go_enter Try.func26, Try.ntmps26
  go_wp2
  go_ret
  exact ⟨rfl, rfl⟩
theorem opS_anew2 : OpS (.func (.func 26) #[] #[]) catF catOk (fun _ => False) (fun _ _ => True) where
  form := ⟨_, _, rfl, enters_of Try.func26 (by kernel_rfl) rfl, fun n i j x y w hx hy hij _ => (cat_anew2 x y w (by unfold catOk at hx hy; omega)).mono fun e w' h => ⟨h.1, trivial, by rw [h.2]; exact Fr.refl _ _⟩⟩
  okf := cat_okf
  stay := fun _ _ _ _ _ _ _ => trivial
  glt := fun _ _ _ _ h => h.elim
end Go.Proofs.Ytondchfhdhllhaa

namespace Go.Proofs.Ytondchfhdhllhaa
open Go.RowKit Go.Shelf
set_option linter.unusedVariables false

theorem setCells_at (b : Nat) : ∀ (vs : List Value) (o : Nat) (w : World) (cs : Array Value) (t : TypeId) (fr : Nat × Nat), w.heap[b]? = some (.cells cs t fr) →
    ∃ cs', (w.setCells b o vs).heap[b]? = some (.cells cs' t fr) ∧ cs'.size = cs.size ∧ (∀ j, j < vs.length → o + j < cs.size → cs'[o + j]? = vs[j]?) ∧ (∀ j, (j < o ∨ o + vs.length ≤ j) → cs'[j]? = cs[j]?)
  | [], o, w, cs, t, fr, h => ⟨cs, h, rfl, fun j hj => absurd hj (by simp), fun _ _ => rfl⟩
  | v :: vs, o, w, cs, t, fr, h => by
    obtain ⟨cs', h1, h2, h3, h4⟩ := setCells_at b vs (o + 1) (w.setCell ⟨b, o, none⟩ v) _ t fr (set_heap h v)
    refine ⟨cs', h1, by rw [h2]; simp, fun j hj hs => ?_, fun j hj => ?_⟩
    · cases j with
      | zero =>
        rw [h4 (o + 0) (Or.inl (by omega))]
        simp at hs ⊢
        simp [hs]
      | succ j =>
        have := h3 j (by simpa using hj) (by simp; omega)
        rw [show o + (j + 1) = o + 1 + j by omega, this]
        simp
    · rw [h4 j (by simp at hj; omega)]
      rw [Array.getElem?_setIfInBounds_ne]
      simp at hj
      omega

/-- The slice v has the cells xs; where they lie is of F. -/
def OffRow (w : World) (e : TypeId) (size : Nat) (v : Value) (n : Nat) (xs : List Value) (F : Nat → Prop) : Prop :=
  xs.length = n * size ∧ ∃ p c, v = .slice p n c ∧ n ≤ c ∧ c ≤ maxLen ∧ (c = 0 ∨ ∃ g off cur, p = some ⟨g, off, none⟩ ∧ F g ∧ w.heap[g]? = some (.cells cur e (0, 0)) ∧ off + c * size ≤ cur.size ∧ ∀ j u, xs[j]? = some u → cur[off + j]? = some u)
theorem OffRow.nil (w : World) (e : TypeId) (size : Nat) (F : Nat → Prop) : OffRow w e size (.slice none 0 0) 0 [] F := ⟨by simp, none, 0, rfl, Nat.le_refl _, Nat.zero_le _, Or.inl rfl⟩
theorem OffRow.fr {w w' : World} {e : TypeId} {size : Nat} {v : Value} {n : Nat} {xs : List Value} {F P : Nat → Prop} (h : OffRow w e size v n xs F) (hf : Fr P w w') (hp : ∀ k, F k → ¬ P k) : OffRow w' e size v n xs F := by
  obtain ⟨h1, p, c, h2, h3, h4, h5⟩ := h
  refine ⟨h1, p, c, h2, h3, h4, ?_⟩
  rcases h5 with h5 | ⟨g, off, cur, e1, e2, e3, e4⟩
  · exact Or.inl h5
  · exact Or.inr ⟨g, off, cur, e1, e2, hf.heap e3 (hp g e2), e4⟩
theorem OffRow.wide {w : World} {e : TypeId} {size : Nat} {v : Value} {n : Nat} {xs : List Value} {F F' : Nat → Prop} (h : OffRow w e size v n xs F) (hp : ∀ k, F k → F' k) : OffRow w e size v n xs F' := by
  obtain ⟨h1, p, c, h2, h3, h4, h5⟩ := h
  refine ⟨h1, p, c, h2, h3, h4, ?_⟩
  rcases h5 with h5 | ⟨g, off, cur, e1, e2, e3, e4⟩
  · exact Or.inl h5
  · exact Or.inr ⟨g, off, cur, e1, hp g e2, e3, e4⟩
theorem offrow_of {w : World} {B : Nat} {e : TypeId} {size : Nat} {v : Value} {n : Nat} {xs : List Value} {F : Nat → Prop} (h : w.ownsRow B e size v (n + 1) xs) (hF : ∀ k, B ≤ k → k < w.heap.size → F k) : OffRow w e size v (n + 1) xs F := by
  obtain ⟨h1, ⟨-, h2⟩ | ⟨g, cap, cur, rfl, h3, hh, h4, h5, h6, h7⟩⟩ := h
  · omega
  · refine ⟨h1, _, _, rfl, h4, h5, Or.inr ⟨g, 0, cur, rfl, hF g h3 (lt_heap hh), hh, by omega, fun j u hj => ?_⟩⟩
    rw [← h7, List.getElem?_take] at hj
    split at hj
    · rw [Nat.zero_add, ← Array.getElem?_toList]; exact hj
    · cases hj
theorem run_append_off {P : Program} (w : World) (t ty e : TypeId) (i : TypeInfo) (z : Value) (size bytes : Nat) (ht : P.underlying t = some (.slice e)) (hi : P.info? e = some i) (hz : i.zero = some z) (hsize : i.size = size) (hby : i.bytes = bytes) (hzs : z.cells.size = size) (hsz : 0 < size)
    (v : Value) (n : Nat) (xs : List Value) (F : Nat → Prop) (h : OffRow w e size v n xs F) (hFt : ∀ k, F k → k < w.heap.size) (ad : Addr) (news : List Value) (hl : news.length = 1 * size) (hnews : ∀ j u, news[j]? = some u → w.cell? (ad.add j) = some u) (h1 : ∀ u ∈ news, u.oneCell' = true)
    (h63 : n + 1 ≤ maxLen) (hbytes : (n + 1) * bytes ≤ 140737488355328) :
    ∃ v' w', (Builtin.append_ #[t, t] ty #[v, .slice (some ad) 1 1]).run P w = .ok v' w' ∧ OffRow w' e size v' (n + 1) (xs ++ news) (FF F w w') ∧ Fr F w w' := by
  obtain ⟨hxl, p, c, rfl, hnc, hcm, hor⟩ := h
  by_cases hroom : n + 1 ≤ c
  · obtain ⟨g, off, cur, rfl, hF, hg, hoc, hx⟩ : ∃ g off cur, p = some ⟨g, off, none⟩ ∧ F g ∧ w.heap[g]? = some (.cells cur e (0, 0)) ∧ off + c * size ≤ cur.size ∧ ∀ j u, xs[j]? = some u → cur[off + j]? = some u := hor.resolve_left (by omega)
    subst hsize
    have hms : (n + 1) * i.size ≤ c * i.size := Nat.mul_le_mul_right _ hroom
    have hms2 : (n + 1) * i.size = n * i.size + i.size := by rw [Nat.add_mul, Nat.one_mul]
    have hrun := run_append_room_cells (P := P) w t ty e i ht hi g off n c ad 1 1 news hl hnews h1 hroom (fun j hj => by
        rw [Lib.cell_of_heap hg, Array.getElem?_eq_getElem (by omega)]; rfl) (fun j hj => Lib.frozen_of_heap hg _)
    obtain ⟨cs', hh, hs, hin, hout⟩ := setCells_at g news (off + n * i.size) w cur e (0, 0) hg
    refine ⟨_, _, hrun, ⟨by rw [List.length_append, hxl, hl, Nat.add_mul], _, _, rfl, hroom, hcm, Or.inr ⟨g, off, cs', rfl, Or.inl hF, hh, by omega, fun j u hj => ?_⟩⟩, ((setCells_fr g news (off + n * i.size) w cur e (0, 0) hg).1).mono (fun k q => Or.inl (by subst q; exact hF))⟩
    by_cases hj2 : j < xs.length
    · rw [List.getElem?_append_left hj2] at hj
      rw [hout (off + j) (Or.inl (by omega))]
      exact hx j u hj
    · rw [List.getElem?_append_right (by omega)] at hj
      have hj3 := (List.getElem?_eq_some_iff.1 hj).1
      have := hin (j - xs.length) hj3 (by omega)
      rw [show off + n * i.size + (j - xs.length) = off + j by omega] at this
      rw [this]
      exact hj
  · have conv : ∀ v' w', w'.ownsRow w.heap.size e size v' (n + 1) (xs ++ news) → w.grownBy w' none → OffRow w' e size v' (n + 1) (xs ++ news) (FF F w w') ∧ Fr F w w' := fun v' w' a1 a2 =>
      ⟨offrow_of a1 (fun k q1 q2 => Or.inr ⟨q1, q2⟩), (Fr.refl F w).grown a2 (fun k q => by cases q)⟩
    cases p with
    | some b =>
      obtain ⟨v', w', hrun, r1, r2⟩ := run_append_arg_grows (P := P) w t ty e i z size bytes ht hi hz hsize hby hzs hsz b n c xs hxl (fun j u hj => by
        rcases hor with hc0 | ⟨g, off, cur, e1, hF, hg, hoc, hx⟩
        · have hx0 : xs = [] := List.eq_nil_of_length_eq_zero (by rw [hxl, show n = 0 by omega]; simp)
          rw [hx0] at hj
          cases hj
        · cases e1
          rw [Addr.add_lit, Lib.cell_of_heap hg]
          exact hx j u hj) ad 1 1 news hl hnews (by omega) h63 hbytes
      exact ⟨v', w', hrun, conv v' w' r1 r2⟩
    | none =>
      have hc0 : c = 0 := by
        rcases hor with hc0 | ⟨g, off, cur, e1, -⟩
        · exact hc0
        · cases e1
      subst hc0
      have hn0 : n = 0 := by omega
      subst hn0
      have hx0 : xs = [] := List.eq_nil_of_length_eq_zero (by rw [hxl]; simp)
      subst hx0
      obtain ⟨v', w', hrun, r1, r2, _⟩ := run_append_own (P := P) w w.heap.size t ty e i z size bytes ht hi hz hsize hby hzs hsz (.slice none 0 0) 0 [] (World.ownsRow_nil w _ e size) ad 1 1 news hl hnews h1 h63 hbytes (Nat.le_refl _)
      exact ⟨v', w', hrun, conv v' w' r1 r2⟩
theorem OffRow.form {w : World} {e : TypeId} {size : Nat} {v : Value} {n : Nat} {xs : List Value} {F : Nat → Prop} (h : OffRow w e size v n xs F) : ∃ p c, v = .slice p n c := by
  obtain ⟨h1, p, c, h2, -⟩ := h
  exact ⟨p, c, h2⟩
/-- For a walk. -/
theorem wpList_append_off {P : Program} (w : World) {ops : Array Oper} {rest : List Oper} {o : Oper} {a : Act} {Q : Exit → Act → World → Prop} (hg : o.guard = none) (s x : Operand) (t : TypeId) (ho : o.op = Op.call { callee := Callee.builtin Builtin.append, args := #[s, x], argTypes := #[t, t] })
    (e : TypeId) (i : TypeInfo) (z : Value) (size bytes : Nat) (ht : P.underlying t = some (.slice e)) (hi : P.info? e = some i) (hz : i.zero = some z) (hsize : i.size = size) (hby : i.bytes = bytes) (hzs : z.cells.size = size) (hsz : 0 < size)
    (v : Value) (n : Nat) (xs : List Value) (F : Nat → Prop) (hs : a.eval s = v) (h : OffRow w e size v n xs F) (hFt : ∀ k, F k → k < w.heap.size) (ad : Addr) (news : List Value) (hx : a.eval x = .slice (some ad) 1 1) (hl : news.length = 1 * size) (hnews : ∀ j u, news[j]? = some u → w.cell? (ad.add j) = some u) (h1 : ∀ u ∈ news, u.oneCell' = true)
    (h63 : n + 1 ≤ maxLen) (hbytes : (n + 1) * bytes ≤ 140737488355328)
    (hK : ∀ p c w', OffRow w' e size (.slice p (n + 1) c) (n + 1) (xs ++ news) (FF F w w') → Fr F w w' → wpList P ops Q rest (a.put o.dst (.slice p (n + 1) c)) w') :
    wpList P ops Q (o :: rest) a w := by
  refine wpList_plain hg fun K hK' => ?_
  obtain ⟨v', w', hrun, r1, r2⟩ := run_append_off (P := P) w t o.type e i z size bytes ht hi hz hsize hby hzs hsz v n xs F h hFt ad news hl hnews h1 h63 hbytes
  obtain ⟨p, c, rfl⟩ := r1.form
  unfold Oper.wp execOp
  simp only [ho, resolve, invoke, builtin, Sem.run_bind, Sem.run_pure, Result.andThen_ok, List.map_toArray, List.map_cons, List.map_nil, hs, hx, hrun]
  exact hK' _ _ (hK p c w' r1 r2)
/-- The first element cut off. -/
theorem OffRow.one {w : World} {e : TypeId} {size : Nat} {p : Option Addr} {n c : Nat} {A xs : List Value} {F : Nat → Prop} (h : OffRow w e size (.slice p (n + 1) c) (n + 1) (A ++ xs) F) (hA : A.length = size) :
    ∃ g off, p = some ⟨g, off, none⟩ ∧ n + 1 ≤ c ∧ c ≤ maxLen ∧ F g ∧ (∀ j u, (A ++ xs)[j]? = some u → w.cell? ⟨g, off + j, none⟩ = some u) ∧ OffRow w e size (.slice (some ⟨g, off + size, none⟩) n (c - 1)) n xs F ∧ (c = 1 → OffRow w e size (.slice (some ⟨g, off, none⟩) 0 0) 0 xs F ∧ n = 0) := by
  obtain ⟨h1, p', c', h2, h3, h4, h5⟩ := h
  cases h2
  obtain ⟨g, off, cur, rfl, hF, hg, hoc, hx⟩ := h5.resolve_left (by omega)
  have hxl : xs.length = n * size := by rw [List.length_append, hA, Nat.add_mul] at h1; omega
  have hms : c * size = (c - 1) * size + size := by
    obtain ⟨c1, rfl⟩ : ∃ c1, c = c1 + 1 := ⟨c - 1, by omega⟩
    rw [Nat.add_sub_cancel, Nat.add_mul, Nat.one_mul]
  refine ⟨g, off, rfl, h3, h4, hF, fun j u hj => (Lib.cell_of_heap hg _).trans (hx j u hj), ⟨hxl, _, _, rfl, by omega, by omega, Or.inr ⟨g, off + size, cur, rfl, hF, hg, by omega, fun j u hj => ?_⟩⟩, fun hc => ?_⟩
  · have := hx (size + j) u (by rw [List.getElem?_append_right (by omega), hA, Nat.add_sub_cancel_left]; exact hj)
    rw [show off + size + j = off + (size + j) by omega]
    exact this
  · have hn : n = 0 := by omega
    subst hn
    exact ⟨⟨hxl, _, _, rfl, Nat.le_refl _, Nat.zero_le _, Or.inl rfl⟩, rfl⟩
theorem OffRow.cell {w : World} {e : TypeId} {p : Option Addr} {c n : Nat} {L : List ByteArray} {F : Nat → Prop} (h : OffRow w e 1 (.slice p n c) L.length (L.map Value.string) F) (j : Nat) (hj : j < L.length) : ∃ g off, p = some ⟨g, off, none⟩ ∧ F g ∧ w.cell? ⟨g, off + j, none⟩ = some (.string L[j]) := by
  obtain ⟨h1, p', c', h2, h3, h4, h5⟩ := h
  cases h2
  rcases h5 with h5 | ⟨g, off, cur, e1, e2, e3, e4, e5⟩
  · omega
  · exact ⟨g, off, e1, e2, (Lib.cell_of_heap e3 _).trans (e5 j _ (by simp [hj]))⟩
end Go.Proofs.Ytondchfhdhllhaa

namespace Go.Proofs.Ytondchfhdhllhaa
open Go.RowKit Go.Shelf
set_option linter.unusedVariables false

/-- The window bw with the things T, the slice vt with the things T5. -/
def ASw (op : Value) (nt : ByteArray) (B : Nat) (w W : World) (bw : Nat) (T : List ByteArray) (vt : Value) (T5 : List ByteArray) (F F5 : Nat → Prop) : Prop :=
  PQS catF op nt catOk W bw T F ∧ OffRow W 9 1 vt T5.length (T5.map Value.string) F5 ∧ (∀ k, F5 k → k < W.heap.size) ∧ (∀ k, F k → B ≤ k ∧ ¬ F5 k) ∧ (∀ k, F5 k → B ≤ k) ∧ Below B w W ∧ B ≤ W.heap.size
section
variable {op op2 : Value} {nt : ByteArray} {B : Nat} {w W W' : World} {bw bw2 : Nat} {T T' T5 T2 : List ByteArray} {vt : Value} {F F5 F2 : Nat → Prop}
theorem ASw.later (O : OpS op catF catOk (fun _ => False) (fun _ _ => True)) (H : ASw op nt B w W bw T vt T5 F F5) (h : Below W.heap.size W W') : ASw op nt B w W' bw T vt T5 F F5 := by
  obtain ⟨h1, h2, h3, h4, h5, h6, h7⟩ := H
  have hf : Fr (fun _ => False) W W' := Fr.of_below h
  exact ⟨h1.fr O hf (fun _ _ h => h), h2.fr hf (fun _ _ h => h), fun k q => Nat.lt_of_lt_of_le (h3 k q) h.size, h4, h5, h6.trans (h.mono h7), Nat.le_trans h7 h.size⟩
theorem asw_of (H : ASw op nt B w W bw T vt T5 F F5) (q : QNS catF op nt catOk W W' bw T' F) : ∃ F', ASw op nt B w W' bw T' vt T5 F' F5 ∧ (∀ k, F' k → F k ∨ W.heap.size ≤ k) ∧ Fr F W W' := by
  obtain ⟨h1, h2, h3, h4, h5, h6, h7⟩ := H
  obtain ⟨F', q1, q2, q3⟩ := q
  exact ⟨F', ⟨q1, h2.fr q3 (fun k a b => (h4 k b).2 a), fun k a => Nat.lt_of_lt_of_le (h3 k a) q3.size, fun k a => (q2 k a).elim (h4 k) (fun q => ⟨Nat.le_trans h7 q, fun b => by have := h3 k b; omega⟩), h5, h6.trans (q3.below h7 (fun k a => (h4 k a).1)), Nat.le_trans h7 q3.size⟩, q2, q3⟩
/-- The slice has grown. -/
theorem ASw.grow {vt' : Value} {T6 : List ByteArray} (O : OpS op catF catOk (fun _ => False) (fun _ _ => True)) (H : ASw op nt B w W bw T vt T5 F F5) (h : OffRow W' 9 1 vt' T6.length (T6.map Value.string) (FF F5 W W')) (hf : Fr F5 W W') : ASw op nt B w W' bw T vt' T6 F (FF F5 W W') := by
  obtain ⟨h1, h2, h3, h4, h5, h6, h7⟩ := H
  have hl := h1.lt.1
  exact ⟨h1.fr O hf (fun k a b => (h4 k a).2 b), h, fun k a => a.elim (fun a => Nat.lt_of_lt_of_le (h3 k a) hf.size) (fun a => a.2), fun k a => ⟨(h4 k a).1, fun b => b.elim (h4 k a).2 (fun b => by have := hl k a; omega)⟩, fun k a => a.elim (h5 k) (fun a => Nat.le_trans h7 a.1), h6.trans (hf.below h7 h5), Nat.le_trans h7 hf.size⟩
theorem ASw.cut {vt' : Value} {T6 : List ByteArray} (H : ASw op nt B w W bw T vt T5 F F5) (h : OffRow W 9 1 vt' T6.length (T6.map Value.string) F5) : ASw op nt B w W bw T vt' T6 F F5 := by
  obtain ⟨h1, h2, h3, h4, h5, h6, h7⟩ := H
  exact ⟨h1, h, h3, h4, h5, h6, h7⟩
end
/-- .. with a second window beside them. -/
def TSw (op op2 : Value) (nt : ByteArray) (B : Nat) (w W : World) (bw : Nat) (T : List ByteArray) (vt : Value) (T5 : List ByteArray) (bw2 : Nat) (T2 : List ByteArray) : Prop :=
  ∃ F F5 F2, ASw op nt B w W bw T vt T5 F F5 ∧ PQS catF op2 nt catOk W bw2 T2 F2 ∧ (∀ k, F2 k → ¬ F k ∧ ¬ F5 k ∧ B ≤ k)
section
variable {op op2 : Value} {nt : ByteArray} {B : Nat} {w W W' : World} {bw bw2 : Nat} {T T' T5 T2 T2' : List ByteArray} {vt : Value} {F F5 F2 : Nat → Prop}
theorem tsw_one (O2 : OpS op2 catF catOk (fun _ => False) (fun _ _ => True)) (H : ASw op nt B w W bw T vt T5 F F5) (h2 : PQS catF op2 nt catOk W bw2 T2 F2) (h3 : ∀ k, F2 k → ¬ F k ∧ ¬ F5 k ∧ B ≤ k) (q : QNS catF op nt catOk W W' bw T' F) : TSw op op2 nt B w W' bw T' vt T5 bw2 T2 := by
  obtain ⟨F', a1, a2, a3⟩ := asw_of H q
  have hl := h2.lt.1
  exact ⟨F', F5, F2, a1, h2.fr O2 a3 (fun k a b => (h3 k a).1 b), fun k a => ⟨fun b => (a2 k b).elim (h3 k a).1 (fun b => by have := hl k a; omega), (h3 k a).2⟩⟩
theorem tsw_two (O : OpS op catF catOk (fun _ => False) (fun _ _ => True)) (H : ASw op nt B w W bw T vt T5 F F5) (h2 : PQS catF op2 nt catOk W bw2 T2 F2) (h3 : ∀ k, F2 k → ¬ F k ∧ ¬ F5 k ∧ B ≤ k) (q : QNS catF op2 nt catOk W W' bw2 T2' F2) : TSw op op2 nt B w W' bw T vt T5 bw2 T2' := by
  obtain ⟨b1, b2, b3, b4, b5, b6, b7⟩ := H
  obtain ⟨F', q1, q2, q3⟩ := q
  have hl := b1.lt.1
  refine ⟨F, F5, F', ⟨b1.fr O q3 (fun k a b => (h3 k b).1 a), b2.fr q3 (fun k a b => (h3 k b).2.1 a), fun k a => Nat.lt_of_lt_of_le (b3 k a) q3.size, b4, b5, b6.trans (q3.below b7 (fun k a => (h3 k a).2.2)), Nat.le_trans b7 q3.size⟩, q1, fun k a => ?_⟩
  rcases q2 k a with a | a
  · exact h3 k a
  · exact ⟨fun b => by have := hl k b; omega, fun b => by have := b3 k b; omega, Nat.le_trans b7 a⟩
theorem tall0 (O : OpS op catF catOk (fun _ => False) (fun _ _ => True)) (O2 : OpS op2 catF catOk (fun _ => False) (fun _ _ => True)) (H : TSw op op2 nt B w W bw [] vt T5 bw2 T2) :
    Calls Try.prog 27 #[.pointer (some ⟨bw, 0, none⟩)] W fun e w' => e = .returned (.string nt) ∧ Hid (TSw op op2 nt B w w' bw [] vt T5 bw2 T2) := by
  obtain ⟨F, F5, F2, h1, h2, h3⟩ := H
  exact (qall0S O h1.1).mono fun e w' h => ⟨h.1, tsw_one O2 h1 h2 h3 h.2.out⟩
theorem tall (O : OpS op catF catOk (fun _ => False) (fun _ _ => True)) (O2 : OpS op2 catF catOk (fun _ => False) (fun _ _ => True)) {x : ByteArray} (H : TSw op op2 nt B w W bw (x :: T) vt T5 bw2 T2) :
    Calls Try.prog 27 #[.pointer (some ⟨bw, 0, none⟩)] W fun e w' => e = .returned (.string (sumL catF x T)) ∧ Hid (TSw op op2 nt B w w' bw (x :: T) vt T5 bw2 T2) := by
  obtain ⟨F, F5, F2, h1, h2, h3⟩ := H
  exact (qallS O cat_assoc h1.1).mono fun e w' h => ⟨h.1, tsw_one O2 h1 h2 h3 h.2.out⟩
theorem tlen (O : OpS op catF catOk (fun _ => False) (fun _ _ => True)) (O2 : OpS op2 catF catOk (fun _ => False) (fun _ _ => True)) (H : TSw op op2 nt B w W bw T vt T5 bw2 T2) :
    Calls Try.prog 28 #[.pointer (some ⟨bw, 0, none⟩)] W fun e w' => e = .returned (.int .i64 (T.length : Nat)) ∧ Hid (TSw op op2 nt B w w' bw T vt T5 bw2 T2) := by
  obtain ⟨F, F5, F2, h1, h2, h3⟩ := H
  exact (qlenS O h1.1).mono fun e w' h => ⟨h.1, tsw_one O2 h1 h2 h3 h.2.out⟩
theorem fall0 (O : OpS op catF catOk (fun _ => False) (fun _ _ => True)) (O2 : OpS op2 catF catOk (fun _ => False) (fun _ _ => True)) (H : TSw op op2 nt B w W bw T vt T5 bw2 []) :
    Calls Try.prog 27 #[.pointer (some ⟨bw2, 0, none⟩)] W fun e w' => e = .returned (.string nt) ∧ Hid (TSw op op2 nt B w w' bw T vt T5 bw2 []) := by
  obtain ⟨F, F5, F2, h1, h2, h3⟩ := H
  exact (qall0S O2 h2).mono fun e w' h => ⟨h.1, tsw_two O h1 h2 h3 h.2.out⟩
theorem fall (O : OpS op catF catOk (fun _ => False) (fun _ _ => True)) (O2 : OpS op2 catF catOk (fun _ => False) (fun _ _ => True)) {x : ByteArray} (H : TSw op op2 nt B w W bw T vt T5 bw2 (x :: T2)) :
    Calls Try.prog 27 #[.pointer (some ⟨bw2, 0, none⟩)] W fun e w' => e = .returned (.string (sumL catF x T2)) ∧ Hid (TSw op op2 nt B w w' bw T vt T5 bw2 (x :: T2)) := by
  obtain ⟨F, F5, F2, h1, h2, h3⟩ := H
  exact (qallS O2 cat_assoc h2).mono fun e w' h => ⟨h.1, tsw_two O h1 h2 h3 h.2.out⟩
theorem flen (O : OpS op catF catOk (fun _ => False) (fun _ _ => True)) (O2 : OpS op2 catF catOk (fun _ => False) (fun _ _ => True)) (H : TSw op op2 nt B w W bw T vt T5 bw2 T2) :
    Calls Try.prog 28 #[.pointer (some ⟨bw2, 0, none⟩)] W fun e w' => e = .returned (.int .i64 (T2.length : Nat)) ∧ Hid (TSw op op2 nt B w w' bw T vt T5 bw2 T2) := by
  obtain ⟨F, F5, F2, h1, h2, h3⟩ := H
  exact (qlenS O2 h2).mono fun e w' h => ⟨h.1, tsw_two O h1 h2 h3 h.2.out⟩
end
/-- What All tells. -/
def allB (nt : ByteArray) : List ByteArray → ByteArray
  | [] => nt
  | x :: T => sumL catF x T
theorem tallB {op op2 : Value} {nt : ByteArray} {B : Nat} {w W : World} {bw bw2 : Nat} {T T5 T2 : List ByteArray} {vt : Value} (O : OpS op catF catOk (fun _ => False) (fun _ _ => True)) (O2 : OpS op2 catF catOk (fun _ => False) (fun _ _ => True)) (H : TSw op op2 nt B w W bw T vt T5 bw2 T2) :
    Calls Try.prog 27 #[.pointer (some ⟨bw, 0, none⟩)] W fun e w' => e = .returned (.string (allB nt T)) ∧ Hid (TSw op op2 nt B w w' bw T vt T5 bw2 T2) := by
  cases T with
  | nil => exact tall0 O O2 H
  | cons x T => exact tall O O2 H
theorem fallB {op op2 : Value} {nt : ByteArray} {B : Nat} {w W : World} {bw bw2 : Nat} {T T5 T2 : List ByteArray} {vt : Value} (O : OpS op catF catOk (fun _ => False) (fun _ _ => True)) (O2 : OpS op2 catF catOk (fun _ => False) (fun _ _ => True)) (H : TSw op op2 nt B w W bw T vt T5 bw2 T2) :
    Calls Try.prog 27 #[.pointer (some ⟨bw2, 0, none⟩)] W fun e w' => e = .returned (.string (allB nt T2)) ∧ Hid (TSw op op2 nt B w w' bw T vt T5 bw2 T2) := by
  cases T2 with
  | nil => exact fall0 O O2 H
  | cons x T2 => exact fall O O2 H
end Go.Proofs.Ytondchfhdhllhaa

namespace Go.Proofs.Ytondchfhdhllhaa
open Go.RowKit Go.Shelf
set_option linter.unusedVariables false

set_option maxRecDepth 100000 in
set_option maxHeartbeats 8000000 in
theorem live11_any (w : World) : Calls Try.prog 11 #[] w fun e w' => e = .returned (.bool true) ∧ Below w.heap.size w w' := by
  go_enter Try.func11, Try.ntmps11
  go_wp2_with fail
  refine (lnewS (B := w.heap.size) opS_live ⟨#[45]⟩ w _ (Nat.le_refl _) (Below.refl _ _)).mono ?_
  rintro e w1 ⟨bw, rfl, h1⟩
  have Q1 : Hid (LQS catF (.func (.func 31) #[] #[]) ⟨#[45]⟩ catOk w.heap.size w w1 bw []) := h1.out.1
  clear h1
  go_wp2_with fail
  refine (lall0S opS_live Q1.out).mono ?_
  rintro e w2 ⟨rfl, Q2⟩
  clear Q1
  go_wp2_with fail
  refine (lpop0S opS_live Q2.out).mono ?_
  rintro e w3 ⟨rfl, Q3⟩
  clear Q2
  go_wp2_with fail
  refine (lpushS opS_live Q3.out ⟨#[97]⟩ (show (1 : Nat) ≤ 1 * 1000 by decide) (by decide)).mono ?_
  rintro e w4 ⟨rfl, Q4⟩
  clear Q3
  go_wp2_with fail
  refine (lpushS opS_live Q4.out ⟨#[98]⟩ (show (1 : Nat) ≤ 1 * 1000 by decide) (by decide)).mono ?_
  rintro e w5 ⟨rfl, Q5⟩
  clear Q4
  go_wp2_with fail
  refine (lpushS opS_live Q5.out ⟨#[99]⟩ (show (1 : Nat) ≤ 1 * 1000 by decide) (by decide)).mono ?_
  rintro e w6 ⟨rfl, Q6⟩
  clear Q5
  go_wp2_with fail
  refine (lpopS opS_live Q6.out).mono ?_
  rintro e w7 ⟨rfl, Q7⟩
  clear Q6
  go_wp2_with fail
  refine (lpushS opS_live Q7.out ⟨#[100]⟩ (show (1 : Nat) ≤ 1 * 1000 by decide) (by decide)).mono ?_
  rintro e w8 ⟨rfl, Q8⟩
  clear Q7
  have e3 : sumL catF ⟨#[98]⟩ [⟨#[99]⟩, ⟨#[100]⟩] = ⟨#[98,99,100]⟩ := by rfl
  go_wp2_with fail
  have H9 := lallS (x := ⟨#[98]⟩) (L := [⟨#[99]⟩, ⟨#[100]⟩]) opS_live cat_assoc Q8.out
  rw [show sumL catF ⟨#[98]⟩ [⟨#[99]⟩, ⟨#[100]⟩] = ⟨#[98,99,100]⟩ from rfl] at H9
  refine H9.mono ?_
  rintro e w20 ⟨rfl, Q20⟩
  go_wp2_with fail
  refine (llenS opS_live Q20.out).mono ?_
  rintro e w21 ⟨rfl, Q21⟩
  go_wp2
  go_ret
  exact ⟨rfl, Q21.out.below⟩
end Go.Proofs.Ytondchfhdhllhaa
