/- A window over texts: its memory; Len, sumAhead, join, New. -/
import Derived.Test.YtondchfhdhllhaaZ01

namespace Go.Proofs.Ytondchfhdhllhaa
open Go.RowKit Go.Shelf
set_option linter.unusedVariables false
attribute [local go_sem] Oper.semAt_some

theorem zc_memT (A : Array Value) (i : Nat) (h : 0 < A.size) : A[i % A.size]! ∈ A.toList := by
  rw [getElem!_pos A _ (Nat.mod_lt _ h)]
  simp
theorem flT_at (d : Int × Int) : ∀ (L : List (Int × Int)) (j : Nat), j < L.length → (flT L)[j * 2]? = some (.int .u64 (L[j]?.getD d).1) ∧ (flT L)[j * 2 + 1]? = some (.int .u64 (L[j]?.getD d).2)
  | [], j, h => absurd h (by simp)
  | x :: r, 0, h => by simp [flT, celT]
  | x :: r, j + 1, h => by
    have ih := flT_at d r j (by simpa using h)
    rw [show (j + 1) * 2 = j * 2 + 1 + 1 by omega, show j * 2 + 1 + 1 + 1 = j * 2 + 1 + 1 + 1 by rfl]
    simpa [flT, celT] using ih
theorem curT_at {b : Nat} {cur : Array Value} (L : List (Int × Int)) (d : Int × Int) (h : cur.toList.take (L.length * 2) = flT L) : ∀ w : World, w.heap[b]? = some (.cells cur 26 (0, 0)) → ∀ j, j < L.length → w.cell? ⟨b, j * 2, none⟩ = some (.int .u64 (L[j]?.getD d).1) ∧ w.cell? ⟨b, j * 2 + 1, none⟩ = some (.int .u64 (L[j]?.getD d).2) := by
  intro w hw j hj
  have e : ∀ i, i < L.length * 2 → w.cell? ⟨b, i, none⟩ = (flT L)[i]? := fun i hi => by
    rw [Lib.cell_of_heap hw, ← h, List.getElem?_take, if_pos hi, Array.getElem?_toList]
  have hz := flT_at d L j hj
  exact ⟨(e _ (by omega)).trans hz.1, (e _ (by omega)).trans hz.2⟩

theorem turnfinT {f : Int × Int → Int × Int → Int × Int} {w : World} {bw : Nat} {op : Value} {nt : Int × Int} {c : Int} {y : Int × Int} {r : List (Int × Int)} {F : Nat → Prop} {ok : Nat → Int × Int → Prop} {G : Nat → Prop} {I : Nat → World → Prop} {n : Nat} {W W9 : World} {va : Value} {sm : Int × Int} {b cb D n' : Nat} {c' : Int} {cur cur' : Array Value} (O : OpT op f ok G I) (H : StT f op nt ok G I w bw c n [] (y :: r) F) (hF : ∀ k, F k → k < w.heap.size) (hfw : F bw) (hbf : F b)
    (HW : WinT f W bw op nt c' (y :: r) (y :: r) (fun k => F k ∨ va.ownBlock = some k) va (.slice (some ⟨b, 0, none⟩) (r.length + 1) cb) sm) (HB : W.heap[b]? = some (.cells cur 26 (0, 0))) (hva : ∀ k, va.ownBlock = some k → F k ∨ w.heap.size ≤ k) (HST : I n' W) (hfr : Fr (fun k => F k ∨ G k) w W) (F9 : Fr (fun k => k = b ∨ k = bw) W W9)
    (B9 : W9.heap[bw]? = some (.cells #[op, .int .u64 nt.1, .int .u64 nt.2, .int .i64 c', va, (.slice (some ⟨b, 0, none⟩) 0 cb), .int .u64 ((0, 0) : Int × Int).1, .int .u64 ((0, 0) : Int × Int).2] 60 (0, 0))) (C9 : W9.heap[b]? = some (.cells cur' 26 (0, 0))) (hcs : cur'.size = cb * 2) (hcb : cb ≤ maxLen) (hD : w.heap.size ≤ D) (D9 : W9.heap[D]? = some (.deferred (some []))) :
    Hid (StT f op nt ok G I (W9.putObj D (.deferred none)) bw c' n' (y :: r) [] (FF F w (W9.putObj D (.deferred none))) ∧ Fr (fun k => F k ∨ G k) w (W9.putObj D (.deferred none))) := by
  have hG : ∀ k, G k → k < w.heap.size := fun k g => O.glt _ _ _ H.st g
  have hbw := hF _ hfw
  have hbl := hF _ hbf
  have hp : Fr (fun k => k = D) W9 (W9.putObj D (.deferred none)) := (Fr.refl _ _).grown (grownBy_putObj' W9 D (.deferred none)) (fun k e => by cases e; exact Or.inl rfl)
  have ra9 := F9.row HW.ra (fun k e e' => e'.elim (fun q => row_ne HW.ra HB (by decide) (q ▸ e)) (fun q => row_ne HW.ra HW.blk (by decide) (q ▸ e)))
  have raf := hp.row ra9 (fun k e q => by
    obtain ⟨cc, hcc⟩ := row_cells ra9 e
    rw [q, D9] at hcc
    cases hcc)
  have hsz := Nat.le_trans hfr.size (Nat.le_trans F9.size hp.size)
  have FA : Fr (fun k => F k ∨ G k) w (W9.putObj D (.deferred none)) := (hfr.trans F9 (fun i e => e.elim (fun q => Or.inl (Or.inl (q ▸ hbf))) (fun q => Or.inl (Or.inl (q ▸ hfw))))).trans hp (fun i q => Or.inr (by omega))
  refine ⟨⟨⟨va, .slice (some ⟨b, 0, none⟩) 0 cb, _, ⟨hp.heap B9 (by omega), raf, ⟨rfl, .inr ⟨b, cb, cur', rfl, Nat.zero_le _, hp.heap C9 (by omega), Nat.zero_le _, hcb, hcs, by simp [flT]⟩⟩, (fun x r h => by cases h), ?_, Or.inl hfw, ?_, ?_, ?_⟩⟩, ?_, H.okY, (fun x h => by cases h), ?_, by simpa using H.lim⟩, FA⟩
  · have := H.lim; simp at this ⊢; omega
  · intro k e
    have h1 := (World.ownsRow.lt raf k e).2
    exact (hva k e).elim Or.inl (fun q => Or.inr ⟨q, h1⟩)
  · intro k e
    injection e with e
    subst e
    exact Or.inl hbf
  · intro k e
    rcases e with e | e
    · have := hF k e; omega
    · exact e.2
  · exact O.stay _ _ _ _ (O.stay _ _ _ _ HST F9 (fun k g e => e.elim (fun q => H.dis _ hbf (q ▸ g)) (fun q => H.dis _ hfw (q ▸ g)))) hp (fun k g q => by have := hG k g; omega)
  · intro k e g
    rcases e with e | e
    · exact H.dis k e g
    · have := hG k g; omega

set_option maxRecDepth 100000 in
set_option maxHeartbeats 16000000 in
theorem turnT_any {f : Int × Int → Int × Int → Int × Int} {w : World} {bw : Nat} {op : Value} {nt : Int × Int} {c : Int} {y : Int × Int} {r : List (Int × Int)} {F : Nat → Prop} {ok : Nat → Int × Int → Prop} {G : Nat → Prop} {I : Nat → World → Prop} {n : Nat} (O : OpT op f ok G I) (H : StT f op nt ok G I w bw c n [] (y :: r) F) :
    Calls Try.prog 36 #[.pointer (some ⟨bw, 0, none⟩)] w fun e w' => (∃ v, e = .returned v) ∧ Hid (StT f op nt ok G I w' bw (cw c r.length) (n + r.length) (y :: r) [] (FF F w w') ∧ Fr (fun k => F k ∨ G k) w w') := by
  obtain ⟨va, vb, sm, H1⟩ := H.win
  have hrb := H1.rb
  obtain ⟨hrl, ⟨e, hn0⟩ | ⟨b, cb, cur, rfl, -, hbb, hc1, hc2, hc3, hc4⟩⟩ := hrb
  · exact absurd hn0 (by simp)
  obtain ⟨pa, ca, rfl⟩ := row_form H1.ra
  have hbf : F b := H1.fb b rfl
  have hcur := curT_at (b := b) (y :: r) y hc4
  have hF := H1.ft
  have hlim := H.lim
  have hLl : (y :: r).length ≤ 4096 := by simpa using hlim
  have hbw : bw < w.heap.size := hF _ H1.fw
  have hbl : b < w.heap.size := hF _ hbf
  have hbw1 : bw < w.heap.size + 1 := by omega
  have yv : w.cell? ⟨bw, 5, none⟩ = some (.slice (some ⟨b, 0, none⟩) (r.length + 1) cb) := (Lib.cell_of_heap H1.blk _).trans rfl
  have HBL : Hid (w.heap[bw]? = _) := H1.blk
  have HCUR : Hid (_ ∧ _) := And.intro hcur hbb
  have HC : Hid (_ ∧ _ ∧ _ ∧ _ ∧ _) := ⟨hrl, hc1, hc2, hc3, hc4⟩
  clear hcur hbb hrl hc1 hc2 hc3 hc4
  refine (callsIn_wide (n := 6)).1 ?_
  refine callsIn_of_wp_marks Try.func36 rfl trivial ?_ rfl
  simp only [Try.ntmps36, List.size_toArray, List.length_cons, List.length_nil, Nat.reduceAdd, Nat.reduceSub, Array.replicate_succ, Array.replicate_zero, List.push_toArray, List.append_toArray, List.nil_append, List.cons_append]
  gi_wp2_with (refine ⟨trivial, ?_⟩; gi_at_call 40; refine (backT_in _ _ _ _ _).mono ?_; rintro e w' ⟨rfl, rfl⟩)
  rename_i Q0 K0 aK
  have hB0 : Below w.heap.size w ((w.alloc (.cells #[.pointer (some ⟨bw, 0, none⟩)] 22)).alloc (.cells #[(.slice (some ⟨b, 0, none⟩) (r.length + 1) cb)] 37)) := ((Below.refl _ w).alloc (Nat.le_refl _) _).alloc (by simp) _
  have hsz0 : ((w.alloc (.cells #[.pointer (some ⟨bw, 0, none⟩)] 22)).alloc (.cells #[(.slice (some ⟨b, 0, none⟩) (r.length + 1) cb)] 37)).heap.size = w.heap.size + 2 := by simp
  have hBs : ((w.alloc (.cells #[.pointer (some ⟨bw, 0, none⟩)] 22)).alloc (.cells #[(.slice (some ⟨b, 0, none⟩) (r.length + 1) cb)] 37)).heap[w.heap.size + 1]? = some (.cells #[(.slice (some ⟨b, 0, none⟩) (r.length + 1) cb)] 37 (0, 0)) := second w _ _
  have hBp : ((w.alloc (.cells #[.pointer (some ⟨bw, 0, none⟩)] 22)).alloc (.cells #[(.slice (some ⟨b, 0, none⟩) (r.length + 1) cb)] 37)).heap[w.heap.size]? = some (.cells #[.pointer (some ⟨bw, 0, none⟩)] 22 (0, 0)) := by
    have h := Below.heap_alloc (w.alloc (.cells #[.pointer (some ⟨bw, 0, none⟩)] 22)) (.cells #[(.slice (some ⟨b, 0, none⟩) (r.length + 1) cb)] 37) w.heap.size (by simp)
    rw [h]; exact World.alloc_heap_new w _
  have hT0 : TIT f op nt G I w bw c n (y :: r) y (.slice (some ⟨b, 0, none⟩) (r.length + 1) cb) sm F b cur [] ((w.alloc (.cells #[.pointer (some ⟨bw, 0, none⟩)] 22)).alloc (.cells #[(.slice (some ⟨b, 0, none⟩) (r.length + 1) cb)] 37)) (.slice pa 0 ca) := ⟨(H1.fr (Fr.of_below (P := fun _ => False) hB0) (fun _ _ h => h)).wide (fun k h => Or.inl h) (fun k h => by
      have := hF k (h.elim (fun h => h) (H1.fa k)); rw [hsz0]; omega), fun k e => Or.inl (H1.fa k e), hBp, hBs, (hB0.block b hbl).trans HCUR.out.2, O.stay _ _ _ _ H.st (Fr.of_below (P := fun _ => False) hB0) (fun _ _ h => h), Fr.of_below hB0⟩
  obtain ⟨W0, hW0⟩ : ∃ W0, Hid (((w.alloc (.cells #[.pointer (some ⟨bw, 0, none⟩)] 22)).alloc (.cells #[(.slice (some ⟨b, 0, none⟩) (r.length + 1) cb)] 37)) = W0) := ⟨_, rfl⟩
  rw [hW0.out] at hB0 hsz0 hBs hBp hT0 ⊢
  clear hW0
  have hown := TIT.own (f := f) (op := op) (nt := nt) (c := c) (L := (y :: r)) (d := y) (vb := (.slice (some ⟨b, 0, none⟩) (r.length + 1) cb)) (sm := sm) (cur := cur) (bw := bw) O H.st hF hbl (B := W0.heap.size) (by omega)
  refine wpIn_rangeFunc_ownH rfl (by omega) (gf := 42) (lb := #[.pointer (some ⟨w.heap.size + 1, 0, none⟩)]) rfl trivial (enters_of Try.func42 (by kernel_rfl) rfl)
    (bwdT_stops 5 (by omega) (w.heap.size + 1) b cb (y :: r) y (by omega) cur HCUR.out.1 W0 hBs ((hB0.block b hbl).trans HCUR.out.2)) KpT.t (KpT.b (B := W0.heap.size) (by omega) (by omega)) (Below.refl _ _) (fun _ => rfl)
    (fun pre W => ∃ va, TIT f op nt G I w bw c n (y :: r) y (.slice (some ⟨b, 0, none⟩) (r.length + 1) cb) sm F b cur pre W va) (fun _ _ _ => False) hown (fun _ _ _ _ _ h _ _ => h) ⟨_, hT0⟩
    (fun j a' W => ∃ Bx, w.heap.size + 2 ≤ Bx ∧ W.heap[Bx]? = some (.cells #[.int .u64 ((y :: r)[j]?.getD y).1, .int .u64 ((y :: r)[j]?.getD y).2] 26 (0, 0)) ∧ a' = ({ tmps := #[.pointer (some ⟨bw, 0, none⟩), .pointer (some ⟨w.heap.size, 0, none⟩), undef, .pointer (some ⟨Bx, 0, none⟩), undef, undef, .pointer (some ⟨bw, 0, none⟩), .pointer (some ⟨bw, 0, none⟩), .pointer (some ⟨bw, 5, none⟩), (.slice (some ⟨b, 0, none⟩) (r.length + 1) cb), .func (.func 42) #[] #[.pointer (some ⟨w.heap.size + 1, 0, none⟩)], .int .i64 (j : Nat), (.agg #[.int .u64 ((y :: r)[j]?.getD y).1, .int .u64 ((y :: r)[j]?.getD y).2]), undef, undef, undef, undef, undef, undef, undef, undef, undef, undef, undef, undef, undef, undef, undef, undef, undef, undef, undef, undef, undef, undef, undef, undef, undef, undef, undef, undef, undef, undef, undef, undef, undef, undef, undef, undef, undef, undef, undef, undef], defers := [] } : Act)) ?hax ?assign ?body ?done ?stop
  case hax =>
    rintro x a' u X Y row ⟨Bx, h1, h2, h3⟩ hg hr
    refine ⟨Bx, h1, (hg.block Bx (lt_heap h2) (fun e => ?_)).trans h2, h3⟩
    obtain ⟨-, o, ho, hc⟩ := hr Bx e.symm
    rw [h2] at ho
    cases ho
    cases hc
  case stop =>
    rintro D cc pre W _ _ h _
    exact h.elim
  case assign =>
    rintro l pre j W K ⟨va, hi⟩ hK
    gi_wp2
    have hb := (Below.refl W.heap.size W).alloc (Nat.le_refl _) (.cells #[.int .u64 ((y :: r)[j]?.getD y).1, .int .u64 ((y :: r)[j]?.getD y).2] 26)
    exact hK _ _ ((KeepsOthers.alloc _ _).from _) ⟨hb.block _ (lt_heap hi.bs), hb.block _ (lt_heap hi.bb)⟩ ⟨va, hi.below O hb⟩ ⟨W.heap.size, by have := lt_heap hi.bs; omega, World.alloc_heap_new W _, rfl⟩
  case body =>
    rintro l pre j a' W hl ⟨rr, hrr⟩ ⟨va, hi⟩ ⟨Bx, hBx, bX, rfl⟩ hplt
    obtain ⟨pv, cv, hva⟩ := row_form hi.win.ra
    rw [zsL_len] at hva
    subst hva
    have yp : W.cell? ⟨w.heap.size, 0, none⟩ = some (.pointer (some ⟨bw, 0, none⟩)) := (Lib.cell_of_heap hi.bp _).trans rfl
    have yva : W.cell? ⟨bw, 4, none⟩ = some (.slice pv pre.length cv) := (Lib.cell_of_heap hi.win.blk _).trans rfl
    have hwW : w.heap.size < W.heap.size := lt_heap hi.bp
    have hbW : bw < W.heap.size := by omega
    have yx0 : W.cell? ⟨Bx, 0, none⟩ = some (.int .u64 ((y :: r)[j]?.getD y).1) := (Lib.cell_of_heap bX _).trans rfl
    have yx1 : W.cell? ⟨Bx, 1, none⟩ = some (.int .u64 ((y :: r)[j]?.getD y).2) := (Lib.cell_of_heap bX _).trans rfl
    have hxW : Bx < W.heap.size := lt_heap bX
    obtain ⟨x, hx⟩ : ∃ x, Hid (((y :: r)[j]?.getD y) = x) := ⟨_, rfl⟩
    have hokx : ok 1 x := by rw [← hx.out]; exact H.okY _ (zsL_mem (y :: r) y (by simp) j)
    rw [hx.out] at yx0 yx1 bX
    have bX : Hid (_) := bX
    have HI : Hid (TIT f op nt G I w bw c n (y :: r) y (.slice (some ⟨b, 0, none⟩) (r.length + 1) cb) sm F b cur pre W (.slice pv pre.length cv)) := hi
    clear hi
    obtain ⟨i0, hi, hz0, hz1, hz2⟩ := info_parts inTT
    have hplt' : pre.length < r.length + 1 := hplt
    have hL' : r.length + 1 ≤ 4096 := hLl
    cases pre with
    | nil =>
      simp only [List.length_nil] at yva HI ⊢
      gi_wp2
      refine wpIn_world ?_
      intro V hV
      have FV : Hid (Fr (fun k => k = bw ∨ G k) W V) := by rw [hV]; exact (Fr.refl _ W).alloc _
      have BV : Hid (V.heap[bw]? = some (.cells #[op, .int .u64 nt.1, .int .u64 nt.2, .int .i64 c, (.slice pv 0 cv), (.slice (some ⟨b, 0, none⟩) (r.length + 1) cb), .int .u64 sm.1, .int .u64 sm.2] 60 (0, 0))) := by rw [hV]; exact (Below.heap_alloc _ _ _ hbW).trans HI.out.win.blk
      have IV : Hid (I n V) := by rw [hV]; exact O.stay _ _ _ _ HI.out.st ((Fr.refl (fun _ => False) W).alloc _) (fun _ _ h => h)
      have hneV : Hid (∀ k, w.heap.size ≤ k → ¬ (k = bw ∨ G k)) := fun k hk e => e.elim (fun q => by omega) (fun g => by have := O.glt _ _ _ H.st g; omega)
      have raV : Hid (V.ownsRow 0 63 4 (.slice pv 0 cv) 0 (tflT (tls f (zsL (y :: r) y [])).reverse)) := by
        have h0 := HI.out.win.ra
        rw [zsL_len] at h0
        exact FV.out.row h0 (fun k e e' => e'.elim (fun q => row_ne h0 HI.out.win.blk (by decide) (q ▸ e)) (fun g => (HI.out.va k e).elim (fun q => H.dis k q g) (fun q => hneV.out k q (Or.inr g))))
      have BP : Hid (V.heap[w.heap.size]? = some (.cells #[.pointer (some ⟨bw, 0, none⟩)] 22 (0, 0))) := FV.out.heap HI.out.bp (hneV.out _ (Nat.le_refl _))
      have vp : V.cell? ⟨w.heap.size, 0, none⟩ = some (.pointer (some ⟨bw, 0, none⟩)) := (Lib.cell_of_heap BP.out _).trans rfl
      have vv : V.cell? ⟨bw, 4, none⟩ = some (.slice pv 0 cv) := (Lib.cell_of_heap BV.out _).trans rfl
      have hbV : bw < V.heap.size := lt_heap BV.out
      have hwV : w.heap.size < V.heap.size := lt_heap BP.out
      have BX : Hid (V.heap[Bx]? = some (.cells #[.int .u64 x.1, .int .u64 x.2] 26 (0, 0))) := FV.out.heap bX.out (hneV.out _ (by omega))
      have BZ : Hid (V.heap[W.heap.size]? = some (.cells #[.int .u64 x.1, .int .u64 x.2] 26 (0, 0))) := by rw [hV]; exact World.alloc_heap_new W _
      have vx0 : V.cell? ⟨Bx, 0, none⟩ = some (.int .u64 x.1) := (Lib.cell_of_heap BX.out _).trans rfl
      have vx1 : V.cell? ⟨Bx, 1, none⟩ = some (.int .u64 x.2) := (Lib.cell_of_heap BX.out _).trans rfl
      have vz0 : V.cell? ⟨W.heap.size, 0, none⟩ = some (.int .u64 x.1) := (Lib.cell_of_heap BZ.out _).trans rfl
      have vz1 : V.cell? ⟨W.heap.size, 1, none⟩ = some (.int .u64 x.2) := (Lib.cell_of_heap BZ.out _).trans rfl
      have hxV : Bx < V.heap.size := lt_heap BX.out
      have hzV : W.heap.size < V.heap.size := lt_heap BZ.out
      have HT : Hid (∀ {V w2 : World} {v' : Value}, Fr (fun k => k = bw ∨ G k) W V → V.heap[bw]? = some (.cells #[op, .int .u64 nt.1, .int .u64 nt.2, .int .i64 c, (.slice pv 0 cv), (.slice (some ⟨b, 0, none⟩) (r.length + 1) cb), .int .u64 sm.1, .int .u64 sm.2] 60 (0, 0)) → I n V →
          w2.ownsRow 0 63 4 v' (0 + 1) (tflT (tls f (zsL (y :: r) y [])).reverse ++ [.int .u64 x.1, .int .u64 x.2, .int .u64 x.1, .int .u64 x.2]) → (V.alloc (.cells #[.int .u64 x.1, .int .u64 x.2, .int .u64 x.1, .int .u64 x.2] 63)).grownBy w2 (Value.slice pv 0 cv).ownBlock → (v'.ownBlock = (Value.slice pv 0 cv).ownBlock ∨ v'.ownBlock = some (V.heap.size + 1)) →
          ∃ p9 c9, v' = .slice p9 (0 + 1) c9 ∧ w2.cell? ⟨bw, 4, none⟩ = some (.slice pv 0 cv) ∧ w2.frozen? ⟨bw, 4, none⟩ = false ∧ Fr (fun k => k = bw ∨ G k ∨ (Value.slice pv 0 cv).ownBlock = some k) W w2 ∧
            Hid (TIT f op nt G I w bw c n (y :: r) y (.slice (some ⟨b, 0, none⟩) (r.length + 1) cb) sm F b cur ([] ++ [j]) (w2.setCell ⟨bw, 4, none⟩ v') v' ∧ Fr (fun k => k = bw ∨ G k ∨ (Value.slice pv 0 cv).ownBlock = some k) W (w2.setCell ⟨bw, 4, none⟩ v'))) := by
        intro V w2 v' g1 g2 g3 g4 g5 g6
        have hx' := hx.out
        subst hx'
        skip
        have hzl : (zsL (y :: r) y []).length = 0 := zsL_len _ _ _
        exact tstepT O H.st hF H.dis H1.fw H1.fb hbf HI.out g1 g2 g3 hplt hLl (by rw [hzl]; exact g4) g5 g6
      have HS : Hid (∀ w3 : World, (V.drew.alloc (.cells #[.int .u64 x.1, .int .u64 x.2, .int .u64 x.1, .int .u64 x.2] 63)).grownBy w3 (Value.slice pv 0 cv).ownBlock → w3.cell? ⟨w.heap.size, 0, none⟩ = some (.pointer (some ⟨bw, 0, none⟩)) ∧ w3.cell? ⟨Bx, 0, none⟩ = some (.int .u64 x.1) ∧ w3.cell? ⟨Bx, 1, none⟩ = some (.int .u64 x.2) ∧ w3.cell? ⟨W.heap.size, 0, none⟩ = some (.int .u64 x.1) ∧ w3.cell? ⟨W.heap.size, 1, none⟩ = some (.int .u64 x.2)) := by
        intro w3 hg
        exact ⟨hg.cell (Lib.cell?_alloc_some _ (show V.drew.cell? _ = _ from vp)) (fun e => row_ne raV.out BP.out (by decide) e.symm), hg.cell (Lib.cell?_alloc_some _ (show V.drew.cell? _ = _ from vx0)) (fun e => row_ne raV.out BX.out (by decide) e.symm), hg.cell (Lib.cell?_alloc_some _ (show V.drew.cell? _ = _ from vx1)) (fun e => row_ne raV.out BX.out (by decide) e.symm), hg.cell (Lib.cell?_alloc_some _ (show V.drew.cell? _ = _ from vz0)) (fun e => row_ne raV.out BZ.out (by decide) e.symm), hg.cell (Lib.cell?_alloc_some _ (show V.drew.cell? _ = _ from vz1)) (fun e => row_ne raV.out BZ.out (by decide) e.symm)⟩
      clear hV yp yva yx0 yx1
      refine wpInR_held (S := fun U => U.cell? ⟨w.heap.size, 0, none⟩ = some (.pointer (some ⟨bw, 0, none⟩)) ∧ U.cell? ⟨Bx, 0, none⟩ = some (.int .u64 x.1) ∧ U.cell? ⟨Bx, 1, none⟩ = some (.int .u64 x.2) ∧ U.cell? ⟨W.heap.size, 0, none⟩ = some (.int .u64 x.1) ∧ U.cell? ⟨W.heap.size, 1, none⟩ = some (.int .u64 x.2)) (by kernel_rfl) (by kernel_rfl) (by rintro ⟨a, w, h⟩; exact h) ⟨vp, vx0, vx1, vz0, vz1⟩ (fun hHeld => ?_)
      refine wpAnyH_take (i := 0) (oi := ({ dst := some 25, op := Op.load 22 (Operand.tmp 1), type := 22, pos := "window.go:97", after := #[], guard := none } : Oper)) (v := ?yv1) rfl (by kernel_rfl) (by kernel_rfl) (by kernel_rfl) (fun _ _ _ h => h) (Or.inl ⟨by rfl, ?yh1⟩) (by assumption) ?yr1
      case yh1 => (intro wq hSw; (try dsimp only at hSw); obtain ⟨sa, sb⟩ := hSw; go_simp; first | done | with_reducible rfl)
      try simp only [Act.put, List.setIfInBounds_toArray, List.set_cons_zero, List.set_cons_succ]
      refine wpAnyH_take (i := 1) (oi := ({ dst := some 26, op := Op.load 22 (Operand.tmp 1), type := 22, pos := "window.go:97", after := #[], guard := none } : Oper)) (v := ?yv2) rfl (by kernel_rfl) (by kernel_rfl) (by kernel_rfl) (fun _ _ _ h => h) (Or.inl ⟨by rfl, ?yh2⟩) (by assumption) ?yr2
      case yh2 => (intro wq hSw; (try dsimp only at hSw); obtain ⟨sa, sb⟩ := hSw; go_simp; first | done | with_reducible rfl)
      try simp only [Act.put, List.setIfInBounds_toArray, List.set_cons_zero, List.set_cons_succ]
      refine wpAnyH_take (i := 2) (oi := ({ dst := some 27, op := Op.nilCheck (Operand.tmp 26), type := 0, pos := "window.go:97", after := #[{ on := 1, ground := Ground.data }], guard := none } : Oper)) (v := ?yv3) rfl (by kernel_rfl) (by kernel_rfl) (by kernel_rfl) (fun _ _ _ h => h) (Or.inl ⟨by rfl, ?yh3⟩) (by assumption) ?yr3
      case yh3 => (intro wq hSw; (try dsimp only at hSw); obtain ⟨sa, sb⟩ := hSw; go_simp; first | done | with_reducible rfl)
      try simp only [Act.put, List.setIfInBounds_toArray, List.set_cons_zero, List.set_cons_succ]
      refine wpAnyH_take (i := 3) (oi := ({ dst := some 28, op := Op.fieldAddr 60 (Operand.tmp 27) 3, type := 0, pos := "window.go:97", after := #[{ on := 2, ground := Ground.data }], guard := none } : Oper)) (v := ?yv4) rfl (by kernel_rfl) (by kernel_rfl) (by kernel_rfl) (fun _ _ _ h => h) (Or.inl ⟨by rfl, ?yh4⟩) (by assumption) ?yr4
      case yh4 => (intro wq hSw; (try dsimp only at hSw); obtain ⟨sa, sb⟩ := hSw; go_simp; first | done | with_reducible rfl)
      try simp only [Act.put, List.setIfInBounds_toArray, List.set_cons_zero, List.set_cons_succ]
      refine wpAnyH_take (i := 5) (oi := ({ dst := some 30, op := Op.load 26 (Operand.tmp 3), type := 26, pos := "window.go:97", after := #[], guard := none } : Oper)) (v := ?yv5) rfl (by kernel_rfl) (by kernel_rfl) (by kernel_rfl) (fun _ _ _ h => h) (Or.inl ⟨by rfl, ?yh5⟩) (by assumption) ?yr5
      case yh5 => (intro wq hSw; (try dsimp only at hSw); obtain ⟨sa, sb⟩ := hSw; go_simp; first | done | with_reducible rfl)
      try simp only [Act.put, List.setIfInBounds_toArray, List.set_cons_zero, List.set_cons_succ]
      refine wpAnyH_take (i := 6) (oi := ({ dst := some 31, op := Op.load 26 (Operand.tmp 4), type := 26, pos := "window.go:97", after := #[], guard := none } : Oper)) (v := ?yv6) rfl (by kernel_rfl) (by kernel_rfl) (by kernel_rfl) (fun _ _ _ h => h) (Or.inl ⟨by rfl, ?yh6⟩) (by assumption) ?yr6
      case yh6 => (intro wq hSw; (try dsimp only at hSw); obtain ⟨sa, sb⟩ := hSw; go_simp; first | done | with_reducible rfl)
      try simp only [Act.put, List.setIfInBounds_toArray, List.set_cons_zero, List.set_cons_succ]
      refine wpAnyH_take (i := 7) (oi := ({ dst := some 32, op := Op.build 63 #[(0, Operand.tmp 30), (1, Operand.tmp 31)], type := 63, pos := "window.go:97", after := #[{ on := 5, ground := Ground.data }, { on := 6, ground := Ground.data }], guard := none } : Oper)) (v := ?yv7) rfl (by kernel_rfl) (by kernel_rfl) (by kernel_rfl) (fun _ _ _ h => h) (Or.inl ⟨by rfl, ?yh7⟩) (by assumption) ?yr7
      case yh7 => (intro wq hSw; (try dsimp only at hSw); obtain ⟨sa, sb⟩ := hSw; go_simp; first | done | with_reducible rfl)
      try simp only [Act.put, List.setIfInBounds_toArray, List.set_cons_zero, List.set_cons_succ]
      refine wpAnyH_ready (rs := [4, 8]) (by kernel_rfl) (by simp) ?_
      refine (AllReadyH.cons (o := ({ dst := some 29, op := Op.load 58 (Operand.tmp 28), type := 58, pos := "window.go:97", after := #[{ on := 3, ground := Ground.data }], guard := none } : Oper)) rfl (fun K hK => ?_) (AllReadyH.cons (o := ({ dst := some 33, op := Op.buildSlice 58 1 #[(0, Operand.tmp 32)], type := 58, pos := "window.go:97", after := #[{ on := 7, ground := Ground.data }], guard := none } : Oper)) rfl (fun K hK => ?_) AllReadyH.nil))
      · have vv' : V.drew.cell? ⟨bw, 4, none⟩ = some (.slice pv 0 cv) := vv
        go_simp
        clear vv'
        refine hK.out _ _ hHeld (fun hHeld => ?_)
        clear hK K
        try simp only [Act.put, List.setIfInBounds_toArray, List.set_cons_zero, List.set_cons_succ]
        refine wpAnyH_ready (rs := [8]) (by kernel_rfl) (by simp) ?_
        refine (AllReadyH.cons (o := ({ dst := some 33, op := Op.buildSlice 58 1 #[(0, Operand.tmp 32)], type := 58, pos := "window.go:97", after := #[{ on := 7, ground := Ground.data }], guard := none } : Oper)) rfl (fun K hK => ?_) AllReadyH.nil)
        go_simp
        refine hK.out _ _ ⟨Lib.cell?_alloc_some _ hHeld.1, Lib.cell?_alloc_some _ hHeld.2.1, Lib.cell?_alloc_some _ hHeld.2.2.1, Lib.cell?_alloc_some _ hHeld.2.2.2.1, Lib.cell?_alloc_some _ hHeld.2.2.2.2⟩ (fun hHeld => ?_)
        clear hK K
        try simp only [Act.put, List.setIfInBounds_toArray, List.set_cons_zero, List.set_cons_succ]
        refine wpAnyH_ready (rs := [9]) (by kernel_rfl) (by simp) ?_
        refine (AllReadyH.cons (o := ({ dst := some 34, op := Op.call { callee := Callee.builtin Builtin.append, args := #[Operand.tmp 29, Operand.tmp 33], argTypes := #[58, 58] }, type := 58, pos := "window.go:97", after := #[{ on := 4, ground := Ground.data }, { on := 8, ground := Ground.data }], guard := none } : Oper)) rfl (fun K hK => ?_) AllReadyH.nil)
        have XO : (V.drew.alloc (.cells #[.int .u64 x.1, .int .u64 x.2, .int .u64 x.1, .int .u64 x.2] 63)).ownsRow 0 63 4 (.slice pv 0 cv) 0 (tflT (tls f (zsL (y :: r) y [])).reverse) := World.ownsRow.alloc (show V.drew.ownsRow _ _ _ _ _ _ from raV.out) _
        refine step_append_at rfl (.tmp 29) (.tmp 33) 58 rfl 0 63 i0 (.agg #[.int .u64 0, .int .u64 0, .int .u64 0, .int .u64 0]) 4 32 Try.underlying58 hi hz0 hz1 hz2 rfl (by decide) (.slice pv 0 cv) _ _ (by simp [Act.eval]) XO ⟨V.heap.size, 0, none⟩ 1 1 [.int .u64 x.1, .int .u64 x.2, .int .u64 x.1, .int .u64 x.2] (by simp [Act.eval]) rfl (by intro jj u hj; rw [Addr.add_lit]; (rcases jj with _ | _ | _ | _ | jj) <;> simp at hj <;> subst hj <;> simp (maxDischargeDepth := 12) [go_sem]) (by intro u hu; simp at hu; rcases hu with rfl | rfl | rfl | rfl <;> rfl) (by unfold maxLen; omega) (by omega) (Nat.zero_le _) (fun v' w3 h2 h3 h5 => ?_)
        have HA := HT.out (V := V.drew) (w2 := w3) (v' := v') FV.out.drew BV.out (O.stay _ _ _ _ IV.out (Fr.of_below (P := fun _ => False) (Below.refl _ V).drew) (fun _ _ h => h)) h2 h3 (by first | exact h5 | simpa using h5)
        obtain ⟨p2, c2, rfl, a1, a2, F2, HE⟩ := HA
        have hw3 := HS.out _ h3
        clear h2 h3 h5 XO
        refine hK.out _ _ hw3 (fun hHeld => ?_)
        clear hK K
        try simp only [Act.put, List.setIfInBounds_toArray, List.set_cons_zero, List.set_cons_succ]
        clear hw3
        refine wpAnyH_take (i := 10) (oi := ({ dst := some 35, op := Op.nilCheck (Operand.tmp 25), type := 0, pos := "window.go:97", after := #[{ on := 0, ground := Ground.data }, { on := 0, ground := Ground.phase }, { on := 1, ground := Ground.phase }, { on := 2, ground := Ground.phase }, { on := 3, ground := Ground.phase }, { on := 4, ground := Ground.phase }, { on := 5, ground := Ground.phase }, { on := 6, ground := Ground.phase }, { on := 7, ground := Ground.phase }, { on := 8, ground := Ground.phase }, { on := 9, ground := Ground.phase }], guard := none } : Oper)) (v := ?yv8) rfl (by kernel_rfl) (by kernel_rfl) (by kernel_rfl) (fun _ _ _ h => h) (Or.inl ⟨by rfl, ?yh8⟩) (by assumption) ?yr8
        case yh8 => (intro wq hSw; (try dsimp only at hSw); obtain ⟨sa, sb⟩ := hSw; go_simp; first | done | with_reducible rfl)
        try simp only [Act.put, List.setIfInBounds_toArray, List.set_cons_zero, List.set_cons_succ]
        refine wpAnyH_take (i := 11) (oi := ({ dst := some 36, op := Op.fieldAddr 60 (Operand.tmp 35) 3, type := 0, pos := "window.go:97", after := #[{ on := 10, ground := Ground.data }, { on := 0, ground := Ground.phase }, { on := 1, ground := Ground.phase }, { on := 2, ground := Ground.phase }, { on := 3, ground := Ground.phase }, { on := 4, ground := Ground.phase }, { on := 5, ground := Ground.phase }, { on := 6, ground := Ground.phase }, { on := 7, ground := Ground.phase }, { on := 8, ground := Ground.phase }, { on := 9, ground := Ground.phase }], guard := none } : Oper)) (v := ?yv9) rfl (by kernel_rfl) (by kernel_rfl) (by kernel_rfl) (fun _ _ _ h => h) (Or.inl ⟨by rfl, ?yh9⟩) (by assumption) ?yr9
        case yh9 => (intro wq hSw; (try dsimp only at hSw); obtain ⟨sa, sb⟩ := hSw; go_simp; first | done | with_reducible rfl)
        try simp only [Act.put, List.setIfInBounds_toArray, List.set_cons_zero, List.set_cons_succ]
        refine wpAnyH_ready (rs := [12]) (by kernel_rfl) (by simp) ?_
        refine (AllReadyH.cons (o := ({ dst := none, op := Op.store 58 (Operand.tmp 36) (Operand.tmp 34), type := 0, pos := "window.go:97", after := #[{ on := 11, ground := Ground.data }, { on := 9, ground := Ground.data }, { on := 9, ground := Ground.chain }, { on := 0, ground := Ground.phase }, { on := 1, ground := Ground.phase }, { on := 2, ground := Ground.phase }, { on := 3, ground := Ground.phase }, { on := 4, ground := Ground.phase }, { on := 5, ground := Ground.phase }, { on := 6, ground := Ground.phase }, { on := 7, ground := Ground.phase }, { on := 8, ground := Ground.phase }, { on := 9, ground := Ground.phase }], guard := none } : Oper)) rfl (fun K hK => ?_) AllReadyH.nil)
        go_simp
        have hS4 : Hid ((w3.setCell ⟨bw, 4, none⟩ (.slice p2 (0 + 1) c2)).cell? ⟨w.heap.size, 0, none⟩ = some (.pointer (some ⟨bw, 0, none⟩)) ∧ (w3.setCell ⟨bw, 4, none⟩ (.slice p2 (0 + 1) c2)).cell? ⟨Bx, 0, none⟩ = some (.int .u64 x.1) ∧ (w3.setCell ⟨bw, 4, none⟩ (.slice p2 (0 + 1) c2)).cell? ⟨Bx, 1, none⟩ = some (.int .u64 x.2) ∧ (w3.setCell ⟨bw, 4, none⟩ (.slice p2 (0 + 1) c2)).cell? ⟨W.heap.size, 0, none⟩ = some (.int .u64 x.1) ∧ (w3.setCell ⟨bw, 4, none⟩ (.slice p2 (0 + 1) c2)).cell? ⟨W.heap.size, 1, none⟩ = some (.int .u64 x.2)) := ⟨(World.cell?_setCell_other _ _ _ _ (by intro e; injection e with e1 e2 e3; omega)).trans hHeld.1, (World.cell?_setCell_other _ _ _ _ (by intro e; injection e with e1 e2 e3; omega)).trans hHeld.2.1, (World.cell?_setCell_other _ _ _ _ (by intro e; injection e with e1 e2 e3; omega)).trans hHeld.2.2.1, (World.cell?_setCell_other _ _ _ _ (by intro e; injection e with e1 e2 e3; omega)).trans hHeld.2.2.2.1, (World.cell?_setCell_other _ _ _ _ (by intro e; injection e with e1 e2 e3; omega)).trans hHeld.2.2.2.2⟩
        refine hK.out _ _ hS4.out (fun hHeld => ?_)
        clear hK K
        try simp only [Act.put, List.setIfInBounds_toArray, List.set_cons_zero, List.set_cons_succ]
        refine wpAnyH_done (by kernel_rfl) ?_ _
        clear hS4
        (try gi_wp2)
        have HK := HE.out
        obtain ⟨q1, q2⟩ := tkeepT O H.st hF H.dis H1.fw hbf HI.out HK.2 (B := W0.heap.size) (by omega)
        exact ⟨q1, q2, ⟨_, HK.1⟩⟩
      · go_simp
        refine hK.out _ _ ⟨Lib.cell?_alloc_some _ hHeld.1, Lib.cell?_alloc_some _ hHeld.2.1, Lib.cell?_alloc_some _ hHeld.2.2.1, Lib.cell?_alloc_some _ hHeld.2.2.2.1, Lib.cell?_alloc_some _ hHeld.2.2.2.2⟩ (fun hHeld => ?_)
        clear hK K
        try simp only [Act.put, List.setIfInBounds_toArray, List.set_cons_zero, List.set_cons_succ]
        refine wpAnyH_ready (rs := [4]) (by kernel_rfl) (by simp) ?_
        refine (AllReadyH.cons (o := ({ dst := some 29, op := Op.load 58 (Operand.tmp 28), type := 58, pos := "window.go:97", after := #[{ on := 3, ground := Ground.data }], guard := none } : Oper)) rfl (fun K hK => ?_) AllReadyH.nil)
        have vv' : (V.drew.alloc (.cells #[.int .u64 x.1, .int .u64 x.2, .int .u64 x.1, .int .u64 x.2] 63)).cell? ⟨bw, 4, none⟩ = some (.slice pv 0 cv) := Lib.cell?_alloc_some _ (show V.drew.cell? _ = _ from vv)
        go_simp
        clear vv'
        refine hK.out _ _ hHeld (fun hHeld => ?_)
        clear hK K
        try simp only [Act.put, List.setIfInBounds_toArray, List.set_cons_zero, List.set_cons_succ]
        refine wpAnyH_ready (rs := [9]) (by kernel_rfl) (by simp) ?_
        refine (AllReadyH.cons (o := ({ dst := some 34, op := Op.call { callee := Callee.builtin Builtin.append, args := #[Operand.tmp 29, Operand.tmp 33], argTypes := #[58, 58] }, type := 58, pos := "window.go:97", after := #[{ on := 4, ground := Ground.data }, { on := 8, ground := Ground.data }], guard := none } : Oper)) rfl (fun K hK => ?_) AllReadyH.nil)
        have XO : (V.drew.alloc (.cells #[.int .u64 x.1, .int .u64 x.2, .int .u64 x.1, .int .u64 x.2] 63)).ownsRow 0 63 4 (.slice pv 0 cv) 0 (tflT (tls f (zsL (y :: r) y [])).reverse) := World.ownsRow.alloc (show V.drew.ownsRow _ _ _ _ _ _ from raV.out) _
        refine step_append_at rfl (.tmp 29) (.tmp 33) 58 rfl 0 63 i0 (.agg #[.int .u64 0, .int .u64 0, .int .u64 0, .int .u64 0]) 4 32 Try.underlying58 hi hz0 hz1 hz2 rfl (by decide) (.slice pv 0 cv) _ _ (by simp [Act.eval]) XO ⟨V.heap.size, 0, none⟩ 1 1 [.int .u64 x.1, .int .u64 x.2, .int .u64 x.1, .int .u64 x.2] (by simp [Act.eval]) rfl (by intro jj u hj; rw [Addr.add_lit]; (rcases jj with _ | _ | _ | _ | jj) <;> simp at hj <;> subst hj <;> simp (maxDischargeDepth := 12) [go_sem]) (by intro u hu; simp at hu; rcases hu with rfl | rfl | rfl | rfl <;> rfl) (by unfold maxLen; omega) (by omega) (Nat.zero_le _) (fun v' w3 h2 h3 h5 => ?_)
        have HA := HT.out (V := V.drew) (w2 := w3) (v' := v') FV.out.drew BV.out (O.stay _ _ _ _ IV.out (Fr.of_below (P := fun _ => False) (Below.refl _ V).drew) (fun _ _ h => h)) h2 h3 (by first | exact h5 | simpa using h5)
        obtain ⟨p2, c2, rfl, a1, a2, F2, HE⟩ := HA
        have hw3 := HS.out _ h3
        clear h2 h3 h5 XO
        refine hK.out _ _ hw3 (fun hHeld => ?_)
        clear hK K
        try simp only [Act.put, List.setIfInBounds_toArray, List.set_cons_zero, List.set_cons_succ]
        clear hw3
        refine wpAnyH_take (i := 10) (oi := ({ dst := some 35, op := Op.nilCheck (Operand.tmp 25), type := 0, pos := "window.go:97", after := #[{ on := 0, ground := Ground.data }, { on := 0, ground := Ground.phase }, { on := 1, ground := Ground.phase }, { on := 2, ground := Ground.phase }, { on := 3, ground := Ground.phase }, { on := 4, ground := Ground.phase }, { on := 5, ground := Ground.phase }, { on := 6, ground := Ground.phase }, { on := 7, ground := Ground.phase }, { on := 8, ground := Ground.phase }, { on := 9, ground := Ground.phase }], guard := none } : Oper)) (v := ?yv10) rfl (by kernel_rfl) (by kernel_rfl) (by kernel_rfl) (fun _ _ _ h => h) (Or.inl ⟨by rfl, ?yh10⟩) (by assumption) ?yr10
        case yh10 => (intro wq hSw; (try dsimp only at hSw); obtain ⟨sa, sb⟩ := hSw; go_simp; first | done | with_reducible rfl)
        try simp only [Act.put, List.setIfInBounds_toArray, List.set_cons_zero, List.set_cons_succ]
        refine wpAnyH_take (i := 11) (oi := ({ dst := some 36, op := Op.fieldAddr 60 (Operand.tmp 35) 3, type := 0, pos := "window.go:97", after := #[{ on := 10, ground := Ground.data }, { on := 0, ground := Ground.phase }, { on := 1, ground := Ground.phase }, { on := 2, ground := Ground.phase }, { on := 3, ground := Ground.phase }, { on := 4, ground := Ground.phase }, { on := 5, ground := Ground.phase }, { on := 6, ground := Ground.phase }, { on := 7, ground := Ground.phase }, { on := 8, ground := Ground.phase }, { on := 9, ground := Ground.phase }], guard := none } : Oper)) (v := ?yv11) rfl (by kernel_rfl) (by kernel_rfl) (by kernel_rfl) (fun _ _ _ h => h) (Or.inl ⟨by rfl, ?yh11⟩) (by assumption) ?yr11
        case yh11 => (intro wq hSw; (try dsimp only at hSw); obtain ⟨sa, sb⟩ := hSw; go_simp; first | done | with_reducible rfl)
        try simp only [Act.put, List.setIfInBounds_toArray, List.set_cons_zero, List.set_cons_succ]
        refine wpAnyH_ready (rs := [12]) (by kernel_rfl) (by simp) ?_
        refine (AllReadyH.cons (o := ({ dst := none, op := Op.store 58 (Operand.tmp 36) (Operand.tmp 34), type := 0, pos := "window.go:97", after := #[{ on := 11, ground := Ground.data }, { on := 9, ground := Ground.data }, { on := 9, ground := Ground.chain }, { on := 0, ground := Ground.phase }, { on := 1, ground := Ground.phase }, { on := 2, ground := Ground.phase }, { on := 3, ground := Ground.phase }, { on := 4, ground := Ground.phase }, { on := 5, ground := Ground.phase }, { on := 6, ground := Ground.phase }, { on := 7, ground := Ground.phase }, { on := 8, ground := Ground.phase }, { on := 9, ground := Ground.phase }], guard := none } : Oper)) rfl (fun K hK => ?_) AllReadyH.nil)
        go_simp
        have hS4 : Hid ((w3.setCell ⟨bw, 4, none⟩ (.slice p2 (0 + 1) c2)).cell? ⟨w.heap.size, 0, none⟩ = some (.pointer (some ⟨bw, 0, none⟩)) ∧ (w3.setCell ⟨bw, 4, none⟩ (.slice p2 (0 + 1) c2)).cell? ⟨Bx, 0, none⟩ = some (.int .u64 x.1) ∧ (w3.setCell ⟨bw, 4, none⟩ (.slice p2 (0 + 1) c2)).cell? ⟨Bx, 1, none⟩ = some (.int .u64 x.2) ∧ (w3.setCell ⟨bw, 4, none⟩ (.slice p2 (0 + 1) c2)).cell? ⟨W.heap.size, 0, none⟩ = some (.int .u64 x.1) ∧ (w3.setCell ⟨bw, 4, none⟩ (.slice p2 (0 + 1) c2)).cell? ⟨W.heap.size, 1, none⟩ = some (.int .u64 x.2)) := ⟨(World.cell?_setCell_other _ _ _ _ (by intro e; injection e with e1 e2 e3; omega)).trans hHeld.1, (World.cell?_setCell_other _ _ _ _ (by intro e; injection e with e1 e2 e3; omega)).trans hHeld.2.1, (World.cell?_setCell_other _ _ _ _ (by intro e; injection e with e1 e2 e3; omega)).trans hHeld.2.2.1, (World.cell?_setCell_other _ _ _ _ (by intro e; injection e with e1 e2 e3; omega)).trans hHeld.2.2.2.1, (World.cell?_setCell_other _ _ _ _ (by intro e; injection e with e1 e2 e3; omega)).trans hHeld.2.2.2.2⟩
        refine hK.out _ _ hS4.out (fun hHeld => ?_)
        clear hK K
        try simp only [Act.put, List.setIfInBounds_toArray, List.set_cons_zero, List.set_cons_succ]
        refine wpAnyH_done (by kernel_rfl) ?_ _
        clear hS4
        (try gi_wp2)
        have HK := HE.out
        obtain ⟨q1, q2⟩ := tkeepT O H.st hF H.dis H1.fw hbf HI.out HK.2 (B := W0.heap.size) (by omega)
        exact ⟨q1, q2, ⟨_, HK.1⟩⟩
    | cons p ps =>
      simp only [List.length_cons] at yva HI ⊢
      have hps : ((0 : Int) < (ps.length : Int) + 1) := by omega
      have hpl2 : ps.length + 1 < r.length + 1 := by simpa using hplt'
      obtain ⟨z, zr, hZ⟩ : ∃ z zr, Hid (zsL (y :: r) y (p :: ps) = z :: zr) := by
        cases hq : zsL (y :: r) y (p :: ps) with
        | nil => have h := zsL_len (y :: r) y (p :: ps); rw [hq] at h; simp at h
        | cons z zr => exact ⟨z, zr, rfl⟩
      obtain ⟨q, hq⟩ : ∃ q, Hid (sumR f x (zsL (y :: r) y (p :: ps)) = q) := ⟨_, rfl⟩
      obtain ⟨t, ht⟩ : ∃ t, Hid (sumR f z zr = t) := ⟨_, rfl⟩
      have hqe : Hid (f x t = q) := by unfold Hid; rw [← hq.out, hZ.out, ← ht.out]; rfl
      have hzl : zr.length + 1 = ps.length + 1 := by have h := zsL_len (y :: r) y (p :: ps); rw [hZ.out] at h; simpa using h
      have hokt : ok (zr.length + 1) t := by
        rw [← ht.out]
        have hz := zsL_ok (y :: r) y (by simp) H.okY (p :: ps)
        rw [hZ.out] at hz
        exact ok_sumR O.okf z zr (hz z (by simp)) (fun u hu => hz u (by simp [hu])) (by omega)
      have hdV : Hid (∀ k, (F k ∨ (Value.slice pv (ps.length + 1) cv).ownBlock = some k) → ¬ G k) := fun k e g => e.elim (fun e => H.dis k e g) (fun e => (HI.out.va k e).elim (fun e => H.dis k e g) (fun e => by have := O.glt _ _ _ H.st g; omega))
      gi_wp2
      refine wpIn_world ?_
      intro U hU
      have HU : Hid (Below W.heap.size W U) := by rw [hU]; exact (Below.refl _ W).alloc (Nat.le_refl _) _
      have HIU : Hid (TIT f op nt G I w bw c n (y :: r) y (.slice (some ⟨b, 0, none⟩) (r.length + 1) cb) sm F b cur (p :: ps) U (.slice pv (ps.length + 1) cv)) := HI.out.below O HU.out
      have HWU : Hid (WinT f U bw op nt (cw c ps.length) (z :: zr) (y :: r) (fun k => F k ∨ (Value.slice pv (ps.length + 1) cv).ownBlock = some k) (.slice pv (ps.length + 1) cv) (.slice (some ⟨b, 0, none⟩) (r.length + 1) cb) sm) := by
        have h0 := HIU.out.win
        rw [hZ.out] at h0
        exact h0
      have HSA : Hid (∀ U', Below U.heap.size U U' → Calls Try.prog 30 #[.pointer (some ⟨bw, 0, none⟩)] U' fun e w' => e = .returned (.agg #[.int .u64 t.1, .int .u64 t.2]) ∧ Below U'.heap.size U' w') := fun U' h' => by
        rw [← ht.out]
        exact sumAT_any (HWU.out.fr (Fr.of_below (P := fun _ => False) h') (fun _ _ h => h))
      have HJ : Hid (∀ U', Below U.heap.size U U' → Calls Try.prog 29 #[.pointer (some ⟨bw, 0, none⟩), (.agg #[.int .u64 x.1, .int .u64 x.2]), (.agg #[.int .u64 t.1, .int .u64 t.2])] U' fun e w' => e = .returned (.agg #[.int .u64 q.1, .int .u64 q.2]) ∧ Hid (I (n + ps.length + 1) w' ∧ Fr (fun k => k = bw ∨ G k) U' w' ∧
          w'.heap[bw]? = some (.cells #[op, .int .u64 nt.1, .int .u64 nt.2, .int .i64 (wrap64 (cw c ps.length + 1)), (.slice pv (ps.length + 1) cv), (.slice (some ⟨b, 0, none⟩) (r.length + 1) cb), .int .u64 sm.1, .int .u64 sm.2] 60 (0, 0)))) := fun U' h' => by
        rw [← hqe.out]
        exact joinT_any O x t hokx hokt (by omega) (HWU.out.fr (Fr.of_below (P := fun _ => False) h') (fun _ _ h => h)) (O.stay _ _ _ _ HIU.out.st (Fr.of_below (P := fun _ => False) h') (fun _ _ h => h)) hdV.out
      have hneU : Hid (∀ k, w.heap.size ≤ k → ¬ (k = bw ∨ G k)) := fun k hk e => e.elim (fun q => by omega) (fun g => by have := O.glt _ _ _ H.st g; omega)
      have up : U.cell? ⟨w.heap.size, 0, none⟩ = some (.pointer (some ⟨bw, 0, none⟩)) := (Lib.cell_of_heap HIU.out.bp _).trans rfl
      have hwU : w.heap.size < U.heap.size := lt_heap HIU.out.bp
      have BXU : Hid (U.heap[Bx]? = some (.cells #[.int .u64 x.1, .int .u64 x.2] 26 (0, 0))) := (HU.out.block Bx hxW).trans bX.out
      have BZU : Hid (U.heap[W.heap.size]? = some (.cells #[.int .u64 x.1, .int .u64 x.2] 26 (0, 0))) := by rw [hU]; exact World.alloc_heap_new W _
      have ux0 : U.cell? ⟨Bx, 0, none⟩ = some (.int .u64 x.1) := (Lib.cell_of_heap BXU.out _).trans rfl
      have ux1 : U.cell? ⟨Bx, 1, none⟩ = some (.int .u64 x.2) := (Lib.cell_of_heap BXU.out _).trans rfl
      have hxU : Bx < U.heap.size := lt_heap BXU.out
      have hzU : W.heap.size < U.heap.size := lt_heap BZU.out
      clear hU yp yva yx0 yx1
      refine wpInR_held (S := fun U' => U'.cell? ⟨w.heap.size, 0, none⟩ = some (.pointer (some ⟨bw, 0, none⟩)) ∧ U'.cell? ⟨Bx, 0, none⟩ = some (.int .u64 x.1) ∧ U'.cell? ⟨Bx, 1, none⟩ = some (.int .u64 x.2)) (by kernel_rfl) (by kernel_rfl) (by rintro ⟨a, w, h⟩; exact h) ⟨up, ux0, ux1⟩ (fun hHeld => ?_)
      refine wpAnyH_take (i := 0) (oi := ({ dst := some 20, op := Op.load 22 (Operand.tmp 1), type := 22, pos := "window.go:95", after := #[], guard := none } : Oper)) (v := ?yv12) rfl (by kernel_rfl) (by kernel_rfl) (by kernel_rfl) (fun _ _ _ h => h) (Or.inl ⟨by rfl, ?yh12⟩) (by assumption) ?yr12
      case yh12 => (intro wq hSw; (try dsimp only at hSw); obtain ⟨sa, sb⟩ := hSw; go_simp; first | done | with_reducible rfl)
      try simp only [Act.put, List.setIfInBounds_toArray, List.set_cons_zero, List.set_cons_succ]
      refine wpAnyH_take (i := 1) (oi := ({ dst := some 21, op := Op.load 26 (Operand.tmp 3), type := 26, pos := "window.go:95", after := #[], guard := none } : Oper)) (v := ?yv13) rfl (by kernel_rfl) (by kernel_rfl) (by kernel_rfl) (fun _ _ _ h => h) (Or.inl ⟨by rfl, ?yh13⟩) (by assumption) ?yr13
      case yh13 => (intro wq hSw; (try dsimp only at hSw); obtain ⟨sa, sb⟩ := hSw; go_simp; first | done | with_reducible rfl)
      try simp only [Act.put, List.setIfInBounds_toArray, List.set_cons_zero, List.set_cons_succ]
      refine wpAnyH_take (i := 2) (oi := ({ dst := some 22, op := Op.load 22 (Operand.tmp 1), type := 22, pos := "window.go:95", after := #[], guard := none } : Oper)) (v := ?yv14) rfl (by kernel_rfl) (by kernel_rfl) (by kernel_rfl) (fun _ _ _ h => h) (Or.inl ⟨by rfl, ?yh14⟩) (by assumption) ?yr14
      case yh14 => (intro wq hSw; (try dsimp only at hSw); obtain ⟨sa, sb⟩ := hSw; go_simp; first | done | with_reducible rfl)
      try simp only [Act.put, List.setIfInBounds_toArray, List.set_cons_zero, List.set_cons_succ]
      refine wpAnyH_ready (rs := [3]) (by kernel_rfl) (by simp) ?_
      refine (AllReadyH.cons (o := ({ dst := some 23, op := Op.call { callee := Callee.value (Operand.func 30), args := #[Operand.tmp 22], argTypes := #[22] }, type := 26, pos := "window.go:95", after := #[{ on := 2, ground := Ground.data }], guard := none } : Oper)) rfl (fun K hK => ?_) AllReadyH.nil)
      go_simp
      refine (HSA.out _ (Below.refl _ U).drew).mono ?_
      rintro e u1 ⟨rfl, hb1⟩
      dsimp only
      have hbu : Hid (Below U.heap.size U u1) := ⟨hb1.os, hb1.tape, hb1.output, hb1.size, hb1.block⟩
      clear hb1
      refine hK.out _ _ ⟨(hbu.out.cell (p := ⟨w.heap.size, 0, none⟩) (by assumption)).trans up, (hbu.out.cell (p := ⟨Bx, 0, none⟩) (by assumption)).trans ux0, (hbu.out.cell (p := ⟨Bx, 1, none⟩) (by assumption)).trans ux1⟩ (fun hHeld => ?_)
      clear hK K
      try simp only [Act.put, List.setIfInBounds_toArray, List.set_cons_zero, List.set_cons_succ]
      refine wpAnyH_ready (rs := [4]) (by kernel_rfl) (by simp) ?_
      refine (AllReadyH.cons (o := ({ dst := some 24, op := Op.call { callee := Callee.value (Operand.func 29), args := #[Operand.tmp 20, Operand.tmp 21, Operand.tmp 23], argTypes := #[22, 26, 26] }, type := 26, pos := "window.go:95", after := #[{ on := 0, ground := Ground.data }, { on := 1, ground := Ground.data }, { on := 3, ground := Ground.data }, { on := 3, ground := Ground.chain }], guard := none } : Oper)) rfl (fun K hK => ?_) AllReadyH.nil)
      go_simp
      refine (HJ.out _ hbu.out).mono ?_
      rintro e u2 ⟨rfl, hJ⟩
      dsimp only
      have BPu : Hid (u2.heap[w.heap.size]? = some (.cells #[.pointer (some ⟨bw, 0, none⟩)] 22 (0, 0))) := hJ.out.2.1.heap ((hbu.out.block _ hwU).trans HIU.out.bp) (hneU.out _ (Nat.le_refl _))
      have BXu : Hid (u2.heap[Bx]? = some (.cells #[.int .u64 x.1, .int .u64 x.2] 26 (0, 0))) := hJ.out.2.1.heap ((hbu.out.block _ hxU).trans BXU.out) (hneU.out _ (by omega))
      have BZu : Hid (u2.heap[W.heap.size]? = some (.cells #[.int .u64 x.1, .int .u64 x.2] 26 (0, 0))) := hJ.out.2.1.heap ((hbu.out.block _ hzU).trans BZU.out) (hneU.out _ (by omega))
      have zz0 : u2.cell? ⟨W.heap.size, 0, none⟩ = some (.int .u64 x.1) := (Lib.cell_of_heap BZu.out _).trans rfl
      have zz1 : u2.cell? ⟨W.heap.size, 1, none⟩ = some (.int .u64 x.2) := (Lib.cell_of_heap BZu.out _).trans rfl
      have zf0 : u2.frozen? ⟨W.heap.size, 0, none⟩ = false := Lib.frozen_of_heap BZu.out _
      have zf1 : u2.frozen? ⟨W.heap.size, 1, none⟩ = false := Lib.frozen_of_heap BZu.out _
      refine hK.out _ _ ⟨(Lib.cell_of_heap BPu.out _).trans rfl, (Lib.cell_of_heap BXu.out _).trans rfl, (Lib.cell_of_heap BXu.out _).trans rfl⟩ (fun hHeld => ?_)
      clear hK K
      try simp only [Act.put, List.setIfInBounds_toArray, List.set_cons_zero, List.set_cons_succ]
      refine wpAnyH_ready (rs := [5]) (by kernel_rfl) (by simp) ?_
      refine (AllReadyH.cons (o := ({ dst := none, op := Op.store 26 (Operand.tmp 4) (Operand.tmp 24), type := 0, pos := "window.go:95", after := #[{ on := 4, ground := Ground.data }, { on := 4, ground := Ground.chain }, { on := 0, ground := Ground.phase }, { on := 1, ground := Ground.phase }, { on := 2, ground := Ground.phase }, { on := 3, ground := Ground.phase }, { on := 4, ground := Ground.phase }], guard := none } : Oper)) rfl (fun K hK => ?_) AllReadyH.nil)
      go_simp
      refine hK.out _ _ ⟨(World.cell?_setCell_other _ _ _ _ (by intro e; injection e with e1 e2 e3; omega)).trans ((World.cell?_setCell_other _ _ _ _ (by intro e; injection e with e1 e2 e3; omega)).trans hHeld.1), (World.cell?_setCell_other _ _ _ _ (by intro e; injection e with e1 e2 e3; omega)).trans ((World.cell?_setCell_other _ _ _ _ (by intro e; injection e with e1 e2 e3; omega)).trans hHeld.2.1), (World.cell?_setCell_other _ _ _ _ (by intro e; injection e with e1 e2 e3; omega)).trans ((World.cell?_setCell_other _ _ _ _ (by intro e; injection e with e1 e2 e3; omega)).trans hHeld.2.2)⟩ (fun hHeld => ?_)
      clear hK K
      try simp only [Act.put, List.setIfInBounds_toArray, List.set_cons_zero, List.set_cons_succ]
      refine wpAnyH_done (by kernel_rfl) ?_ _
      (try gi_wp2)
      refine wpIn_world ?_
      intro V hV
      have FV : Hid (Fr (fun k => k = bw ∨ G k) W V) := by rw [hV]; exact (((Fr.of_below (P := fun k => k = bw ∨ G k) HU.out).trans (Fr.of_below (P := fun _ => False) hbu.out) (fun _ q => q.elim)).trans hJ.out.2.1 (fun _ q => Or.inl q)).trans (((Fr.refl (fun k => k = W.heap.size) u2).setCell (p := ⟨W.heap.size, 0, none⟩) (Or.inl rfl) _).setCell (p := ⟨W.heap.size, 1, none⟩) (Or.inl rfl) _) (fun i e => Or.inr (by omega))
      have BV : Hid (V.heap[bw]? = some (.cells #[op, .int .u64 nt.1, .int .u64 nt.2, .int .i64 (cw c (ps.length + 1)), (.slice pv (ps.length + 1) cv), (.slice (some ⟨b, 0, none⟩) (r.length + 1) cb), .int .u64 sm.1, .int .u64 sm.2] 60 (0, 0))) := by rw [hV]; exact (Below.heap_setCell _ _ _ _ (by show bw ≠ W.heap.size; omega)).trans ((Below.heap_setCell _ _ _ _ (by show bw ≠ W.heap.size; omega)).trans hJ.out.2.2)
      have IV : Hid (I (n + (ps.length + 1)) V) := by rw [hV]; exact O.stay _ _ _ _ hJ.out.1 (((Fr.refl (fun k => k = W.heap.size) u2).setCell (p := ⟨W.heap.size, 0, none⟩) (Or.inl rfl) _).setCell (p := ⟨W.heap.size, 1, none⟩) (Or.inl rfl) _) (fun k g e => by have := O.glt _ _ _ H.st g; omega)
      have hneV : Hid (∀ k, w.heap.size ≤ k → ¬ (k = bw ∨ G k)) := fun k hk e => e.elim (fun q => by omega) (fun g => by have := O.glt _ _ _ H.st g; omega)
      have raV : Hid (V.ownsRow 0 63 4 (.slice pv (ps.length + 1) cv) (ps.length + 1) (tflT (tls f (zsL (y :: r) y (p :: ps))).reverse)) := by
        have h0 := HI.out.win.ra
        rw [zsL_len] at h0
        exact FV.out.row h0 (fun k e e' => e'.elim (fun q => row_ne h0 HI.out.win.blk (by decide) (q ▸ e)) (fun g => (HI.out.va k e).elim (fun q => H.dis k q g) (fun q => hneV.out k q (Or.inr g))))
      have BP : Hid (V.heap[w.heap.size]? = some (.cells #[.pointer (some ⟨bw, 0, none⟩)] 22 (0, 0))) := FV.out.heap HI.out.bp (hneV.out _ (Nat.le_refl _))
      have vp : V.cell? ⟨w.heap.size, 0, none⟩ = some (.pointer (some ⟨bw, 0, none⟩)) := (Lib.cell_of_heap BP.out _).trans rfl
      have vv : V.cell? ⟨bw, 4, none⟩ = some (.slice pv (ps.length + 1) cv) := (Lib.cell_of_heap BV.out _).trans rfl
      have hbV : bw < V.heap.size := lt_heap BV.out
      have hwV : w.heap.size < V.heap.size := lt_heap BP.out
      have BX : Hid (V.heap[Bx]? = some (.cells #[.int .u64 x.1, .int .u64 x.2] 26 (0, 0))) := FV.out.heap bX.out (hneV.out _ (by omega))
      have BZ : Hid (V.heap[W.heap.size]? = some (.cells #[.int .u64 q.1, .int .u64 q.2] 26 (0, 0))) := by rw [hV]; exact (set_heap (set_heap BZu.out _) _)
      have vx0 : V.cell? ⟨Bx, 0, none⟩ = some (.int .u64 x.1) := (Lib.cell_of_heap BX.out _).trans rfl
      have vx1 : V.cell? ⟨Bx, 1, none⟩ = some (.int .u64 x.2) := (Lib.cell_of_heap BX.out _).trans rfl
      have vz0 : V.cell? ⟨W.heap.size, 0, none⟩ = some (.int .u64 q.1) := (Lib.cell_of_heap BZ.out _).trans rfl
      have vz1 : V.cell? ⟨W.heap.size, 1, none⟩ = some (.int .u64 q.2) := (Lib.cell_of_heap BZ.out _).trans rfl
      have hxV : Bx < V.heap.size := lt_heap BX.out
      have hzV : W.heap.size < V.heap.size := lt_heap BZ.out
      have HT : Hid (∀ {V w2 : World} {v' : Value}, Fr (fun k => k = bw ∨ G k) W V → V.heap[bw]? = some (.cells #[op, .int .u64 nt.1, .int .u64 nt.2, .int .i64 (cw c (ps.length + 1)), (.slice pv (ps.length + 1) cv), (.slice (some ⟨b, 0, none⟩) (r.length + 1) cb), .int .u64 sm.1, .int .u64 sm.2] 60 (0, 0)) → I (n + (ps.length + 1)) V →
          w2.ownsRow 0 63 4 v' ((ps.length + 1) + 1) (tflT (tls f (zsL (y :: r) y (p :: ps))).reverse ++ [.int .u64 x.1, .int .u64 x.2, .int .u64 q.1, .int .u64 q.2]) → (V.alloc (.cells #[.int .u64 x.1, .int .u64 x.2, .int .u64 q.1, .int .u64 q.2] 63)).grownBy w2 (Value.slice pv (ps.length + 1) cv).ownBlock → (v'.ownBlock = (Value.slice pv (ps.length + 1) cv).ownBlock ∨ v'.ownBlock = some (V.heap.size + 1)) →
          ∃ p9 c9, v' = .slice p9 ((ps.length + 1) + 1) c9 ∧ w2.cell? ⟨bw, 4, none⟩ = some (.slice pv (ps.length + 1) cv) ∧ w2.frozen? ⟨bw, 4, none⟩ = false ∧ Fr (fun k => k = bw ∨ G k ∨ (Value.slice pv (ps.length + 1) cv).ownBlock = some k) W w2 ∧
            Hid (TIT f op nt G I w bw c n (y :: r) y (.slice (some ⟨b, 0, none⟩) (r.length + 1) cb) sm F b cur ((p :: ps) ++ [j]) (w2.setCell ⟨bw, 4, none⟩ v') v' ∧ Fr (fun k => k = bw ∨ G k ∨ (Value.slice pv (ps.length + 1) cv).ownBlock = some k) W (w2.setCell ⟨bw, 4, none⟩ v'))) := by
        intro V w2 v' g1 g2 g3 g4 g5 g6
        have hx' := hx.out
        subst hx'
        have hq' := hq.out
        subst hq'
        have hzl : (zsL (y :: r) y (p :: ps)).length = (ps.length + 1) := zsL_len _ _ _
        exact tstepT O H.st hF H.dis H1.fw H1.fb hbf HI.out g1 g2 g3 hplt hLl (by rw [hzl]; exact g4) g5 g6
      have HS : Hid (∀ w3 : World, (V.drew.alloc (.cells #[.int .u64 x.1, .int .u64 x.2, .int .u64 q.1, .int .u64 q.2] 63)).grownBy w3 (Value.slice pv (ps.length + 1) cv).ownBlock → w3.cell? ⟨w.heap.size, 0, none⟩ = some (.pointer (some ⟨bw, 0, none⟩)) ∧ w3.cell? ⟨Bx, 0, none⟩ = some (.int .u64 x.1) ∧ w3.cell? ⟨Bx, 1, none⟩ = some (.int .u64 x.2) ∧ w3.cell? ⟨W.heap.size, 0, none⟩ = some (.int .u64 q.1) ∧ w3.cell? ⟨W.heap.size, 1, none⟩ = some (.int .u64 q.2)) := by
        intro w3 hg
        exact ⟨hg.cell (Lib.cell?_alloc_some _ (show V.drew.cell? _ = _ from vp)) (fun e => row_ne raV.out BP.out (by decide) e.symm), hg.cell (Lib.cell?_alloc_some _ (show V.drew.cell? _ = _ from vx0)) (fun e => row_ne raV.out BX.out (by decide) e.symm), hg.cell (Lib.cell?_alloc_some _ (show V.drew.cell? _ = _ from vx1)) (fun e => row_ne raV.out BX.out (by decide) e.symm), hg.cell (Lib.cell?_alloc_some _ (show V.drew.cell? _ = _ from vz0)) (fun e => row_ne raV.out BZ.out (by decide) e.symm), hg.cell (Lib.cell?_alloc_some _ (show V.drew.cell? _ = _ from vz1)) (fun e => row_ne raV.out BZ.out (by decide) e.symm)⟩
      clear hV zz0 zz1 zf0 zf1 up ux0 ux1 hHeld
      refine wpInR_held (S := fun U => U.cell? ⟨w.heap.size, 0, none⟩ = some (.pointer (some ⟨bw, 0, none⟩)) ∧ U.cell? ⟨Bx, 0, none⟩ = some (.int .u64 x.1) ∧ U.cell? ⟨Bx, 1, none⟩ = some (.int .u64 x.2) ∧ U.cell? ⟨W.heap.size, 0, none⟩ = some (.int .u64 q.1) ∧ U.cell? ⟨W.heap.size, 1, none⟩ = some (.int .u64 q.2)) (by kernel_rfl) (by kernel_rfl) (by rintro ⟨a, w, h⟩; exact h) ⟨vp, vx0, vx1, vz0, vz1⟩ (fun hHeld => ?_)
      refine wpAnyH_take (i := 0) (oi := ({ dst := some 25, op := Op.load 22 (Operand.tmp 1), type := 22, pos := "window.go:97", after := #[], guard := none } : Oper)) (v := ?yv15) rfl (by kernel_rfl) (by kernel_rfl) (by kernel_rfl) (fun _ _ _ h => h) (Or.inl ⟨by rfl, ?yh15⟩) (by assumption) ?yr15
      case yh15 => (intro wq hSw; (try dsimp only at hSw); obtain ⟨sa, sb⟩ := hSw; go_simp; first | done | with_reducible rfl)
      try simp only [Act.put, List.setIfInBounds_toArray, List.set_cons_zero, List.set_cons_succ]
      refine wpAnyH_take (i := 1) (oi := ({ dst := some 26, op := Op.load 22 (Operand.tmp 1), type := 22, pos := "window.go:97", after := #[], guard := none } : Oper)) (v := ?yv16) rfl (by kernel_rfl) (by kernel_rfl) (by kernel_rfl) (fun _ _ _ h => h) (Or.inl ⟨by rfl, ?yh16⟩) (by assumption) ?yr16
      case yh16 => (intro wq hSw; (try dsimp only at hSw); obtain ⟨sa, sb⟩ := hSw; go_simp; first | done | with_reducible rfl)
      try simp only [Act.put, List.setIfInBounds_toArray, List.set_cons_zero, List.set_cons_succ]
      refine wpAnyH_take (i := 2) (oi := ({ dst := some 27, op := Op.nilCheck (Operand.tmp 26), type := 0, pos := "window.go:97", after := #[{ on := 1, ground := Ground.data }], guard := none } : Oper)) (v := ?yv17) rfl (by kernel_rfl) (by kernel_rfl) (by kernel_rfl) (fun _ _ _ h => h) (Or.inl ⟨by rfl, ?yh17⟩) (by assumption) ?yr17
      case yh17 => (intro wq hSw; (try dsimp only at hSw); obtain ⟨sa, sb⟩ := hSw; go_simp; first | done | with_reducible rfl)
      try simp only [Act.put, List.setIfInBounds_toArray, List.set_cons_zero, List.set_cons_succ]
      refine wpAnyH_take (i := 3) (oi := ({ dst := some 28, op := Op.fieldAddr 60 (Operand.tmp 27) 3, type := 0, pos := "window.go:97", after := #[{ on := 2, ground := Ground.data }], guard := none } : Oper)) (v := ?yv18) rfl (by kernel_rfl) (by kernel_rfl) (by kernel_rfl) (fun _ _ _ h => h) (Or.inl ⟨by rfl, ?yh18⟩) (by assumption) ?yr18
      case yh18 => (intro wq hSw; (try dsimp only at hSw); obtain ⟨sa, sb⟩ := hSw; go_simp; first | done | with_reducible rfl)
      try simp only [Act.put, List.setIfInBounds_toArray, List.set_cons_zero, List.set_cons_succ]
      refine wpAnyH_take (i := 5) (oi := ({ dst := some 30, op := Op.load 26 (Operand.tmp 3), type := 26, pos := "window.go:97", after := #[], guard := none } : Oper)) (v := ?yv19) rfl (by kernel_rfl) (by kernel_rfl) (by kernel_rfl) (fun _ _ _ h => h) (Or.inl ⟨by rfl, ?yh19⟩) (by assumption) ?yr19
      case yh19 => (intro wq hSw; (try dsimp only at hSw); obtain ⟨sa, sb⟩ := hSw; go_simp; first | done | with_reducible rfl)
      try simp only [Act.put, List.setIfInBounds_toArray, List.set_cons_zero, List.set_cons_succ]
      refine wpAnyH_take (i := 6) (oi := ({ dst := some 31, op := Op.load 26 (Operand.tmp 4), type := 26, pos := "window.go:97", after := #[], guard := none } : Oper)) (v := ?yv20) rfl (by kernel_rfl) (by kernel_rfl) (by kernel_rfl) (fun _ _ _ h => h) (Or.inl ⟨by rfl, ?yh20⟩) (by assumption) ?yr20
      case yh20 => (intro wq hSw; (try dsimp only at hSw); obtain ⟨sa, sb⟩ := hSw; go_simp; first | done | with_reducible rfl)
      try simp only [Act.put, List.setIfInBounds_toArray, List.set_cons_zero, List.set_cons_succ]
      refine wpAnyH_take (i := 7) (oi := ({ dst := some 32, op := Op.build 63 #[(0, Operand.tmp 30), (1, Operand.tmp 31)], type := 63, pos := "window.go:97", after := #[{ on := 5, ground := Ground.data }, { on := 6, ground := Ground.data }], guard := none } : Oper)) (v := ?yv21) rfl (by kernel_rfl) (by kernel_rfl) (by kernel_rfl) (fun _ _ _ h => h) (Or.inl ⟨by rfl, ?yh21⟩) (by assumption) ?yr21
      case yh21 => (intro wq hSw; (try dsimp only at hSw); obtain ⟨sa, sb⟩ := hSw; go_simp; first | done | with_reducible rfl)
      try simp only [Act.put, List.setIfInBounds_toArray, List.set_cons_zero, List.set_cons_succ]
      refine wpAnyH_ready (rs := [4, 8]) (by kernel_rfl) (by simp) ?_
      refine (AllReadyH.cons (o := ({ dst := some 29, op := Op.load 58 (Operand.tmp 28), type := 58, pos := "window.go:97", after := #[{ on := 3, ground := Ground.data }], guard := none } : Oper)) rfl (fun K hK => ?_) (AllReadyH.cons (o := ({ dst := some 33, op := Op.buildSlice 58 1 #[(0, Operand.tmp 32)], type := 58, pos := "window.go:97", after := #[{ on := 7, ground := Ground.data }], guard := none } : Oper)) rfl (fun K hK => ?_) AllReadyH.nil))
      · have vv' : V.drew.cell? ⟨bw, 4, none⟩ = some (.slice pv (ps.length + 1) cv) := vv
        go_simp
        clear vv'
        refine hK.out _ _ hHeld (fun hHeld => ?_)
        clear hK K
        try simp only [Act.put, List.setIfInBounds_toArray, List.set_cons_zero, List.set_cons_succ]
        refine wpAnyH_ready (rs := [8]) (by kernel_rfl) (by simp) ?_
        refine (AllReadyH.cons (o := ({ dst := some 33, op := Op.buildSlice 58 1 #[(0, Operand.tmp 32)], type := 58, pos := "window.go:97", after := #[{ on := 7, ground := Ground.data }], guard := none } : Oper)) rfl (fun K hK => ?_) AllReadyH.nil)
        go_simp
        refine hK.out _ _ ⟨Lib.cell?_alloc_some _ hHeld.1, Lib.cell?_alloc_some _ hHeld.2.1, Lib.cell?_alloc_some _ hHeld.2.2.1, Lib.cell?_alloc_some _ hHeld.2.2.2.1, Lib.cell?_alloc_some _ hHeld.2.2.2.2⟩ (fun hHeld => ?_)
        clear hK K
        try simp only [Act.put, List.setIfInBounds_toArray, List.set_cons_zero, List.set_cons_succ]
        refine wpAnyH_ready (rs := [9]) (by kernel_rfl) (by simp) ?_
        refine (AllReadyH.cons (o := ({ dst := some 34, op := Op.call { callee := Callee.builtin Builtin.append, args := #[Operand.tmp 29, Operand.tmp 33], argTypes := #[58, 58] }, type := 58, pos := "window.go:97", after := #[{ on := 4, ground := Ground.data }, { on := 8, ground := Ground.data }], guard := none } : Oper)) rfl (fun K hK => ?_) AllReadyH.nil)
        have XO : (V.drew.alloc (.cells #[.int .u64 x.1, .int .u64 x.2, .int .u64 q.1, .int .u64 q.2] 63)).ownsRow 0 63 4 (.slice pv (ps.length + 1) cv) (ps.length + 1) (tflT (tls f (zsL (y :: r) y (p :: ps))).reverse) := World.ownsRow.alloc (show V.drew.ownsRow _ _ _ _ _ _ from raV.out) _
        refine step_append_at rfl (.tmp 29) (.tmp 33) 58 rfl 0 63 i0 (.agg #[.int .u64 0, .int .u64 0, .int .u64 0, .int .u64 0]) 4 32 Try.underlying58 hi hz0 hz1 hz2 rfl (by decide) (.slice pv (ps.length + 1) cv) _ _ (by simp [Act.eval]) XO ⟨V.heap.size, 0, none⟩ 1 1 [.int .u64 x.1, .int .u64 x.2, .int .u64 q.1, .int .u64 q.2] (by simp [Act.eval]) rfl (by intro jj u hj; rw [Addr.add_lit]; (rcases jj with _ | _ | _ | _ | jj) <;> simp at hj <;> subst hj <;> simp (maxDischargeDepth := 12) [go_sem]) (by intro u hu; simp at hu; rcases hu with rfl | rfl | rfl | rfl <;> rfl) (by unfold maxLen; omega) (by omega) (Nat.zero_le _) (fun v' w3 h2 h3 h5 => ?_)
        have HA := HT.out (V := V.drew) (w2 := w3) (v' := v') FV.out.drew BV.out (O.stay _ _ _ _ IV.out (Fr.of_below (P := fun _ => False) (Below.refl _ V).drew) (fun _ _ h => h)) h2 h3 (by first | exact h5 | simpa using h5)
        obtain ⟨p2, c2, rfl, a1, a2, F2, HE⟩ := HA
        have hw3 := HS.out _ h3
        clear h2 h3 h5 XO
        refine hK.out _ _ hw3 (fun hHeld => ?_)
        clear hK K
        try simp only [Act.put, List.setIfInBounds_toArray, List.set_cons_zero, List.set_cons_succ]
        clear hw3
        refine wpAnyH_take (i := 10) (oi := ({ dst := some 35, op := Op.nilCheck (Operand.tmp 25), type := 0, pos := "window.go:97", after := #[{ on := 0, ground := Ground.data }, { on := 0, ground := Ground.phase }, { on := 1, ground := Ground.phase }, { on := 2, ground := Ground.phase }, { on := 3, ground := Ground.phase }, { on := 4, ground := Ground.phase }, { on := 5, ground := Ground.phase }, { on := 6, ground := Ground.phase }, { on := 7, ground := Ground.phase }, { on := 8, ground := Ground.phase }, { on := 9, ground := Ground.phase }], guard := none } : Oper)) (v := ?yv22) rfl (by kernel_rfl) (by kernel_rfl) (by kernel_rfl) (fun _ _ _ h => h) (Or.inl ⟨by rfl, ?yh22⟩) (by assumption) ?yr22
        case yh22 => (intro wq hSw; (try dsimp only at hSw); obtain ⟨sa, sb⟩ := hSw; go_simp; first | done | with_reducible rfl)
        try simp only [Act.put, List.setIfInBounds_toArray, List.set_cons_zero, List.set_cons_succ]
        refine wpAnyH_take (i := 11) (oi := ({ dst := some 36, op := Op.fieldAddr 60 (Operand.tmp 35) 3, type := 0, pos := "window.go:97", after := #[{ on := 10, ground := Ground.data }, { on := 0, ground := Ground.phase }, { on := 1, ground := Ground.phase }, { on := 2, ground := Ground.phase }, { on := 3, ground := Ground.phase }, { on := 4, ground := Ground.phase }, { on := 5, ground := Ground.phase }, { on := 6, ground := Ground.phase }, { on := 7, ground := Ground.phase }, { on := 8, ground := Ground.phase }, { on := 9, ground := Ground.phase }], guard := none } : Oper)) (v := ?yv23) rfl (by kernel_rfl) (by kernel_rfl) (by kernel_rfl) (fun _ _ _ h => h) (Or.inl ⟨by rfl, ?yh23⟩) (by assumption) ?yr23
        case yh23 => (intro wq hSw; (try dsimp only at hSw); obtain ⟨sa, sb⟩ := hSw; go_simp; first | done | with_reducible rfl)
        try simp only [Act.put, List.setIfInBounds_toArray, List.set_cons_zero, List.set_cons_succ]
        refine wpAnyH_ready (rs := [12]) (by kernel_rfl) (by simp) ?_
        refine (AllReadyH.cons (o := ({ dst := none, op := Op.store 58 (Operand.tmp 36) (Operand.tmp 34), type := 0, pos := "window.go:97", after := #[{ on := 11, ground := Ground.data }, { on := 9, ground := Ground.data }, { on := 9, ground := Ground.chain }, { on := 0, ground := Ground.phase }, { on := 1, ground := Ground.phase }, { on := 2, ground := Ground.phase }, { on := 3, ground := Ground.phase }, { on := 4, ground := Ground.phase }, { on := 5, ground := Ground.phase }, { on := 6, ground := Ground.phase }, { on := 7, ground := Ground.phase }, { on := 8, ground := Ground.phase }, { on := 9, ground := Ground.phase }], guard := none } : Oper)) rfl (fun K hK => ?_) AllReadyH.nil)
        go_simp
        have hS4 : Hid ((w3.setCell ⟨bw, 4, none⟩ (.slice p2 ((ps.length + 1) + 1) c2)).cell? ⟨w.heap.size, 0, none⟩ = some (.pointer (some ⟨bw, 0, none⟩)) ∧ (w3.setCell ⟨bw, 4, none⟩ (.slice p2 ((ps.length + 1) + 1) c2)).cell? ⟨Bx, 0, none⟩ = some (.int .u64 x.1) ∧ (w3.setCell ⟨bw, 4, none⟩ (.slice p2 ((ps.length + 1) + 1) c2)).cell? ⟨Bx, 1, none⟩ = some (.int .u64 x.2) ∧ (w3.setCell ⟨bw, 4, none⟩ (.slice p2 ((ps.length + 1) + 1) c2)).cell? ⟨W.heap.size, 0, none⟩ = some (.int .u64 q.1) ∧ (w3.setCell ⟨bw, 4, none⟩ (.slice p2 ((ps.length + 1) + 1) c2)).cell? ⟨W.heap.size, 1, none⟩ = some (.int .u64 q.2)) := ⟨(World.cell?_setCell_other _ _ _ _ (by intro e; injection e with e1 e2 e3; omega)).trans hHeld.1, (World.cell?_setCell_other _ _ _ _ (by intro e; injection e with e1 e2 e3; omega)).trans hHeld.2.1, (World.cell?_setCell_other _ _ _ _ (by intro e; injection e with e1 e2 e3; omega)).trans hHeld.2.2.1, (World.cell?_setCell_other _ _ _ _ (by intro e; injection e with e1 e2 e3; omega)).trans hHeld.2.2.2.1, (World.cell?_setCell_other _ _ _ _ (by intro e; injection e with e1 e2 e3; omega)).trans hHeld.2.2.2.2⟩
        refine hK.out _ _ hS4.out (fun hHeld => ?_)
        clear hK K
        try simp only [Act.put, List.setIfInBounds_toArray, List.set_cons_zero, List.set_cons_succ]
        refine wpAnyH_done (by kernel_rfl) ?_ _
        clear hS4
        (try gi_wp2)
        have HK := HE.out
        obtain ⟨q1, q2⟩ := tkeepT O H.st hF H.dis H1.fw hbf HI.out HK.2 (B := W0.heap.size) (by omega)
        exact ⟨q1, q2, ⟨_, HK.1⟩⟩
      · go_simp
        refine hK.out _ _ ⟨Lib.cell?_alloc_some _ hHeld.1, Lib.cell?_alloc_some _ hHeld.2.1, Lib.cell?_alloc_some _ hHeld.2.2.1, Lib.cell?_alloc_some _ hHeld.2.2.2.1, Lib.cell?_alloc_some _ hHeld.2.2.2.2⟩ (fun hHeld => ?_)
        clear hK K
        try simp only [Act.put, List.setIfInBounds_toArray, List.set_cons_zero, List.set_cons_succ]
        refine wpAnyH_ready (rs := [4]) (by kernel_rfl) (by simp) ?_
        refine (AllReadyH.cons (o := ({ dst := some 29, op := Op.load 58 (Operand.tmp 28), type := 58, pos := "window.go:97", after := #[{ on := 3, ground := Ground.data }], guard := none } : Oper)) rfl (fun K hK => ?_) AllReadyH.nil)
        have vv' : (V.drew.alloc (.cells #[.int .u64 x.1, .int .u64 x.2, .int .u64 q.1, .int .u64 q.2] 63)).cell? ⟨bw, 4, none⟩ = some (.slice pv (ps.length + 1) cv) := Lib.cell?_alloc_some _ (show V.drew.cell? _ = _ from vv)
        go_simp
        clear vv'
        refine hK.out _ _ hHeld (fun hHeld => ?_)
        clear hK K
        try simp only [Act.put, List.setIfInBounds_toArray, List.set_cons_zero, List.set_cons_succ]
        refine wpAnyH_ready (rs := [9]) (by kernel_rfl) (by simp) ?_
        refine (AllReadyH.cons (o := ({ dst := some 34, op := Op.call { callee := Callee.builtin Builtin.append, args := #[Operand.tmp 29, Operand.tmp 33], argTypes := #[58, 58] }, type := 58, pos := "window.go:97", after := #[{ on := 4, ground := Ground.data }, { on := 8, ground := Ground.data }], guard := none } : Oper)) rfl (fun K hK => ?_) AllReadyH.nil)
        have XO : (V.drew.alloc (.cells #[.int .u64 x.1, .int .u64 x.2, .int .u64 q.1, .int .u64 q.2] 63)).ownsRow 0 63 4 (.slice pv (ps.length + 1) cv) (ps.length + 1) (tflT (tls f (zsL (y :: r) y (p :: ps))).reverse) := World.ownsRow.alloc (show V.drew.ownsRow _ _ _ _ _ _ from raV.out) _
        refine step_append_at rfl (.tmp 29) (.tmp 33) 58 rfl 0 63 i0 (.agg #[.int .u64 0, .int .u64 0, .int .u64 0, .int .u64 0]) 4 32 Try.underlying58 hi hz0 hz1 hz2 rfl (by decide) (.slice pv (ps.length + 1) cv) _ _ (by simp [Act.eval]) XO ⟨V.heap.size, 0, none⟩ 1 1 [.int .u64 x.1, .int .u64 x.2, .int .u64 q.1, .int .u64 q.2] (by simp [Act.eval]) rfl (by intro jj u hj; rw [Addr.add_lit]; (rcases jj with _ | _ | _ | _ | jj) <;> simp at hj <;> subst hj <;> simp (maxDischargeDepth := 12) [go_sem]) (by intro u hu; simp at hu; rcases hu with rfl | rfl | rfl | rfl <;> rfl) (by unfold maxLen; omega) (by omega) (Nat.zero_le _) (fun v' w3 h2 h3 h5 => ?_)
        have HA := HT.out (V := V.drew) (w2 := w3) (v' := v') FV.out.drew BV.out (O.stay _ _ _ _ IV.out (Fr.of_below (P := fun _ => False) (Below.refl _ V).drew) (fun _ _ h => h)) h2 h3 (by first | exact h5 | simpa using h5)
        obtain ⟨p2, c2, rfl, a1, a2, F2, HE⟩ := HA
        have hw3 := HS.out _ h3
        clear h2 h3 h5 XO
        refine hK.out _ _ hw3 (fun hHeld => ?_)
        clear hK K
        try simp only [Act.put, List.setIfInBounds_toArray, List.set_cons_zero, List.set_cons_succ]
        clear hw3
        refine wpAnyH_take (i := 10) (oi := ({ dst := some 35, op := Op.nilCheck (Operand.tmp 25), type := 0, pos := "window.go:97", after := #[{ on := 0, ground := Ground.data }, { on := 0, ground := Ground.phase }, { on := 1, ground := Ground.phase }, { on := 2, ground := Ground.phase }, { on := 3, ground := Ground.phase }, { on := 4, ground := Ground.phase }, { on := 5, ground := Ground.phase }, { on := 6, ground := Ground.phase }, { on := 7, ground := Ground.phase }, { on := 8, ground := Ground.phase }, { on := 9, ground := Ground.phase }], guard := none } : Oper)) (v := ?yv24) rfl (by kernel_rfl) (by kernel_rfl) (by kernel_rfl) (fun _ _ _ h => h) (Or.inl ⟨by rfl, ?yh24⟩) (by assumption) ?yr24
        case yh24 => (intro wq hSw; (try dsimp only at hSw); obtain ⟨sa, sb⟩ := hSw; go_simp; first | done | with_reducible rfl)
        try simp only [Act.put, List.setIfInBounds_toArray, List.set_cons_zero, List.set_cons_succ]
        refine wpAnyH_take (i := 11) (oi := ({ dst := some 36, op := Op.fieldAddr 60 (Operand.tmp 35) 3, type := 0, pos := "window.go:97", after := #[{ on := 10, ground := Ground.data }, { on := 0, ground := Ground.phase }, { on := 1, ground := Ground.phase }, { on := 2, ground := Ground.phase }, { on := 3, ground := Ground.phase }, { on := 4, ground := Ground.phase }, { on := 5, ground := Ground.phase }, { on := 6, ground := Ground.phase }, { on := 7, ground := Ground.phase }, { on := 8, ground := Ground.phase }, { on := 9, ground := Ground.phase }], guard := none } : Oper)) (v := ?yv25) rfl (by kernel_rfl) (by kernel_rfl) (by kernel_rfl) (fun _ _ _ h => h) (Or.inl ⟨by rfl, ?yh25⟩) (by assumption) ?yr25
        case yh25 => (intro wq hSw; (try dsimp only at hSw); obtain ⟨sa, sb⟩ := hSw; go_simp; first | done | with_reducible rfl)
        try simp only [Act.put, List.setIfInBounds_toArray, List.set_cons_zero, List.set_cons_succ]
        refine wpAnyH_ready (rs := [12]) (by kernel_rfl) (by simp) ?_
        refine (AllReadyH.cons (o := ({ dst := none, op := Op.store 58 (Operand.tmp 36) (Operand.tmp 34), type := 0, pos := "window.go:97", after := #[{ on := 11, ground := Ground.data }, { on := 9, ground := Ground.data }, { on := 9, ground := Ground.chain }, { on := 0, ground := Ground.phase }, { on := 1, ground := Ground.phase }, { on := 2, ground := Ground.phase }, { on := 3, ground := Ground.phase }, { on := 4, ground := Ground.phase }, { on := 5, ground := Ground.phase }, { on := 6, ground := Ground.phase }, { on := 7, ground := Ground.phase }, { on := 8, ground := Ground.phase }, { on := 9, ground := Ground.phase }], guard := none } : Oper)) rfl (fun K hK => ?_) AllReadyH.nil)
        go_simp
        have hS4 : Hid ((w3.setCell ⟨bw, 4, none⟩ (.slice p2 ((ps.length + 1) + 1) c2)).cell? ⟨w.heap.size, 0, none⟩ = some (.pointer (some ⟨bw, 0, none⟩)) ∧ (w3.setCell ⟨bw, 4, none⟩ (.slice p2 ((ps.length + 1) + 1) c2)).cell? ⟨Bx, 0, none⟩ = some (.int .u64 x.1) ∧ (w3.setCell ⟨bw, 4, none⟩ (.slice p2 ((ps.length + 1) + 1) c2)).cell? ⟨Bx, 1, none⟩ = some (.int .u64 x.2) ∧ (w3.setCell ⟨bw, 4, none⟩ (.slice p2 ((ps.length + 1) + 1) c2)).cell? ⟨W.heap.size, 0, none⟩ = some (.int .u64 q.1) ∧ (w3.setCell ⟨bw, 4, none⟩ (.slice p2 ((ps.length + 1) + 1) c2)).cell? ⟨W.heap.size, 1, none⟩ = some (.int .u64 q.2)) := ⟨(World.cell?_setCell_other _ _ _ _ (by intro e; injection e with e1 e2 e3; omega)).trans hHeld.1, (World.cell?_setCell_other _ _ _ _ (by intro e; injection e with e1 e2 e3; omega)).trans hHeld.2.1, (World.cell?_setCell_other _ _ _ _ (by intro e; injection e with e1 e2 e3; omega)).trans hHeld.2.2.1, (World.cell?_setCell_other _ _ _ _ (by intro e; injection e with e1 e2 e3; omega)).trans hHeld.2.2.2.1, (World.cell?_setCell_other _ _ _ _ (by intro e; injection e with e1 e2 e3; omega)).trans hHeld.2.2.2.2⟩
        refine hK.out _ _ hS4.out (fun hHeld => ?_)
        clear hK K
        try simp only [Act.put, List.setIfInBounds_toArray, List.set_cons_zero, List.set_cons_succ]
        refine wpAnyH_done (by kernel_rfl) ?_ _
        clear hS4
        (try gi_wp2)
        have HK := HE.out
        obtain ⟨q1, q2⟩ := tkeepT O H.st hF H.dis H1.fw hbf HI.out HK.2 (B := W0.heap.size) (by omega)
        exact ⟨q1, q2, ⟨_, HK.1⟩⟩
  case done =>
    rintro D ys W hD rfl ⟨va, hi⟩ hK
    refine aK _ _ (wpIn_wide.2 ?_)
    have eX : zsL (y :: r) y (upto (y :: r).length (y :: r).length) = (y :: r) := zsL_all _ _
    have eN : (upto (y :: r).length (y :: r).length).length - 1 = r.length := by rw [upto_len]; simp
    have hw := hi.win
    rw [eX, eN] at hw
    have hst := hi.st
    rw [eN] at hst
    have HW : Hid (WinT f W bw op nt (cw c r.length) (y :: r) (y :: r) (fun k => F k ∨ va.ownBlock = some k) va (.slice (some ⟨b, 0, none⟩) (r.length + 1) cb) sm) := hw
    have HST : Hid (I (n + r.length) W) := hst
    have HI : Hid (TIT f op nt G I w bw c n (y :: r) y (.slice (some ⟨b, 0, none⟩) (r.length + 1) cb) sm F b cur _ W va) := hi
    clear hw hst eX eN hi
    have hsz : (Builtin.zeroCells (Value.cells (.agg #[.int .u64 0, .int .u64 0])) (r.length + 1)).size ≤ cur.size := by
      have h1 := HC.out.2.1
      have h2 := HC.out.2.2.2.1
      rw [h2]
      simp [Builtin.zeroCells, Value.cells] at h1 ⊢
      omega
    have hcl : ∀ ty, (Builtin.clear_ #[37] ty #[(.slice (some ⟨b, 0, none⟩) (r.length + 1) cb)]).run Try.prog W = .ok (.tuple #[]) (W.setCells b 0 (Builtin.zeroCells (Value.cells (.agg #[.int .u64 0, .int .u64 0])) (r.length + 1)).toList) := fun ty =>
      run_clear_any W _ _ ty (.agg #[.int .u64 0, .int .u64 0]) Try.underlying37 Try.zeroValue26 (by intro v hv; simp [Value.cells] at hv; subst hv; rfl) b _ _ (by omega) cur HI.out.bb hsz (fun v hv => by
        simp only [Builtin.zeroCells, Array.toList_map, List.mem_map] at hv
        obtain ⟨i, -, rfl⟩ := hv
        exact zc_memT _ _ (by simp [Value.cells]))
    obtain ⟨f7, cur', hb7, hs7⟩ := setCells_fr b (Builtin.zeroCells (Value.cells (.agg #[.int .u64 0, .int .u64 0])) (r.length + 1)).toList 0 W cur 26 (0, 0) HI.out.bb
    generalize W.setCells b 0 (Builtin.zeroCells (Value.cells (.agg #[.int .u64 0, .int .u64 0])) (r.length + 1)).toList = W7 at hcl f7 hb7
    clear hsz
    have hbn : ¬ bw = b := fun q => by have e1 := HI.out.bb; have e2 := HW.out.blk; rw [← q] at e1; rw [e1] at e2; injection e2 with e2; injection e2 with _ e2; cases e2
    have hbnp : ¬ w.heap.size = b := by omega
    have yp : W.cell? ⟨w.heap.size, 0, none⟩ = some (.pointer (some ⟨bw, 0, none⟩)) := (Lib.cell_of_heap HI.out.bp _).trans rfl
    have yvb : W.cell? ⟨bw, 5, none⟩ = some (.slice (some ⟨b, 0, none⟩) (r.length + 1) cb) := (Lib.cell_of_heap HW.out.blk _).trans rfl
    have B7 : Hid (W7.heap[bw]? = some (.cells #[op, .int .u64 nt.1, .int .u64 nt.2, .int .i64 (cw c r.length), va, (.slice (some ⟨b, 0, none⟩) (r.length + 1) cb), .int .u64 sm.1, .int .u64 sm.2] 60 (0, 0))) := f7.heap HW.out.blk hbn
    have P7 : Hid (W7.heap[w.heap.size]? = some (.cells #[.pointer (some ⟨bw, 0, none⟩)] 22 (0, 0))) := f7.heap HI.out.bp hbnp
    have yp7 : W7.cell? ⟨w.heap.size, 0, none⟩ = some (.pointer (some ⟨bw, 0, none⟩)) := (Lib.cell_of_heap P7.out _).trans rfl
    have yvb7 : W7.cell? ⟨bw, 5, none⟩ = some (.slice (some ⟨b, 0, none⟩) (r.length + 1) cb) := (Lib.cell_of_heap B7.out _).trans rfl
    have yvf7 : W7.frozen? ⟨bw, 5, none⟩ = false := Lib.frozen_of_heap B7.out _
    have hcb : (0 : Int) ≤ (cb : Int) := by omega
    have F7 : Hid (Fr (fun k => k = b) W W7) := f7
    have HB7 : Hid (W7.heap[b]? = some (.cells cur' 26 (0, 0)) ∧ cur'.size = cur.size) := ⟨hb7, hs7⟩
    clear f7 hb7 hs7
    go_wp2
    refine wp_region_noPanic ?_
    go_region_with fail
    all_goals (
      refine NoPanic.normal ?_
      go_upto_region 9 with fail
      refine wp_world ?_
      intro W8 hW8
      have F8 : Hid (Fr (fun k => k = b ∨ k = bw) W W8) := by rw [hW8]; exact (Fr.setCell (P := fun k => k = b ∨ k = bw) (F7.out.mono (fun i e => Or.inl (Or.inl e))) (p := ⟨bw, 5, none⟩) (Or.inl (Or.inr rfl)) _).drew
      have B8 : Hid (W8.heap[bw]? = some (.cells #[op, .int .u64 nt.1, .int .u64 nt.2, .int .i64 (cw c r.length), va, (.slice (some ⟨b, 0, none⟩) 0 cb), .int .u64 sm.1, .int .u64 sm.2] 60 (0, 0))) := by rw [hW8]; exact (set_heap (w := W7) B7.out _)
      have P8 : Hid (W8.heap[w.heap.size]? = some (.cells #[.pointer (some ⟨bw, 0, none⟩)] 22 (0, 0))) := F8.out.heap HI.out.bp (fun e => e.elim hbnp (fun e => by omega))
      have C8 : Hid (W8.heap[b]? = some (.cells cur' 26 (0, 0))) := by rw [hW8]; exact (Below.heap_setCell _ _ _ _ (fun e => hbn e.symm)).trans HB7.out.1
      have yp8 : W8.cell? ⟨w.heap.size, 0, none⟩ = some (.pointer (some ⟨bw, 0, none⟩)) := (Lib.cell_of_heap P8.out _).trans rfl
      have hl8 : w.heap.size < W8.heap.size := lt_heap P8.out
      have hb8 : bw < W8.heap.size := lt_heap B8.out
      have k6 : W8.cell? ⟨bw, 6, none⟩ = some (.int .u64 sm.1) := (Lib.cell_of_heap B8.out _).trans rfl
      have kf6 : W8.frozen? ⟨bw, 6, none⟩ = false := Lib.frozen_of_heap B8.out _
      have k7 : W8.cell? ⟨bw, 7, none⟩ = some (.int .u64 sm.2) := (Lib.cell_of_heap B8.out _).trans rfl
      have kf7 : W8.frozen? ⟨bw, 7, none⟩ = false := Lib.frozen_of_heap B8.out _
      clear hW8 yp7 yvb7 yvf7 yp yvb hcl
      go_wp2
      have F9 := Fr.alloc (Fr.setCell (Fr.setCell (F8.out) (p := ⟨bw, 6, none⟩) (Or.inl (Or.inr rfl)) (.int .u64 0)) (p := ⟨bw, 7, none⟩) (Or.inl (Or.inr rfl)) (.int .u64 0)) (.cells #[.int .u64 0, .int .u64 0] 26)
      have B9 := ((Below.heap_alloc ((W8.setCell ⟨bw, 6, none⟩ (.int .u64 0)).setCell ⟨bw, 7, none⟩ (.int .u64 0)) (.cells #[.int .u64 0, .int .u64 0] 26) bw (by simp; omega)).trans (set_heap (set_heap B8.out (.int .u64 0) (j := 6)) (.int .u64 0) (j := 7)))
      have F98 := (Fr.alloc (Fr.setCell (Fr.setCell (Fr.refl (fun k => k = bw) W8) (p := ⟨bw, 6, none⟩) (Or.inl rfl) (.int .u64 0)) (p := ⟨bw, 7, none⟩) (Or.inl rfl) (.int .u64 0)) (.cells #[.int .u64 0, .int .u64 0] 26))
      have C9 := F98.heap C8.out (fun e => hbn e.symm)
      have D9 := F9.heap hK (fun e => e.elim (fun e => by omega) (fun e => by omega))
      refine ⟨by simp, .inl ⟨_, _, rfl, run_takeDeferred D9, ?_⟩⟩
      exact ⟨_, results_none rfl _ _ _, ⟨_, rfl⟩, turnfinT O H hF H1.fw hbf HW.out HI.out.bb HI.out.va HST.out HI.out.fr F9 B9 C9 (HB7.out.2.trans HC.out.2.2.2.1) HC.out.2.2.1 (by omega) D9⟩)
end Go.Proofs.Ytondchfhdhllhaa

namespace Go.Proofs.Ytondchfhdhllhaa
open Go.RowKit Go.Shelf
set_option linter.unusedVariables false

theorem popfinT {f : Int × Int → Int × Int → Int × Int} {w : World} {bw : Nat} {op : Value} {nt : Int × Int} {c : Int} {X Y : List (Int × Int)} {F : Nat → Prop} {ok : Nat → Int × Int → Prop} {G : Nat → Prop} {I : Nat → World → Prop} {n : Nat} {W wf : World} {x : Int × Int} {xr Yt : List (Int × Int)} {P F' : Nat → Prop} {va vb va' : Value} {sm : Int × Int} {g n' : Nat} {c' : Int} (O : OpT op f ok G I) (H : StT f op nt ok G I w bw c n X Y F) (hF : ∀ k, F k → k < w.heap.size) (HW : StT f op nt ok G I W bw c' n' (x :: xr) Yt F') (hwin : WinT f W bw op nt c' (x :: xr) Yt F' va vb sm) (hg : va.ownBlock = some g)
    (hF' : ∀ k, F' k → F k ∨ w.heap.size ≤ k) (hfr : Fr (fun k => F k ∨ G k) w W) (f9 : Fr P W wf) (hP : ∀ k, P k → k = g ∨ k = bw ∨ (¬ F' k ∧ w.heap.size ≤ k))
    (b9 : wf.heap[bw]? = some (.cells #[op, .int .u64 nt.1, .int .u64 nt.2, .int .i64 c', va', vb, .int .u64 sm.1, .int .u64 sm.2] 60 (0, 0))) (r9 : wf.ownsRow 0 63 4 va' xr.length (tflT (tls f xr).reverse)) (hg' : va'.ownBlock = some g) :
    Hid (StT f op nt ok G I wf bw c' n' xr Yt (FF F w wf) ∧ Fr (fun k => F k ∨ G k) w wf) := by
  have hG : ∀ k, G k → k < w.heap.size := fun k g => O.glt _ _ _ H.st g
  have hFF : ∀ k, F' k → FF F w wf k := fun k h => (hF' k h).elim Or.inl (fun q => Or.inr ⟨q, Nat.lt_of_lt_of_le (hwin.ft k h) f9.size⟩)
  have hgF := hwin.fa g hg
  have FA : Fr (fun k => F k ∨ G k) w wf := hfr.trans f9 (fun i h => (hP i h).elim (fun q => (hF' i (q ▸ hgF)).elim (fun q => Or.inl (Or.inl q)) Or.inr) (fun q => q.elim (fun q => (hF' i (q ▸ hwin.fw)).elim (fun q => Or.inl (Or.inl q)) Or.inr) (fun q => Or.inr q.2)))
  have hl := HW.lim
  simp only [List.length_cons] at hl
  refine ⟨⟨⟨va', vb, sm, ⟨b9, r9, ?_, hwin.sum, by omega, hFF _ hwin.fw, ?_, fun k e => hFF k (hwin.fb k e), ?_⟩⟩, ?_, fun z hz => HW.okX z (by simp [hz]), HW.okY, ?_, by omega⟩, FA⟩
  · refine f9.row hwin.rb (fun k e h => ?_)
    rcases hP k h with q | q | q
    · exact row_ne2 hwin.ra hwin.rb (by decide) k (q ▸ hg) e
    · exact row_ne hwin.rb hwin.blk (by decide) (q ▸ e)
    · exact q.1 (hwin.fb k e)
  · intro k e
    rw [hg'] at e
    cases e
    exact hFF _ hgF
  · intro k h
    rcases h with h | h
    · exact Nat.lt_of_lt_of_le (hF k h) FA.size
    · exact h.2
  · refine O.stay _ _ _ _ HW.st f9 (fun k gk h => ?_)
    rcases hP k h with q | q | q
    · exact HW.dis k (q ▸ hgF) gk
    · exact HW.dis k (q ▸ hwin.fw) gk
    · have := hG k gk; omega
  · intro k h gk
    rcases h with h | h
    · exact H.dis k h gk
    · have := hG k gk; omega
theorem row_setT {w : World} {e g m cap o : Nat} {xs : List Value} (h : w.ownsRow 0 e 4 (.slice (some ⟨g, 0, none⟩) m cap) m xs) (ho : m * 4 ≤ o) (u : Value) : (w.setCell ⟨g, o, none⟩ u).ownsRow 0 e 4 (.slice (some ⟨g, 0, none⟩) m cap) m xs := by
  obtain ⟨h1, ⟨h2, -⟩ | ⟨g', cap', cur, hv, h3, hh, h4, h5, h6, h7⟩⟩ := h
  · cases h2
  · cases hv
    refine ⟨h1, .inr ⟨g, cap, cur.setIfInBounds o u, rfl, h3, set_heap hh u, h4, h5, by simpa using h6, ?_⟩⟩
    rw [Array.toList_setIfInBounds, List.take_set_of_le ho]
    exact h7
theorem row_takeT {w : World} {e g m cap : Nat} {A B : List Value} (h : w.ownsRow 0 e 4 (.slice (some ⟨g, 0, none⟩) (m + 1) cap) (m + 1) (A ++ B)) (hA : A.length = m * 4) : w.ownsRow 0 e 4 (.slice (some ⟨g, 0, none⟩) m cap) m A := by
  obtain ⟨h1, ⟨h2, -⟩ | ⟨g', cap', cur, hv, h3, hh, h4, h5, h6, h7⟩⟩ := h
  · cases h2
  · cases hv
    refine ⟨hA, .inr ⟨g, cap, cur, rfl, h3, hh, by omega, h5, h6, ?_⟩⟩
    have e1 := congrArg (List.take (m * 4)) h7
    rw [List.take_take, Nat.min_eq_left (by omega), List.take_left' hA] at e1
    exact e1

set_option maxRecDepth 100000 in
set_option maxHeartbeats 4000000 in
theorem popT_none {f : Int × Int → Int × Int → Int × Int} {w : World} {bw : Nat} {op : Value} {nt : Int × Int} {c : Int} {F : Nat → Prop} {ok : Nat → Int × Int → Prop} {G : Nat → Prop} {I : Nat → World → Prop} {n : Nat} (H : StT f op nt ok G I w bw c n [] [] F) :
    Calls Try.prog 20 #[.pointer (some ⟨bw, 0, none⟩)] w fun e w' => e = .returned (.tuple #[(.agg #[.int .u64 ((0, 0) : Int × Int).1, .int .u64 ((0, 0) : Int × Int).2]), .int .i64 110]) ∧ Below w.heap.size w w' := by
  obtain ⟨va, vb, sm, H1⟩ := H.win
  have HL : Hid (∀ W, Below w.heap.size w W → Calls Try.prog 17 #[.pointer (some ⟨bw, 0, none⟩)] W fun e w' => e = .returned (.int .i64 0) ∧ ∃ q, w' = W.drewN q) := fun W hW =>
    lenT_any (H1.fr (Fr.of_below (P := fun _ => False) hW) (fun _ _ h => h))
  clear H H1
  go_enter Try.func20, Try.ntmps20
  go_wp2_with (go_at_call 17; refine (HL.out _ (by go_grown)).mono ?_; rintro e w1 ⟨rfl, q, rfl⟩)
  refine bodyPost_ret (by simp [results, Try.results20, go_sem]; try rfl) rfl ?_
  exact ⟨rfl, by go_grown; try exact Below.drewN (((Below.refl _ w).alloc (Nat.le_refl _) _).alloc (by simp) _) q⟩

set_option maxRecDepth 100000 in
set_option maxHeartbeats 8000000 in
theorem popT_some {f : Int × Int → Int × Int → Int × Int} {w : World} {bw : Nat} {op : Value} {nt : Int × Int} {c : Int} {x : Int × Int} {xr Y : List (Int × Int)} {F : Nat → Prop} {ok : Nat → Int × Int → Prop} {G : Nat → Prop} {I : Nat → World → Prop} {n : Nat} (O : OpT op f ok G I) (H : StT f op nt ok G I w bw c n (x :: xr) Y F) :
    Calls Try.prog 20 #[.pointer (some ⟨bw, 0, none⟩)] w fun e w' => e = .returned (.tuple #[(.agg #[.int .u64 x.1, .int .u64 x.2]), .int .i64 0]) ∧ Hid (StT f op nt ok G I w' bw c n xr Y (FF F w w') ∧ Fr (fun k => F k ∨ G k) w w') := by
  obtain ⟨va, vb, sm, H1⟩ := H.win
  have hF := H1.ft
  have hlim := H.lim
  have hbw : bw < w.heap.size := hF _ H1.fw
  have HL : Hid (∀ W, Below w.heap.size w W → Calls Try.prog 17 #[.pointer (some ⟨bw, 0, none⟩)] W fun e w' => e = .returned (.int .i64 ((xr.length + 1 + Y.length : Nat) : Int)) ∧ Below W.heap.size W w') := fun W hW =>
    (lenT_any (H1.fr (Fr.of_below (P := fun _ => False) hW) (fun _ _ h => h))).mono (fun e w' h => ⟨h.1, by obtain ⟨q, rfl⟩ := h.2; exact Below.drewN (Below.refl _ _) q⟩)
  obtain ⟨mm, hmm⟩ : ∃ mm : Nat, Hid (xr.length + 1 + Y.length = mm) := ⟨_, rfl⟩
  have hmm0 : ¬ ((mm : Int) = 0) := by have := hmm.out; omega
  rw [hmm.out] at HL
  go_enter Try.func20, Try.ntmps20
  go_wp2_with fail
  refine (HL.out _ (by go_grown)).mono ?_
  rintro e w1 ⟨rfl, hb1⟩
  have hb0 : Below w.heap.size w w1 := (((Below.refl _ w).alloc (Nat.le_refl _) _).alloc (by simp) _).trans (hb1.mono (by simp; omega))
  have HS1 : Hid (StT f op nt ok G I w1 bw c n (x :: xr) Y F) := H.fr O (Fr.of_below (P := fun _ => False) hb0) (fun _ _ h => h) (fun _ _ h => h)
  have hW1 := H1.fr (Fr.of_below (P := fun _ => False) hb0) (fun _ _ h => h)
  obtain ⟨pa, ca, hpa⟩ := row_form hW1.ra
  have yl : w1.cell? ⟨bw, 4, none⟩ = some (.slice pa (xr.length + 1) ca) := by rw [Lib.cell_of_heap hW1.blk, hpa]; rfl
  have hrb1 : w1.heap[w.heap.size]? = some (.cells #[.int .u64 0, .int .u64 0] 26 (0, 0)) := by
    rw [hb1.block _ (by simp; omega), Below.heap_alloc _ _ _ (by simp)]
    exact World.alloc_heap_new w _
  have hz1 : w.heap.size + 2 ≤ w1.heap.size := by have := hb1.size; simp at this; omega
  have HRB1 : Hid (_) := hrb1
  clear hrb1
  clear hb1 HL
  have hxl : ¬ ((xr.length : Int) + 1 = 0) := by omega
  clear hW1 hpa
  go_upto_region 6 with fail
  refine wp_world ?_
  intro W hW
  subst hW
  have HFW : Hid (Fr (fun k => F k ∨ G k) w W) := Fr.of_below hb0
  have HS2 : Hid (StT f op nt ok G I W bw c n (x :: xr) Y F) := HS1.out
  have HF2 : Hid (∀ k, F k → F k ∨ W.heap.size ≤ k) := fun k h => Or.inl h
  have HRB := HRB1
  clear yl
  have hw1 : w.heap.size ≤ W.heap.size := hb0.size
  obtain ⟨va2, vb2, sm2, HW2⟩ := HS2.out.win
  have hra := HW2.ra
  obtain ⟨hn, ⟨e, hn0⟩ | ⟨g, cap, cur, rfl, -, hg, hc1, hc2, hc3, -⟩⟩ := hra
  · exact absurd hn0 (by simp)
  have e0 : tflT (tls f (x :: xr)).reverse = tflT (tls f xr).reverse ++ tcT (x, sumR f x xr) := by simp only [tls, List.reverse_cons]; exact tflT_snoc _ _
  have e1 : (tflT (tls f xr).reverse).length = xr.length * 4 := by rw [tflT_len, List.length_reverse, tls_len]
  have hrow := HW2.ra
  have z : ∀ j, j < 4 → W.cell? ⟨g, xr.length * 4 + j, none⟩ = (tcT (x, sumR f x xr))[j]? := fun j hj => by
    rw [hrow.cellAt _ (by simp; omega), e0, List.getElem?_append_right (by rw [e1]; omega), e1, show xr.length * 4 + j - xr.length * 4 = j by omega]
  have z0 : W.cell? ⟨g, xr.length * 4, none⟩ = some (.int .u64 x.1) := z 0 (by omega)
  have zf0 : W.frozen? ⟨g, xr.length * 4, none⟩ = false := Lib.frozen_of_heap hg _
  have z1 : W.cell? ⟨g, xr.length * 4 + 1, none⟩ = some (.int .u64 x.2) := z 1 (by omega)
  have zf1 : W.frozen? ⟨g, xr.length * 4 + 1, none⟩ = false := Lib.frozen_of_heap hg _
  have z2 : W.cell? ⟨g, xr.length * 4 + 2, none⟩ = some (.int .u64 (sumR f x xr).1) := z 2 (by omega)
  have zf2 : W.frozen? ⟨g, xr.length * 4 + 2, none⟩ = false := Lib.frozen_of_heap hg _
  have z3 : W.cell? ⟨g, xr.length * 4 + 3, none⟩ = some (.int .u64 (sumR f x xr).2) := z 3 (by omega)
  have zf3 : W.frozen? ⟨g, xr.length * 4 + 3, none⟩ = false := Lib.frozen_of_heap hg _
  have yva : W.cell? ⟨bw, 4, none⟩ = some (.slice (some ⟨g, 0, none⟩) (xr.length + 1) cap) := (Lib.cell_of_heap HW2.blk _).trans rfl
  have yvf : W.frozen? ⟨bw, 4, none⟩ = false := Lib.frozen_of_heap HW2.blk _
  have hgl : g < W.heap.size := lt_heap hg
  have hgbw : ¬ g = bw := fun q => row_ne HW2.ra HW2.blk (by decide) (by rw [← q]; rfl)
  have hbwW : bw < W.heap.size := lt_heap HW2.blk
  have r0 : W.cell? ⟨w.heap.size, 0, none⟩ = some (.int .u64 0) := (Lib.cell_of_heap HRB.out _).trans rfl
  have r1 : W.cell? ⟨w.heap.size, 1, none⟩ = some (.int .u64 0) := (Lib.cell_of_heap HRB.out _).trans rfl
  have rf0 : W.frozen? ⟨w.heap.size, 0, none⟩ = false := Lib.frozen_of_heap HRB.out _
  have rf1 : W.frozen? ⟨w.heap.size, 1, none⟩ = false := Lib.frozen_of_heap HRB.out _
  have hrW : w.heap.size < W.heap.size := lt_heap HRB.out
  have hgF : F g := HW2.fa g rfl
  have hRF : ¬ F w.heap.size := fun h => (HF2.out _ h).elim (fun q => by have := hF _ q; omega) (fun q => by omega)
  have hgr : ¬ g = w.heap.size := fun q => hRF (q ▸ hgF)
  have hbr : ¬ bw = w.heap.size := by omega
  have HROW : Hid (W.ownsRow 0 63 4 (.slice (some ⟨g, 0, none⟩) xr.length cap) xr.length (tflT (tls f xr).reverse)) := by
    have h := hrow
    rw [e0] at h
    exact row_takeT h e1
  have HGH : Hid (_) := hg
  have HWW : Hid (_) := HW2
  have hcap : Hid ((x :: xr).length ≤ cap) := hc1
  have hxr : xr.length ≤ 4096 := by have := HS2.out.lim; simp at this; omega
  have hmc : (xr.length : Int) ≤ cap := by simp at hc1; omega
  clear z e0 e1 hrow hn hg HW2 hc1 hc2 hc3
  obtain ⟨m, hm⟩ : ∃ m, Hid (xr.length = m) := ⟨_, rfl⟩
  rw [hm.out] at yva hmc hxr z0 zf0 z1 zf1 z2 zf2 z3 zf3
  have m1 : (m : Int) + 1 - 1 = m := by omega
  have m2 : (m : Int) < (m : Int) + 1 := by omega
  have m3 : (0 : Int) ≤ m := by omega
  have m4 : IntKind.i64.wrap (m : Int) = m := by rw [IntKind.wrap_i64]; omega
  have m5 : ((m : Int)).toNat = m := by omega
  have HHF : Hid (∀ k, F k → k < w.heap.size) := hF
  have HGF : Hid (_) := And.intro hgF hRF
  clear hF hgF hRF hlim
  go_upto_region 8 with fail
  refine wp_world ?_
  intro W8 hW8
  have A8 : Hid (Below W.heap.size W W8) := by rw [hW8]; exact (Below.refl _ W).alloc (Nat.le_refl _) _
  have X8 : Hid (W8.heap[W.heap.size]? = some (.cells #[.int .u64 x.1, .int .u64 x.2] 26 (0, 0))) := by rw [hW8]; exact World.alloc_heap_new W _
  have s8 : W.heap.size < W8.heap.size := lt_heap X8.out
  have yva8 : W8.cell? ⟨bw, 4, none⟩ = some (.slice (some ⟨g, 0, none⟩) (m + 1) cap) := (A8.out.cell (p := ⟨bw, 4, none⟩) hbwW).trans yva
  have zz0 := (A8.out.cell (p := ⟨g, m * 4, none⟩) hgl).trans z0
  have zzf0 := (A8.out.frozen (p := ⟨g, m * 4, none⟩) hgl).trans zf0
  have zz1 := (A8.out.cell (p := ⟨g, m * 4 + 1, none⟩) hgl).trans z1
  have zzf1 := (A8.out.frozen (p := ⟨g, m * 4 + 1, none⟩) hgl).trans zf1
  have zz2 := (A8.out.cell (p := ⟨g, m * 4 + 2, none⟩) hgl).trans z2
  have zzf2 := (A8.out.frozen (p := ⟨g, m * 4 + 2, none⟩) hgl).trans zf2
  have zz3 := (A8.out.cell (p := ⟨g, m * 4 + 3, none⟩) hgl).trans z3
  have zzf3 := (A8.out.frozen (p := ⟨g, m * 4 + 3, none⟩) hgl).trans zf3
  clear hW8 yva z0 zf0 z1 zf1 z2 zf2 z3 zf3 yvf r0 r1 rf0 rf1
  go_upto_region 9 with fail
  refine wp_world ?_
  intro W9 hW9
  have G9 : Hid (Fr (fun k => k = g) W8 W9) := by rw [hW9]; exact (Fr.setCell (Fr.setCell (Fr.setCell (Fr.setCell (Fr.refl (fun k => k = g) W8) (p := ⟨g, m * 4, none⟩) (Or.inl rfl) (.int .u64 0)) (p := ⟨g, m * 4 + 1, none⟩) (Or.inl rfl) (.int .u64 0)) (p := ⟨g, m * 4 + 2, none⟩) (Or.inl rfl) (.int .u64 0)) (p := ⟨g, m * 4 + 3, none⟩) (Or.inl rfl) (.int .u64 0))
  have R9 : Hid (W9.ownsRow 0 63 4 (.slice (some ⟨g, 0, none⟩) m cap) m (tflT (tls f xr).reverse)) := by
    have h0 := HROW.out
    rw [hm.out] at h0
    rw [hW9]
    exact (row_setT (o := m * 4 + 3) (row_setT (o := m * 4 + 2) (row_setT (o := m * 4 + 1) (row_setT (o := m * 4) ((Fr.of_below (P := fun _ => False) A8.out).row h0 (fun _ _ h => h)) (by omega) (.int .u64 0)) (by omega) (.int .u64 0)) (by omega) (.int .u64 0)) (by omega) (.int .u64 0))
  have B9 : Hid (W9.heap[bw]? = some (.cells #[op, .int .u64 nt.1, .int .u64 nt.2, .int .i64 c, (.slice (some ⟨g, 0, none⟩) (m + 1) cap), vb2, .int .u64 sm2.1, .int .u64 sm2.2] 60 (0, 0))) := by
    have h0 := HWW.out.blk
    rw [show (x :: xr).length = m + 1 by simp [hm.out]] at h0
    exact G9.out.heap ((A8.out.block bw hbwW).trans h0) (fun e => hgbw e.symm)
  have X9 : Hid (W9.heap[W.heap.size]? = some (.cells #[.int .u64 x.1, .int .u64 x.2] 26 (0, 0))) := G9.out.heap X8.out (by omega)
  have RB9 : Hid (W9.heap[w.heap.size]? = some (.cells #[.int .u64 0, .int .u64 0] 26 (0, 0))) := G9.out.heap ((A8.out.block _ hrW).trans HRB.out) (fun e => hgr e.symm)
  have s9 : W8.heap.size ≤ W9.heap.size := G9.out.size
  have yva9 : W9.cell? ⟨bw, 4, none⟩ = some (.slice (some ⟨g, 0, none⟩) (m + 1) cap) := (Lib.cell_of_heap B9.out _).trans rfl
  have yvf9 : W9.frozen? ⟨bw, 4, none⟩ = false := Lib.frozen_of_heap B9.out _
  clear hW9 yva8 zz0 zzf0 zz1 zzf1 zz2 zzf2 zz3 zzf3
  go_upto_region 10 with fail
  refine wp_world ?_
  intro W10 hW10
  have G10 : Hid (Fr (fun k => k = bw) W9 W10) := by rw [hW10]; exact (Fr.setCell (Fr.refl (fun k => k = bw) W9) (p := ⟨bw, 4, none⟩) (Or.inl rfl) _)
  have B10 : Hid (W10.heap[bw]? = some (.cells #[op, .int .u64 nt.1, .int .u64 nt.2, .int .i64 c, (.slice (some ⟨g, 0, none⟩) m cap), vb2, .int .u64 sm2.1, .int .u64 sm2.2] 60 (0, 0))) := by rw [hW10]; exact set_heap B9.out _
  have X10 : Hid (W10.heap[W.heap.size]? = some (.cells #[.int .u64 x.1, .int .u64 x.2] 26 (0, 0))) := G10.out.heap X9.out (by omega)
  have RB10 : Hid (W10.heap[w.heap.size]? = some (.cells #[.int .u64 0, .int .u64 0] 26 (0, 0))) := G10.out.heap RB9.out (fun e => hbr e.symm)
  have R10 : Hid (W10.ownsRow 0 63 4 (.slice (some ⟨g, 0, none⟩) m cap) m (tflT (tls f xr).reverse)) := G10.out.row R9.out (fun k e q => row_ne R9.out B9.out (by decide) (q ▸ e))
  have x0 : W10.cell? ⟨W.heap.size, 0, none⟩ = some (.int .u64 x.1) := (Lib.cell_of_heap X10.out _).trans rfl
  have x1 : W10.cell? ⟨W.heap.size, 1, none⟩ = some (.int .u64 x.2) := (Lib.cell_of_heap X10.out _).trans rfl
  have r0 : W10.cell? ⟨w.heap.size, 0, none⟩ = some (.int .u64 0) := (Lib.cell_of_heap RB10.out _).trans rfl
  have r1 : W10.cell? ⟨w.heap.size, 1, none⟩ = some (.int .u64 0) := (Lib.cell_of_heap RB10.out _).trans rfl
  have rf0 : W10.frozen? ⟨w.heap.size, 0, none⟩ = false := Lib.frozen_of_heap RB10.out _
  have rf1 : W10.frozen? ⟨w.heap.size, 1, none⟩ = false := Lib.frozen_of_heap RB10.out _
  clear hW10 yva9 yvf9
  go_wp2
  refine bodyPost_ret (by simp [results, Try.results20, go_sem, r0, r1]; try rfl) rfl ?_
  have f11 : Fr (fun k => k = w.heap.size) W10 _ := (Fr.setCell (Fr.setCell (Fr.refl (fun k => k = w.heap.size) W10) (p := ⟨w.heap.size, 0, none⟩) (Or.inl rfl) (.int .u64 x.1)) (p := ⟨w.heap.size, 1, none⟩) (Or.inl rfl) (.int .u64 x.2))
  refine ⟨rfl, popfinT (g := g) (va' := (.slice (some ⟨g, 0, none⟩) m cap)) O H HHF.out HS2.out HWW.out rfl (fun k h => (HF2.out k h).elim Or.inl (fun q => Or.inr (by omega))) HFW.out
    (P := (fun k => k = g ∨ k = bw ∨ k = w.heap.size)) ((((Fr.of_below A8.out).trans G9.out (fun i e => Or.inl (Or.inl e))).trans G10.out (fun i e => Or.inl (Or.inr (Or.inl e)))).trans f11 (fun i e => Or.inl (Or.inr (Or.inr e)))) (fun k h => h.elim Or.inl (fun h => Or.inr (h.elim Or.inl (fun h => Or.inr (by subst h; exact ⟨HGF.out.2, Nat.le_refl _⟩)))))
    (f11.heap B10.out hbr) ?_ rfl⟩
  rw [hm.out]
  exact f11.row R10.out (fun k e q => row_ne R10.out RB10.out (by decide) (q ▸ e))

set_option maxRecDepth 100000 in
set_option maxHeartbeats 8000000 in
theorem popT_turn {f : Int × Int → Int × Int → Int × Int} {w : World} {bw : Nat} {op : Value} {nt : Int × Int} {c : Int} {x : Int × Int} {xr : List (Int × Int)} {F : Nat → Prop} {ok : Nat → Int × Int → Prop} {G : Nat → Prop} {I : Nat → World → Prop} {n : Nat} (O : OpT op f ok G I) (H : StT f op nt ok G I w bw c n [] (x :: xr) F) :
    Calls Try.prog 20 #[.pointer (some ⟨bw, 0, none⟩)] w fun e w' => e = .returned (.tuple #[(.agg #[.int .u64 x.1, .int .u64 x.2]), .int .i64 0]) ∧ Hid (StT f op nt ok G I w' bw (cw c xr.length) (n + xr.length) xr [] (FF F w w') ∧ Fr (fun k => F k ∨ G k) w w') := by
  obtain ⟨va, vb, sm, H1⟩ := H.win
  have hF := H1.ft
  have hlim := H.lim
  have hbw : bw < w.heap.size := hF _ H1.fw
  have HL : Hid (∀ W, Below w.heap.size w W → Calls Try.prog 17 #[.pointer (some ⟨bw, 0, none⟩)] W fun e w' => e = .returned (.int .i64 ((0 + (xr.length + 1) : Nat) : Int)) ∧ Below W.heap.size W w') := fun W hW =>
    (lenT_any (H1.fr (Fr.of_below (P := fun _ => False) hW) (fun _ _ h => h))).mono (fun e w' h => ⟨h.1, by obtain ⟨q, rfl⟩ := h.2; exact Below.drewN (Below.refl _ _) q⟩)
  obtain ⟨mm, hmm⟩ : ∃ mm : Nat, Hid (0 + (xr.length + 1) = mm) := ⟨_, rfl⟩
  have hmm0 : ¬ ((mm : Int) = 0) := by have := hmm.out; omega
  rw [hmm.out] at HL
  go_enter Try.func20, Try.ntmps20
  go_wp2_with fail
  refine (HL.out _ (by go_grown)).mono ?_
  rintro e w1 ⟨rfl, hb1⟩
  have hb0 : Below w.heap.size w w1 := (((Below.refl _ w).alloc (Nat.le_refl _) _).alloc (by simp) _).trans (hb1.mono (by simp; omega))
  have HS1 : Hid (StT f op nt ok G I w1 bw c n [] (x :: xr) F) := H.fr O (Fr.of_below (P := fun _ => False) hb0) (fun _ _ h => h) (fun _ _ h => h)
  have hW1 := H1.fr (Fr.of_below (P := fun _ => False) hb0) (fun _ _ h => h)
  obtain ⟨pa, ca, hpa⟩ := row_form hW1.ra
  have yl : w1.cell? ⟨bw, 4, none⟩ = some (.slice pa 0 ca) := by rw [Lib.cell_of_heap hW1.blk, hpa]; rfl
  have hrb1 : w1.heap[w.heap.size]? = some (.cells #[.int .u64 0, .int .u64 0] 26 (0, 0)) := by
    rw [hb1.block _ (by simp; omega), Below.heap_alloc _ _ _ (by simp)]
    exact World.alloc_heap_new w _
  have hz1 : w.heap.size + 2 ≤ w1.heap.size := by have := hb1.size; simp at this; omega
  have HRB1 : Hid (_) := hrb1
  clear hrb1
  clear hb1 HL
  clear hW1 hpa
  go_wp2_with fail
  refine (turnT_any O HS1.out).mono ?_
  rintro e W ⟨⟨v, rfl⟩, HSW⟩
  have HFW : Hid (Fr (fun k => F k ∨ G k) w W) := (Fr.of_below hb0).trans HSW.out.2 (fun i h => Or.inl h)
  have HS2 : Hid (StT f op nt ok G I W bw (cw c xr.length) (n + xr.length) (x :: xr) [] (FF F w1 W)) := HSW.out.1
  have HF2 : Hid (∀ k, (FF F w1 W) k → F k ∨ w1.heap.size ≤ k) := fun k h => h.elim Or.inl (fun q => Or.inr q.1)
  have HRB : Hid (W.heap[w.heap.size]? = some (.cells #[.int .u64 0, .int .u64 0] 26 (0, 0))) := HSW.out.2.heap HRB1.out (fun h => h.elim (fun q => by have := hF _ q; omega) (fun q => by have := O.glt _ _ _ H.st q; omega))
  clear HSW yl
  have hw1 : w.heap.size ≤ w1.heap.size := hb0.size
  obtain ⟨va2, vb2, sm2, HW2⟩ := HS2.out.win
  have hra := HW2.ra
  obtain ⟨hn, ⟨e, hn0⟩ | ⟨g, cap, cur, rfl, -, hg, hc1, hc2, hc3, -⟩⟩ := hra
  · exact absurd hn0 (by simp)
  have e0 : tflT (tls f (x :: xr)).reverse = tflT (tls f xr).reverse ++ tcT (x, sumR f x xr) := by simp only [tls, List.reverse_cons]; exact tflT_snoc _ _
  have e1 : (tflT (tls f xr).reverse).length = xr.length * 4 := by rw [tflT_len, List.length_reverse, tls_len]
  have hrow := HW2.ra
  have z : ∀ j, j < 4 → W.cell? ⟨g, xr.length * 4 + j, none⟩ = (tcT (x, sumR f x xr))[j]? := fun j hj => by
    rw [hrow.cellAt _ (by simp; omega), e0, List.getElem?_append_right (by rw [e1]; omega), e1, show xr.length * 4 + j - xr.length * 4 = j by omega]
  have z0 : W.cell? ⟨g, xr.length * 4, none⟩ = some (.int .u64 x.1) := z 0 (by omega)
  have zf0 : W.frozen? ⟨g, xr.length * 4, none⟩ = false := Lib.frozen_of_heap hg _
  have z1 : W.cell? ⟨g, xr.length * 4 + 1, none⟩ = some (.int .u64 x.2) := z 1 (by omega)
  have zf1 : W.frozen? ⟨g, xr.length * 4 + 1, none⟩ = false := Lib.frozen_of_heap hg _
  have z2 : W.cell? ⟨g, xr.length * 4 + 2, none⟩ = some (.int .u64 (sumR f x xr).1) := z 2 (by omega)
  have zf2 : W.frozen? ⟨g, xr.length * 4 + 2, none⟩ = false := Lib.frozen_of_heap hg _
  have z3 : W.cell? ⟨g, xr.length * 4 + 3, none⟩ = some (.int .u64 (sumR f x xr).2) := z 3 (by omega)
  have zf3 : W.frozen? ⟨g, xr.length * 4 + 3, none⟩ = false := Lib.frozen_of_heap hg _
  have yva : W.cell? ⟨bw, 4, none⟩ = some (.slice (some ⟨g, 0, none⟩) (xr.length + 1) cap) := (Lib.cell_of_heap HW2.blk _).trans rfl
  have yvf : W.frozen? ⟨bw, 4, none⟩ = false := Lib.frozen_of_heap HW2.blk _
  have hgl : g < W.heap.size := lt_heap hg
  have hgbw : ¬ g = bw := fun q => row_ne HW2.ra HW2.blk (by decide) (by rw [← q]; rfl)
  have hbwW : bw < W.heap.size := lt_heap HW2.blk
  have r0 : W.cell? ⟨w.heap.size, 0, none⟩ = some (.int .u64 0) := (Lib.cell_of_heap HRB.out _).trans rfl
  have r1 : W.cell? ⟨w.heap.size, 1, none⟩ = some (.int .u64 0) := (Lib.cell_of_heap HRB.out _).trans rfl
  have rf0 : W.frozen? ⟨w.heap.size, 0, none⟩ = false := Lib.frozen_of_heap HRB.out _
  have rf1 : W.frozen? ⟨w.heap.size, 1, none⟩ = false := Lib.frozen_of_heap HRB.out _
  have hrW : w.heap.size < W.heap.size := lt_heap HRB.out
  have hgF : (FF F w1 W) g := HW2.fa g rfl
  have hRF : ¬ (FF F w1 W) w.heap.size := fun h => (HF2.out _ h).elim (fun q => by have := hF _ q; omega) (fun q => by omega)
  have hgr : ¬ g = w.heap.size := fun q => hRF (q ▸ hgF)
  have hbr : ¬ bw = w.heap.size := by omega
  have HROW : Hid (W.ownsRow 0 63 4 (.slice (some ⟨g, 0, none⟩) xr.length cap) xr.length (tflT (tls f xr).reverse)) := by
    have h := hrow
    rw [e0] at h
    exact row_takeT h e1
  have HGH : Hid (_) := hg
  have HWW : Hid (_) := HW2
  have hcap : Hid ((x :: xr).length ≤ cap) := hc1
  have hxr : xr.length ≤ 4096 := by have := HS2.out.lim; simp at this; omega
  have hmc : (xr.length : Int) ≤ cap := by simp at hc1; omega
  clear z e0 e1 hrow hn hg HW2 hc1 hc2 hc3
  obtain ⟨m, hm⟩ : ∃ m, Hid (xr.length = m) := ⟨_, rfl⟩
  rw [hm.out] at yva hmc hxr z0 zf0 z1 zf1 z2 zf2 z3 zf3
  have m1 : (m : Int) + 1 - 1 = m := by omega
  have m2 : (m : Int) < (m : Int) + 1 := by omega
  have m3 : (0 : Int) ≤ m := by omega
  have m4 : IntKind.i64.wrap (m : Int) = m := by rw [IntKind.wrap_i64]; omega
  have m5 : ((m : Int)).toNat = m := by omega
  have HHF : Hid (∀ k, F k → k < w.heap.size) := hF
  have HGF : Hid (_) := And.intro hgF hRF
  clear hF hgF hRF hlim
  go_upto_region 8 with fail
  refine wp_world ?_
  intro W8 hW8
  have A8 : Hid (Below W.heap.size W W8) := by rw [hW8]; exact (Below.refl _ W).alloc (Nat.le_refl _) _
  have X8 : Hid (W8.heap[W.heap.size]? = some (.cells #[.int .u64 x.1, .int .u64 x.2] 26 (0, 0))) := by rw [hW8]; exact World.alloc_heap_new W _
  have s8 : W.heap.size < W8.heap.size := lt_heap X8.out
  have yva8 : W8.cell? ⟨bw, 4, none⟩ = some (.slice (some ⟨g, 0, none⟩) (m + 1) cap) := (A8.out.cell (p := ⟨bw, 4, none⟩) hbwW).trans yva
  have zz0 := (A8.out.cell (p := ⟨g, m * 4, none⟩) hgl).trans z0
  have zzf0 := (A8.out.frozen (p := ⟨g, m * 4, none⟩) hgl).trans zf0
  have zz1 := (A8.out.cell (p := ⟨g, m * 4 + 1, none⟩) hgl).trans z1
  have zzf1 := (A8.out.frozen (p := ⟨g, m * 4 + 1, none⟩) hgl).trans zf1
  have zz2 := (A8.out.cell (p := ⟨g, m * 4 + 2, none⟩) hgl).trans z2
  have zzf2 := (A8.out.frozen (p := ⟨g, m * 4 + 2, none⟩) hgl).trans zf2
  have zz3 := (A8.out.cell (p := ⟨g, m * 4 + 3, none⟩) hgl).trans z3
  have zzf3 := (A8.out.frozen (p := ⟨g, m * 4 + 3, none⟩) hgl).trans zf3
  clear hW8 yva z0 zf0 z1 zf1 z2 zf2 z3 zf3 yvf r0 r1 rf0 rf1
  go_upto_region 9 with fail
  refine wp_world ?_
  intro W9 hW9
  have G9 : Hid (Fr (fun k => k = g) W8 W9) := by rw [hW9]; exact (Fr.setCell (Fr.setCell (Fr.setCell (Fr.setCell (Fr.refl (fun k => k = g) W8) (p := ⟨g, m * 4, none⟩) (Or.inl rfl) (.int .u64 0)) (p := ⟨g, m * 4 + 1, none⟩) (Or.inl rfl) (.int .u64 0)) (p := ⟨g, m * 4 + 2, none⟩) (Or.inl rfl) (.int .u64 0)) (p := ⟨g, m * 4 + 3, none⟩) (Or.inl rfl) (.int .u64 0))
  have R9 : Hid (W9.ownsRow 0 63 4 (.slice (some ⟨g, 0, none⟩) m cap) m (tflT (tls f xr).reverse)) := by
    have h0 := HROW.out
    rw [hm.out] at h0
    rw [hW9]
    exact (row_setT (o := m * 4 + 3) (row_setT (o := m * 4 + 2) (row_setT (o := m * 4 + 1) (row_setT (o := m * 4) ((Fr.of_below (P := fun _ => False) A8.out).row h0 (fun _ _ h => h)) (by omega) (.int .u64 0)) (by omega) (.int .u64 0)) (by omega) (.int .u64 0)) (by omega) (.int .u64 0))
  have B9 : Hid (W9.heap[bw]? = some (.cells #[op, .int .u64 nt.1, .int .u64 nt.2, .int .i64 (cw c xr.length), (.slice (some ⟨g, 0, none⟩) (m + 1) cap), vb2, .int .u64 sm2.1, .int .u64 sm2.2] 60 (0, 0))) := by
    have h0 := HWW.out.blk
    rw [show (x :: xr).length = m + 1 by simp [hm.out]] at h0
    exact G9.out.heap ((A8.out.block bw hbwW).trans h0) (fun e => hgbw e.symm)
  have X9 : Hid (W9.heap[W.heap.size]? = some (.cells #[.int .u64 x.1, .int .u64 x.2] 26 (0, 0))) := G9.out.heap X8.out (by omega)
  have RB9 : Hid (W9.heap[w.heap.size]? = some (.cells #[.int .u64 0, .int .u64 0] 26 (0, 0))) := G9.out.heap ((A8.out.block _ hrW).trans HRB.out) (fun e => hgr e.symm)
  have s9 : W8.heap.size ≤ W9.heap.size := G9.out.size
  have yva9 : W9.cell? ⟨bw, 4, none⟩ = some (.slice (some ⟨g, 0, none⟩) (m + 1) cap) := (Lib.cell_of_heap B9.out _).trans rfl
  have yvf9 : W9.frozen? ⟨bw, 4, none⟩ = false := Lib.frozen_of_heap B9.out _
  clear hW9 yva8 zz0 zzf0 zz1 zzf1 zz2 zzf2 zz3 zzf3
  go_upto_region 10 with fail
  refine wp_world ?_
  intro W10 hW10
  have G10 : Hid (Fr (fun k => k = bw) W9 W10) := by rw [hW10]; exact (Fr.setCell (Fr.refl (fun k => k = bw) W9) (p := ⟨bw, 4, none⟩) (Or.inl rfl) _)
  have B10 : Hid (W10.heap[bw]? = some (.cells #[op, .int .u64 nt.1, .int .u64 nt.2, .int .i64 (cw c xr.length), (.slice (some ⟨g, 0, none⟩) m cap), vb2, .int .u64 sm2.1, .int .u64 sm2.2] 60 (0, 0))) := by rw [hW10]; exact set_heap B9.out _
  have X10 : Hid (W10.heap[W.heap.size]? = some (.cells #[.int .u64 x.1, .int .u64 x.2] 26 (0, 0))) := G10.out.heap X9.out (by omega)
  have RB10 : Hid (W10.heap[w.heap.size]? = some (.cells #[.int .u64 0, .int .u64 0] 26 (0, 0))) := G10.out.heap RB9.out (fun e => hbr e.symm)
  have R10 : Hid (W10.ownsRow 0 63 4 (.slice (some ⟨g, 0, none⟩) m cap) m (tflT (tls f xr).reverse)) := G10.out.row R9.out (fun k e q => row_ne R9.out B9.out (by decide) (q ▸ e))
  have x0 : W10.cell? ⟨W.heap.size, 0, none⟩ = some (.int .u64 x.1) := (Lib.cell_of_heap X10.out _).trans rfl
  have x1 : W10.cell? ⟨W.heap.size, 1, none⟩ = some (.int .u64 x.2) := (Lib.cell_of_heap X10.out _).trans rfl
  have r0 : W10.cell? ⟨w.heap.size, 0, none⟩ = some (.int .u64 0) := (Lib.cell_of_heap RB10.out _).trans rfl
  have r1 : W10.cell? ⟨w.heap.size, 1, none⟩ = some (.int .u64 0) := (Lib.cell_of_heap RB10.out _).trans rfl
  have rf0 : W10.frozen? ⟨w.heap.size, 0, none⟩ = false := Lib.frozen_of_heap RB10.out _
  have rf1 : W10.frozen? ⟨w.heap.size, 1, none⟩ = false := Lib.frozen_of_heap RB10.out _
  clear hW10 yva9 yvf9
  go_wp2
  refine bodyPost_ret (by simp [results, Try.results20, go_sem, r0, r1]; try rfl) rfl ?_
  have f11 : Fr (fun k => k = w.heap.size) W10 _ := (Fr.setCell (Fr.setCell (Fr.refl (fun k => k = w.heap.size) W10) (p := ⟨w.heap.size, 0, none⟩) (Or.inl rfl) (.int .u64 x.1)) (p := ⟨w.heap.size, 1, none⟩) (Or.inl rfl) (.int .u64 x.2))
  refine ⟨rfl, popfinT (g := g) (va' := (.slice (some ⟨g, 0, none⟩) m cap)) O H HHF.out HS2.out HWW.out rfl (fun k h => (HF2.out k h).elim Or.inl (fun q => Or.inr (by omega))) HFW.out
    (P := (fun k => k = g ∨ k = bw ∨ k = w.heap.size)) ((((Fr.of_below A8.out).trans G9.out (fun i e => Or.inl (Or.inl e))).trans G10.out (fun i e => Or.inl (Or.inr (Or.inl e)))).trans f11 (fun i e => Or.inl (Or.inr (Or.inr e)))) (fun k h => h.elim Or.inl (fun h => Or.inr (h.elim Or.inl (fun h => Or.inr (by subst h; exact ⟨HGF.out.2, Nat.le_refl _⟩)))))
    (f11.heap B10.out hbr) ?_ rfl⟩
  rw [hm.out]
  exact f11.row R10.out (fun k e q => row_ne R10.out RB10.out (by decide) (q ▸ e))
end Go.Proofs.Ytondchfhdhllhaa

namespace Go.Proofs.Ytondchfhdhllhaa
open Go.RowKit Go.Shelf
set_option linter.unusedVariables false

theorem allfinT {f : Int × Int → Int × Int → Int × Int} {w : World} {bw : Nat} {op : Value} {nt : Int × Int} {c : Int} {X Y : List (Int × Int)} {F : Nat → Prop} {ok : Nat → Int × Int → Prop} {G : Nat → Prop} {I : Nat → World → Prop} {n : Nat} {w1 w3 w4 : World} {va vb : Value} {sm : Int × Int} {c' : Int} {n' : Nat} (O : OpT op f ok G I) (H : StT f op nt ok G I w bw c n X Y F) (hF : ∀ k, F k → k < w.heap.size) (hb0 : Below w.heap.size w w1) (HW : WinT f w1 bw op nt c X Y F va vb sm) (hI : I n' w3) (hf : Fr (fun k => k = bw ∨ G k) w1 w3)
    (hb : w3.heap[bw]? = some (.cells #[op, .int .u64 nt.1, .int .u64 nt.2, .int .i64 c', va, vb, .int .u64 sm.1, .int .u64 sm.2] 60 (0, 0))) (f4 : Fr (fun k => k = w.heap.size) w3 w4) : Hid (StT f op nt ok G I w4 bw c' n' X Y (FF F w w4) ∧ Fr (fun k => F k ∨ G k) w w4) := by
  have hG : ∀ k, G k → k < w.heap.size := fun k g => O.glt _ _ _ H.st g
  have hbw := hF _ HW.fw
  have ra := f4.row (hf.row HW.ra (fun k e h => h.elim (fun q => row_ne HW.ra HW.blk (by decide) (q ▸ e)) (fun q => H.dis k (HW.fa k e) q))) (fun k e q => by have := hF k (HW.fa k e); omega)
  have rb := f4.row (hf.row HW.rb (fun k e h => h.elim (fun q => row_ne HW.rb HW.blk (by decide) (q ▸ e)) (fun q => H.dis k (HW.fb k e) q))) (fun k e q => by have := hF k (HW.fb k e); omega)
  have FA : Fr (fun k => F k ∨ G k) w w4 := ((Fr.of_below hb0).trans hf (fun i h => Or.inl (h.elim (fun q => Or.inl (q ▸ HW.fw)) Or.inr))).trans f4 (fun i q => Or.inr (by omega))
  refine ⟨⟨⟨va, vb, sm, ⟨f4.heap hb (by omega), ra, rb, HW.sum, HW.lim, Or.inl HW.fw, fun k e => Or.inl (HW.fa k e), fun k e => Or.inl (HW.fb k e), ?_⟩⟩, O.stay _ _ _ _ hI f4 (fun k g q => by have := hG k g; omega), H.okX, H.okY, ?_, H.lim⟩, FA⟩
  · intro k h
    rcases h with h | h
    · exact Nat.lt_of_lt_of_le (hF k h) FA.size
    · exact h.2
  · intro k h g
    rcases h with h | h
    · exact H.dis k h g
    · have := hG k g; omega

set_option maxRecDepth 100000 in
set_option maxHeartbeats 8000000 in
theorem allT_none {f : Int × Int → Int × Int → Int × Int} {w : World} {bw : Nat} {op : Value} {nt : Int × Int} {c : Int} {F : Nat → Prop} {ok : Nat → Int × Int → Prop} {G : Nat → Prop} {I : Nat → World → Prop} {n : Nat} (O : OpT op f ok G I) (H : StT f op nt ok G I w bw c n [] [] F) :
    Calls Try.prog 10 #[.pointer (some ⟨bw, 0, none⟩)] w fun e w' => e = .returned (.agg #[.int .u64 nt.1, .int .u64 nt.2]) ∧ Below w.heap.size w w' := by
  obtain ⟨va, vb, sm, H1⟩ := H.win
  have hF := H1.ft
  have hlim := H.lim
  have hbw : bw < w.heap.size := hF _ H1.fw
  have HL : Hid (∀ W, Below w.heap.size w W → Calls Try.prog 17 #[.pointer (some ⟨bw, 0, none⟩)] W fun e w' => e = .returned (.int .i64 ((0 + 0 : Nat) : Int)) ∧ Below W.heap.size W w') := fun W hW =>
    (lenT_any (H1.fr (Fr.of_below (P := fun _ => False) hW) (fun _ _ h => h))).mono (fun e w' h => ⟨h.1, by obtain ⟨q, rfl⟩ := h.2; exact Below.drewN (Below.refl _ _) q⟩)
  go_enter Try.func10, Try.ntmps10
  go_wp2_with fail
  refine (HL.out _ (by go_grown)).mono ?_
  rintro e w1 ⟨rfl, hb1⟩
  have hb0 : Below w.heap.size w w1 := ((Below.refl _ w).alloc (Nat.le_refl _) _).trans (hb1.mono (by simp))
  have HW1 : Hid (WinT f w1 bw op nt c [] [] F va vb sm) := H1.fr (Fr.of_below (P := fun _ => False) hb0) (fun _ _ h => h)
  obtain ⟨pa, ca, hpa⟩ := row_form HW1.out.ra
  obtain ⟨pb, cb, hpb⟩ := row_form HW1.out.rb
  have yl : w1.cell? ⟨bw, 4, none⟩ = some (.slice pa 0 ca) := by rw [Lib.cell_of_heap HW1.out.blk, hpa]; rfl
  have yb : w1.cell? ⟨bw, 5, none⟩ = some (.slice pb 0 cb) := by rw [Lib.cell_of_heap HW1.out.blk, hpb]; rfl
  clear hpa hpb
  have yn0 : w1.cell? ⟨bw, 1, none⟩ = some (.int .u64 nt.1) := (Lib.cell_of_heap HW1.out.blk _).trans rfl
  have ys0 : w1.cell? ⟨bw, 6, none⟩ = some (.int .u64 sm.1) := (Lib.cell_of_heap HW1.out.blk _).trans rfl
  have yn1 : w1.cell? ⟨bw, 2, none⟩ = some (.int .u64 nt.2) := (Lib.cell_of_heap HW1.out.blk _).trans rfl
  have ys1 : w1.cell? ⟨bw, 7, none⟩ = some (.int .u64 sm.2) := (Lib.cell_of_heap HW1.out.blk _).trans rfl
  have hrb : w1.heap[w.heap.size]? = some (.cells #[.int .u64 0, .int .u64 0] 26 (0, 0)) := by
    rw [hb1.block _ (by simp)]
    exact World.alloc_heap_new w _
  have r0 : w1.cell? ⟨w.heap.size, 0, none⟩ = some (.int .u64 0) := (Lib.cell_of_heap hrb _).trans rfl
  have r1 : w1.cell? ⟨w.heap.size, 1, none⟩ = some (.int .u64 0) := (Lib.cell_of_heap hrb _).trans rfl
  have rf0 : w1.frozen? ⟨w.heap.size, 0, none⟩ = false := Lib.frozen_of_heap hrb _
  have rf1 : w1.frozen? ⟨w.heap.size, 1, none⟩ = false := Lib.frozen_of_heap hrb _
  have hrl : w.heap.size < w1.heap.size := lt_heap hrb
  have HRB : Hid (_) := hrb
  clear hrb
  clear hb1 HL
  go_wp2
  refine bodyPost_ret (by simp [results, Try.results10, go_sem, r0, r1]; try rfl) rfl ?_
  exact ⟨rfl, (hb0.setCell (p := ⟨w.heap.size, 0, none⟩) (Nat.le_refl _) _).setCell (p := ⟨w.heap.size, 1, none⟩) (Nat.le_refl _) _⟩

set_option maxRecDepth 100000 in
set_option maxHeartbeats 8000000 in
theorem allT_b {f : Int × Int → Int × Int → Int × Int} {w : World} {bw : Nat} {op : Value} {nt : Int × Int} {c : Int} {y : Int × Int} {yr : List (Int × Int)} {F : Nat → Prop} {ok : Nat → Int × Int → Prop} {G : Nat → Prop} {I : Nat → World → Prop} {n : Nat} (O : OpT op f ok G I) (H : StT f op nt ok G I w bw c n [] (y :: yr) F) :
    Calls Try.prog 10 #[.pointer (some ⟨bw, 0, none⟩)] w fun e w' => e = .returned (.agg #[.int .u64 (sumL f y yr).1, .int .u64 (sumL f y yr).2]) ∧ Below w.heap.size w w' := by
  obtain ⟨va, vb, sm, H1⟩ := H.win
  have hF := H1.ft
  have hlim := H.lim
  have hbw : bw < w.heap.size := hF _ H1.fw
  have HL : Hid (∀ W, Below w.heap.size w W → Calls Try.prog 17 #[.pointer (some ⟨bw, 0, none⟩)] W fun e w' => e = .returned (.int .i64 ((0 + (yr.length + 1) : Nat) : Int)) ∧ Below W.heap.size W w') := fun W hW =>
    (lenT_any (H1.fr (Fr.of_below (P := fun _ => False) hW) (fun _ _ h => h))).mono (fun e w' h => ⟨h.1, by obtain ⟨q, rfl⟩ := h.2; exact Below.drewN (Below.refl _ _) q⟩)
  obtain ⟨mm, hmm⟩ : ∃ mm : Nat, Hid (0 + (yr.length + 1) = mm) := ⟨_, rfl⟩
  have hmm0 : ¬ ((mm : Int) = 0) := by have := hmm.out; omega
  rw [hmm.out] at HL
  go_enter Try.func10, Try.ntmps10
  go_wp2_with fail
  refine (HL.out _ (by go_grown)).mono ?_
  rintro e w1 ⟨rfl, hb1⟩
  have hb0 : Below w.heap.size w w1 := ((Below.refl _ w).alloc (Nat.le_refl _) _).trans (hb1.mono (by simp))
  have HW1 : Hid (WinT f w1 bw op nt c [] (y :: yr) F va vb sm) := H1.fr (Fr.of_below (P := fun _ => False) hb0) (fun _ _ h => h)
  obtain ⟨pa, ca, hpa⟩ := row_form HW1.out.ra
  obtain ⟨pb, cb, hpb⟩ := row_form HW1.out.rb
  have yl : w1.cell? ⟨bw, 4, none⟩ = some (.slice pa 0 ca) := by rw [Lib.cell_of_heap HW1.out.blk, hpa]; rfl
  have yb : w1.cell? ⟨bw, 5, none⟩ = some (.slice pb (yr.length + 1) cb) := by rw [Lib.cell_of_heap HW1.out.blk, hpb]; rfl
  clear hpa hpb
  have yn0 : w1.cell? ⟨bw, 1, none⟩ = some (.int .u64 nt.1) := (Lib.cell_of_heap HW1.out.blk _).trans rfl
  have ys0 : w1.cell? ⟨bw, 6, none⟩ = some (.int .u64 sm.1) := (Lib.cell_of_heap HW1.out.blk _).trans rfl
  have yn1 : w1.cell? ⟨bw, 2, none⟩ = some (.int .u64 nt.2) := (Lib.cell_of_heap HW1.out.blk _).trans rfl
  have ys1 : w1.cell? ⟨bw, 7, none⟩ = some (.int .u64 sm.2) := (Lib.cell_of_heap HW1.out.blk _).trans rfl
  have hrb : w1.heap[w.heap.size]? = some (.cells #[.int .u64 0, .int .u64 0] 26 (0, 0)) := by
    rw [hb1.block _ (by simp)]
    exact World.alloc_heap_new w _
  have r0 : w1.cell? ⟨w.heap.size, 0, none⟩ = some (.int .u64 0) := (Lib.cell_of_heap hrb _).trans rfl
  have r1 : w1.cell? ⟨w.heap.size, 1, none⟩ = some (.int .u64 0) := (Lib.cell_of_heap hrb _).trans rfl
  have rf0 : w1.frozen? ⟨w.heap.size, 0, none⟩ = false := Lib.frozen_of_heap hrb _
  have rf1 : w1.frozen? ⟨w.heap.size, 1, none⟩ = false := Lib.frozen_of_heap hrb _
  have hrl : w.heap.size < w1.heap.size := lt_heap hrb
  have HRB : Hid (_) := hrb
  clear hrb
  have hyl : ¬ ((yr.length : Int) + 1 = 0) := by omega
  have hsm : Hid (sm = sumL f y yr) := H1.sum y yr rfl
  clear hb1 HL
  go_wp2
  refine bodyPost_ret (by simp [results, Try.results10, go_sem, r0, r1]; try rfl) rfl ?_
  exact ⟨by rw [hsm.out], (hb0.setCell (p := ⟨w.heap.size, 0, none⟩) (Nat.le_refl _) _).setCell (p := ⟨w.heap.size, 1, none⟩) (Nat.le_refl _) _⟩

set_option maxRecDepth 100000 in
set_option maxHeartbeats 8000000 in
theorem allT_a {f : Int × Int → Int × Int → Int × Int} {w : World} {bw : Nat} {op : Value} {nt : Int × Int} {c : Int} {x : Int × Int} {xr : List (Int × Int)} {F : Nat → Prop} {ok : Nat → Int × Int → Prop} {G : Nat → Prop} {I : Nat → World → Prop} {n : Nat} (O : OpT op f ok G I) (H : StT f op nt ok G I w bw c n (x :: xr) [] F) :
    Calls Try.prog 10 #[.pointer (some ⟨bw, 0, none⟩)] w fun e w' => e = .returned (.agg #[.int .u64 (sumR f x xr).1, .int .u64 (sumR f x xr).2]) ∧ Below w.heap.size w w' := by
  obtain ⟨va, vb, sm, H1⟩ := H.win
  have hF := H1.ft
  have hlim := H.lim
  have hbw : bw < w.heap.size := hF _ H1.fw
  have HL : Hid (∀ W, Below w.heap.size w W → Calls Try.prog 17 #[.pointer (some ⟨bw, 0, none⟩)] W fun e w' => e = .returned (.int .i64 (((xr.length + 1) + 0 : Nat) : Int)) ∧ Below W.heap.size W w') := fun W hW =>
    (lenT_any (H1.fr (Fr.of_below (P := fun _ => False) hW) (fun _ _ h => h))).mono (fun e w' h => ⟨h.1, by obtain ⟨q, rfl⟩ := h.2; exact Below.drewN (Below.refl _ _) q⟩)
  obtain ⟨mm, hmm⟩ : ∃ mm : Nat, Hid ((xr.length + 1) + 0 = mm) := ⟨_, rfl⟩
  have hmm0 : ¬ ((mm : Int) = 0) := by have := hmm.out; omega
  rw [hmm.out] at HL
  go_enter Try.func10, Try.ntmps10
  go_wp2_with fail
  refine (HL.out _ (by go_grown)).mono ?_
  rintro e w1 ⟨rfl, hb1⟩
  have hb0 : Below w.heap.size w w1 := ((Below.refl _ w).alloc (Nat.le_refl _) _).trans (hb1.mono (by simp))
  have HW1 : Hid (WinT f w1 bw op nt c (x :: xr) [] F va vb sm) := H1.fr (Fr.of_below (P := fun _ => False) hb0) (fun _ _ h => h)
  obtain ⟨pa, ca, hpa⟩ := row_form HW1.out.ra
  obtain ⟨pb, cb, hpb⟩ := row_form HW1.out.rb
  have yl : w1.cell? ⟨bw, 4, none⟩ = some (.slice pa (xr.length + 1) ca) := by rw [Lib.cell_of_heap HW1.out.blk, hpa]; rfl
  have yb : w1.cell? ⟨bw, 5, none⟩ = some (.slice pb 0 cb) := by rw [Lib.cell_of_heap HW1.out.blk, hpb]; rfl
  clear hpa hpb
  have yn0 : w1.cell? ⟨bw, 1, none⟩ = some (.int .u64 nt.1) := (Lib.cell_of_heap HW1.out.blk _).trans rfl
  have ys0 : w1.cell? ⟨bw, 6, none⟩ = some (.int .u64 sm.1) := (Lib.cell_of_heap HW1.out.blk _).trans rfl
  have yn1 : w1.cell? ⟨bw, 2, none⟩ = some (.int .u64 nt.2) := (Lib.cell_of_heap HW1.out.blk _).trans rfl
  have ys1 : w1.cell? ⟨bw, 7, none⟩ = some (.int .u64 sm.2) := (Lib.cell_of_heap HW1.out.blk _).trans rfl
  have hrb : w1.heap[w.heap.size]? = some (.cells #[.int .u64 0, .int .u64 0] 26 (0, 0)) := by
    rw [hb1.block _ (by simp)]
    exact World.alloc_heap_new w _
  have r0 : w1.cell? ⟨w.heap.size, 0, none⟩ = some (.int .u64 0) := (Lib.cell_of_heap hrb _).trans rfl
  have r1 : w1.cell? ⟨w.heap.size, 1, none⟩ = some (.int .u64 0) := (Lib.cell_of_heap hrb _).trans rfl
  have rf0 : w1.frozen? ⟨w.heap.size, 0, none⟩ = false := Lib.frozen_of_heap hrb _
  have rf1 : w1.frozen? ⟨w.heap.size, 1, none⟩ = false := Lib.frozen_of_heap hrb _
  have hrl : w.heap.size < w1.heap.size := lt_heap hrb
  have HRB : Hid (_) := hrb
  clear hrb
  have hxl : ¬ ((xr.length : Int) + 1 = 0) := by omega
  have HSA : Hid (∀ U', Below w1.heap.size w1 U' → Calls Try.prog 30 #[.pointer (some ⟨bw, 0, none⟩)] U' fun e w' => e = .returned (.agg #[.int .u64 (sumR f x xr).1, .int .u64 (sumR f x xr).2]) ∧ Below U'.heap.size U' w') := fun U' h' => sumAT_any (HW1.out.fr (Fr.of_below (P := fun _ => False) h') (fun _ _ h => h))
  clear hb1 HL
  go_wp2_with (go_at_call 30; refine (HSA.out _ (Below.refl _ w1)).mono ?_; rintro e w2 ⟨rfl, hb2⟩; have q0 : w2.cell? ⟨w.heap.size, 0, none⟩ = some (.int .u64 0) := (hb2.cell (p := ⟨w.heap.size, 0, none⟩) hrl).trans r0; have qf0 : w2.frozen? ⟨w.heap.size, 0, none⟩ = false := (hb2.frozen (p := ⟨w.heap.size, 0, none⟩) hrl).trans rf0; have q1 : w2.cell? ⟨w.heap.size, 1, none⟩ = some (.int .u64 0) := (hb2.cell (p := ⟨w.heap.size, 1, none⟩) hrl).trans r1; have qf1 : w2.frozen? ⟨w.heap.size, 1, none⟩ = false := (hb2.frozen (p := ⟨w.heap.size, 1, none⟩) hrl).trans rf1)
  refine bodyPost_ret (by simp [results, Try.results10, go_sem, q0, q1]; try rfl) rfl ?_
  have hb3 : Below w.heap.size w w2 := hb0.trans (hb2.mono hb0.size)
  exact ⟨rfl, (hb3.setCell (p := ⟨w.heap.size, 0, none⟩) (Nat.le_refl _) _).setCell (p := ⟨w.heap.size, 1, none⟩) (Nat.le_refl _) _⟩

set_option maxRecDepth 100000 in
set_option maxHeartbeats 8000000 in
theorem allT_ab {f : Int × Int → Int × Int → Int × Int} {w : World} {bw : Nat} {op : Value} {nt : Int × Int} {c : Int} {x : Int × Int} {xr : List (Int × Int)} {y : Int × Int} {yr : List (Int × Int)} {F : Nat → Prop} {ok : Nat → Int × Int → Prop} {G : Nat → Prop} {I : Nat → World → Prop} {n : Nat} (O : OpT op f ok G I) (H : StT f op nt ok G I w bw c n (x :: xr) (y :: yr) F) :
    Calls Try.prog 10 #[.pointer (some ⟨bw, 0, none⟩)] w fun e w' => e = .returned (.agg #[.int .u64 (f (sumR f x xr) (sumL f y yr)).1, .int .u64 (f (sumR f x xr) (sumL f y yr)).2]) ∧ Hid (StT f op nt ok G I w' bw (wrap64 (c + 1)) (n + 1) (x :: xr) (y :: yr) (FF F w w') ∧ Fr (fun k => F k ∨ G k) w w') := by
  obtain ⟨va, vb, sm, H1⟩ := H.win
  have hF := H1.ft
  have hlim := H.lim
  have hbw : bw < w.heap.size := hF _ H1.fw
  have HL : Hid (∀ W, Below w.heap.size w W → Calls Try.prog 17 #[.pointer (some ⟨bw, 0, none⟩)] W fun e w' => e = .returned (.int .i64 (((xr.length + 1) + (yr.length + 1) : Nat) : Int)) ∧ Below W.heap.size W w') := fun W hW =>
    (lenT_any (H1.fr (Fr.of_below (P := fun _ => False) hW) (fun _ _ h => h))).mono (fun e w' h => ⟨h.1, by obtain ⟨q, rfl⟩ := h.2; exact Below.drewN (Below.refl _ _) q⟩)
  obtain ⟨mm, hmm⟩ : ∃ mm : Nat, Hid ((xr.length + 1) + (yr.length + 1) = mm) := ⟨_, rfl⟩
  have hmm0 : ¬ ((mm : Int) = 0) := by have := hmm.out; omega
  rw [hmm.out] at HL
  go_enter Try.func10, Try.ntmps10
  go_wp2_with fail
  refine (HL.out _ (by go_grown)).mono ?_
  rintro e w1 ⟨rfl, hb1⟩
  have hb0 : Below w.heap.size w w1 := ((Below.refl _ w).alloc (Nat.le_refl _) _).trans (hb1.mono (by simp))
  have HW1 : Hid (WinT f w1 bw op nt c (x :: xr) (y :: yr) F va vb sm) := H1.fr (Fr.of_below (P := fun _ => False) hb0) (fun _ _ h => h)
  obtain ⟨pa, ca, hpa⟩ := row_form HW1.out.ra
  obtain ⟨pb, cb, hpb⟩ := row_form HW1.out.rb
  have yl : w1.cell? ⟨bw, 4, none⟩ = some (.slice pa (xr.length + 1) ca) := by rw [Lib.cell_of_heap HW1.out.blk, hpa]; rfl
  have yb : w1.cell? ⟨bw, 5, none⟩ = some (.slice pb (yr.length + 1) cb) := by rw [Lib.cell_of_heap HW1.out.blk, hpb]; rfl
  clear hpa hpb
  have yn0 : w1.cell? ⟨bw, 1, none⟩ = some (.int .u64 nt.1) := (Lib.cell_of_heap HW1.out.blk _).trans rfl
  have ys0 : w1.cell? ⟨bw, 6, none⟩ = some (.int .u64 sm.1) := (Lib.cell_of_heap HW1.out.blk _).trans rfl
  have yn1 : w1.cell? ⟨bw, 2, none⟩ = some (.int .u64 nt.2) := (Lib.cell_of_heap HW1.out.blk _).trans rfl
  have ys1 : w1.cell? ⟨bw, 7, none⟩ = some (.int .u64 sm.2) := (Lib.cell_of_heap HW1.out.blk _).trans rfl
  have hrb : w1.heap[w.heap.size]? = some (.cells #[.int .u64 0, .int .u64 0] 26 (0, 0)) := by
    rw [hb1.block _ (by simp)]
    exact World.alloc_heap_new w _
  have r0 : w1.cell? ⟨w.heap.size, 0, none⟩ = some (.int .u64 0) := (Lib.cell_of_heap hrb _).trans rfl
  have r1 : w1.cell? ⟨w.heap.size, 1, none⟩ = some (.int .u64 0) := (Lib.cell_of_heap hrb _).trans rfl
  have rf0 : w1.frozen? ⟨w.heap.size, 0, none⟩ = false := Lib.frozen_of_heap hrb _
  have rf1 : w1.frozen? ⟨w.heap.size, 1, none⟩ = false := Lib.frozen_of_heap hrb _
  have hrl : w.heap.size < w1.heap.size := lt_heap hrb
  have HRB : Hid (_) := hrb
  clear hrb
  have hxl : ¬ ((xr.length : Int) + 1 = 0) := by omega
  have hyl : ¬ ((yr.length : Int) + 1 = 0) := by omega
  have hsm : Hid (sm = sumL f y yr) := H1.sum y yr rfl
  have HSA : Hid (∀ U', Below w1.heap.size w1 U' → Calls Try.prog 30 #[.pointer (some ⟨bw, 0, none⟩)] U' fun e w' => e = .returned (.agg #[.int .u64 (sumR f x xr).1, .int .u64 (sumR f x xr).2]) ∧ Below U'.heap.size U' w') := fun U' h' => sumAT_any (HW1.out.fr (Fr.of_below (P := fun _ => False) h') (fun _ _ h => h))
  clear hb1 HL
  have HI1 : Hid (I n w1) := O.stay _ _ _ _ H.st (Fr.of_below (P := fun _ => False) hb0) (fun _ _ h => h)
  have hll : xr.length + 1 + (yr.length + 1) ≤ 4096 := by simpa using hlim
  have hokx : ok (xr.length + 1) (sumR f x xr) := ok_sumR O.okf x xr (H.okX x (by simp)) (fun z hz => H.okX z (by simp [hz])) (by omega)
  have hoky : ok (1 + yr.length) sm := by rw [hsm.out]; exact ok_sumL O.okf yr y 1 (H.okY y (by simp)) (fun z hz => H.okY z (by simp [hz])) (by omega)
  obtain ⟨t, ht⟩ : ∃ t, Hid (sumR f x xr = t) := ⟨_, rfl⟩
  rw [ht.out] at HSA hokx
  have HJ : Hid (∀ U', Below w1.heap.size w1 U' → Calls Try.prog 29 #[.pointer (some ⟨bw, 0, none⟩), (.agg #[.int .u64 t.1, .int .u64 t.2]), (.agg #[.int .u64 sm.1, .int .u64 sm.2])] U' fun e w' => e = .returned (.agg #[.int .u64 (f t sm).1, .int .u64 (f t sm).2]) ∧ Hid (I (n + 1) w' ∧ Fr (fun k => k = bw ∨ G k) w1 w' ∧
      w'.heap[bw]? = some (.cells #[op, .int .u64 nt.1, .int .u64 nt.2, .int .i64 (wrap64 (c + 1)), va, vb, .int .u64 sm.1, .int .u64 sm.2] 60 (0, 0)))) := fun U' h' =>
    (joinT_any O t sm hokx hoky (by omega) (HW1.out.fr (Fr.of_below (P := fun _ => False) h') (fun _ _ h => h)) (O.stay _ _ _ _ HI1.out (Fr.of_below (P := fun _ => False) h') (fun _ _ h => h)) H.dis).mono (fun e w' h => ⟨h.1, h.2.1, (Fr.of_below h').trans h.2.2.1 (fun i e => Or.inl e), h.2.2.2⟩)
  have hbW1 : bw < w1.heap.size := lt_heap HW1.out.blk
  go_wp2
  go_region_with (first | (go_at_call 30; refine (HSA.out _ (Below.refl _ w1).drew).mono ?_; rintro e w2 ⟨rfl, hb2'⟩; have hb2 : Below w1.heap.size w1 w2 := ⟨hb2'.os, hb2'.tape, hb2'.output, hb2'.size, hb2'.block⟩; clear hb2'; have js0 := (hb2.cell (p := ⟨bw, 6, none⟩) hbW1).trans ys0; have js1 := (hb2.cell (p := ⟨bw, 7, none⟩) hbW1).trans ys1) | (go_at_call 29; refine (HJ.out _ hb2).mono ?_; rintro e w3 ⟨rfl, hJ⟩; have hR3 := hJ.out.2.1.heap HRB.out (fun h => h.elim (fun q => by omega) (fun q => by have := O.glt _ _ _ H.st q; omega)); have jr0 : w3.cell? ⟨w.heap.size, 0, none⟩ = some (.int .u64 0) := (Lib.cell_of_heap hR3 _).trans rfl; have jf0 : w3.frozen? ⟨w.heap.size, 0, none⟩ = false := Lib.frozen_of_heap hR3 _; have jr1 : w3.cell? ⟨w.heap.size, 1, none⟩ = some (.int .u64 0) := (Lib.cell_of_heap hR3 _).trans rfl; have jf1 : w3.frozen? ⟨w.heap.size, 1, none⟩ = false := Lib.frozen_of_heap hR3 _; clear hR3))
  all_goals (
    go_wp2
    refine bodyPost_ret (by simp [results, Try.results10, go_sem, jr0, jr1]; try rfl) rfl ?_
    refine ⟨by rw [hsm.out, ht.out], ?_⟩
    have f4 : Fr (fun k => k = w.heap.size) w3 _ := ((Fr.refl (fun k => k = w.heap.size) w3).setCell (p := ⟨w.heap.size, 0, none⟩) (Or.inl rfl) (.int .u64 (f t sm).1)).setCell (p := ⟨w.heap.size, 1, none⟩) (Or.inl rfl) (.int .u64 (f t sm).2)
    exact allfinT O H hF hb0 HW1.out hJ.out.1 hJ.out.2.1 hJ.out.2.2 f4)
end Go.Proofs.Ytondchfhdhllhaa

namespace Go.Proofs.Ytondchfhdhllhaa
open Go.RowKit Go.Shelf
set_option linter.unusedVariables false

/-- The window in block bw has the things L, in order; its blocks are of F. -/
def PQT (f : Int × Int → Int × Int → Int × Int) (op : Value) (nt : Int × Int) (ok : Nat → Int × Int → Prop) (w : World) (bw : Nat) (L : List (Int × Int)) (F : Nat → Prop) : Prop := ∃ X Y c n, X ++ Y = L ∧ StT f op nt ok (fun _ => False) (fun _ _ => True) w bw c n X Y F
/-- .. behind a call. -/
def QNT (f : Int × Int → Int × Int → Int × Int) (op : Value) (nt : Int × Int) (ok : Nat → Int × Int → Prop) (w w' : World) (bw : Nat) (L : List (Int × Int)) (F : Nat → Prop) : Prop := ∃ F', PQT f op nt ok w' bw L F' ∧ (∀ k, F' k → F k ∨ w.heap.size ≤ k) ∧ Fr F w w'
theorem PQT.fr {f : Int × Int → Int × Int → Int × Int} {op : Value} {nt : Int × Int} {ok : Nat → Int × Int → Prop} {w : World} {bw : Nat} {L : List (Int × Int)} {F : Nat → Prop} {w' : World} {P : Nat → Prop} (O : OpT op f ok (fun _ => False) (fun _ _ => True)) (H : PQT f op nt ok w bw L F) (h : Fr P w w') (hp : ∀ k, F k → ¬ P k) : PQT f op nt ok w' bw L F := by
  obtain ⟨X, Y, c, n, e, H⟩ := H
  exact ⟨X, Y, c, n, e, H.fr O h hp (fun _ g => g.elim)⟩
theorem PQT.lt {f : Int × Int → Int × Int → Int × Int} {op : Value} {nt : Int × Int} {ok : Nat → Int × Int → Prop} {w : World} {bw : Nat} {L : List (Int × Int)} {F : Nat → Prop} (H : PQT f op nt ok w bw L F) : (∀ k, F k → k < w.heap.size) ∧ F bw := by
  obtain ⟨X, Y, c, n, e, H⟩ := H
  obtain ⟨va, vb, sm, H1⟩ := H.win
  exact ⟨H1.ft, H1.fw⟩
theorem PQT.len {f : Int × Int → Int × Int → Int × Int} {op : Value} {nt : Int × Int} {ok : Nat → Int × Int → Prop} {w : World} {bw : Nat} {L : List (Int × Int)} {F : Nat → Prop} (H : PQT f op nt ok w bw L F) : L.length ≤ 4096 := by
  obtain ⟨X, Y, c, n, rfl, H⟩ := H
  have := H.lim
  simpa using this
theorem PQT.ok {f : Int × Int → Int × Int → Int × Int} {op : Value} {nt : Int × Int} {ok : Nat → Int × Int → Prop} {w : World} {bw : Nat} {L : List (Int × Int)} {F : Nat → Prop} (H : PQT f op nt ok w bw L F) : ∀ x ∈ L, ok 1 x := by
  obtain ⟨X, Y, c, n, rfl, H⟩ := H
  intro x hx
  rcases List.mem_append.1 hx with h | h
  · exact H.okX x h
  · exact H.okY x h
theorem qnT_of {f : Int × Int → Int × Int → Int × Int} {op : Value} {nt : Int × Int} {ok : Nat → Int × Int → Prop} {w : World} {bw : Nat} {F : Nat → Prop} {w' : World} {X Y L' : List (Int × Int)} {c : Int} {n : Nat} (hF : ∀ k, F k → k < w.heap.size) (e : X ++ Y = L') (h : StT f op nt ok (fun _ => False) (fun _ _ => True) w' bw c n X Y (FF F w w') ∧ Fr (fun k => F k ∨ False) w w') : QNT f op nt ok w w' bw L' F :=
  ⟨_, ⟨X, Y, c, n, e, h.1⟩, fun k h => h.elim Or.inl (fun q => Or.inr q.1), h.2.mono (fun k h => h.elim Or.inl (fun h => h.elim))⟩
theorem qnT_below {f : Int × Int → Int × Int → Int × Int} {op : Value} {nt : Int × Int} {ok : Nat → Int × Int → Prop} {w : World} {bw : Nat} {L : List (Int × Int)} {F : Nat → Prop} {w' : World} (O : OpT op f ok (fun _ => False) (fun _ _ => True)) (H : PQT f op nt ok w bw L F) (h : Below w.heap.size w w') : QNT f op nt ok w w' bw L F :=
  ⟨F, H.fr O (Fr.of_below (P := fun _ => False) h) (fun _ _ h => h), fun _ h => Or.inl h, Fr.of_below h⟩
theorem QNT.trans {f : Int × Int → Int × Int → Int × Int} {op : Value} {nt : Int × Int} {ok : Nat → Int × Int → Prop} {w : World} {bw : Nat} {F : Nat → Prop} {w1 w2 : World} {L2 : List (Int × Int)} {F1 : Nat → Prop} (h : ∀ k, F1 k → F k ∨ w.heap.size ≤ k) (hf : Fr F w w1) (h2 : QNT f op nt ok w1 w2 bw L2 F1) : QNT f op nt ok w w2 bw L2 F := by
  obtain ⟨F2, a, b, c⟩ := h2
  exact ⟨F2, a, fun k hk => (b k hk).elim (h k) (fun q => Or.inr (Nat.le_trans hf.size q)), hf.trans c (fun i e => h i e)⟩

theorem qnewT {f : Int × Int → Int × Int → Int × Int} {ok : Nat → Int × Int → Prop} {K : FuncId} {caps : Array Value} (O : OpT (.func (.func K) #[] caps) f ok (fun _ => False) (fun _ _ => True)) (nt : Int × Int) (w : World) :
    Calls Try.prog 7 #[.func (.func K) #[] caps, (.agg #[.int .u64 nt.1, .int .u64 nt.2])] w fun e w' => ∃ bw, e = .returned (.pointer (some ⟨bw, 0, none⟩)) ∧ Hid (w.heap.size ≤ bw ∧ Below w.heap.size w w' ∧ PQT f (.func (.func K) #[] caps) nt ok w' bw [] (fun k => k = bw)) :=
  (newT_any f K caps nt w).mono fun e w' ⟨bw, h1, h2, h3, h4⟩ => ⟨bw, h1, h2, h3, [], [], 0, 0, rfl, ⟨⟨_, _, _, h4⟩, trivial, (fun x h => by cases h), (fun x h => by cases h), fun _ _ h => h, by simp⟩⟩
theorem qpushT {f : Int × Int → Int × Int → Int × Int} {op : Value} {nt : Int × Int} {ok : Nat → Int × Int → Prop} {w : World} {bw : Nat} {L : List (Int × Int)} {F : Nat → Prop} (O : OpT op f ok (fun _ => False) (fun _ _ => True)) (H : PQT f op nt ok w bw L F) (x : Int × Int) (hx : ok 1 x) (hl : L.length < 4096) :
    Calls Try.prog 9 #[.pointer (some ⟨bw, 0, none⟩), (.agg #[.int .u64 x.1, .int .u64 x.2])] w fun e w' => e = .returned (.int .i64 0) ∧ Hid (QNT f op nt ok w w' bw (L ++ [x]) F) := by
  have hF := H.lt.1
  obtain ⟨X, Y, c, n, rfl, H⟩ := H
  rw [List.length_append] at hl
  cases Y with
  | nil => exact (pushT_first O x hx H (by simpa using hl)).mono fun e w' h => ⟨h.1, qnT_of hF (by simp) h.2.out⟩
  | cons y r => exact (pushT_more O x hx H (by simpa using hl)).mono fun e w' h => ⟨h.1, qnT_of hF (by simp) h.2.out⟩
theorem qfullT {f : Int × Int → Int × Int → Int × Int} {op : Value} {nt : Int × Int} {ok : Nat → Int × Int → Prop} {w : World} {bw : Nat} {L : List (Int × Int)} {F : Nat → Prop} (O : OpT op f ok (fun _ => False) (fun _ _ => True)) (H : PQT f op nt ok w bw L F) (x : Int × Int) (hl : L.length = 4096) :
    Calls Try.prog 9 #[.pointer (some ⟨bw, 0, none⟩), (.agg #[.int .u64 x.1, .int .u64 x.2])] w fun e w' => e = .returned (.int .i64 3) ∧ Hid (QNT f op nt ok w w' bw L F) := by
  have H0 := H
  obtain ⟨X, Y, c, n, rfl, H⟩ := H
  rw [List.length_append] at hl
  exact (pushT_full x H hl).mono fun e w' h => ⟨h.1, qnT_below O H0 h.2⟩
theorem qpop0T {f : Int × Int → Int × Int → Int × Int} {op : Value} {nt : Int × Int} {ok : Nat → Int × Int → Prop} {w : World} {bw : Nat} {F : Nat → Prop} (O : OpT op f ok (fun _ => False) (fun _ _ => True)) (H : PQT f op nt ok w bw [] F) :
    Calls Try.prog 20 #[.pointer (some ⟨bw, 0, none⟩)] w fun e w' => e = .returned (.tuple #[(.agg #[.int .u64 ((0, 0) : Int × Int).1, .int .u64 ((0, 0) : Int × Int).2]), .int .i64 110]) ∧ Hid (QNT f op nt ok w w' bw [] F) := by
  have H0 := H
  obtain ⟨X, Y, c, n, e, H⟩ := H
  obtain ⟨rfl, rfl⟩ := List.append_eq_nil_iff.1 e
  exact (popT_none H).mono fun e w' h => ⟨h.1, qnT_below O H0 h.2⟩
theorem qpopT {f : Int × Int → Int × Int → Int × Int} {op : Value} {nt : Int × Int} {ok : Nat → Int × Int → Prop} {w : World} {bw : Nat} {L : List (Int × Int)} {F : Nat → Prop} (O : OpT op f ok (fun _ => False) (fun _ _ => True)) {x : Int × Int} (H : PQT f op nt ok w bw (x :: L) F) :
    Calls Try.prog 20 #[.pointer (some ⟨bw, 0, none⟩)] w fun e w' => e = .returned (.tuple #[(.agg #[.int .u64 x.1, .int .u64 x.2]), .int .i64 0]) ∧ Hid (QNT f op nt ok w w' bw L F) := by
  have hF := H.lt.1
  obtain ⟨X, Y, c, n, e, H⟩ := H
  cases X with
  | nil =>
    rw [List.nil_append] at e
    subst e
    exact (popT_turn O H).mono fun e w' h => ⟨h.1, qnT_of hF (by simp) h.2.out⟩
  | cons a X =>
    rw [List.cons_append] at e
    injection e with e1 e2
    subst e1
    exact (popT_some O H).mono fun e w' h => ⟨h.1, qnT_of hF e2 h.2.out⟩
theorem qall0T {f : Int × Int → Int × Int → Int × Int} {op : Value} {nt : Int × Int} {ok : Nat → Int × Int → Prop} {w : World} {bw : Nat} {F : Nat → Prop} (O : OpT op f ok (fun _ => False) (fun _ _ => True)) (H : PQT f op nt ok w bw [] F) :
    Calls Try.prog 10 #[.pointer (some ⟨bw, 0, none⟩)] w fun e w' => e = .returned (.agg #[.int .u64 nt.1, .int .u64 nt.2]) ∧ Hid (QNT f op nt ok w w' bw [] F) := by
  have H0 := H
  obtain ⟨X, Y, c, n, e, H⟩ := H
  obtain ⟨rfl, rfl⟩ := List.append_eq_nil_iff.1 e
  exact (allT_none O H).mono fun e w' h => ⟨h.1, qnT_below O H0 h.2⟩
theorem qallT {f : Int × Int → Int × Int → Int × Int} {op : Value} {nt : Int × Int} {ok : Nat → Int × Int → Prop} {w : World} {bw : Nat} {L : List (Int × Int)} {F : Nat → Prop} (O : OpT op f ok (fun _ => False) (fun _ _ => True)) (ha : ∀ a b c, f (f a b) c = f a (f b c)) {x : Int × Int} (H : PQT f op nt ok w bw (x :: L) F) :
    Calls Try.prog 10 #[.pointer (some ⟨bw, 0, none⟩)] w fun e w' => e = .returned (.agg #[.int .u64 (sumL f x L).1, .int .u64 (sumL f x L).2]) ∧ Hid (QNT f op nt ok w w' bw (x :: L) F) := by
  have hF := H.lt.1
  have H0 := H
  obtain ⟨X, Y, c, n, e, H⟩ := H
  cases X with
  | nil =>
    rw [List.nil_append] at e
    subst e
    exact (allT_b O H).mono fun e w' h => ⟨h.1, qnT_below O H0 h.2⟩
  | cons a X =>
    rw [List.cons_append] at e
    injection e with e1 e2
    subst e1
    cases Y with
    | nil =>
      rw [List.append_nil] at e2
      subst e2
      rw [← sumR_L f ha]
      exact (allT_a O H).mono fun e w' h => ⟨h.1, qnT_below O H0 h.2⟩
    | cons y r =>
      subst e2
      rw [sum_app f ha]
      exact (allT_ab O H).mono fun e w' h => ⟨h.1, qnT_of hF (by simp) h.2.out⟩
theorem qlenT {f : Int × Int → Int × Int → Int × Int} {op : Value} {nt : Int × Int} {ok : Nat → Int × Int → Prop} {w : World} {bw : Nat} {L : List (Int × Int)} {F : Nat → Prop} (O : OpT op f ok (fun _ => False) (fun _ _ => True)) (H : PQT f op nt ok w bw L F) :
    Calls Try.prog 17 #[.pointer (some ⟨bw, 0, none⟩)] w fun e w' => e = .returned (.int .i64 (L.length : Nat)) ∧ Hid (QNT f op nt ok w w' bw L F) := by
  have H0 := H
  obtain ⟨X, Y, c, n, rfl, H⟩ := H
  obtain ⟨va, vb, sm, H1⟩ := H.win
  rw [List.length_append]
  exact (lenT_any H1).mono fun e w' h => ⟨h.1, by obtain ⟨q, rfl⟩ := h.2; exact qnT_below O H0 (Below.drewN (Below.refl _ _) q)⟩
end Go.Proofs.Ytondchfhdhllhaa

namespace Go.Proofs.Ytondchfhdhllhaa
open Go.RowKit Go.Shelf
set_option linter.unusedVariables false

def celS (x : ByteArray) : List Value := [.string x]
def flS (L : List (ByteArray)) : List Value := L.flatMap celS
def tcS (p : (ByteArray) × (ByteArray)) : List Value := celS p.1 ++ celS p.2
def tflS (L : List ((ByteArray) × (ByteArray))) : List Value := L.flatMap tcS
theorem tflS_len (L : List ((ByteArray) × (ByteArray))) : (tflS L).length = L.length * 2 := by
  induction L with
  | nil => rfl
  | cons x r ih => simp only [tflS, List.flatMap_cons, List.length_append, List.length_cons] at ih ⊢; rw [ih]; simp [tcS, celS]; omega
theorem flS_snoc (L : List (ByteArray)) (x : ByteArray) : flS (L ++ [x]) = flS L ++ celS x := by simp [flS]
theorem tflS_snoc (L : List ((ByteArray) × (ByteArray))) (x : (ByteArray) × (ByteArray)) : tflS (L ++ [x]) = tflS L ++ tcS x := by simp [tflS]

/-- The window in block bw: the things ahead X, those behind Y; F holds of its blocks. -/
structure WinS (f : ByteArray → ByteArray → ByteArray) (w : World) (bw : Nat) (op : Value) (nt : ByteArray) (c : Int) (X Y : List (ByteArray)) (F : Nat → Prop) (va vb : Value) (sm : ByteArray) : Prop where
  blk : w.heap[bw]? = some (.cells #[op, .string nt, .int .i64 c, va, vb, .string sm] 67 (0, 0))
  ra : w.ownsRow 0 69 2 va X.length (tflS (tls f X).reverse)
  rb : w.ownsRow 0 9 1 vb Y.length (flS Y)
  sum : ∀ x r, Y = x :: r → sm = sumL f x r
  lim : X.length + Y.length ≤ 8192
  fw : F bw
  fa : ∀ k, va.ownBlock = some k → F k
  fb : ∀ k, vb.ownBlock = some k → F k
  ft : ∀ k, F k → k < w.heap.size

section
variable {f : ByteArray → ByteArray → ByteArray} {w w' : World} {bw : Nat} {op : Value} {nt : ByteArray} {c : Int} {X Y : List (ByteArray)} {F F' P : Nat → Prop} {va vb : Value} {sm : ByteArray}
theorem WinS.fr (H : WinS f w bw op nt c X Y F va vb sm) (h : Fr P w w') (hp : ∀ k, F k → ¬ P k) : WinS f w' bw op nt c X Y F va vb sm :=
  ⟨h.heap H.blk (hp _ H.fw), h.row H.ra (fun k e => hp _ (H.fa k e)), h.row H.rb (fun k e => hp _ (H.fb k e)), H.sum, H.lim, H.fw, H.fa, H.fb, fun k hk => Nat.lt_of_lt_of_le (H.ft k hk) h.size⟩
theorem WinS.wide (H : WinS f w bw op nt c X Y F va vb sm) (h : ∀ k, F k → F' k) (ht : ∀ k, F' k → k < w.heap.size) : WinS f w bw op nt c X Y F' va vb sm :=
  ⟨H.blk, H.ra, H.rb, H.sum, H.lim, h _ H.fw, fun k e => h _ (H.fa k e), fun k e => h _ (H.fb k e), ht⟩
end

/-- What the window's operation is: f, among things that are ok; it may change blocks of G, where it keeps a state, told by I and how often it was called. -/
structure OpS (op : Value) (f : ByteArray → ByteArray → ByteArray) (ok : Nat → ByteArray → Prop) (G : Nat → Prop) (I : Nat → World → Prop) : Prop where
  form : ∃ K caps, op = .func (.func K) #[] caps ∧ (∀ args w, (callFunc K args).run Try.prog w = .ok (.enter K args) w) ∧
    ∀ n i j x y w, ok i x → ok j y → i + j ≤ 8192 → I n w → Calls Try.prog K (#[(.string x), (.string y)] ++ caps) w fun e w' => e = .returned (.string (f x y)) ∧ I (n + 1) w' ∧ Fr G w w'
  okf : ∀ i j x y, ok i x → ok j y → i + j ≤ 8192 → ok (i + j) (f x y)
  stay : ∀ n w w' P, I n w → Fr P w w' → (∀ k, G k → ¬ P k) → I n w'
  glt : ∀ n w k, I n w → G k → k < w.heap.size

set_option maxRecDepth 100000 in
set_option maxHeartbeats 4000000 in
theorem lenS_any {f : ByteArray → ByteArray → ByteArray} {w : World} {bw : Nat} {op : Value} {nt : ByteArray} {c : Int} {X Y : List (ByteArray)} {F : Nat → Prop} {va vb : Value} {sm : ByteArray} (H : WinS f w bw op nt c X Y F va vb sm) :
    Calls Try.prog 28 #[.pointer (some ⟨bw, 0, none⟩)] w fun e w' => e = .returned (.int .i64 ((X.length + Y.length : Nat) : Int)) ∧ ∃ q, w' = w.drewN q := by
  obtain ⟨pa, ca, rfl⟩ := row_form H.ra
  obtain ⟨pb, cb, rfl⟩ := row_form H.rb
  have y1 : w.cell? ⟨bw, 3, none⟩ = some (.slice pa X.length ca) := by rw [Lib.cell_of_heap H.blk]; rfl
  have y2 : w.cell? ⟨bw, 4, none⟩ = some (.slice pb Y.length cb) := by rw [Lib.cell_of_heap H.blk]; rfl
  have hl := H.lim
  have hL : (X.length : Int) + Y.length ≤ 8192 := by omega
  go_enter Try.func28, Try.ntmps28
  go_wp2
  go_quiet (fail)
  go_wp2
  go_ret
  exact ⟨by congr 2, _, rfl⟩

set_option maxRecDepth 100000 in
set_option maxHeartbeats 4000000 in
theorem sumAS_any {f : ByteArray → ByteArray → ByteArray} {w : World} {bw : Nat} {op : Value} {nt : ByteArray} {c : Int} {x : ByteArray} {r Y : List (ByteArray)} {F : Nat → Prop} {va vb : Value} {sm : ByteArray} (H : WinS f w bw op nt c (x :: r) Y F va vb sm) :
    Calls Try.prog 39 #[.pointer (some ⟨bw, 0, none⟩)] w fun e w' => e = .returned (.string (sumR f x r)) ∧ Below w.heap.size w w' := by
  have hra := H.ra
  have hlt := lt_heap H.blk
  obtain ⟨hn, ⟨e, hn0⟩ | ⟨g, cap, cur, rfl, -, hg, hc1, hc2, -⟩⟩ := hra
  · exact absurd hn0 (by simp)
  have hgl := lt_heap hg
  have y1 : w.cell? ⟨bw, 3, none⟩ = some (.slice (some ⟨g, 0, none⟩) (r.length + 1) cap) := by rw [Lib.cell_of_heap H.blk]; rfl
  have hrow := H.ra
  have e0 : tflS (tls f (x :: r)).reverse = tflS (tls f r).reverse ++ tcS (x, sumR f x r) := by simp only [tls, List.reverse_cons]; exact tflS_snoc _ _
  have e1 : (tflS (tls f r).reverse).length = r.length * 2 := by rw [tflS_len, List.length_reverse, tls_len]
  have z : ∀ j, j < 1 → w.cell? ⟨g, r.length * 2 + (1 + j), none⟩ = (celS (sumR f x r))[j]? := fun j hj => by
    rw [hrow.cellAt _ (by simp; omega), e0, List.getElem?_append_right (by rw [e1]; omega), e1, show r.length * 2 + (1 + j) - r.length * 2 = 1 + j by omega]
    rw [show tcS (x, sumR f x r) = celS x ++ celS (sumR f x r) from rfl, List.getElem?_append_right (by simp [celS])]
    simp [celS]
  have z0 : w.cell? ⟨g, r.length * 2 + 1, none⟩ = some (.string (sumR f x r)) := z 0 (by omega)
  clear z e0 e1 hrow hn hg
  have hlim := H.lim
  have nR : (0 : Int) < (r.length : Int) + 1 := by omega
  clear H
  have hR : r.length ≤ 8192 := by simp only [List.length_cons] at hlim; omega
  clear hlim hc1
  generalize sumR f x r = q at *
  generalize r.length = m at *
  have m1 : (m : Int) + 1 - 1 = m := by omega
  have m2 : (m : Int) < (m : Int) + 1 := by omega
  have m3 : (0 : Int) ≤ m := by omega
  have m4 : IntKind.i64.wrap (m : Int) = m := by rw [IntKind.wrap_i64]; omega
  have m5 : ((m : Int)).toNat = m := by omega
  have hlw := World.new_ne w ⟨bw, 3, none⟩ y1
  go_enter Try.func39, Try.ntmps39
  go_wp2
  go_quiet (fail)
  go_wp2
  go_ret
  exact ⟨rfl, ⟨rfl, rfl, rfl, Nat.le_refl _, fun _ _ => rfl⟩⟩

set_option maxRecDepth 100000 in
set_option maxHeartbeats 4000000 in
theorem joinS_any {f : ByteArray → ByteArray → ByteArray} {w : World} {bw : Nat} {op : Value} {nt : ByteArray} {c : Int} {X Y : List (ByteArray)} {F : Nat → Prop} {va vb : Value} {sm : ByteArray} {ok : Nat → ByteArray → Prop} {G : Nat → Prop} {I : Nat → World → Prop} {n : Nat} (O : OpS op f ok G I) (x y : ByteArray) {i j : Nat} (hx : ok i x) (hy : ok j y) (hij : i + j ≤ 8192) (H : WinS f w bw op nt c X Y F va vb sm) (hI : I n w) (hd : ∀ k, F k → ¬ G k) :
    Calls Try.prog 37 #[.pointer (some ⟨bw, 0, none⟩), (.string x), (.string y)] w fun e w' => e = .returned (.string (f x y)) ∧ I (n + 1) w' ∧ Fr (fun k => k = bw ∨ G k) w w' ∧
      w'.heap[bw]? = some (.cells #[op, .string nt, .int .i64 (wrap64 (c + 1)), va, vb, .string sm] 67 (0, 0)) := by
  obtain ⟨K, caps, rfl, hK, hcall⟩ := O.form
  have hlt := lt_heap H.blk
  have y0 : w.cell? ⟨bw, 0, none⟩ = some (.func (.func K) #[] caps) := by rw [Lib.cell_of_heap H.blk]; rfl
  have y1 : w.cell? ⟨bw, 2, none⟩ = some (.int .i64 c) := by rw [Lib.cell_of_heap H.blk]; rfl
  have f1 : w.frozen? ⟨bw, 2, none⟩ = false := Lib.frozen_of_heap H.blk _
  have hG : ¬ G bw := hd _ H.fw
  have hblk := H.blk
  have n0 := World.new_ne w ⟨bw, 0, none⟩ y0
  have n1 : bw < w.heap.size + 1 := by omega
  have n2 : bw < w.heap.size + 1 + 1 := by omega
  go_enter Try.func37, Try.ntmps37
  go_wp2
  go_wp2_with (refine (hcall n i j x y _ hx hy hij (O.stay n w _ (fun k => k = bw) hI ((Fr.refl (fun k => k = bw) w).setCell (p := ⟨bw, 2, none⟩) (Or.inl rfl) _) (fun k hk e => hG (e ▸ hk)))).mono ?_; rintro e w1 ⟨rfl, hI2, hF2⟩)
  go_ret
  refine ⟨rfl, hI2, ((Fr.refl (fun k => k = bw ∨ G k) w).setCell (p := ⟨bw, 2, none⟩) (Or.inl (Or.inl rfl)) _).trans hF2 (fun k h => Or.inl (Or.inr h)), ?_⟩
  rw [hF2.block bw (by simp; omega) hG, set_heap hblk]
  rfl
end Go.Proofs.Ytondchfhdhllhaa
