/- The document's walk over a formula: no such kind. -/
import Derived.RangeFuncNested
import Derived.RangeFuncBound
import Derived.RangeFuncCalls
import Derived.RangeFuncLeaves
import Derived.Shelf.Abstract
import Derived.Shelf.RegionOpen
import Derived.WalkKit
import Derived.OwnWalk
import Derived.OwnWalkIn
import Derived.TacticsInMore
import Derived.LoopNIn
import Derived.LoopIn
import Derived.Laws.OwnMore
import Derived.Lib.Builder
import Derived.Maps.AppendAt
import Derived.Handy
import Derived.IntWalk
import Derived.Deep.Cut
import Derived.BigQuiet
import Derived.Deep.QuietTactic
import Derived.WalkLawsBesides
import Derived.WalkMore
import Derived.WalkSpells
import Derived.Deep.RegionHeld3
import Derived.Deep.RegionLaw
import Derived.Test.YtfajjphfjilpnaaGreatRows
import Derived.Test.YtfajjphfjilpnaaGreatZ07
import Derived.Test.YtfajjphfjilpnaaGreatZ03
import Derived.Test.YtfajjphfjilpnaaGreatZ02
import Derived.Test.YtfajjphfjilpnaaGreatZ04

namespace Go.Proofs.YtfajjphfjilpnaaGreat
open Go.RowKit Go.Shelf
set_option linter.unusedVariables false

/-- What was there and is not of P lies as it lay. -/
structure Fr (P : Nat → Prop) (w w' : World) : Prop where
  os : w'.os = w.os
  tape : w'.tape = w.tape
  output : w'.output = w.output
  size : w.heap.size ≤ w'.heap.size
  block : ∀ k, k < w.heap.size → ¬ P k → w'.heap[k]? = w.heap[k]?
theorem Fr.refl (P : Nat → Prop) (w : World) : Fr P w w := ⟨rfl, rfl, rfl, Nat.le_refl _, fun _ _ _ => rfl⟩
theorem Fr.trans {P Q : Nat → Prop} {a b c : World} (h : Fr P a b) (k : Fr Q b c) (hQ : ∀ i, Q i → P i ∨ a.heap.size ≤ i) : Fr P a c :=
  ⟨k.os.trans h.os, k.tape.trans h.tape, k.output.trans h.output, Nat.le_trans h.size k.size, fun i hi hp => (k.block i (Nat.lt_of_lt_of_le hi h.size) (fun q => by rcases hQ i q with q | q; exact hp q; omega)).trans (h.block i hi hp)⟩
theorem Fr.mono {P Q : Nat → Prop} {a b : World} (h : Fr P a b) (hQ : ∀ i, P i → Q i ∨ a.heap.size ≤ i) : Fr Q a b :=
  ⟨h.os, h.tape, h.output, h.size, fun i hi hp => h.block i hi (fun q => by rcases hQ i q with q | q; exact hp q; omega)⟩
theorem Fr.drew {P : Nat → Prop} {a b : World} (h : Fr P a b) : Fr P a b.drew := ⟨h.os, h.tape, h.output, h.size, h.block⟩
theorem Fr.alloc {P : Nat → Prop} {a b : World} (h : Fr P a b) (o : Obj) : Fr P a (b.alloc o) :=
  h.trans (Q := fun _ => False) ⟨rfl, rfl, rfl, by simp, fun k hk _ => Below.heap_alloc _ _ _ hk⟩ (fun _ h => h.elim)
theorem Fr.setCell {P : Nat → Prop} {a b : World} (h : Fr P a b) {p : Addr} (hp : P p.block ∨ a.heap.size ≤ p.block) (u : Value) : Fr P a (b.setCell p u) :=
  h.trans (Q := fun k => k = p.block) ⟨rfl, rfl, rfl, by simp [World.setCell], fun k hk hn => Below.heap_setCell _ _ _ _ hn⟩ (fun i e => by subst e; exact hp)
theorem Fr.grown {P : Nat → Prop} {a b c : World} {row : Option Nat} (h : Fr P a b) (hg : b.grownBy c row) (hr : ∀ k, row = some k → P k ∨ a.heap.size ≤ k) : Fr P a c :=
  h.trans (Q := fun k => row = some k) ⟨hg.os, hg.tape, hg.output, hg.size, fun k hk hn => hg.block k hk (fun e => hn e.symm)⟩ (fun i e => hr i e)
theorem Fr.of_below {P : Nat → Prop} {a b : World} (h : Below a.heap.size a b) : Fr P a b := ⟨h.os, h.tape, h.output, h.size, fun k hk _ => h.block k hk⟩
theorem Fr.below {P : Nat → Prop} {a b : World} {n : Nat} (h : Fr P a b) (hn : n ≤ a.heap.size) (hp : ∀ k, P k → n ≤ k) : Below n a b := ⟨h.os, h.tape, h.output, h.size, fun k hk => h.block k (by omega) (fun q => by have := hp k q; omega)⟩
theorem Fr.row {P : Nat → Prop} {a b : World} (h : Fr P a b) {base e size n : Nat} {v : Value} {xs : List Value} (hr : a.ownsRow base e size v n xs) (hp : ∀ k, v.ownBlock = some k → ¬ P k) : b.ownsRow base e size v n xs := by
  obtain ⟨h1, h2⟩ := hr
  refine ⟨h1, ?_⟩
  rcases h2 with h2 | ⟨g, cap, cur, hv, hg, hh, r⟩
  · exact Or.inl h2
  · exact Or.inr ⟨g, cap, cur, hv, hg, (h.block g (Array.getElem?_eq_some_iff.1 hh).1 (hp g (by rw [hv]; rfl))).trans hh, r⟩
theorem Fr.heap {P : Nat → Prop} {a b : World} (h : Fr P a b) {k : Nat} {o : Obj} (hk : a.heap[k]? = some o) (hp : ¬ P k) : b.heap[k]? = some o := (h.block k (Array.getElem?_eq_some_iff.1 hk).1 hp).trans hk
theorem lt_heap {a : World} {k : Nat} {o : Obj} (hk : a.heap[k]? = some o) : k < a.heap.size := (Array.getElem?_eq_some_iff.1 hk).1
theorem set_heap {w : World} {b j : Nat} {cs : Array Value} {t : TypeId} {fr : Nat × Nat} (h : w.heap[b]? = some (.cells cs t fr)) (u : Value) : (w.setCell ⟨b, j, none⟩ u).heap[b]? = some (.cells (cs.setIfInBounds j u) t fr) := by
  show (w.heap.modify b _)[b]? = _
  rw [Array.getElem?_modify, if_pos rfl, h]
  rfl

end Go.Proofs.YtfajjphfjilpnaaGreat

namespace Go.Proofs.YtfajjphfjilpnaaGreat
open Go.RowKit LX Go.Shelf
set_option linter.unusedVariables false

/-- The document's walk in block q: nodes so far, the deepest, the first error. -/
def WK (w : World) (q : Nat) (N M E : Int) : Prop := w.heap[q]? = some (.cells #[.int .i64 N, .int .i64 M, .int .i64 E] 61 (0, 0))
def wrE (is : Bool) (e E : Int) : Int := if is = true ∧ E = 0 then e else E
set_option maxRecDepth 100000 in
set_option maxHeartbeats 4000000 in
theorem rwrong_any (q : Nat) (N M E e : Int) (is : Bool) (w : World) (h : WK w q N M E) :
    Calls Tryz.prog 52 #[.pointer (some ⟨q, 0, none⟩), .bool is, .int .i64 e] w fun r w' => (∃ v, r = .returned v) ∧ Hid (WK w' q N M (wrE is e E) ∧ Fr (fun k => k = q) w w') := by
  have h' : w.heap[q]? = some (.cells #[.int .i64 N, .int .i64 M, .int .i64 E] 61 (0, 0)) := h
  have y2 : w.cell? ⟨q, 2, none⟩ = some (.int .i64 E) := (Lib.cell_of_heap h' _).trans rfl
  have f2 : w.frozen? ⟨q, 2, none⟩ = false := Lib.frozen_of_heap h' _
  have HH : Hid (_) := h'
  clear h h'
  cases is with
  | false =>
    have e1 : wrE false e E = E := by simp [wrE]
    rw [e1]
    clear e1
    go_enter Tryz.func52, Tryz.ntmps52
    go_wp2
    go_end0
    exact ⟨⟨_, rfl⟩, HH.out, Fr.refl _ _⟩
  | true =>
    by_cases hE : E = 0
    · subst hE
      have e1 : wrE true e 0 = e := by simp [wrE]
      rw [e1]
      clear e1
      go_enter Tryz.func52, Tryz.ntmps52
      go_wp2
      go_end0
      exact ⟨⟨_, rfl⟩, set_heap HH.out _, (Fr.refl (fun k => k = q) w).setCell (p := ⟨q, 2, none⟩) (Or.inl rfl) _⟩
    · have e1 : wrE true e E = E := by simp [wrE, hE]
      rw [e1]
      clear e1
      have hE' : (E == 0) = false := by simpa using hE
      go_enter Tryz.func52, Tryz.ntmps52
      go_wp2
      go_end0
      exact ⟨⟨_, rfl⟩, HH.out, Fr.refl _ _⟩
/-- The error at a node's own place. -/
def ndE (d N : Int) : Int := wrE (decide (256 ≤ N)) 3 (wrE (decide (24 < d)) 71 0)
set_option maxRecDepth 100000 in
set_option maxHeartbeats 4000000 in
theorem rnode_no (q : Nat) (N M E d : Int) (w : World) (h : WK w q N M E) (hE : ¬ E = 0) :
    Calls Tryz.prog 51 #[.pointer (some ⟨q, 0, none⟩), .int .i64 d] w fun r w' => r = .returned (.bool false) ∧ w' = w := by
  have h' : w.heap[q]? = some (.cells #[.int .i64 N, .int .i64 M, .int .i64 E] 61 (0, 0)) := h
  have y2 : w.cell? ⟨q, 2, none⟩ = some (.int .i64 E) := (Lib.cell_of_heap h' _).trans rfl
  have hE' : (E == 0) = false := by simpa using hE
  clear h h'
  go_enter Tryz.func51, Tryz.ntmps51
  go_wp2
  go_ret
  exact ⟨rfl, rfl⟩
set_option maxRecDepth 100000 in
set_option maxHeartbeats 4000000 in
theorem rnode_any (q : Nat) (N M d : Int) (w : World) (h : WK w q N M 0) (hN : 0 ≤ N ∧ N ≤ 100000) :
    Calls Tryz.prog 51 #[.pointer (some ⟨q, 0, none⟩), .int .i64 d] w fun r w' => r = .returned (.bool (ndE d N == 0)) ∧ Hid (WK w' q (N + 1) (if M < d then d else M) (ndE d N) ∧ Fr (fun k => k = q) w w') := by
  have h' : w.heap[q]? = some (.cells #[.int .i64 N, .int .i64 M, .int .i64 0] 61 (0, 0)) := h
  have y2 : w.cell? ⟨q, 2, none⟩ = some (.int .i64 0) := (Lib.cell_of_heap h' _).trans rfl
  have HH : Hid (WK w q N M 0) := h
  obtain ⟨E, hE⟩ : ∃ E, Hid (ndE d N = E) := ⟨_, rfl⟩
  obtain ⟨Mx, hMx⟩ : ∃ Mx, Hid ((if M < d then d else M) = Mx) := ⟨_, rfl⟩
  rw [hE.out, hMx.out]
  clear h h'
  go_enter Tryz.func51, Tryz.ntmps51
  go_wp2_with fail
  refine (rwrong_any q N M 0 71 (decide (24 < d)) w HH.out).mono ?_
  rintro r w1 ⟨⟨v1, rfl⟩, h1⟩
  have z0 : w1.cell? ⟨q, 0, none⟩ = some (.int .i64 N) := (Lib.cell_of_heap (show w1.heap[q]? = _ from h1.out.1) _).trans rfl
  go_wp2_with fail
  refine (rwrong_any q N M _ 3 (decide (256 ≤ N)) w1 h1.out.1).mono ?_
  rintro r w2 ⟨⟨v2, rfl⟩, h2⟩
  have h2' : WK w2 q N M (ndE d N) := h2.out.1
  rw [hE.out] at h2'
  have b2 : w2.heap[q]? = some (.cells #[.int .i64 N, .int .i64 M, .int .i64 E] 61 (0, 0)) := h2'
  have x0 : w2.cell? ⟨q, 0, none⟩ = some (.int .i64 N) := (Lib.cell_of_heap b2 _).trans rfl
  have x1 : w2.cell? ⟨q, 1, none⟩ = some (.int .i64 M) := (Lib.cell_of_heap b2 _).trans rfl
  have x2 : w2.cell? ⟨q, 2, none⟩ = some (.int .i64 E) := (Lib.cell_of_heap b2 _).trans rfl
  have f0 : w2.frozen? ⟨q, 0, none⟩ = false := Lib.frozen_of_heap b2 _
  have f1 : w2.frozen? ⟨q, 1, none⟩ = false := Lib.frozen_of_heap b2 _
  have FF2 : Hid (Fr (fun k => k = q) w w2) := h1.out.2.trans h2.out.2 (fun _ e => Or.inl e)
  have HB2 : Hid (_) := b2
  have nw : IntKind.i64.wrap (N + 1) = N + 1 := by rw [IntKind.wrap_i64]; omega
  have nw2 : wrap64 (N + 1) = N + 1 := by unfold wrap64; omega
  clear h1 h2 h2' b2 z0
  by_cases hd : M < d
  · have em : Hid (d = Mx) := by have e := hMx.out; rw [if_pos hd] at e; exact e
    go_wp2
    go_ret
    exact ⟨rfl, by rw [← em.out]; exact set_heap (set_heap HB2.out _) _, (FF2.out.setCell (p := ⟨q, 0, none⟩) (Or.inl rfl) _).setCell (p := ⟨q, 1, none⟩) (Or.inl rfl) _⟩
  · have em : Hid (M = Mx) := by have e := hMx.out; rw [if_neg hd] at e; exact e
    go_wp2
    go_ret
    exact ⟨rfl, by rw [← em.out]; exact set_heap HB2.out _, FF2.out.setCell (p := ⟨q, 0, none⟩) (Or.inl rfl) _⟩
end Go.Proofs.YtfajjphfjilpnaaGreat

namespace Go.Proofs.YtfajjphfjilpnaaGreat
open Go.RowKit LX Go.Shelf
set_option linter.unusedVariables false

theorem doc_fmE (f : Fm) (hs : f.subs.length ≤ 9223372036854775807) :
    wrE (repN [] f.vars || (decide (f.k = 19) && Lib.containsS (f.vars.drop 1) f.nm)) 30 (wrE (!(formB (usO f.k) f.nm f.op f.lo f.hi f.opn f.vars.length f.terms.length f.subs.length f.rgx.length && namedB (usO f.k) f.nm f.vars f.lo f.hi f.opn)) 1 (wrE (manyB f.k f.vars.length f.terms.length) 3 (wrE (decide (f.k < 1 ∨ 22 < f.k)) 20 0))) = fmE f := by
  unfold fmE
  by_cases hk : f.k < 1 ∨ 22 < f.k
  · simp [hk, wrE]
  · rw [if_neg hk]
    cases hm : manyB f.k f.vars.length f.terms.length with
    | true => simp [hk, wrE]
    | false =>
      rw [form_eq f.k f.op f.lo f.hi f.nm f.opn f.vars f.terms.length f.subs.length f.rgx.length (by omega) hm hs]
      generalize (formB (usO f.k) f.nm f.op f.lo f.hi f.opn f.vars.length f.terms.length f.subs.length f.rgx.length && namedB (usO f.k) f.nm f.vars f.lo f.hi f.opn) = b
      generalize repN [] f.vars = r
      generalize Lib.containsS (f.vars.drop 1) f.nm = c
      by_cases h19 : f.k = 19 <;> cases b <;> cases r <;> cases c <;> simp [hk, wrE, h19]
/-- The document's wrongs of a term. -/
theorem doc_tmE (t : Tm) :
    (if t.k = 2 then wrE (decide (¬ t.v.may = 0)) t.v.may else id) (wrE (decide (t.k = 1) && !nameB t.nm || decide (¬ t.k = 1) && !(t.nm.toList == []) || decide (¬ t.k = 2) && !sameB t.v.k t.v.n t.v.d t.v.s 0 0 0 ⟨#[]⟩ || decide (¬ t.subs.length = if t.k = 3 ∨ t.k = 4 ∨ t.k = 5 then 2 else 0)) 1 (wrE (decide (t.k < 1 ∨ 5 < t.k)) 20 0)) = tmE t := by
  unfold tmE
  by_cases hk : t.k < 1 ∨ 5 < t.k
  · have h2 : ¬ t.k = 2 := by omega
    simp [hk, wrE, h2]
  · rw [if_neg hk]
    generalize nameB t.nm = a
    generalize (t.nm.toList == []) = b
    generalize sameB t.v.k t.v.n t.v.d t.v.s 0 0 0 ⟨#[]⟩ = c
    generalize t.v.may = m
    generalize t.subs.length = n
    have h5 : t.k = 1 ∨ t.k = 2 ∨ t.k = 3 ∨ t.k = 4 ∨ t.k = 5 := by omega
    rcases h5 with h | h | h | h | h <;> cases a <;> cases b <;> cases c <;> simp [wrE, h] <;> grind
end Go.Proofs.YtfajjphfjilpnaaGreat

namespace Go.Proofs.YtfajjphfjilpnaaGreat
open Go.RowKit LX Go.Shelf
set_option linter.unusedVariables false

theorem Fr.keep {q : Nat} {w w' : World} (h : Fr (fun k => k = q) w w') : KeepT q w w' := ⟨h.os, h.tape, h.output, h.size, h.block⟩
theorem WK.lt {w : World} {q : Nat} {N M E : Int} (h : WK w q N M E) : q < w.heap.size := (Array.getElem?_eq_some_iff.1 h).1
theorem WK.below {w w' : World} {q : Nat} {N M E : Int} (h : WK w q N M E) (hb : Below w.heap.size w w') : WK w' q N M E := (hb.block q h.lt).trans h
theorem WK.alloc {w : World} {q : Nat} {N M E : Int} (h : WK w q N M E) (o : Obj) : WK (w.alloc o) q N M E := (Below.heap_alloc w o q h.lt).trans h
theorem WK.e {w : World} {q : Nat} {N M E : Int} (h : WK w q N M E) : w.cell? ⟨q, 2, none⟩ = some (.int .i64 E) := (Lib.cell_of_heap (show w.heap[q]? = _ from h) _).trans rfl
set_option maxRecDepth 100000 in
set_option maxHeartbeats 4000000 in
theorem rterm_no (q : Nat) (N M E d tk vk vn vd : Int) (nm vs : ByteArray) (u : Value) (w : World) (h : WK w q N M E) (hE : ¬ E = 0) :
    Calls Tryz.prog 58 #[.pointer (some ⟨q, 0, none⟩), .agg #[.int .i64 tk, .string nm, .int .i64 vk, .int .i64 vn, .int .i64 vd, .string vs, u], .int .i64 d] w fun r w' => (∃ v, r = .returned v) ∧ Hid (Below w.heap.size w w' ∧ WK w' q N M E) := by
  have H : Hid (WK w q N M E) := h
  clear h
  go_enter Tryz.func58, Tryz.ntmps58
  go_wp2_with fail
  refine (rnode_no q N M E d _ (H.out.alloc _) hE).mono ?_
  rintro r w1 ⟨rfl, rfl⟩
  go_wp2
  refine bodyPost_ret (results_none rfl _ _ _) rfl ?_
  exact ⟨⟨_, rfl⟩, by go_grown, H.out.alloc _⟩
end Go.Proofs.YtfajjphfjilpnaaGreat

namespace Go.Proofs.YtfajjphfjilpnaaGreat
open Go.RowKit LX Go.Shelf
set_option linter.unusedVariables false

/-- What the walk says: the error; the nodes and the deepest, if there is none. -/
def WQ (w : World) (q : Nat) (R : Int × (Int × Int)) : Prop := ∃ N M, WK w q N M R.1 ∧ (R.1 = 0 → N = R.2.1 ∧ M = R.2.2)
theorem nd_meet {d : Int} {s : Int × Int} (hs : OkS s) : ndE d s.1 = meetE d s := by
  unfold ndE meetE wrE
  obtain ⟨h0, h1, -⟩ := hs
  by_cases a : 24 < d <;> by_cases b : s.1 = 256 <;> simp [a, b] <;> omega

/-- What is still to come of R, behind what is done: F, if nothing was wrong. -/
def WS (w : World) (q : Nat) (R : Int × (Int × Int)) (F : Int × Int → Int × (Int × Int)) : Prop := ∃ N M E, WK w q N M E ∧ (E = 0 → OkS (N, M) ∧ R = F (N, M)) ∧ (¬ E = 0 → R.1 = E)
theorem WS.lt {w : World} {q : Nat} {R : Int × (Int × Int)} {F : Int × Int → Int × (Int × Int)} (h : WS w q R F) : q < w.heap.size := by obtain ⟨N, M, E, h, -⟩ := h; exact h.lt
theorem WS.below {w w' : World} {q : Nat} {R : Int × (Int × Int)} {F : Int × Int → Int × (Int × Int)} (h : WS w q R F) (hb : Below w.heap.size w w') : WS w' q R F := by obtain ⟨N, M, E, h, h2⟩ := h; exact ⟨N, M, E, h.below hb, h2⟩
theorem WS.of {w : World} {q : Nat} {N M : Int} {R : Int × (Int × Int)} {F : Int × Int → Int × (Int × Int)} (h : WK w q N M 0) (ho : OkS (N, M)) (hR : R = F (N, M)) : WS w q R F := ⟨N, M, 0, h, fun _ => ⟨ho, hR⟩, fun e => absurd rfl e⟩
theorem WS.cast {w : World} {q : Nat} {R : Int × (Int × Int)} {F G : Int × Int → Int × (Int × Int)} (h : WS w q R F) (e : ∀ s, F s = G s) : WS w q R G := by have : F = G := funext e; rw [← this]; exact h
theorem WS.wq {w : World} {q : Nat} {R : Int × (Int × Int)} (h : WS w q R (fun s => (0, s))) : WQ w q R := by
  obtain ⟨N, M, E, h, h1, h2⟩ := h
  by_cases hE : E = 0
  · obtain ⟨-, e⟩ := h1 hE
    rw [e]
    subst hE
    exact ⟨N, M, h, fun _ => ⟨rfl, rfl⟩⟩
  · have e := h2 hE
    exact ⟨N, M, by rw [e]; exact h, fun e' => absurd (e.symm.trans e') hE⟩
theorem WS.step {w w' : World} {q : Nat} {N M : Int} {R : Int × (Int × Int)} {G F : Int × Int → Int × (Int × Int)} (hR : R = andT (G (N, M)) F) (hQ : WQ w' q (G (N, M))) (ho : OkS (G (N, M)).2) : WS w' q R F := by
  obtain ⟨N', M', h, h1⟩ := hQ
  refine ⟨N', M', (G (N, M)).1, h, fun e => ?_, fun e => ?_⟩
  · obtain ⟨rfl, rfl⟩ := h1 e
    refine ⟨ho, ?_⟩
    rw [hR]
    exact if_pos e
  · rw [hR]
    unfold andT
    rw [if_neg e]
/-- A function of the walk's at a value and a depth: it goes on by G. -/
def Walks (w0 : World) (q : Nat) (fn : FuncId) (V : Value) (d : Int) (G : Int × Int → Int × (Int × Int)) : Prop := ∀ (W : World) (R : Int × (Int × Int)) (F : Int × Int → Int × (Int × Int)), Below w0.heap.size w0 W → WS W q R (fun s => andT (G s) F) →
    Calls Tryz.prog fn #[.pointer (some ⟨q, 0, none⟩), V, .int .i64 d] W fun r w' => (∃ v, r = .returned v) ∧ Hid (KeepT q W w' ∧ WS w' q R F)
end Go.Proofs.YtfajjphfjilpnaaGreat

namespace Go.Proofs.YtfajjphfjilpnaaGreat
open Go.RowKit LX Go.Shelf
set_option linter.unusedVariables false

set_option maxRecDepth 100000 in
set_option maxHeartbeats 8000000 in
theorem rterm_clo (w0 : World) (q : Nat) (hq : w0.heap.size ≤ q) (m : Nat) (ih : ∀ (t : Tm) (V : Value) (d : Int) (s : Int × Int) (w : World), SizeOf.sizeOf t ≤ m → TmsAt w0 V t.subs → t.v.Fits → Below w0.heap.size w0 w → WK w q s.1 s.2 0 → OkS s → 0 ≤ d → d ≤ 25 →
    Calls Tryz.prog 58 #[.pointer (some ⟨q, 0, none⟩), .agg #[.int .i64 t.k, .string t.nm, .int .i64 t.v.k, .int .i64 t.v.n, .int .i64 t.v.d, .string t.v.s, V], .int .i64 d] w fun r w' => (∃ v, r = .returned v) ∧ Hid (KeepT q w w' ∧ WQ w' q (trun d s t))) (t : Tm) (V : Value) (d : Int) (s : Int × Int) (w : World) (hm : SizeOf.sizeOf t ≤ m + 1) (hV : TmsAt w0 V t.subs) (hF : t.v.Fits) (hw : Below w0.heap.size w0 w) (hK : WK w q s.1 s.2 0) (hs : OkS s) (hd0 : 0 ≤ d) (hd1 : d ≤ 25) (h7 : t.k < 1) :
    Calls Tryz.prog 58 #[.pointer (some ⟨q, 0, none⟩), .agg #[.int .i64 t.k, .string t.nm, .int .i64 t.v.k, .int .i64 t.v.n, .int .i64 t.v.d, .string t.v.s, V], .int .i64 d] w fun r w' => (∃ v, r = .returned v) ∧ Hid (KeepT q w w' ∧ WQ w' q (trun d s t)) := by
  obtain ⟨p, c, rfl, hl, hc, HX0⟩ := hV.form
  have HX : Hid (∀ i (hi : i < t.subs.length), ∃ b off u, p = some ⟨b, off, none⟩ ∧ b < w0.heap.size ∧ TmC w0 b (off + i * 7) t.subs[i] u ∧ TmsAt w0 u t.subs[i].subs ∧ t.subs[i].v.Fits) := HX0
  have IH : Hid (_) := ih
  have HS : Hid (OkS s) := hs
  have HW : Hid (WK w q s.1 s.2 0) := hK
  have hqw : q < w.heap.size := hK.lt
  have HM : Hid (SizeOf.sizeOf t ≤ m + 1) := hm
  have hD := doc_tmE t
  have cN : Hid (∀ W : World, Calls Tryz.prog 81 #[.string t.nm] W fun e w' => e = .returned (.bool (nameB t.nm)) ∧ Below W.heap.size W w') := fun W => rname_any t.nm W
  have cC : Hid (∀ W : World, Calls Tryz.prog 85 #[.agg #[.int .i64 t.v.k, .int .i64 t.v.n, .int .i64 t.v.d, .string t.v.s]] W fun e w' => e = .returned (.int .i64 t.v.may) ∧ Below W.heap.size W w') := fun W => rcheck_any t.v.k t.v.n t.v.d t.v.s W hF.n1 hF.n2 hF.d1 hF.d2
  have cS : Hid (∀ W : World, Calls Tryz.prog 84 #[.agg #[.int .i64 t.v.k, .int .i64 t.v.n, .int .i64 t.v.d, .string t.v.s], .agg #[.int .i64 0, .int .i64 0, .int .i64 0, .string ⟨#[]⟩]] W fun e w' => e = .returned (.bool (sameB t.v.k t.v.n t.v.d t.v.s 0 0 0 ⟨#[]⟩)) ∧ Below W.heap.size W w') := fun W => rsame_any t.v.k t.v.n t.v.d t.v.s 0 0 0 ⟨#[]⟩ W
  have hte := trun_eq d s t
  have HE : Hid (ndE d s.1 = meetE d s) := nd_meet hs
  obtain ⟨R, eR⟩ : ∃ R : Int × (Int × Int), Hid (trun d s t = R) := ⟨_, rfl⟩
  rw [eR.out] at hte ⊢
  have HTE : Hid (_) := hte
  obtain ⟨ts, ets⟩ : ∃ ts : List Tm, Hid (t.subs = ts) := ⟨_, rfl⟩
  obtain ⟨nu, en⟩ : ∃ n : Nat, Hid (t.subs.length = n) := ⟨_, rfl⟩
  rw [en.out] at hl hc hD ⊢
  have HD : Hid (_) := hD
  clear hV HX0 ih hK hs hm hte hD hF
  generalize nameB t.nm = NB at *
  generalize sameB t.v.k t.v.n t.v.d t.v.s 0 0 0 ⟨#[]⟩ = SB at *
  generalize t.v.may = MY at *
  generalize t.v.k = vk at *
  generalize t.v.n = vn at *
  generalize t.v.d = vd at *
  generalize t.v.s = vs at *
  generalize t.k = tk at *
  generalize t.nm = nm at *
  go_enter Tryz.func58, Tryz.ntmps58
  go_wp2_with fail
  refine (rnode_any q s.1 s.2 d _ (HW.out.alloc _) ⟨HS.out.1, by have := HS.out.2.1; omega⟩).mono ?_
  rintro r w1 ⟨rfl, h1⟩
  have hK1 : KeepT q w w1 := (KeepT.of ((Below.refl _ _).alloc (Nat.le_refl _) _)).trans h1.out.2.keep
  have W1 : Hid (WK w1 q (s.1 + 1) (if s.2 < d then d else s.2) (ndE d s.1)) := h1.out.1
  have hne : w.heap.size ≠ q := by omega
  have hz1 : w.heap.size < w1.heap.size := by have := h1.out.2.size; simp at this; omega
  have B1 : Hid (w1.heap[w.heap.size]? = some (.cells #[.int .i64 tk, .string nm, .int .i64 vk, .int .i64 vn, .int .i64 vd, .string vs, .slice p nu c] 39 (0, 0))) := (h1.out.2.block w.heap.size (by simp) hne).trans (heap_allocA w _)
  have e0 : w1.cell? ⟨w.heap.size, 0, none⟩ = some (.int .i64 tk) := by rw [Lib.cell_of_heap B1.out]; rfl
  clear h1
  by_cases hE : ndE d s.1 = 0
  case neg =>
    have hE' : (ndE d s.1 == 0) = false := by simpa using hE
    rw [hE']
    go_wp2
    refine bodyPost_ret (results_none rfl _ _ _) rfl ?_
    refine ⟨⟨_, rfl⟩, hK1, ?_⟩
    have h := HTE.out
    rw [← HE.out, if_neg hE] at h
    rw [h]
    exact ⟨_, _, W1.out, fun e => absurd e hE⟩
  have hE' : (ndE d s.1 == 0) = true := by simpa using hE
  rw [hE']
  have W1' : Hid (WK w1 q (s.1 + 1) (if s.2 < d then d else s.2) 0) := by have h := W1.out; rwa [hE] at h
  clear W1
  obtain ⟨N1, hN1⟩ : ∃ N1, Hid (s.1 + 1 = N1) := ⟨_, rfl⟩
  obtain ⟨M1, hM1⟩ : ∃ M1, Hid ((if s.2 < d then d else s.2) = M1) := ⟨_, rfl⟩
  rw [hN1.out, hM1.out] at W1'
  have hmS : Hid (meetS d s = (N1, M1)) := by
    have e : meetE d s = 0 := by rw [← HE.out]; exact hE
    unfold meetS
    rw [if_pos e, ← hN1.out, ← hM1.out, Int.max_def]
    congr 1
    by_cases h : s.2 < d
    · rw [if_pos h, if_pos (by omega)]
    · rw [if_neg h]; split <;> omega
  have HR : Hid (R = if tmE t = 0 then truns (d + 1) (N1, M1) t.subs else (tmE t, (N1, M1))) := by
    have h := HTE.out
    rw [← HE.out, if_pos hE, hmS.out] at h
    exact h
  have hd24 : d ≤ 24 := meetE_le (s := s) (by rw [← HE.out]; exact hE)
  have HOk : Hid (OkS (N1, M1)) := by rw [← hmS.out]; exact meetS_ok HS.out hd0
  clear HTE HE hE hE' hN1 hM1 hmS
  obtain ⟨TE, hTE⟩ : ∃ TE, Hid (tmE t = TE) := ⟨_, rfl⟩
  rw [hTE.out] at HR HD
  clear hTE e0
  have HNo : Hid (¬ TE = 0 → ∀ W : World, WK W q N1 M1 TE → WQ W q R) := by
    intro h W hW
    have hr := HR.out
    rw [if_neg h] at hr
    rw [hr]
    exact ⟨_, _, hW, fun e => absurd e h⟩
  have x1 : (tk == 1) = false := by simp; omega
  have x2 : (tk == 2) = false := by simp; omega
  have x3 : (tk == 3) = false := by simp; omega
  have x4 : (tk == 4) = false := by simp; omega
  have x5 : (tk == 5) = false := by simp; omega
  have y1 : ¬ tk = 1 := by omega
  have y2' : ¬ tk = 2 := by omega
  have y3 : ¬ tk = 3 := by omega
  have y4 : ¬ tk = 4 := by omega
  have y5 : ¬ tk = 5 := by omega
  have e0 : w1.cell? ⟨w.heap.size, 0, none⟩ = some (.int .i64 tk) := by rw [Lib.cell_of_heap B1.out]; rfl
  go_wp2_with fail
  refine (rwrong_any q N1 M1 0 20 _ w1 W1'.out).mono ?_
  rintro r w2 ⟨⟨v2, rfl⟩, h2⟩
  have W2 : Hid (WK w2 q N1 M1 20) := by have a := h2.out.1; first | exact a | (simp [wrE, h7] at a; exact a)
  have B2 : Hid (_) := h2.out.2.heap B1.out hne
  have hK2 : KeepT q w w2 := hK1.trans h2.out.2.keep
  have hz2 : w.heap.size < w2.heap.size := lt_heap B2.out
  clear h2 e0
  have e0 : w2.cell? ⟨w.heap.size, 0, none⟩ = some (.int .i64 tk) := by rw [Lib.cell_of_heap B2.out]; rfl
  have e1 : w2.cell? ⟨w.heap.size, 1, none⟩ = some (.string nm) := by rw [Lib.cell_of_heap B2.out]; rfl
  go_wp2_with fail
  refine (cN.out _).mono ?_
  rintro r w3 ⟨rfl, hb3⟩
  have W3 : Hid (WK w3 q N1 M1 20) := W2.out.below hb3
  have B3 : Hid (_) := blkB B2.out hb3
  have hK3 : KeepT q w w3 := hK2.trans (KeepT.of hb3)
  clear hb3 e0 e1
  have e2 : w3.cell? ⟨w.heap.size, 2, none⟩ = some (.int .i64 vk) := by rw [Lib.cell_of_heap B3.out]; rfl
  have e3 : w3.cell? ⟨w.heap.size, 3, none⟩ = some (.int .i64 vn) := by rw [Lib.cell_of_heap B3.out]; rfl
  have e4 : w3.cell? ⟨w.heap.size, 4, none⟩ = some (.int .i64 vd) := by rw [Lib.cell_of_heap B3.out]; rfl
  have e5 : w3.cell? ⟨w.heap.size, 5, none⟩ = some (.string vs) := by rw [Lib.cell_of_heap B3.out]; rfl
  go_wp2_with fail
  refine (cS.out _).mono ?_
  rintro r w4 ⟨rfl, hb4⟩
  have W4 : Hid (WK w4 q N1 M1 20) := W3.out.below hb4
  have B4 : Hid (_) := blkB B3.out hb4
  have hK4 : KeepT q w w4 := hK3.trans (KeepT.of hb4)
  clear hb4 e2 e3 e4 e5
  have e0 : w4.cell? ⟨w.heap.size, 0, none⟩ = some (.int .i64 tk) := by rw [Lib.cell_of_heap B4.out]; rfl
  have e1 : w4.cell? ⟨w.heap.size, 1, none⟩ = some (.string nm) := by rw [Lib.cell_of_heap B4.out]; rfl
  have e6 : w4.cell? ⟨w.heap.size, 6, none⟩ = some (.slice p nu c) := by rw [Lib.cell_of_heap B4.out]; rfl
  have hx := h7
  cases SB <;> by_cases hn : nm.toList = []
  all_goals
    go_wp2_with fail
    refine (rwrong_any q N1 M1 _ 1 _ w4 W4.out).mono ?_
    rintro r w5 ⟨⟨v5, rfl⟩, h5⟩
    have W5 : Hid (WK w5 q N1 M1 TE) := by
      have a := h5.out.1
      have b := HD.out
      simp [wrE, h7, hn, y2'] at a b
      first | (subst b; exact a) | (rw [← b]; exact a)
    have hK5 : KeepT q w w5 := hK4.trans h5.out.2.keep
    have B5 : Hid (_) := h5.out.2.heap B4.out hne
    have y2 : w5.cell? ⟨q, 2, none⟩ = some (.int .i64 TE) := W5.out.e
    have f0 : w5.cell? ⟨w.heap.size, 0, none⟩ = some (.int .i64 tk) := by rw [Lib.cell_of_heap B5.out]; rfl
    have f6 : w5.cell? ⟨w.heap.size, 6, none⟩ = some (.slice p nu c) := by rw [Lib.cell_of_heap B5.out]; rfl
    clear h5 e0 e1 e6
    have tn : ¬ TE = 0 := by have b := HD.out; simp [wrE, h7, hn, y1, y2', y3, y4, y5] at b; omega
    have tn' : (TE == 0) = false := by simpa using tn
    have tn'' : (TE != 0) = true := by simpa using tn
    go_wp2
    refine bodyPost_ret (results_none rfl _ _ _) rfl ?_
    exact ⟨⟨_, rfl⟩, hK5, HNo.out tn _ W5.out⟩
end Go.Proofs.YtfajjphfjilpnaaGreat

namespace Go.Proofs.YtfajjphfjilpnaaGreat
open Go.RowKit LX Go.Shelf
set_option linter.unusedVariables false

set_option maxRecDepth 100000 in
set_option maxHeartbeats 8000000 in
theorem rterm_chi (w0 : World) (q : Nat) (hq : w0.heap.size ≤ q) (m : Nat) (ih : ∀ (t : Tm) (V : Value) (d : Int) (s : Int × Int) (w : World), SizeOf.sizeOf t ≤ m → TmsAt w0 V t.subs → t.v.Fits → Below w0.heap.size w0 w → WK w q s.1 s.2 0 → OkS s → 0 ≤ d → d ≤ 25 →
    Calls Tryz.prog 58 #[.pointer (some ⟨q, 0, none⟩), .agg #[.int .i64 t.k, .string t.nm, .int .i64 t.v.k, .int .i64 t.v.n, .int .i64 t.v.d, .string t.v.s, V], .int .i64 d] w fun r w' => (∃ v, r = .returned v) ∧ Hid (KeepT q w w' ∧ WQ w' q (trun d s t))) (t : Tm) (V : Value) (d : Int) (s : Int × Int) (w : World) (hm : SizeOf.sizeOf t ≤ m + 1) (hV : TmsAt w0 V t.subs) (hF : t.v.Fits) (hw : Below w0.heap.size w0 w) (hK : WK w q s.1 s.2 0) (hs : OkS s) (hd0 : 0 ≤ d) (hd1 : d ≤ 25) (h7 : 5 < t.k) :
    Calls Tryz.prog 58 #[.pointer (some ⟨q, 0, none⟩), .agg #[.int .i64 t.k, .string t.nm, .int .i64 t.v.k, .int .i64 t.v.n, .int .i64 t.v.d, .string t.v.s, V], .int .i64 d] w fun r w' => (∃ v, r = .returned v) ∧ Hid (KeepT q w w' ∧ WQ w' q (trun d s t)) := by
  obtain ⟨p, c, rfl, hl, hc, HX0⟩ := hV.form
  have HX : Hid (∀ i (hi : i < t.subs.length), ∃ b off u, p = some ⟨b, off, none⟩ ∧ b < w0.heap.size ∧ TmC w0 b (off + i * 7) t.subs[i] u ∧ TmsAt w0 u t.subs[i].subs ∧ t.subs[i].v.Fits) := HX0
  have IH : Hid (_) := ih
  have HS : Hid (OkS s) := hs
  have HW : Hid (WK w q s.1 s.2 0) := hK
  have hqw : q < w.heap.size := hK.lt
  have HM : Hid (SizeOf.sizeOf t ≤ m + 1) := hm
  have hD := doc_tmE t
  have cN : Hid (∀ W : World, Calls Tryz.prog 81 #[.string t.nm] W fun e w' => e = .returned (.bool (nameB t.nm)) ∧ Below W.heap.size W w') := fun W => rname_any t.nm W
  have cC : Hid (∀ W : World, Calls Tryz.prog 85 #[.agg #[.int .i64 t.v.k, .int .i64 t.v.n, .int .i64 t.v.d, .string t.v.s]] W fun e w' => e = .returned (.int .i64 t.v.may) ∧ Below W.heap.size W w') := fun W => rcheck_any t.v.k t.v.n t.v.d t.v.s W hF.n1 hF.n2 hF.d1 hF.d2
  have cS : Hid (∀ W : World, Calls Tryz.prog 84 #[.agg #[.int .i64 t.v.k, .int .i64 t.v.n, .int .i64 t.v.d, .string t.v.s], .agg #[.int .i64 0, .int .i64 0, .int .i64 0, .string ⟨#[]⟩]] W fun e w' => e = .returned (.bool (sameB t.v.k t.v.n t.v.d t.v.s 0 0 0 ⟨#[]⟩)) ∧ Below W.heap.size W w') := fun W => rsame_any t.v.k t.v.n t.v.d t.v.s 0 0 0 ⟨#[]⟩ W
  have hte := trun_eq d s t
  have HE : Hid (ndE d s.1 = meetE d s) := nd_meet hs
  obtain ⟨R, eR⟩ : ∃ R : Int × (Int × Int), Hid (trun d s t = R) := ⟨_, rfl⟩
  rw [eR.out] at hte ⊢
  have HTE : Hid (_) := hte
  obtain ⟨ts, ets⟩ : ∃ ts : List Tm, Hid (t.subs = ts) := ⟨_, rfl⟩
  obtain ⟨nu, en⟩ : ∃ n : Nat, Hid (t.subs.length = n) := ⟨_, rfl⟩
  rw [en.out] at hl hc hD ⊢
  have HD : Hid (_) := hD
  clear hV HX0 ih hK hs hm hte hD hF
  generalize nameB t.nm = NB at *
  generalize sameB t.v.k t.v.n t.v.d t.v.s 0 0 0 ⟨#[]⟩ = SB at *
  generalize t.v.may = MY at *
  generalize t.v.k = vk at *
  generalize t.v.n = vn at *
  generalize t.v.d = vd at *
  generalize t.v.s = vs at *
  generalize t.k = tk at *
  generalize t.nm = nm at *
  go_enter Tryz.func58, Tryz.ntmps58
  go_wp2_with fail
  refine (rnode_any q s.1 s.2 d _ (HW.out.alloc _) ⟨HS.out.1, by have := HS.out.2.1; omega⟩).mono ?_
  rintro r w1 ⟨rfl, h1⟩
  have hK1 : KeepT q w w1 := (KeepT.of ((Below.refl _ _).alloc (Nat.le_refl _) _)).trans h1.out.2.keep
  have W1 : Hid (WK w1 q (s.1 + 1) (if s.2 < d then d else s.2) (ndE d s.1)) := h1.out.1
  have hne : w.heap.size ≠ q := by omega
  have hz1 : w.heap.size < w1.heap.size := by have := h1.out.2.size; simp at this; omega
  have B1 : Hid (w1.heap[w.heap.size]? = some (.cells #[.int .i64 tk, .string nm, .int .i64 vk, .int .i64 vn, .int .i64 vd, .string vs, .slice p nu c] 39 (0, 0))) := (h1.out.2.block w.heap.size (by simp) hne).trans (heap_allocA w _)
  have e0 : w1.cell? ⟨w.heap.size, 0, none⟩ = some (.int .i64 tk) := by rw [Lib.cell_of_heap B1.out]; rfl
  clear h1
  by_cases hE : ndE d s.1 = 0
  case neg =>
    have hE' : (ndE d s.1 == 0) = false := by simpa using hE
    rw [hE']
    go_wp2
    refine bodyPost_ret (results_none rfl _ _ _) rfl ?_
    refine ⟨⟨_, rfl⟩, hK1, ?_⟩
    have h := HTE.out
    rw [← HE.out, if_neg hE] at h
    rw [h]
    exact ⟨_, _, W1.out, fun e => absurd e hE⟩
  have hE' : (ndE d s.1 == 0) = true := by simpa using hE
  rw [hE']
  have W1' : Hid (WK w1 q (s.1 + 1) (if s.2 < d then d else s.2) 0) := by have h := W1.out; rwa [hE] at h
  clear W1
  obtain ⟨N1, hN1⟩ : ∃ N1, Hid (s.1 + 1 = N1) := ⟨_, rfl⟩
  obtain ⟨M1, hM1⟩ : ∃ M1, Hid ((if s.2 < d then d else s.2) = M1) := ⟨_, rfl⟩
  rw [hN1.out, hM1.out] at W1'
  have hmS : Hid (meetS d s = (N1, M1)) := by
    have e : meetE d s = 0 := by rw [← HE.out]; exact hE
    unfold meetS
    rw [if_pos e, ← hN1.out, ← hM1.out, Int.max_def]
    congr 1
    by_cases h : s.2 < d
    · rw [if_pos h, if_pos (by omega)]
    · rw [if_neg h]; split <;> omega
  have HR : Hid (R = if tmE t = 0 then truns (d + 1) (N1, M1) t.subs else (tmE t, (N1, M1))) := by
    have h := HTE.out
    rw [← HE.out, if_pos hE, hmS.out] at h
    exact h
  have hd24 : d ≤ 24 := meetE_le (s := s) (by rw [← HE.out]; exact hE)
  have HOk : Hid (OkS (N1, M1)) := by rw [← hmS.out]; exact meetS_ok HS.out hd0
  clear HTE HE hE hE' hN1 hM1 hmS
  obtain ⟨TE, hTE⟩ : ∃ TE, Hid (tmE t = TE) := ⟨_, rfl⟩
  rw [hTE.out] at HR HD
  clear hTE e0
  have HNo : Hid (¬ TE = 0 → ∀ W : World, WK W q N1 M1 TE → WQ W q R) := by
    intro h W hW
    have hr := HR.out
    rw [if_neg h] at hr
    rw [hr]
    exact ⟨_, _, hW, fun e => absurd e h⟩
  have x1 : (tk == 1) = false := by simp; omega
  have x2 : (tk == 2) = false := by simp; omega
  have x3 : (tk == 3) = false := by simp; omega
  have x4 : (tk == 4) = false := by simp; omega
  have x5 : (tk == 5) = false := by simp; omega
  have y1 : ¬ tk = 1 := by omega
  have y2' : ¬ tk = 2 := by omega
  have y3 : ¬ tk = 3 := by omega
  have y4 : ¬ tk = 4 := by omega
  have y5 : ¬ tk = 5 := by omega
  have z1 : ¬ tk < 1 := by omega
  have e0 : w1.cell? ⟨w.heap.size, 0, none⟩ = some (.int .i64 tk) := by rw [Lib.cell_of_heap B1.out]; rfl
  go_wp2_with fail
  refine (rwrong_any q N1 M1 0 20 _ w1 W1'.out).mono ?_
  rintro r w2 ⟨⟨v2, rfl⟩, h2⟩
  have W2 : Hid (WK w2 q N1 M1 20) := by have a := h2.out.1; first | exact a | (simp [wrE, h7] at a; exact a)
  have B2 : Hid (_) := h2.out.2.heap B1.out hne
  have hK2 : KeepT q w w2 := hK1.trans h2.out.2.keep
  have hz2 : w.heap.size < w2.heap.size := lt_heap B2.out
  clear h2 e0
  have e0 : w2.cell? ⟨w.heap.size, 0, none⟩ = some (.int .i64 tk) := by rw [Lib.cell_of_heap B2.out]; rfl
  have e1 : w2.cell? ⟨w.heap.size, 1, none⟩ = some (.string nm) := by rw [Lib.cell_of_heap B2.out]; rfl
  go_wp2_with fail
  refine (cN.out _).mono ?_
  rintro r w3 ⟨rfl, hb3⟩
  have W3 : Hid (WK w3 q N1 M1 20) := W2.out.below hb3
  have B3 : Hid (_) := blkB B2.out hb3
  have hK3 : KeepT q w w3 := hK2.trans (KeepT.of hb3)
  clear hb3 e0 e1
  have e2 : w3.cell? ⟨w.heap.size, 2, none⟩ = some (.int .i64 vk) := by rw [Lib.cell_of_heap B3.out]; rfl
  have e3 : w3.cell? ⟨w.heap.size, 3, none⟩ = some (.int .i64 vn) := by rw [Lib.cell_of_heap B3.out]; rfl
  have e4 : w3.cell? ⟨w.heap.size, 4, none⟩ = some (.int .i64 vd) := by rw [Lib.cell_of_heap B3.out]; rfl
  have e5 : w3.cell? ⟨w.heap.size, 5, none⟩ = some (.string vs) := by rw [Lib.cell_of_heap B3.out]; rfl
  go_wp2_with fail
  refine (cS.out _).mono ?_
  rintro r w4 ⟨rfl, hb4⟩
  have W4 : Hid (WK w4 q N1 M1 20) := W3.out.below hb4
  have B4 : Hid (_) := blkB B3.out hb4
  have hK4 : KeepT q w w4 := hK3.trans (KeepT.of hb4)
  clear hb4 e2 e3 e4 e5
  have e0 : w4.cell? ⟨w.heap.size, 0, none⟩ = some (.int .i64 tk) := by rw [Lib.cell_of_heap B4.out]; rfl
  have e1 : w4.cell? ⟨w.heap.size, 1, none⟩ = some (.string nm) := by rw [Lib.cell_of_heap B4.out]; rfl
  have e6 : w4.cell? ⟨w.heap.size, 6, none⟩ = some (.slice p nu c) := by rw [Lib.cell_of_heap B4.out]; rfl
  have hx := h7
  cases SB <;> by_cases hn : nm.toList = []
  all_goals
    go_wp2_with fail
    refine (rwrong_any q N1 M1 _ 1 _ w4 W4.out).mono ?_
    rintro r w5 ⟨⟨v5, rfl⟩, h5⟩
    have W5 : Hid (WK w5 q N1 M1 TE) := by
      have a := h5.out.1
      have b := HD.out
      simp [wrE, h7, hn, y2'] at a b
      first | (subst b; exact a) | (rw [← b]; exact a)
    have hK5 : KeepT q w w5 := hK4.trans h5.out.2.keep
    have B5 : Hid (_) := h5.out.2.heap B4.out hne
    have y2 : w5.cell? ⟨q, 2, none⟩ = some (.int .i64 TE) := W5.out.e
    have f0 : w5.cell? ⟨w.heap.size, 0, none⟩ = some (.int .i64 tk) := by rw [Lib.cell_of_heap B5.out]; rfl
    have f6 : w5.cell? ⟨w.heap.size, 6, none⟩ = some (.slice p nu c) := by rw [Lib.cell_of_heap B5.out]; rfl
    clear h5 e0 e1 e6
    have tn : ¬ TE = 0 := by have b := HD.out; simp [wrE, h7, hn, y1, y2', y3, y4, y5] at b; omega
    have tn' : (TE == 0) = false := by simpa using tn
    have tn'' : (TE != 0) = true := by simpa using tn
    go_wp2
    refine bodyPost_ret (results_none rfl _ _ _) rfl ?_
    exact ⟨⟨_, rfl⟩, hK5, HNo.out tn _ W5.out⟩
end Go.Proofs.YtfajjphfjilpnaaGreat

namespace Go.Proofs.YtfajjphfjilpnaaGreat
open Go.RowKit LX Go.Shelf
set_option linter.unusedVariables false

set_option maxRecDepth 100000 in
set_option maxHeartbeats 8000000 in
theorem rterm_c1 (w0 : World) (q : Nat) (hq : w0.heap.size ≤ q) (m : Nat) (ih : ∀ (t : Tm) (V : Value) (d : Int) (s : Int × Int) (w : World), SizeOf.sizeOf t ≤ m → TmsAt w0 V t.subs → t.v.Fits → Below w0.heap.size w0 w → WK w q s.1 s.2 0 → OkS s → 0 ≤ d → d ≤ 25 →
    Calls Tryz.prog 58 #[.pointer (some ⟨q, 0, none⟩), .agg #[.int .i64 t.k, .string t.nm, .int .i64 t.v.k, .int .i64 t.v.n, .int .i64 t.v.d, .string t.v.s, V], .int .i64 d] w fun r w' => (∃ v, r = .returned v) ∧ Hid (KeepT q w w' ∧ WQ w' q (trun d s t))) (t : Tm) (V : Value) (d : Int) (s : Int × Int) (w : World) (hm : SizeOf.sizeOf t ≤ m + 1) (hV : TmsAt w0 V t.subs) (hF : t.v.Fits) (hw : Below w0.heap.size w0 w) (hK : WK w q s.1 s.2 0) (hs : OkS s) (hd0 : 0 ≤ d) (hd1 : d ≤ 25) (h7 : t.k = 1) :
    Calls Tryz.prog 58 #[.pointer (some ⟨q, 0, none⟩), .agg #[.int .i64 t.k, .string t.nm, .int .i64 t.v.k, .int .i64 t.v.n, .int .i64 t.v.d, .string t.v.s, V], .int .i64 d] w fun r w' => (∃ v, r = .returned v) ∧ Hid (KeepT q w w' ∧ WQ w' q (trun d s t)) := by
  obtain ⟨p, c, rfl, hl, hc, HX0⟩ := hV.form
  have HX : Hid (∀ i (hi : i < t.subs.length), ∃ b off u, p = some ⟨b, off, none⟩ ∧ b < w0.heap.size ∧ TmC w0 b (off + i * 7) t.subs[i] u ∧ TmsAt w0 u t.subs[i].subs ∧ t.subs[i].v.Fits) := HX0
  have IH : Hid (_) := ih
  have HS : Hid (OkS s) := hs
  have HW : Hid (WK w q s.1 s.2 0) := hK
  have hqw : q < w.heap.size := hK.lt
  have HM : Hid (SizeOf.sizeOf t ≤ m + 1) := hm
  have hD := doc_tmE t
  have cN : Hid (∀ W : World, Calls Tryz.prog 81 #[.string t.nm] W fun e w' => e = .returned (.bool (nameB t.nm)) ∧ Below W.heap.size W w') := fun W => rname_any t.nm W
  have cC : Hid (∀ W : World, Calls Tryz.prog 85 #[.agg #[.int .i64 t.v.k, .int .i64 t.v.n, .int .i64 t.v.d, .string t.v.s]] W fun e w' => e = .returned (.int .i64 t.v.may) ∧ Below W.heap.size W w') := fun W => rcheck_any t.v.k t.v.n t.v.d t.v.s W hF.n1 hF.n2 hF.d1 hF.d2
  have cS : Hid (∀ W : World, Calls Tryz.prog 84 #[.agg #[.int .i64 t.v.k, .int .i64 t.v.n, .int .i64 t.v.d, .string t.v.s], .agg #[.int .i64 0, .int .i64 0, .int .i64 0, .string ⟨#[]⟩]] W fun e w' => e = .returned (.bool (sameB t.v.k t.v.n t.v.d t.v.s 0 0 0 ⟨#[]⟩)) ∧ Below W.heap.size W w') := fun W => rsame_any t.v.k t.v.n t.v.d t.v.s 0 0 0 ⟨#[]⟩ W
  have hte := trun_eq d s t
  have HE : Hid (ndE d s.1 = meetE d s) := nd_meet hs
  obtain ⟨R, eR⟩ : ∃ R : Int × (Int × Int), Hid (trun d s t = R) := ⟨_, rfl⟩
  rw [eR.out] at hte ⊢
  have HTE : Hid (_) := hte
  obtain ⟨ts, ets⟩ : ∃ ts : List Tm, Hid (t.subs = ts) := ⟨_, rfl⟩
  obtain ⟨nu, en⟩ : ∃ n : Nat, Hid (t.subs.length = n) := ⟨_, rfl⟩
  rw [en.out] at hl hc hD ⊢
  have HD : Hid (_) := hD
  clear hV HX0 ih hK hs hm hte hD hF
  generalize nameB t.nm = NB at *
  generalize sameB t.v.k t.v.n t.v.d t.v.s 0 0 0 ⟨#[]⟩ = SB at *
  generalize t.v.may = MY at *
  generalize t.v.k = vk at *
  generalize t.v.n = vn at *
  generalize t.v.d = vd at *
  generalize t.v.s = vs at *
  generalize t.k = tk at *
  generalize t.nm = nm at *
  have H7 : Hid (tk = 1) := h7
  clear h7
  go_enter Tryz.func58, Tryz.ntmps58
  go_wp2_with fail
  refine (rnode_any q s.1 s.2 d _ (HW.out.alloc _) ⟨HS.out.1, by have := HS.out.2.1; omega⟩).mono ?_
  rintro r w1 ⟨rfl, h1⟩
  have hK1 : KeepT q w w1 := (KeepT.of ((Below.refl _ _).alloc (Nat.le_refl _) _)).trans h1.out.2.keep
  have W1 : Hid (WK w1 q (s.1 + 1) (if s.2 < d then d else s.2) (ndE d s.1)) := h1.out.1
  have hne : w.heap.size ≠ q := by omega
  have hz1 : w.heap.size < w1.heap.size := by have := h1.out.2.size; simp at this; omega
  have B1 : Hid (w1.heap[w.heap.size]? = some (.cells #[.int .i64 tk, .string nm, .int .i64 vk, .int .i64 vn, .int .i64 vd, .string vs, .slice p nu c] 39 (0, 0))) := (h1.out.2.block w.heap.size (by simp) hne).trans (heap_allocA w _)
  have e0 : w1.cell? ⟨w.heap.size, 0, none⟩ = some (.int .i64 tk) := by rw [Lib.cell_of_heap B1.out]; rfl
  clear h1
  by_cases hE : ndE d s.1 = 0
  case neg =>
    have hE' : (ndE d s.1 == 0) = false := by simpa using hE
    rw [hE']
    go_wp2
    refine bodyPost_ret (results_none rfl _ _ _) rfl ?_
    refine ⟨⟨_, rfl⟩, hK1, ?_⟩
    have h := HTE.out
    rw [← HE.out, if_neg hE] at h
    rw [h]
    exact ⟨_, _, W1.out, fun e => absurd e hE⟩
  have hE' : (ndE d s.1 == 0) = true := by simpa using hE
  rw [hE']
  have W1' : Hid (WK w1 q (s.1 + 1) (if s.2 < d then d else s.2) 0) := by have h := W1.out; rwa [hE] at h
  clear W1
  obtain ⟨N1, hN1⟩ : ∃ N1, Hid (s.1 + 1 = N1) := ⟨_, rfl⟩
  obtain ⟨M1, hM1⟩ : ∃ M1, Hid ((if s.2 < d then d else s.2) = M1) := ⟨_, rfl⟩
  rw [hN1.out, hM1.out] at W1'
  have hmS : Hid (meetS d s = (N1, M1)) := by
    have e : meetE d s = 0 := by rw [← HE.out]; exact hE
    unfold meetS
    rw [if_pos e, ← hN1.out, ← hM1.out, Int.max_def]
    congr 1
    by_cases h : s.2 < d
    · rw [if_pos h, if_pos (by omega)]
    · rw [if_neg h]; split <;> omega
  have HR : Hid (R = if tmE t = 0 then truns (d + 1) (N1, M1) t.subs else (tmE t, (N1, M1))) := by
    have h := HTE.out
    rw [← HE.out, if_pos hE, hmS.out] at h
    exact h
  have hd24 : d ≤ 24 := meetE_le (s := s) (by rw [← HE.out]; exact hE)
  have HOk : Hid (OkS (N1, M1)) := by rw [← hmS.out]; exact meetS_ok HS.out hd0
  clear HTE HE hE hE' hN1 hM1 hmS
  obtain ⟨TE, hTE⟩ : ∃ TE, Hid (tmE t = TE) := ⟨_, rfl⟩
  rw [hTE.out] at HR HD
  clear hTE e0
  have HNo : Hid (¬ TE = 0 → ∀ W : World, WK W q N1 M1 TE → WQ W q R) := by
    intro h W hW
    have hr := HR.out
    rw [if_neg h] at hr
    rw [hr]
    exact ⟨_, _, hW, fun e => absurd e h⟩
  have h7 := H7.out
  subst h7
  have e0 : w1.cell? ⟨w.heap.size, 0, none⟩ = some (.int .i64 1) := by rw [Lib.cell_of_heap B1.out]; rfl
  go_wp2_with fail
  refine (rwrong_any q N1 M1 0 20 _ w1 W1'.out).mono ?_
  rintro r w2 ⟨⟨v2, rfl⟩, h2⟩
  have W2 : Hid (WK w2 q N1 M1 0) := by have a := h2.out.1; first | exact a | (simp [wrE, h7] at a; exact a)
  have B2 : Hid (_) := h2.out.2.heap B1.out hne
  have hK2 : KeepT q w w2 := hK1.trans h2.out.2.keep
  have hz2 : w.heap.size < w2.heap.size := lt_heap B2.out
  clear h2 e0
  have e0 : w2.cell? ⟨w.heap.size, 0, none⟩ = some (.int .i64 1) := by rw [Lib.cell_of_heap B2.out]; rfl
  have e1 : w2.cell? ⟨w.heap.size, 1, none⟩ = some (.string nm) := by rw [Lib.cell_of_heap B2.out]; rfl
  go_wp2_with fail
  refine (cN.out _).mono ?_
  rintro r w3 ⟨rfl, hb3⟩
  have W3 : Hid (WK w3 q N1 M1 0) := W2.out.below hb3
  have B3 : Hid (_) := blkB B2.out hb3
  have hK3 : KeepT q w w3 := hK2.trans (KeepT.of hb3)
  clear hb3 e0 e1
  have e2 : w3.cell? ⟨w.heap.size, 2, none⟩ = some (.int .i64 vk) := by rw [Lib.cell_of_heap B3.out]; rfl
  have e3 : w3.cell? ⟨w.heap.size, 3, none⟩ = some (.int .i64 vn) := by rw [Lib.cell_of_heap B3.out]; rfl
  have e4 : w3.cell? ⟨w.heap.size, 4, none⟩ = some (.int .i64 vd) := by rw [Lib.cell_of_heap B3.out]; rfl
  have e5 : w3.cell? ⟨w.heap.size, 5, none⟩ = some (.string vs) := by rw [Lib.cell_of_heap B3.out]; rfl
  go_wp2_with fail
  refine (cS.out _).mono ?_
  rintro r w4 ⟨rfl, hb4⟩
  have W4 : Hid (WK w4 q N1 M1 0) := W3.out.below hb4
  have B4 : Hid (_) := blkB B3.out hb4
  have hK4 : KeepT q w w4 := hK3.trans (KeepT.of hb4)
  clear hb4 e2 e3 e4 e5
  have e0 : w4.cell? ⟨w.heap.size, 0, none⟩ = some (.int .i64 1) := by rw [Lib.cell_of_heap B4.out]; rfl
  have e1 : w4.cell? ⟨w.heap.size, 1, none⟩ = some (.string nm) := by rw [Lib.cell_of_heap B4.out]; rfl
  have e6 : w4.cell? ⟨w.heap.size, 6, none⟩ = some (.slice p nu c) := by rw [Lib.cell_of_heap B4.out]; rfl
  have hxi : ((nu : Int) = 2) = (nu = 2) := by apply propext; omega
  cases NB <;> cases SB <;> by_cases hx : nu = 0
  all_goals
    go_wp2_with fail
    refine (rwrong_any q N1 M1 _ 1 _ w4 W4.out).mono ?_
    rintro r w5 ⟨⟨v5, rfl⟩, h5⟩
    have W5 : Hid (WK w5 q N1 M1 TE) := by
      have a := h5.out.1
      have b := HD.out
      simp [wrE, hx] at a b
      first | (subst b; exact a) | (rw [← b]; exact a)
    have hK5 : KeepT q w w5 := hK4.trans h5.out.2.keep
    have B5 : Hid (_) := h5.out.2.heap B4.out hne
    have y2 : w5.cell? ⟨q, 2, none⟩ = some (.int .i64 TE) := W5.out.e
    have f0 : w5.cell? ⟨w.heap.size, 0, none⟩ = some (.int .i64 1) := by rw [Lib.cell_of_heap B5.out]; rfl
    have f6 : w5.cell? ⟨w.heap.size, 6, none⟩ = some (.slice p nu c) := by rw [Lib.cell_of_heap B5.out]; rfl
    clear h5 e0 e1 e6
    first
    | have tn : ¬ TE = 0 := by have b := HD.out; simp [wrE, hx] at b; omega
      have tn' : (TE == 0) = false := by simpa using tn
      have tn'' : (TE != 0) = true := by simpa using tn
      go_wp2
      refine bodyPost_ret (results_none rfl _ _ _) rfl ?_
      exact ⟨⟨_, rfl⟩, hK5, HNo.out tn _ W5.out⟩
    | have tz : TE = 0 := by have b := HD.out; simp [wrE, hx] at b; omega
      subst tz
      have HL : Hid (R = truns (d + 1) (N1, M1) t.subs) := by have h := HR.out; rw [if_pos rfl] at h; exact h
      clear HD HR HNo cN cC cS hx
      go_wp2
      go_loopw [11] (fun v wr => ∃ (k : Nat) (N M E : Int), k ≤ nu ∧ v = .int .i64 k ∧ KeepT q w5 wr ∧ Hid (WK wr q N M E) ∧ Hid (E = 0 → OkS (N, M) ∧ R = truns (d + 1) (N, M) (t.subs.drop k)) ∧ Hid (¬ E = 0 → R.1 = E)) (fun v _ => nu - (intOf v).toNat)
      case atStart => exact ⟨0, N1, M1, 0, Nat.zero_le _, rfl, KeepT.refl _ _, W5, fun _ => ⟨HOk.out, by rw [List.drop_zero]; exact HL.out⟩, fun h => absurd rfl h⟩
      case round =>
        obtain ⟨k, N, M, E, hk, rfl, hKr, hWr, hr0, hr1⟩ := hrel
        have Br : Hid (_) := (hKr.block w.heap.size (lt_heap B5.out) hne).trans B5.out
        have r6 : wr.cell? ⟨w.heap.size, 6, none⟩ = some (.slice p nu c) := by rw [Lib.cell_of_heap Br.out]; rfl
        by_cases hlt : k < nu
        case neg =>
          have c2 : ¬ (k : Int) < nu := by omega
          go_wp2
          go_end0
          refine ⟨⟨_, rfl⟩, hK5.trans hKr, ?_⟩
          by_cases hE0 : E = 0
          · have h := (hr0.out hE0).2
            rw [List.drop_eq_nil_of_le (by have := en.out; omega), truns_nil] at h
            rw [h]
            subst hE0
            exact ⟨N, M, hWr.out, fun _ => ⟨rfl, rfl⟩⟩
          · have h := hr1.out hE0
            exact ⟨N, M, by rw [h]; exact hWr.out, fun e => absurd (h.symm.trans e) hE0⟩
        have hlt' : (k : Int) < nu := by omega
        have kx : k < t.subs.length := by have := en.out; omega
        obtain ⟨b, off, u, rfl, hb, TC, TS, TF⟩ := HX.out k kx
        have hBr : Below w0.heap.size w0 wr := hw.trans ((hK5.trans hKr).below (B := w0.heap.size) hq (Nat.le_of_lt hqw))
        obtain ⟨a0, a1, a2, a3, a4, a5, a6⟩ := TC.below hBr hb
        have hsz : SizeOf.sizeOf t.subs[k] ≤ m := by
          have h1 := mem_lt k kx
          have h2 := t.subs_lt
          have h3 := HM.out
          unfold Hid at h3
          omega
        have cT : Hid (Calls Tryz.prog 58 #[.pointer (some ⟨q, 0, none⟩), .agg #[.int .i64 t.subs[k].k, .string t.subs[k].nm, .int .i64 t.subs[k].v.k, .int .i64 t.subs[k].v.n, .int .i64 t.subs[k].v.d, .string t.subs[k].v.s, u], .int .i64 (d + 1)] wr fun r w' => (∃ v, r = .returned v) ∧ Hid (KeepT q wr w' ∧ ∃ N' M' E', WK w' q N' M' E' ∧ (E' = 0 → OkS (N', M') ∧ R = truns (d + 1) (N', M') (t.subs.drop (k + 1))) ∧ (¬ E' = 0 → R.1 = E'))) := by
          by_cases hE0 : E = 0
          · subst hE0
            obtain ⟨o1, o2⟩ := hr0.out rfl
            refine (IH.out t.subs[k] u (d + 1) (N, M) wr hsz TS TF hBr hWr.out o1 (by omega) (by omega)).mono ?_
            rintro r w' ⟨hv, h⟩
            obtain ⟨N', M', g1, g2⟩ := h.out.2
            rw [List.drop_eq_getElem_cons kx, truns_cons] at o2
            refine ⟨hv, h.out.1, N', M', _, g1, fun e => ?_, fun e => ?_⟩
            · obtain ⟨rfl, rfl⟩ := g2 e
              rw [if_pos e] at o2
              have ok := truns_ok (SizeOf.sizeOf [t.subs[k]]) [t.subs[k]] (d + 1) (N, M) (Nat.le_refl _) o1 (by omega)
              rw [truns_cons, if_pos e, truns_nil] at ok
              exact ⟨ok, o2⟩
            · rw [if_neg e] at o2
              rw [o2]
          · refine (rterm_no q N M E (d + 1) _ _ _ _ _ _ u wr hWr.out hE0).mono ?_
            rintro r w' ⟨hv, h⟩
            exact ⟨hv, KeepT.of h.out.1, N, M, E, h.out.2, fun e => absurd e hE0, fun _ => hr1.out hE0⟩
        clear hr0 hr1 TC TS TF IH HX
        generalize t.subs[k].k = k0 at *
        generalize t.subs[k].nm = k1 at *
        generalize t.subs[k].v.k = k2 at *
        generalize t.subs[k].v.n = k3 at *
        generalize t.subs[k].v.d = k4 at *
        generalize t.subs[k].v.s = k5 at *
        have nw : IntKind.i64.wrap (d + 1) = d + 1 := by rw [IntKind.wrap_i64]; omega
        have nw2 : wrap64 (d + 1) = d + 1 := by unfold wrap64; omega
        go_wp2_with fail
        refine cT.out.mono ?_
        rintro r w6 ⟨⟨v6, rfl⟩, h6⟩
        obtain ⟨hk6, N', M', E', g1, g2, g3⟩ := h6.out
        have HP : Hid (WK w6 q N' M' E' ∧ (E' = 0 → OkS (N', M') ∧ R = truns (d + 1) (N', M') (t.subs.drop (k + 1))) ∧ (¬ E' = 0 → R.1 = E')) := ⟨g1, g2, g3⟩
        have hK6 : KeepT q w5 w6 := hKr.trans hk6
        clear g1 g2 g3 h6 cT
        go_wp2
        exact ⟨⟨k + 1, N', M', E', by omega, by go_num, hK6, HP.out.1, HP.out.2.1, HP.out.2.2⟩, by simp [intOf]; omega⟩
end Go.Proofs.YtfajjphfjilpnaaGreat

namespace Go.Proofs.YtfajjphfjilpnaaGreat
open Go.RowKit LX Go.Shelf
set_option linter.unusedVariables false

set_option maxRecDepth 100000 in
set_option maxHeartbeats 8000000 in
theorem rterm_c2 (w0 : World) (q : Nat) (hq : w0.heap.size ≤ q) (m : Nat) (ih : ∀ (t : Tm) (V : Value) (d : Int) (s : Int × Int) (w : World), SizeOf.sizeOf t ≤ m → TmsAt w0 V t.subs → t.v.Fits → Below w0.heap.size w0 w → WK w q s.1 s.2 0 → OkS s → 0 ≤ d → d ≤ 25 →
    Calls Tryz.prog 58 #[.pointer (some ⟨q, 0, none⟩), .agg #[.int .i64 t.k, .string t.nm, .int .i64 t.v.k, .int .i64 t.v.n, .int .i64 t.v.d, .string t.v.s, V], .int .i64 d] w fun r w' => (∃ v, r = .returned v) ∧ Hid (KeepT q w w' ∧ WQ w' q (trun d s t))) (t : Tm) (V : Value) (d : Int) (s : Int × Int) (w : World) (hm : SizeOf.sizeOf t ≤ m + 1) (hV : TmsAt w0 V t.subs) (hF : t.v.Fits) (hw : Below w0.heap.size w0 w) (hK : WK w q s.1 s.2 0) (hs : OkS s) (hd0 : 0 ≤ d) (hd1 : d ≤ 25) (h7 : t.k = 2) :
    Calls Tryz.prog 58 #[.pointer (some ⟨q, 0, none⟩), .agg #[.int .i64 t.k, .string t.nm, .int .i64 t.v.k, .int .i64 t.v.n, .int .i64 t.v.d, .string t.v.s, V], .int .i64 d] w fun r w' => (∃ v, r = .returned v) ∧ Hid (KeepT q w w' ∧ WQ w' q (trun d s t)) := by
  obtain ⟨p, c, rfl, hl, hc, HX0⟩ := hV.form
  have HX : Hid (∀ i (hi : i < t.subs.length), ∃ b off u, p = some ⟨b, off, none⟩ ∧ b < w0.heap.size ∧ TmC w0 b (off + i * 7) t.subs[i] u ∧ TmsAt w0 u t.subs[i].subs ∧ t.subs[i].v.Fits) := HX0
  have IH : Hid (_) := ih
  have HS : Hid (OkS s) := hs
  have HW : Hid (WK w q s.1 s.2 0) := hK
  have hqw : q < w.heap.size := hK.lt
  have HM : Hid (SizeOf.sizeOf t ≤ m + 1) := hm
  have hD := doc_tmE t
  have cN : Hid (∀ W : World, Calls Tryz.prog 81 #[.string t.nm] W fun e w' => e = .returned (.bool (nameB t.nm)) ∧ Below W.heap.size W w') := fun W => rname_any t.nm W
  have cC : Hid (∀ W : World, Calls Tryz.prog 85 #[.agg #[.int .i64 t.v.k, .int .i64 t.v.n, .int .i64 t.v.d, .string t.v.s]] W fun e w' => e = .returned (.int .i64 t.v.may) ∧ Below W.heap.size W w') := fun W => rcheck_any t.v.k t.v.n t.v.d t.v.s W hF.n1 hF.n2 hF.d1 hF.d2
  have cS : Hid (∀ W : World, Calls Tryz.prog 84 #[.agg #[.int .i64 t.v.k, .int .i64 t.v.n, .int .i64 t.v.d, .string t.v.s], .agg #[.int .i64 0, .int .i64 0, .int .i64 0, .string ⟨#[]⟩]] W fun e w' => e = .returned (.bool (sameB t.v.k t.v.n t.v.d t.v.s 0 0 0 ⟨#[]⟩)) ∧ Below W.heap.size W w') := fun W => rsame_any t.v.k t.v.n t.v.d t.v.s 0 0 0 ⟨#[]⟩ W
  have hte := trun_eq d s t
  have HE : Hid (ndE d s.1 = meetE d s) := nd_meet hs
  obtain ⟨R, eR⟩ : ∃ R : Int × (Int × Int), Hid (trun d s t = R) := ⟨_, rfl⟩
  rw [eR.out] at hte ⊢
  have HTE : Hid (_) := hte
  obtain ⟨ts, ets⟩ : ∃ ts : List Tm, Hid (t.subs = ts) := ⟨_, rfl⟩
  obtain ⟨nu, en⟩ : ∃ n : Nat, Hid (t.subs.length = n) := ⟨_, rfl⟩
  rw [en.out] at hl hc hD ⊢
  have HD : Hid (_) := hD
  clear hV HX0 ih hK hs hm hte hD hF
  generalize nameB t.nm = NB at *
  generalize sameB t.v.k t.v.n t.v.d t.v.s 0 0 0 ⟨#[]⟩ = SB at *
  generalize t.v.may = MY at *
  generalize t.v.k = vk at *
  generalize t.v.n = vn at *
  generalize t.v.d = vd at *
  generalize t.v.s = vs at *
  generalize t.k = tk at *
  generalize t.nm = nm at *
  have H7 : Hid (tk = 2) := h7
  clear h7
  go_enter Tryz.func58, Tryz.ntmps58
  go_wp2_with fail
  refine (rnode_any q s.1 s.2 d _ (HW.out.alloc _) ⟨HS.out.1, by have := HS.out.2.1; omega⟩).mono ?_
  rintro r w1 ⟨rfl, h1⟩
  have hK1 : KeepT q w w1 := (KeepT.of ((Below.refl _ _).alloc (Nat.le_refl _) _)).trans h1.out.2.keep
  have W1 : Hid (WK w1 q (s.1 + 1) (if s.2 < d then d else s.2) (ndE d s.1)) := h1.out.1
  have hne : w.heap.size ≠ q := by omega
  have hz1 : w.heap.size < w1.heap.size := by have := h1.out.2.size; simp at this; omega
  have B1 : Hid (w1.heap[w.heap.size]? = some (.cells #[.int .i64 tk, .string nm, .int .i64 vk, .int .i64 vn, .int .i64 vd, .string vs, .slice p nu c] 39 (0, 0))) := (h1.out.2.block w.heap.size (by simp) hne).trans (heap_allocA w _)
  have e0 : w1.cell? ⟨w.heap.size, 0, none⟩ = some (.int .i64 tk) := by rw [Lib.cell_of_heap B1.out]; rfl
  clear h1
  by_cases hE : ndE d s.1 = 0
  case neg =>
    have hE' : (ndE d s.1 == 0) = false := by simpa using hE
    rw [hE']
    go_wp2
    refine bodyPost_ret (results_none rfl _ _ _) rfl ?_
    refine ⟨⟨_, rfl⟩, hK1, ?_⟩
    have h := HTE.out
    rw [← HE.out, if_neg hE] at h
    rw [h]
    exact ⟨_, _, W1.out, fun e => absurd e hE⟩
  have hE' : (ndE d s.1 == 0) = true := by simpa using hE
  rw [hE']
  have W1' : Hid (WK w1 q (s.1 + 1) (if s.2 < d then d else s.2) 0) := by have h := W1.out; rwa [hE] at h
  clear W1
  obtain ⟨N1, hN1⟩ : ∃ N1, Hid (s.1 + 1 = N1) := ⟨_, rfl⟩
  obtain ⟨M1, hM1⟩ : ∃ M1, Hid ((if s.2 < d then d else s.2) = M1) := ⟨_, rfl⟩
  rw [hN1.out, hM1.out] at W1'
  have hmS : Hid (meetS d s = (N1, M1)) := by
    have e : meetE d s = 0 := by rw [← HE.out]; exact hE
    unfold meetS
    rw [if_pos e, ← hN1.out, ← hM1.out, Int.max_def]
    congr 1
    by_cases h : s.2 < d
    · rw [if_pos h, if_pos (by omega)]
    · rw [if_neg h]; split <;> omega
  have HR : Hid (R = if tmE t = 0 then truns (d + 1) (N1, M1) t.subs else (tmE t, (N1, M1))) := by
    have h := HTE.out
    rw [← HE.out, if_pos hE, hmS.out] at h
    exact h
  have hd24 : d ≤ 24 := meetE_le (s := s) (by rw [← HE.out]; exact hE)
  have HOk : Hid (OkS (N1, M1)) := by rw [← hmS.out]; exact meetS_ok HS.out hd0
  clear HTE HE hE hE' hN1 hM1 hmS
  obtain ⟨TE, hTE⟩ : ∃ TE, Hid (tmE t = TE) := ⟨_, rfl⟩
  rw [hTE.out] at HR HD
  clear hTE e0
  have HNo : Hid (¬ TE = 0 → ∀ W : World, WK W q N1 M1 TE → WQ W q R) := by
    intro h W hW
    have hr := HR.out
    rw [if_neg h] at hr
    rw [hr]
    exact ⟨_, _, hW, fun e => absurd e h⟩
  have h7 := H7.out
  subst h7
  have e0 : w1.cell? ⟨w.heap.size, 0, none⟩ = some (.int .i64 2) := by rw [Lib.cell_of_heap B1.out]; rfl
  go_wp2_with fail
  refine (rwrong_any q N1 M1 0 20 _ w1 W1'.out).mono ?_
  rintro r w2 ⟨⟨v2, rfl⟩, h2⟩
  have W2 : Hid (WK w2 q N1 M1 0) := by have a := h2.out.1; first | exact a | (simp [wrE, h7] at a; exact a)
  have B2 : Hid (_) := h2.out.2.heap B1.out hne
  have hK2 : KeepT q w w2 := hK1.trans h2.out.2.keep
  have hz2 : w.heap.size < w2.heap.size := lt_heap B2.out
  clear h2 e0
  have e0 : w2.cell? ⟨w.heap.size, 0, none⟩ = some (.int .i64 2) := by rw [Lib.cell_of_heap B2.out]; rfl
  have e1 : w2.cell? ⟨w.heap.size, 1, none⟩ = some (.string nm) := by rw [Lib.cell_of_heap B2.out]; rfl
  go_wp2_with fail
  refine (cN.out _).mono ?_
  rintro r w3 ⟨rfl, hb3⟩
  have W3 : Hid (WK w3 q N1 M1 0) := W2.out.below hb3
  have B3 : Hid (_) := blkB B2.out hb3
  have hK3 : KeepT q w w3 := hK2.trans (KeepT.of hb3)
  clear hb3 e0 e1
  have e2 : w3.cell? ⟨w.heap.size, 2, none⟩ = some (.int .i64 vk) := by rw [Lib.cell_of_heap B3.out]; rfl
  have e3 : w3.cell? ⟨w.heap.size, 3, none⟩ = some (.int .i64 vn) := by rw [Lib.cell_of_heap B3.out]; rfl
  have e4 : w3.cell? ⟨w.heap.size, 4, none⟩ = some (.int .i64 vd) := by rw [Lib.cell_of_heap B3.out]; rfl
  have e5 : w3.cell? ⟨w.heap.size, 5, none⟩ = some (.string vs) := by rw [Lib.cell_of_heap B3.out]; rfl
  go_wp2_with fail
  refine (cS.out _).mono ?_
  rintro r w4 ⟨rfl, hb4⟩
  have W4 : Hid (WK w4 q N1 M1 0) := W3.out.below hb4
  have B4 : Hid (_) := blkB B3.out hb4
  have hK4 : KeepT q w w4 := hK3.trans (KeepT.of hb4)
  clear hb4 e2 e3 e4 e5
  have e0 : w4.cell? ⟨w.heap.size, 0, none⟩ = some (.int .i64 2) := by rw [Lib.cell_of_heap B4.out]; rfl
  have e1 : w4.cell? ⟨w.heap.size, 1, none⟩ = some (.string nm) := by rw [Lib.cell_of_heap B4.out]; rfl
  have e6 : w4.cell? ⟨w.heap.size, 6, none⟩ = some (.slice p nu c) := by rw [Lib.cell_of_heap B4.out]; rfl
  by_cases hn : nm.toList = []
  case neg =>
    go_wp2_with fail
    refine (rwrong_any q N1 M1 _ 1 _ w4 W4.out).mono ?_
    rintro r w5 ⟨⟨v5, rfl⟩, h5⟩
    have W5 : Hid (WK w5 q N1 M1 1) := by have a := h5.out.1; first | exact a | (simp [wrE, hn] at a; exact a)
    have hK5 : KeepT q w w5 := hK4.trans h5.out.2.keep
    have B5 : Hid (_) := h5.out.2.heap B4.out hne
    clear h5 e0 e1 e6
    have e0 : w5.cell? ⟨w.heap.size, 0, none⟩ = some (.int .i64 2) := by rw [Lib.cell_of_heap B5.out]; rfl
    have e2 : w5.cell? ⟨w.heap.size, 2, none⟩ = some (.int .i64 vk) := by rw [Lib.cell_of_heap B5.out]; rfl
    have e3 : w5.cell? ⟨w.heap.size, 3, none⟩ = some (.int .i64 vn) := by rw [Lib.cell_of_heap B5.out]; rfl
    have e4 : w5.cell? ⟨w.heap.size, 4, none⟩ = some (.int .i64 vd) := by rw [Lib.cell_of_heap B5.out]; rfl
    have e5 : w5.cell? ⟨w.heap.size, 5, none⟩ = some (.string vs) := by rw [Lib.cell_of_heap B5.out]; rfl
    go_wp2_with fail
    refine (cC.out _).mono ?_
    rintro r w6 ⟨rfl, hb6⟩
    have W6 : Hid (WK w6 q N1 M1 1) := W5.out.below hb6
    have B6 : Hid (_) := blkB B5.out hb6
    have hK6 : KeepT q w w6 := hK5.trans (KeepT.of hb6)
    clear hb6 e0 e2 e3 e4 e5 W5 B5 hK5 W4 B4 hK4
    go_wp2_with fail
    refine (rwrong_any q N1 M1 1 _ _ w6 W6.out).mono ?_
    rintro r w5 ⟨⟨v5, rfl⟩, h5⟩
    have W5 : Hid (WK w5 q N1 M1 TE) := by
      have a := h5.out.1
      have b := HD.out
      simp [wrE, hn] at a b
      first | (subst b; exact a) | (rw [← b]; exact a)
    have hK5 : KeepT q w w5 := hK6.trans h5.out.2.keep
    have B5 : Hid (_) := h5.out.2.heap B6.out hne
    have y2 : w5.cell? ⟨q, 2, none⟩ = some (.int .i64 TE) := W5.out.e
    have f0 : w5.cell? ⟨w.heap.size, 0, none⟩ = some (.int .i64 2) := by rw [Lib.cell_of_heap B5.out]; rfl
    have f6 : w5.cell? ⟨w.heap.size, 6, none⟩ = some (.slice p nu c) := by rw [Lib.cell_of_heap B5.out]; rfl
    clear h5
    have tn : ¬ TE = 0 := by have b := HD.out; simp [wrE, hn] at b; omega
    have tn' : (TE == 0) = false := by simpa using tn
    have tn'' : (TE != 0) = true := by simpa using tn
    go_wp2
    refine bodyPost_ret (results_none rfl _ _ _) rfl ?_
    exact ⟨⟨_, rfl⟩, hK5, HNo.out tn _ W5.out⟩
  by_cases hx : nu = 0
  case neg =>
    go_wp2_with fail
    refine (rwrong_any q N1 M1 _ 1 _ w4 W4.out).mono ?_
    rintro r w5 ⟨⟨v5, rfl⟩, h5⟩
    have W5 : Hid (WK w5 q N1 M1 1) := by have a := h5.out.1; first | exact a | (simp [wrE, hx] at a; exact a)
    have hK5 : KeepT q w w5 := hK4.trans h5.out.2.keep
    have B5 : Hid (_) := h5.out.2.heap B4.out hne
    clear h5 e0 e1 e6
    have e0 : w5.cell? ⟨w.heap.size, 0, none⟩ = some (.int .i64 2) := by rw [Lib.cell_of_heap B5.out]; rfl
    have e2 : w5.cell? ⟨w.heap.size, 2, none⟩ = some (.int .i64 vk) := by rw [Lib.cell_of_heap B5.out]; rfl
    have e3 : w5.cell? ⟨w.heap.size, 3, none⟩ = some (.int .i64 vn) := by rw [Lib.cell_of_heap B5.out]; rfl
    have e4 : w5.cell? ⟨w.heap.size, 4, none⟩ = some (.int .i64 vd) := by rw [Lib.cell_of_heap B5.out]; rfl
    have e5 : w5.cell? ⟨w.heap.size, 5, none⟩ = some (.string vs) := by rw [Lib.cell_of_heap B5.out]; rfl
    go_wp2_with fail
    refine (cC.out _).mono ?_
    rintro r w6 ⟨rfl, hb6⟩
    have W6 : Hid (WK w6 q N1 M1 1) := W5.out.below hb6
    have B6 : Hid (_) := blkB B5.out hb6
    have hK6 : KeepT q w w6 := hK5.trans (KeepT.of hb6)
    clear hb6 e0 e2 e3 e4 e5 W5 B5 hK5 W4 B4 hK4
    go_wp2_with fail
    refine (rwrong_any q N1 M1 1 _ _ w6 W6.out).mono ?_
    rintro r w5 ⟨⟨v5, rfl⟩, h5⟩
    have W5 : Hid (WK w5 q N1 M1 TE) := by
      have a := h5.out.1
      have b := HD.out
      simp [wrE, hn, hx] at a b
      first | (subst b; exact a) | (rw [← b]; exact a)
    have hK5 : KeepT q w w5 := hK6.trans h5.out.2.keep
    have B5 : Hid (_) := h5.out.2.heap B6.out hne
    have y2 : w5.cell? ⟨q, 2, none⟩ = some (.int .i64 TE) := W5.out.e
    have f0 : w5.cell? ⟨w.heap.size, 0, none⟩ = some (.int .i64 2) := by rw [Lib.cell_of_heap B5.out]; rfl
    have f6 : w5.cell? ⟨w.heap.size, 6, none⟩ = some (.slice p nu c) := by rw [Lib.cell_of_heap B5.out]; rfl
    clear h5
    have tn : ¬ TE = 0 := by have b := HD.out; simp [wrE, hn, hx] at b; omega
    have tn' : (TE == 0) = false := by simpa using tn
    have tn'' : (TE != 0) = true := by simpa using tn
    go_wp2
    refine bodyPost_ret (results_none rfl _ _ _) rfl ?_
    exact ⟨⟨_, rfl⟩, hK5, HNo.out tn _ W5.out⟩
  by_cases hm : MY = 0
  case neg =>
    go_wp2_with fail
    refine (rwrong_any q N1 M1 _ 1 _ w4 W4.out).mono ?_
    rintro r w5 ⟨⟨v5, rfl⟩, h5⟩
    have W5 : Hid (WK w5 q N1 M1 0) := by have a := h5.out.1; first | exact a | (simp [wrE, hn, hx, hm] at a; exact a)
    have hK5 : KeepT q w w5 := hK4.trans h5.out.2.keep
    have B5 : Hid (_) := h5.out.2.heap B4.out hne
    clear h5 e0 e1 e6
    have e0 : w5.cell? ⟨w.heap.size, 0, none⟩ = some (.int .i64 2) := by rw [Lib.cell_of_heap B5.out]; rfl
    have e2 : w5.cell? ⟨w.heap.size, 2, none⟩ = some (.int .i64 vk) := by rw [Lib.cell_of_heap B5.out]; rfl
    have e3 : w5.cell? ⟨w.heap.size, 3, none⟩ = some (.int .i64 vn) := by rw [Lib.cell_of_heap B5.out]; rfl
    have e4 : w5.cell? ⟨w.heap.size, 4, none⟩ = some (.int .i64 vd) := by rw [Lib.cell_of_heap B5.out]; rfl
    have e5 : w5.cell? ⟨w.heap.size, 5, none⟩ = some (.string vs) := by rw [Lib.cell_of_heap B5.out]; rfl
    go_wp2_with fail
    refine (cC.out _).mono ?_
    rintro r w6 ⟨rfl, hb6⟩
    have W6 : Hid (WK w6 q N1 M1 0) := W5.out.below hb6
    have B6 : Hid (_) := blkB B5.out hb6
    have hK6 : KeepT q w w6 := hK5.trans (KeepT.of hb6)
    clear hb6 e0 e2 e3 e4 e5 W5 B5 hK5 W4 B4 hK4
    go_wp2_with fail
    refine (rwrong_any q N1 M1 0 _ _ w6 W6.out).mono ?_
    rintro r w5 ⟨⟨v5, rfl⟩, h5⟩
    have W5 : Hid (WK w5 q N1 M1 TE) := by
      have a := h5.out.1
      have b := HD.out
      simp [wrE, hn, hx, hm] at a b
      first | (subst b; exact a) | (rw [← b]; exact a)
    have hK5 : KeepT q w w5 := hK6.trans h5.out.2.keep
    have B5 : Hid (_) := h5.out.2.heap B6.out hne
    have y2 : w5.cell? ⟨q, 2, none⟩ = some (.int .i64 TE) := W5.out.e
    have f0 : w5.cell? ⟨w.heap.size, 0, none⟩ = some (.int .i64 2) := by rw [Lib.cell_of_heap B5.out]; rfl
    have f6 : w5.cell? ⟨w.heap.size, 6, none⟩ = some (.slice p nu c) := by rw [Lib.cell_of_heap B5.out]; rfl
    clear h5
    have tn : ¬ TE = 0 := by have b := HD.out; simp [wrE, hn, hx, hm] at b; omega
    have tn' : (TE == 0) = false := by simpa using tn
    have tn'' : (TE != 0) = true := by simpa using tn
    go_wp2
    refine bodyPost_ret (results_none rfl _ _ _) rfl ?_
    exact ⟨⟨_, rfl⟩, hK5, HNo.out tn _ W5.out⟩
  subst hm
  go_wp2_with fail
  refine (rwrong_any q N1 M1 _ 1 _ w4 W4.out).mono ?_
  rintro r w5 ⟨⟨v5, rfl⟩, h5⟩
  have W5 : Hid (WK w5 q N1 M1 0) := by have a := h5.out.1; first | exact a | (simp [wrE, hn, hx] at a; exact a)
  have hK5 : KeepT q w w5 := hK4.trans h5.out.2.keep
  have B5 : Hid (_) := h5.out.2.heap B4.out hne
  clear h5 e0 e1 e6
  have e0 : w5.cell? ⟨w.heap.size, 0, none⟩ = some (.int .i64 2) := by rw [Lib.cell_of_heap B5.out]; rfl
  have e2 : w5.cell? ⟨w.heap.size, 2, none⟩ = some (.int .i64 vk) := by rw [Lib.cell_of_heap B5.out]; rfl
  have e3 : w5.cell? ⟨w.heap.size, 3, none⟩ = some (.int .i64 vn) := by rw [Lib.cell_of_heap B5.out]; rfl
  have e4 : w5.cell? ⟨w.heap.size, 4, none⟩ = some (.int .i64 vd) := by rw [Lib.cell_of_heap B5.out]; rfl
  have e5 : w5.cell? ⟨w.heap.size, 5, none⟩ = some (.string vs) := by rw [Lib.cell_of_heap B5.out]; rfl
  go_wp2_with fail
  refine (cC.out _).mono ?_
  rintro r w6 ⟨rfl, hb6⟩
  have W6 : Hid (WK w6 q N1 M1 0) := W5.out.below hb6
  have B6 : Hid (_) := blkB B5.out hb6
  have hK6 : KeepT q w w6 := hK5.trans (KeepT.of hb6)
  clear hb6 e0 e2 e3 e4 e5 W5 B5 hK5 W4 B4 hK4
  go_wp2_with fail
  refine (rwrong_any q N1 M1 0 _ _ w6 W6.out).mono ?_
  rintro r w5 ⟨⟨v5, rfl⟩, h5⟩
  have W5 : Hid (WK w5 q N1 M1 TE) := by
    have a := h5.out.1
    have b := HD.out
    simp [wrE, hn, hx] at a b
    first | (subst b; exact a) | (rw [← b]; exact a)
  have hK5 : KeepT q w w5 := hK6.trans h5.out.2.keep
  have B5 : Hid (_) := h5.out.2.heap B6.out hne
  have y2 : w5.cell? ⟨q, 2, none⟩ = some (.int .i64 TE) := W5.out.e
  have f0 : w5.cell? ⟨w.heap.size, 0, none⟩ = some (.int .i64 2) := by rw [Lib.cell_of_heap B5.out]; rfl
  have f6 : w5.cell? ⟨w.heap.size, 6, none⟩ = some (.slice p nu c) := by rw [Lib.cell_of_heap B5.out]; rfl
  clear h5
  have tz : TE = 0 := by have b := HD.out; simp [wrE, hn, hx] at b; omega
  subst tz
  have HL : Hid (R = truns (d + 1) (N1, M1) t.subs) := by have h := HR.out; rw [if_pos rfl] at h; exact h
  clear HD HR HNo cN cC cS hx
  go_wp2
  go_loopw [11] (fun v wr => ∃ (k : Nat) (N M E : Int), k ≤ nu ∧ v = .int .i64 k ∧ KeepT q w5 wr ∧ Hid (WK wr q N M E) ∧ Hid (E = 0 → OkS (N, M) ∧ R = truns (d + 1) (N, M) (t.subs.drop k)) ∧ Hid (¬ E = 0 → R.1 = E)) (fun v _ => nu - (intOf v).toNat)
  case atStart => exact ⟨0, N1, M1, 0, Nat.zero_le _, rfl, KeepT.refl _ _, W5, fun _ => ⟨HOk.out, by rw [List.drop_zero]; exact HL.out⟩, fun h => absurd rfl h⟩
  case round =>
    obtain ⟨k, N, M, E, hk, rfl, hKr, hWr, hr0, hr1⟩ := hrel
    have Br : Hid (_) := (hKr.block w.heap.size (lt_heap B5.out) hne).trans B5.out
    have r6 : wr.cell? ⟨w.heap.size, 6, none⟩ = some (.slice p nu c) := by rw [Lib.cell_of_heap Br.out]; rfl
    by_cases hlt : k < nu
    case neg =>
      have c2 : ¬ (k : Int) < nu := by omega
      go_wp2
      go_end0
      refine ⟨⟨_, rfl⟩, hK5.trans hKr, ?_⟩
      by_cases hE0 : E = 0
      · have h := (hr0.out hE0).2
        rw [List.drop_eq_nil_of_le (by have := en.out; omega), truns_nil] at h
        rw [h]
        subst hE0
        exact ⟨N, M, hWr.out, fun _ => ⟨rfl, rfl⟩⟩
      · have h := hr1.out hE0
        exact ⟨N, M, by rw [h]; exact hWr.out, fun e => absurd (h.symm.trans e) hE0⟩
    have hlt' : (k : Int) < nu := by omega
    have kx : k < t.subs.length := by have := en.out; omega
    obtain ⟨b, off, u, rfl, hb, TC, TS, TF⟩ := HX.out k kx
    have hBr : Below w0.heap.size w0 wr := hw.trans ((hK5.trans hKr).below (B := w0.heap.size) hq (Nat.le_of_lt hqw))
    obtain ⟨a0, a1, a2, a3, a4, a5, a6⟩ := TC.below hBr hb
    have hsz : SizeOf.sizeOf t.subs[k] ≤ m := by
      have h1 := mem_lt k kx
      have h2 := t.subs_lt
      have h3 := HM.out
      unfold Hid at h3
      omega
    have cT : Hid (Calls Tryz.prog 58 #[.pointer (some ⟨q, 0, none⟩), .agg #[.int .i64 t.subs[k].k, .string t.subs[k].nm, .int .i64 t.subs[k].v.k, .int .i64 t.subs[k].v.n, .int .i64 t.subs[k].v.d, .string t.subs[k].v.s, u], .int .i64 (d + 1)] wr fun r w' => (∃ v, r = .returned v) ∧ Hid (KeepT q wr w' ∧ ∃ N' M' E', WK w' q N' M' E' ∧ (E' = 0 → OkS (N', M') ∧ R = truns (d + 1) (N', M') (t.subs.drop (k + 1))) ∧ (¬ E' = 0 → R.1 = E'))) := by
      by_cases hE0 : E = 0
      · subst hE0
        obtain ⟨o1, o2⟩ := hr0.out rfl
        refine (IH.out t.subs[k] u (d + 1) (N, M) wr hsz TS TF hBr hWr.out o1 (by omega) (by omega)).mono ?_
        rintro r w' ⟨hv, h⟩
        obtain ⟨N', M', g1, g2⟩ := h.out.2
        rw [List.drop_eq_getElem_cons kx, truns_cons] at o2
        refine ⟨hv, h.out.1, N', M', _, g1, fun e => ?_, fun e => ?_⟩
        · obtain ⟨rfl, rfl⟩ := g2 e
          rw [if_pos e] at o2
          have ok := truns_ok (SizeOf.sizeOf [t.subs[k]]) [t.subs[k]] (d + 1) (N, M) (Nat.le_refl _) o1 (by omega)
          rw [truns_cons, if_pos e, truns_nil] at ok
          exact ⟨ok, o2⟩
        · rw [if_neg e] at o2
          rw [o2]
      · refine (rterm_no q N M E (d + 1) _ _ _ _ _ _ u wr hWr.out hE0).mono ?_
        rintro r w' ⟨hv, h⟩
        exact ⟨hv, KeepT.of h.out.1, N, M, E, h.out.2, fun e => absurd e hE0, fun _ => hr1.out hE0⟩
    clear hr0 hr1 TC TS TF IH HX
    generalize t.subs[k].k = k0 at *
    generalize t.subs[k].nm = k1 at *
    generalize t.subs[k].v.k = k2 at *
    generalize t.subs[k].v.n = k3 at *
    generalize t.subs[k].v.d = k4 at *
    generalize t.subs[k].v.s = k5 at *
    have nw : IntKind.i64.wrap (d + 1) = d + 1 := by rw [IntKind.wrap_i64]; omega
    have nw2 : wrap64 (d + 1) = d + 1 := by unfold wrap64; omega
    go_wp2_with fail
    refine cT.out.mono ?_
    rintro r w6 ⟨⟨v6, rfl⟩, h6⟩
    obtain ⟨hk6, N', M', E', g1, g2, g3⟩ := h6.out
    have HP : Hid (WK w6 q N' M' E' ∧ (E' = 0 → OkS (N', M') ∧ R = truns (d + 1) (N', M') (t.subs.drop (k + 1))) ∧ (¬ E' = 0 → R.1 = E')) := ⟨g1, g2, g3⟩
    have hK6 : KeepT q w5 w6 := hKr.trans hk6
    clear g1 g2 g3 h6 cT
    go_wp2
    exact ⟨⟨k + 1, N', M', E', by omega, by go_num, hK6, HP.out.1, HP.out.2.1, HP.out.2.2⟩, by simp [intOf]; omega⟩
end Go.Proofs.YtfajjphfjilpnaaGreat

namespace Go.Proofs.YtfajjphfjilpnaaGreat
open Go.RowKit LX Go.Shelf
set_option linter.unusedVariables false

set_option maxRecDepth 100000 in
set_option maxHeartbeats 8000000 in
theorem rterm_c3 (w0 : World) (q : Nat) (hq : w0.heap.size ≤ q) (m : Nat) (ih : ∀ (t : Tm) (V : Value) (d : Int) (s : Int × Int) (w : World), SizeOf.sizeOf t ≤ m → TmsAt w0 V t.subs → t.v.Fits → Below w0.heap.size w0 w → WK w q s.1 s.2 0 → OkS s → 0 ≤ d → d ≤ 25 →
    Calls Tryz.prog 58 #[.pointer (some ⟨q, 0, none⟩), .agg #[.int .i64 t.k, .string t.nm, .int .i64 t.v.k, .int .i64 t.v.n, .int .i64 t.v.d, .string t.v.s, V], .int .i64 d] w fun r w' => (∃ v, r = .returned v) ∧ Hid (KeepT q w w' ∧ WQ w' q (trun d s t))) (t : Tm) (V : Value) (d : Int) (s : Int × Int) (w : World) (hm : SizeOf.sizeOf t ≤ m + 1) (hV : TmsAt w0 V t.subs) (hF : t.v.Fits) (hw : Below w0.heap.size w0 w) (hK : WK w q s.1 s.2 0) (hs : OkS s) (hd0 : 0 ≤ d) (hd1 : d ≤ 25) (h7 : t.k = 3) :
    Calls Tryz.prog 58 #[.pointer (some ⟨q, 0, none⟩), .agg #[.int .i64 t.k, .string t.nm, .int .i64 t.v.k, .int .i64 t.v.n, .int .i64 t.v.d, .string t.v.s, V], .int .i64 d] w fun r w' => (∃ v, r = .returned v) ∧ Hid (KeepT q w w' ∧ WQ w' q (trun d s t)) := by
  obtain ⟨p, c, rfl, hl, hc, HX0⟩ := hV.form
  have HX : Hid (∀ i (hi : i < t.subs.length), ∃ b off u, p = some ⟨b, off, none⟩ ∧ b < w0.heap.size ∧ TmC w0 b (off + i * 7) t.subs[i] u ∧ TmsAt w0 u t.subs[i].subs ∧ t.subs[i].v.Fits) := HX0
  have IH : Hid (_) := ih
  have HS : Hid (OkS s) := hs
  have HW : Hid (WK w q s.1 s.2 0) := hK
  have hqw : q < w.heap.size := hK.lt
  have HM : Hid (SizeOf.sizeOf t ≤ m + 1) := hm
  have hD := doc_tmE t
  have cN : Hid (∀ W : World, Calls Tryz.prog 81 #[.string t.nm] W fun e w' => e = .returned (.bool (nameB t.nm)) ∧ Below W.heap.size W w') := fun W => rname_any t.nm W
  have cC : Hid (∀ W : World, Calls Tryz.prog 85 #[.agg #[.int .i64 t.v.k, .int .i64 t.v.n, .int .i64 t.v.d, .string t.v.s]] W fun e w' => e = .returned (.int .i64 t.v.may) ∧ Below W.heap.size W w') := fun W => rcheck_any t.v.k t.v.n t.v.d t.v.s W hF.n1 hF.n2 hF.d1 hF.d2
  have cS : Hid (∀ W : World, Calls Tryz.prog 84 #[.agg #[.int .i64 t.v.k, .int .i64 t.v.n, .int .i64 t.v.d, .string t.v.s], .agg #[.int .i64 0, .int .i64 0, .int .i64 0, .string ⟨#[]⟩]] W fun e w' => e = .returned (.bool (sameB t.v.k t.v.n t.v.d t.v.s 0 0 0 ⟨#[]⟩)) ∧ Below W.heap.size W w') := fun W => rsame_any t.v.k t.v.n t.v.d t.v.s 0 0 0 ⟨#[]⟩ W
  have hte := trun_eq d s t
  have HE : Hid (ndE d s.1 = meetE d s) := nd_meet hs
  obtain ⟨R, eR⟩ : ∃ R : Int × (Int × Int), Hid (trun d s t = R) := ⟨_, rfl⟩
  rw [eR.out] at hte ⊢
  have HTE : Hid (_) := hte
  obtain ⟨ts, ets⟩ : ∃ ts : List Tm, Hid (t.subs = ts) := ⟨_, rfl⟩
  obtain ⟨nu, en⟩ : ∃ n : Nat, Hid (t.subs.length = n) := ⟨_, rfl⟩
  rw [en.out] at hl hc hD ⊢
  have HD : Hid (_) := hD
  clear hV HX0 ih hK hs hm hte hD hF
  generalize nameB t.nm = NB at *
  generalize sameB t.v.k t.v.n t.v.d t.v.s 0 0 0 ⟨#[]⟩ = SB at *
  generalize t.v.may = MY at *
  generalize t.v.k = vk at *
  generalize t.v.n = vn at *
  generalize t.v.d = vd at *
  generalize t.v.s = vs at *
  generalize t.k = tk at *
  generalize t.nm = nm at *
  have H7 : Hid (tk = 3) := h7
  clear h7
  go_enter Tryz.func58, Tryz.ntmps58
  go_wp2_with fail
  refine (rnode_any q s.1 s.2 d _ (HW.out.alloc _) ⟨HS.out.1, by have := HS.out.2.1; omega⟩).mono ?_
  rintro r w1 ⟨rfl, h1⟩
  have hK1 : KeepT q w w1 := (KeepT.of ((Below.refl _ _).alloc (Nat.le_refl _) _)).trans h1.out.2.keep
  have W1 : Hid (WK w1 q (s.1 + 1) (if s.2 < d then d else s.2) (ndE d s.1)) := h1.out.1
  have hne : w.heap.size ≠ q := by omega
  have hz1 : w.heap.size < w1.heap.size := by have := h1.out.2.size; simp at this; omega
  have B1 : Hid (w1.heap[w.heap.size]? = some (.cells #[.int .i64 tk, .string nm, .int .i64 vk, .int .i64 vn, .int .i64 vd, .string vs, .slice p nu c] 39 (0, 0))) := (h1.out.2.block w.heap.size (by simp) hne).trans (heap_allocA w _)
  have e0 : w1.cell? ⟨w.heap.size, 0, none⟩ = some (.int .i64 tk) := by rw [Lib.cell_of_heap B1.out]; rfl
  clear h1
  by_cases hE : ndE d s.1 = 0
  case neg =>
    have hE' : (ndE d s.1 == 0) = false := by simpa using hE
    rw [hE']
    go_wp2
    refine bodyPost_ret (results_none rfl _ _ _) rfl ?_
    refine ⟨⟨_, rfl⟩, hK1, ?_⟩
    have h := HTE.out
    rw [← HE.out, if_neg hE] at h
    rw [h]
    exact ⟨_, _, W1.out, fun e => absurd e hE⟩
  have hE' : (ndE d s.1 == 0) = true := by simpa using hE
  rw [hE']
  have W1' : Hid (WK w1 q (s.1 + 1) (if s.2 < d then d else s.2) 0) := by have h := W1.out; rwa [hE] at h
  clear W1
  obtain ⟨N1, hN1⟩ : ∃ N1, Hid (s.1 + 1 = N1) := ⟨_, rfl⟩
  obtain ⟨M1, hM1⟩ : ∃ M1, Hid ((if s.2 < d then d else s.2) = M1) := ⟨_, rfl⟩
  rw [hN1.out, hM1.out] at W1'
  have hmS : Hid (meetS d s = (N1, M1)) := by
    have e : meetE d s = 0 := by rw [← HE.out]; exact hE
    unfold meetS
    rw [if_pos e, ← hN1.out, ← hM1.out, Int.max_def]
    congr 1
    by_cases h : s.2 < d
    · rw [if_pos h, if_pos (by omega)]
    · rw [if_neg h]; split <;> omega
  have HR : Hid (R = if tmE t = 0 then truns (d + 1) (N1, M1) t.subs else (tmE t, (N1, M1))) := by
    have h := HTE.out
    rw [← HE.out, if_pos hE, hmS.out] at h
    exact h
  have hd24 : d ≤ 24 := meetE_le (s := s) (by rw [← HE.out]; exact hE)
  have HOk : Hid (OkS (N1, M1)) := by rw [← hmS.out]; exact meetS_ok HS.out hd0
  clear HTE HE hE hE' hN1 hM1 hmS
  obtain ⟨TE, hTE⟩ : ∃ TE, Hid (tmE t = TE) := ⟨_, rfl⟩
  rw [hTE.out] at HR HD
  clear hTE e0
  have HNo : Hid (¬ TE = 0 → ∀ W : World, WK W q N1 M1 TE → WQ W q R) := by
    intro h W hW
    have hr := HR.out
    rw [if_neg h] at hr
    rw [hr]
    exact ⟨_, _, hW, fun e => absurd e h⟩
  have h7 := H7.out
  subst h7
  have e0 : w1.cell? ⟨w.heap.size, 0, none⟩ = some (.int .i64 3) := by rw [Lib.cell_of_heap B1.out]; rfl
  go_wp2_with fail
  refine (rwrong_any q N1 M1 0 20 _ w1 W1'.out).mono ?_
  rintro r w2 ⟨⟨v2, rfl⟩, h2⟩
  have W2 : Hid (WK w2 q N1 M1 0) := by have a := h2.out.1; first | exact a | (simp [wrE, h7] at a; exact a)
  have B2 : Hid (_) := h2.out.2.heap B1.out hne
  have hK2 : KeepT q w w2 := hK1.trans h2.out.2.keep
  have hz2 : w.heap.size < w2.heap.size := lt_heap B2.out
  clear h2 e0
  have e0 : w2.cell? ⟨w.heap.size, 0, none⟩ = some (.int .i64 3) := by rw [Lib.cell_of_heap B2.out]; rfl
  have e1 : w2.cell? ⟨w.heap.size, 1, none⟩ = some (.string nm) := by rw [Lib.cell_of_heap B2.out]; rfl
  go_wp2_with fail
  refine (cN.out _).mono ?_
  rintro r w3 ⟨rfl, hb3⟩
  have W3 : Hid (WK w3 q N1 M1 0) := W2.out.below hb3
  have B3 : Hid (_) := blkB B2.out hb3
  have hK3 : KeepT q w w3 := hK2.trans (KeepT.of hb3)
  clear hb3 e0 e1
  have e2 : w3.cell? ⟨w.heap.size, 2, none⟩ = some (.int .i64 vk) := by rw [Lib.cell_of_heap B3.out]; rfl
  have e3 : w3.cell? ⟨w.heap.size, 3, none⟩ = some (.int .i64 vn) := by rw [Lib.cell_of_heap B3.out]; rfl
  have e4 : w3.cell? ⟨w.heap.size, 4, none⟩ = some (.int .i64 vd) := by rw [Lib.cell_of_heap B3.out]; rfl
  have e5 : w3.cell? ⟨w.heap.size, 5, none⟩ = some (.string vs) := by rw [Lib.cell_of_heap B3.out]; rfl
  go_wp2_with fail
  refine (cS.out _).mono ?_
  rintro r w4 ⟨rfl, hb4⟩
  have W4 : Hid (WK w4 q N1 M1 0) := W3.out.below hb4
  have B4 : Hid (_) := blkB B3.out hb4
  have hK4 : KeepT q w w4 := hK3.trans (KeepT.of hb4)
  clear hb4 e2 e3 e4 e5
  have e0 : w4.cell? ⟨w.heap.size, 0, none⟩ = some (.int .i64 3) := by rw [Lib.cell_of_heap B4.out]; rfl
  have e1 : w4.cell? ⟨w.heap.size, 1, none⟩ = some (.string nm) := by rw [Lib.cell_of_heap B4.out]; rfl
  have e6 : w4.cell? ⟨w.heap.size, 6, none⟩ = some (.slice p nu c) := by rw [Lib.cell_of_heap B4.out]; rfl
  have hxi : ((nu : Int) = 2) = (nu = 2) := by apply propext; omega
  cases SB <;> by_cases hn : nm.toList = [] <;> by_cases hx : nu = 2
  all_goals
    go_wp2_with fail
    refine (rwrong_any q N1 M1 _ 1 _ w4 W4.out).mono ?_
    rintro r w5 ⟨⟨v5, rfl⟩, h5⟩
    have W5 : Hid (WK w5 q N1 M1 TE) := by
      have a := h5.out.1
      have b := HD.out
      simp [wrE, hxi, hx, hn] at a b
      first | (subst b; exact a) | (rw [← b]; exact a)
    have hK5 : KeepT q w w5 := hK4.trans h5.out.2.keep
    have B5 : Hid (_) := h5.out.2.heap B4.out hne
    have y2 : w5.cell? ⟨q, 2, none⟩ = some (.int .i64 TE) := W5.out.e
    have f0 : w5.cell? ⟨w.heap.size, 0, none⟩ = some (.int .i64 3) := by rw [Lib.cell_of_heap B5.out]; rfl
    have f6 : w5.cell? ⟨w.heap.size, 6, none⟩ = some (.slice p nu c) := by rw [Lib.cell_of_heap B5.out]; rfl
    clear h5 e0 e1 e6
    first
    | have tn : ¬ TE = 0 := by have b := HD.out; simp [wrE, hx, hn] at b; omega
      have tn' : (TE == 0) = false := by simpa using tn
      have tn'' : (TE != 0) = true := by simpa using tn
      go_wp2
      refine bodyPost_ret (results_none rfl _ _ _) rfl ?_
      exact ⟨⟨_, rfl⟩, hK5, HNo.out tn _ W5.out⟩
    | have tz : TE = 0 := by have b := HD.out; simp [wrE, hx, hn] at b; omega
      subst tz
      have HL : Hid (R = truns (d + 1) (N1, M1) t.subs) := by have h := HR.out; rw [if_pos rfl] at h; exact h
      clear HD HR HNo cN cC cS hx
      go_wp2
      go_loopw [11] (fun v wr => ∃ (k : Nat) (N M E : Int), k ≤ nu ∧ v = .int .i64 k ∧ KeepT q w5 wr ∧ Hid (WK wr q N M E) ∧ Hid (E = 0 → OkS (N, M) ∧ R = truns (d + 1) (N, M) (t.subs.drop k)) ∧ Hid (¬ E = 0 → R.1 = E)) (fun v _ => nu - (intOf v).toNat)
      case atStart => exact ⟨0, N1, M1, 0, Nat.zero_le _, rfl, KeepT.refl _ _, W5, fun _ => ⟨HOk.out, by rw [List.drop_zero]; exact HL.out⟩, fun h => absurd rfl h⟩
      case round =>
        obtain ⟨k, N, M, E, hk, rfl, hKr, hWr, hr0, hr1⟩ := hrel
        have Br : Hid (_) := (hKr.block w.heap.size (lt_heap B5.out) hne).trans B5.out
        have r6 : wr.cell? ⟨w.heap.size, 6, none⟩ = some (.slice p nu c) := by rw [Lib.cell_of_heap Br.out]; rfl
        by_cases hlt : k < nu
        case neg =>
          have c2 : ¬ (k : Int) < nu := by omega
          go_wp2
          go_end0
          refine ⟨⟨_, rfl⟩, hK5.trans hKr, ?_⟩
          by_cases hE0 : E = 0
          · have h := (hr0.out hE0).2
            rw [List.drop_eq_nil_of_le (by have := en.out; omega), truns_nil] at h
            rw [h]
            subst hE0
            exact ⟨N, M, hWr.out, fun _ => ⟨rfl, rfl⟩⟩
          · have h := hr1.out hE0
            exact ⟨N, M, by rw [h]; exact hWr.out, fun e => absurd (h.symm.trans e) hE0⟩
        have hlt' : (k : Int) < nu := by omega
        have kx : k < t.subs.length := by have := en.out; omega
        obtain ⟨b, off, u, rfl, hb, TC, TS, TF⟩ := HX.out k kx
        have hBr : Below w0.heap.size w0 wr := hw.trans ((hK5.trans hKr).below (B := w0.heap.size) hq (Nat.le_of_lt hqw))
        obtain ⟨a0, a1, a2, a3, a4, a5, a6⟩ := TC.below hBr hb
        have hsz : SizeOf.sizeOf t.subs[k] ≤ m := by
          have h1 := mem_lt k kx
          have h2 := t.subs_lt
          have h3 := HM.out
          unfold Hid at h3
          omega
        have cT : Hid (Calls Tryz.prog 58 #[.pointer (some ⟨q, 0, none⟩), .agg #[.int .i64 t.subs[k].k, .string t.subs[k].nm, .int .i64 t.subs[k].v.k, .int .i64 t.subs[k].v.n, .int .i64 t.subs[k].v.d, .string t.subs[k].v.s, u], .int .i64 (d + 1)] wr fun r w' => (∃ v, r = .returned v) ∧ Hid (KeepT q wr w' ∧ ∃ N' M' E', WK w' q N' M' E' ∧ (E' = 0 → OkS (N', M') ∧ R = truns (d + 1) (N', M') (t.subs.drop (k + 1))) ∧ (¬ E' = 0 → R.1 = E'))) := by
          by_cases hE0 : E = 0
          · subst hE0
            obtain ⟨o1, o2⟩ := hr0.out rfl
            refine (IH.out t.subs[k] u (d + 1) (N, M) wr hsz TS TF hBr hWr.out o1 (by omega) (by omega)).mono ?_
            rintro r w' ⟨hv, h⟩
            obtain ⟨N', M', g1, g2⟩ := h.out.2
            rw [List.drop_eq_getElem_cons kx, truns_cons] at o2
            refine ⟨hv, h.out.1, N', M', _, g1, fun e => ?_, fun e => ?_⟩
            · obtain ⟨rfl, rfl⟩ := g2 e
              rw [if_pos e] at o2
              have ok := truns_ok (SizeOf.sizeOf [t.subs[k]]) [t.subs[k]] (d + 1) (N, M) (Nat.le_refl _) o1 (by omega)
              rw [truns_cons, if_pos e, truns_nil] at ok
              exact ⟨ok, o2⟩
            · rw [if_neg e] at o2
              rw [o2]
          · refine (rterm_no q N M E (d + 1) _ _ _ _ _ _ u wr hWr.out hE0).mono ?_
            rintro r w' ⟨hv, h⟩
            exact ⟨hv, KeepT.of h.out.1, N, M, E, h.out.2, fun e => absurd e hE0, fun _ => hr1.out hE0⟩
        clear hr0 hr1 TC TS TF IH HX
        generalize t.subs[k].k = k0 at *
        generalize t.subs[k].nm = k1 at *
        generalize t.subs[k].v.k = k2 at *
        generalize t.subs[k].v.n = k3 at *
        generalize t.subs[k].v.d = k4 at *
        generalize t.subs[k].v.s = k5 at *
        have nw : IntKind.i64.wrap (d + 1) = d + 1 := by rw [IntKind.wrap_i64]; omega
        have nw2 : wrap64 (d + 1) = d + 1 := by unfold wrap64; omega
        go_wp2_with fail
        refine cT.out.mono ?_
        rintro r w6 ⟨⟨v6, rfl⟩, h6⟩
        obtain ⟨hk6, N', M', E', g1, g2, g3⟩ := h6.out
        have HP : Hid (WK w6 q N' M' E' ∧ (E' = 0 → OkS (N', M') ∧ R = truns (d + 1) (N', M') (t.subs.drop (k + 1))) ∧ (¬ E' = 0 → R.1 = E')) := ⟨g1, g2, g3⟩
        have hK6 : KeepT q w5 w6 := hKr.trans hk6
        clear g1 g2 g3 h6 cT
        go_wp2
        exact ⟨⟨k + 1, N', M', E', by omega, by go_num, hK6, HP.out.1, HP.out.2.1, HP.out.2.2⟩, by simp [intOf]; omega⟩
end Go.Proofs.YtfajjphfjilpnaaGreat

namespace Go.Proofs.YtfajjphfjilpnaaGreat
open Go.RowKit LX Go.Shelf
set_option linter.unusedVariables false

set_option maxRecDepth 100000 in
set_option maxHeartbeats 8000000 in
theorem rterm_c4 (w0 : World) (q : Nat) (hq : w0.heap.size ≤ q) (m : Nat) (ih : ∀ (t : Tm) (V : Value) (d : Int) (s : Int × Int) (w : World), SizeOf.sizeOf t ≤ m → TmsAt w0 V t.subs → t.v.Fits → Below w0.heap.size w0 w → WK w q s.1 s.2 0 → OkS s → 0 ≤ d → d ≤ 25 →
    Calls Tryz.prog 58 #[.pointer (some ⟨q, 0, none⟩), .agg #[.int .i64 t.k, .string t.nm, .int .i64 t.v.k, .int .i64 t.v.n, .int .i64 t.v.d, .string t.v.s, V], .int .i64 d] w fun r w' => (∃ v, r = .returned v) ∧ Hid (KeepT q w w' ∧ WQ w' q (trun d s t))) (t : Tm) (V : Value) (d : Int) (s : Int × Int) (w : World) (hm : SizeOf.sizeOf t ≤ m + 1) (hV : TmsAt w0 V t.subs) (hF : t.v.Fits) (hw : Below w0.heap.size w0 w) (hK : WK w q s.1 s.2 0) (hs : OkS s) (hd0 : 0 ≤ d) (hd1 : d ≤ 25) (h7 : t.k = 4) :
    Calls Tryz.prog 58 #[.pointer (some ⟨q, 0, none⟩), .agg #[.int .i64 t.k, .string t.nm, .int .i64 t.v.k, .int .i64 t.v.n, .int .i64 t.v.d, .string t.v.s, V], .int .i64 d] w fun r w' => (∃ v, r = .returned v) ∧ Hid (KeepT q w w' ∧ WQ w' q (trun d s t)) := by
  obtain ⟨p, c, rfl, hl, hc, HX0⟩ := hV.form
  have HX : Hid (∀ i (hi : i < t.subs.length), ∃ b off u, p = some ⟨b, off, none⟩ ∧ b < w0.heap.size ∧ TmC w0 b (off + i * 7) t.subs[i] u ∧ TmsAt w0 u t.subs[i].subs ∧ t.subs[i].v.Fits) := HX0
  have IH : Hid (_) := ih
  have HS : Hid (OkS s) := hs
  have HW : Hid (WK w q s.1 s.2 0) := hK
  have hqw : q < w.heap.size := hK.lt
  have HM : Hid (SizeOf.sizeOf t ≤ m + 1) := hm
  have hD := doc_tmE t
  have cN : Hid (∀ W : World, Calls Tryz.prog 81 #[.string t.nm] W fun e w' => e = .returned (.bool (nameB t.nm)) ∧ Below W.heap.size W w') := fun W => rname_any t.nm W
  have cC : Hid (∀ W : World, Calls Tryz.prog 85 #[.agg #[.int .i64 t.v.k, .int .i64 t.v.n, .int .i64 t.v.d, .string t.v.s]] W fun e w' => e = .returned (.int .i64 t.v.may) ∧ Below W.heap.size W w') := fun W => rcheck_any t.v.k t.v.n t.v.d t.v.s W hF.n1 hF.n2 hF.d1 hF.d2
  have cS : Hid (∀ W : World, Calls Tryz.prog 84 #[.agg #[.int .i64 t.v.k, .int .i64 t.v.n, .int .i64 t.v.d, .string t.v.s], .agg #[.int .i64 0, .int .i64 0, .int .i64 0, .string ⟨#[]⟩]] W fun e w' => e = .returned (.bool (sameB t.v.k t.v.n t.v.d t.v.s 0 0 0 ⟨#[]⟩)) ∧ Below W.heap.size W w') := fun W => rsame_any t.v.k t.v.n t.v.d t.v.s 0 0 0 ⟨#[]⟩ W
  have hte := trun_eq d s t
  have HE : Hid (ndE d s.1 = meetE d s) := nd_meet hs
  obtain ⟨R, eR⟩ : ∃ R : Int × (Int × Int), Hid (trun d s t = R) := ⟨_, rfl⟩
  rw [eR.out] at hte ⊢
  have HTE : Hid (_) := hte
  obtain ⟨ts, ets⟩ : ∃ ts : List Tm, Hid (t.subs = ts) := ⟨_, rfl⟩
  obtain ⟨nu, en⟩ : ∃ n : Nat, Hid (t.subs.length = n) := ⟨_, rfl⟩
  rw [en.out] at hl hc hD ⊢
  have HD : Hid (_) := hD
  clear hV HX0 ih hK hs hm hte hD hF
  generalize nameB t.nm = NB at *
  generalize sameB t.v.k t.v.n t.v.d t.v.s 0 0 0 ⟨#[]⟩ = SB at *
  generalize t.v.may = MY at *
  generalize t.v.k = vk at *
  generalize t.v.n = vn at *
  generalize t.v.d = vd at *
  generalize t.v.s = vs at *
  generalize t.k = tk at *
  generalize t.nm = nm at *
  have H7 : Hid (tk = 4) := h7
  clear h7
  go_enter Tryz.func58, Tryz.ntmps58
  go_wp2_with fail
  refine (rnode_any q s.1 s.2 d _ (HW.out.alloc _) ⟨HS.out.1, by have := HS.out.2.1; omega⟩).mono ?_
  rintro r w1 ⟨rfl, h1⟩
  have hK1 : KeepT q w w1 := (KeepT.of ((Below.refl _ _).alloc (Nat.le_refl _) _)).trans h1.out.2.keep
  have W1 : Hid (WK w1 q (s.1 + 1) (if s.2 < d then d else s.2) (ndE d s.1)) := h1.out.1
  have hne : w.heap.size ≠ q := by omega
  have hz1 : w.heap.size < w1.heap.size := by have := h1.out.2.size; simp at this; omega
  have B1 : Hid (w1.heap[w.heap.size]? = some (.cells #[.int .i64 tk, .string nm, .int .i64 vk, .int .i64 vn, .int .i64 vd, .string vs, .slice p nu c] 39 (0, 0))) := (h1.out.2.block w.heap.size (by simp) hne).trans (heap_allocA w _)
  have e0 : w1.cell? ⟨w.heap.size, 0, none⟩ = some (.int .i64 tk) := by rw [Lib.cell_of_heap B1.out]; rfl
  clear h1
  by_cases hE : ndE d s.1 = 0
  case neg =>
    have hE' : (ndE d s.1 == 0) = false := by simpa using hE
    rw [hE']
    go_wp2
    refine bodyPost_ret (results_none rfl _ _ _) rfl ?_
    refine ⟨⟨_, rfl⟩, hK1, ?_⟩
    have h := HTE.out
    rw [← HE.out, if_neg hE] at h
    rw [h]
    exact ⟨_, _, W1.out, fun e => absurd e hE⟩
  have hE' : (ndE d s.1 == 0) = true := by simpa using hE
  rw [hE']
  have W1' : Hid (WK w1 q (s.1 + 1) (if s.2 < d then d else s.2) 0) := by have h := W1.out; rwa [hE] at h
  clear W1
  obtain ⟨N1, hN1⟩ : ∃ N1, Hid (s.1 + 1 = N1) := ⟨_, rfl⟩
  obtain ⟨M1, hM1⟩ : ∃ M1, Hid ((if s.2 < d then d else s.2) = M1) := ⟨_, rfl⟩
  rw [hN1.out, hM1.out] at W1'
  have hmS : Hid (meetS d s = (N1, M1)) := by
    have e : meetE d s = 0 := by rw [← HE.out]; exact hE
    unfold meetS
    rw [if_pos e, ← hN1.out, ← hM1.out, Int.max_def]
    congr 1
    by_cases h : s.2 < d
    · rw [if_pos h, if_pos (by omega)]
    · rw [if_neg h]; split <;> omega
  have HR : Hid (R = if tmE t = 0 then truns (d + 1) (N1, M1) t.subs else (tmE t, (N1, M1))) := by
    have h := HTE.out
    rw [← HE.out, if_pos hE, hmS.out] at h
    exact h
  have hd24 : d ≤ 24 := meetE_le (s := s) (by rw [← HE.out]; exact hE)
  have HOk : Hid (OkS (N1, M1)) := by rw [← hmS.out]; exact meetS_ok HS.out hd0
  clear HTE HE hE hE' hN1 hM1 hmS
  obtain ⟨TE, hTE⟩ : ∃ TE, Hid (tmE t = TE) := ⟨_, rfl⟩
  rw [hTE.out] at HR HD
  clear hTE e0
  have HNo : Hid (¬ TE = 0 → ∀ W : World, WK W q N1 M1 TE → WQ W q R) := by
    intro h W hW
    have hr := HR.out
    rw [if_neg h] at hr
    rw [hr]
    exact ⟨_, _, hW, fun e => absurd e h⟩
  have h7 := H7.out
  subst h7
  have e0 : w1.cell? ⟨w.heap.size, 0, none⟩ = some (.int .i64 4) := by rw [Lib.cell_of_heap B1.out]; rfl
  go_wp2_with fail
  refine (rwrong_any q N1 M1 0 20 _ w1 W1'.out).mono ?_
  rintro r w2 ⟨⟨v2, rfl⟩, h2⟩
  have W2 : Hid (WK w2 q N1 M1 0) := by have a := h2.out.1; first | exact a | (simp [wrE, h7] at a; exact a)
  have B2 : Hid (_) := h2.out.2.heap B1.out hne
  have hK2 : KeepT q w w2 := hK1.trans h2.out.2.keep
  have hz2 : w.heap.size < w2.heap.size := lt_heap B2.out
  clear h2 e0
  have e0 : w2.cell? ⟨w.heap.size, 0, none⟩ = some (.int .i64 4) := by rw [Lib.cell_of_heap B2.out]; rfl
  have e1 : w2.cell? ⟨w.heap.size, 1, none⟩ = some (.string nm) := by rw [Lib.cell_of_heap B2.out]; rfl
  go_wp2_with fail
  refine (cN.out _).mono ?_
  rintro r w3 ⟨rfl, hb3⟩
  have W3 : Hid (WK w3 q N1 M1 0) := W2.out.below hb3
  have B3 : Hid (_) := blkB B2.out hb3
  have hK3 : KeepT q w w3 := hK2.trans (KeepT.of hb3)
  clear hb3 e0 e1
  have e2 : w3.cell? ⟨w.heap.size, 2, none⟩ = some (.int .i64 vk) := by rw [Lib.cell_of_heap B3.out]; rfl
  have e3 : w3.cell? ⟨w.heap.size, 3, none⟩ = some (.int .i64 vn) := by rw [Lib.cell_of_heap B3.out]; rfl
  have e4 : w3.cell? ⟨w.heap.size, 4, none⟩ = some (.int .i64 vd) := by rw [Lib.cell_of_heap B3.out]; rfl
  have e5 : w3.cell? ⟨w.heap.size, 5, none⟩ = some (.string vs) := by rw [Lib.cell_of_heap B3.out]; rfl
  go_wp2_with fail
  refine (cS.out _).mono ?_
  rintro r w4 ⟨rfl, hb4⟩
  have W4 : Hid (WK w4 q N1 M1 0) := W3.out.below hb4
  have B4 : Hid (_) := blkB B3.out hb4
  have hK4 : KeepT q w w4 := hK3.trans (KeepT.of hb4)
  clear hb4 e2 e3 e4 e5
  have e0 : w4.cell? ⟨w.heap.size, 0, none⟩ = some (.int .i64 4) := by rw [Lib.cell_of_heap B4.out]; rfl
  have e1 : w4.cell? ⟨w.heap.size, 1, none⟩ = some (.string nm) := by rw [Lib.cell_of_heap B4.out]; rfl
  have e6 : w4.cell? ⟨w.heap.size, 6, none⟩ = some (.slice p nu c) := by rw [Lib.cell_of_heap B4.out]; rfl
  have hxi : ((nu : Int) = 2) = (nu = 2) := by apply propext; omega
  cases SB <;> by_cases hn : nm.toList = [] <;> by_cases hx : nu = 2
  all_goals
    go_wp2_with fail
    refine (rwrong_any q N1 M1 _ 1 _ w4 W4.out).mono ?_
    rintro r w5 ⟨⟨v5, rfl⟩, h5⟩
    have W5 : Hid (WK w5 q N1 M1 TE) := by
      have a := h5.out.1
      have b := HD.out
      simp [wrE, hxi, hx, hn] at a b
      first | (subst b; exact a) | (rw [← b]; exact a)
    have hK5 : KeepT q w w5 := hK4.trans h5.out.2.keep
    have B5 : Hid (_) := h5.out.2.heap B4.out hne
    have y2 : w5.cell? ⟨q, 2, none⟩ = some (.int .i64 TE) := W5.out.e
    have f0 : w5.cell? ⟨w.heap.size, 0, none⟩ = some (.int .i64 4) := by rw [Lib.cell_of_heap B5.out]; rfl
    have f6 : w5.cell? ⟨w.heap.size, 6, none⟩ = some (.slice p nu c) := by rw [Lib.cell_of_heap B5.out]; rfl
    clear h5 e0 e1 e6
    first
    | have tn : ¬ TE = 0 := by have b := HD.out; simp [wrE, hx, hn] at b; omega
      have tn' : (TE == 0) = false := by simpa using tn
      have tn'' : (TE != 0) = true := by simpa using tn
      go_wp2
      refine bodyPost_ret (results_none rfl _ _ _) rfl ?_
      exact ⟨⟨_, rfl⟩, hK5, HNo.out tn _ W5.out⟩
    | have tz : TE = 0 := by have b := HD.out; simp [wrE, hx, hn] at b; omega
      subst tz
      have HL : Hid (R = truns (d + 1) (N1, M1) t.subs) := by have h := HR.out; rw [if_pos rfl] at h; exact h
      clear HD HR HNo cN cC cS hx
      go_wp2
      go_loopw [11] (fun v wr => ∃ (k : Nat) (N M E : Int), k ≤ nu ∧ v = .int .i64 k ∧ KeepT q w5 wr ∧ Hid (WK wr q N M E) ∧ Hid (E = 0 → OkS (N, M) ∧ R = truns (d + 1) (N, M) (t.subs.drop k)) ∧ Hid (¬ E = 0 → R.1 = E)) (fun v _ => nu - (intOf v).toNat)
      case atStart => exact ⟨0, N1, M1, 0, Nat.zero_le _, rfl, KeepT.refl _ _, W5, fun _ => ⟨HOk.out, by rw [List.drop_zero]; exact HL.out⟩, fun h => absurd rfl h⟩
      case round =>
        obtain ⟨k, N, M, E, hk, rfl, hKr, hWr, hr0, hr1⟩ := hrel
        have Br : Hid (_) := (hKr.block w.heap.size (lt_heap B5.out) hne).trans B5.out
        have r6 : wr.cell? ⟨w.heap.size, 6, none⟩ = some (.slice p nu c) := by rw [Lib.cell_of_heap Br.out]; rfl
        by_cases hlt : k < nu
        case neg =>
          have c2 : ¬ (k : Int) < nu := by omega
          go_wp2
          go_end0
          refine ⟨⟨_, rfl⟩, hK5.trans hKr, ?_⟩
          by_cases hE0 : E = 0
          · have h := (hr0.out hE0).2
            rw [List.drop_eq_nil_of_le (by have := en.out; omega), truns_nil] at h
            rw [h]
            subst hE0
            exact ⟨N, M, hWr.out, fun _ => ⟨rfl, rfl⟩⟩
          · have h := hr1.out hE0
            exact ⟨N, M, by rw [h]; exact hWr.out, fun e => absurd (h.symm.trans e) hE0⟩
        have hlt' : (k : Int) < nu := by omega
        have kx : k < t.subs.length := by have := en.out; omega
        obtain ⟨b, off, u, rfl, hb, TC, TS, TF⟩ := HX.out k kx
        have hBr : Below w0.heap.size w0 wr := hw.trans ((hK5.trans hKr).below (B := w0.heap.size) hq (Nat.le_of_lt hqw))
        obtain ⟨a0, a1, a2, a3, a4, a5, a6⟩ := TC.below hBr hb
        have hsz : SizeOf.sizeOf t.subs[k] ≤ m := by
          have h1 := mem_lt k kx
          have h2 := t.subs_lt
          have h3 := HM.out
          unfold Hid at h3
          omega
        have cT : Hid (Calls Tryz.prog 58 #[.pointer (some ⟨q, 0, none⟩), .agg #[.int .i64 t.subs[k].k, .string t.subs[k].nm, .int .i64 t.subs[k].v.k, .int .i64 t.subs[k].v.n, .int .i64 t.subs[k].v.d, .string t.subs[k].v.s, u], .int .i64 (d + 1)] wr fun r w' => (∃ v, r = .returned v) ∧ Hid (KeepT q wr w' ∧ ∃ N' M' E', WK w' q N' M' E' ∧ (E' = 0 → OkS (N', M') ∧ R = truns (d + 1) (N', M') (t.subs.drop (k + 1))) ∧ (¬ E' = 0 → R.1 = E'))) := by
          by_cases hE0 : E = 0
          · subst hE0
            obtain ⟨o1, o2⟩ := hr0.out rfl
            refine (IH.out t.subs[k] u (d + 1) (N, M) wr hsz TS TF hBr hWr.out o1 (by omega) (by omega)).mono ?_
            rintro r w' ⟨hv, h⟩
            obtain ⟨N', M', g1, g2⟩ := h.out.2
            rw [List.drop_eq_getElem_cons kx, truns_cons] at o2
            refine ⟨hv, h.out.1, N', M', _, g1, fun e => ?_, fun e => ?_⟩
            · obtain ⟨rfl, rfl⟩ := g2 e
              rw [if_pos e] at o2
              have ok := truns_ok (SizeOf.sizeOf [t.subs[k]]) [t.subs[k]] (d + 1) (N, M) (Nat.le_refl _) o1 (by omega)
              rw [truns_cons, if_pos e, truns_nil] at ok
              exact ⟨ok, o2⟩
            · rw [if_neg e] at o2
              rw [o2]
          · refine (rterm_no q N M E (d + 1) _ _ _ _ _ _ u wr hWr.out hE0).mono ?_
            rintro r w' ⟨hv, h⟩
            exact ⟨hv, KeepT.of h.out.1, N, M, E, h.out.2, fun e => absurd e hE0, fun _ => hr1.out hE0⟩
        clear hr0 hr1 TC TS TF IH HX
        generalize t.subs[k].k = k0 at *
        generalize t.subs[k].nm = k1 at *
        generalize t.subs[k].v.k = k2 at *
        generalize t.subs[k].v.n = k3 at *
        generalize t.subs[k].v.d = k4 at *
        generalize t.subs[k].v.s = k5 at *
        have nw : IntKind.i64.wrap (d + 1) = d + 1 := by rw [IntKind.wrap_i64]; omega
        have nw2 : wrap64 (d + 1) = d + 1 := by unfold wrap64; omega
        go_wp2_with fail
        refine cT.out.mono ?_
        rintro r w6 ⟨⟨v6, rfl⟩, h6⟩
        obtain ⟨hk6, N', M', E', g1, g2, g3⟩ := h6.out
        have HP : Hid (WK w6 q N' M' E' ∧ (E' = 0 → OkS (N', M') ∧ R = truns (d + 1) (N', M') (t.subs.drop (k + 1))) ∧ (¬ E' = 0 → R.1 = E')) := ⟨g1, g2, g3⟩
        have hK6 : KeepT q w5 w6 := hKr.trans hk6
        clear g1 g2 g3 h6 cT
        go_wp2
        exact ⟨⟨k + 1, N', M', E', by omega, by go_num, hK6, HP.out.1, HP.out.2.1, HP.out.2.2⟩, by simp [intOf]; omega⟩
end Go.Proofs.YtfajjphfjilpnaaGreat

namespace Go.Proofs.YtfajjphfjilpnaaGreat
open Go.RowKit LX Go.Shelf
set_option linter.unusedVariables false

set_option maxRecDepth 100000 in
set_option maxHeartbeats 8000000 in
theorem rterm_c5 (w0 : World) (q : Nat) (hq : w0.heap.size ≤ q) (m : Nat) (ih : ∀ (t : Tm) (V : Value) (d : Int) (s : Int × Int) (w : World), SizeOf.sizeOf t ≤ m → TmsAt w0 V t.subs → t.v.Fits → Below w0.heap.size w0 w → WK w q s.1 s.2 0 → OkS s → 0 ≤ d → d ≤ 25 →
    Calls Tryz.prog 58 #[.pointer (some ⟨q, 0, none⟩), .agg #[.int .i64 t.k, .string t.nm, .int .i64 t.v.k, .int .i64 t.v.n, .int .i64 t.v.d, .string t.v.s, V], .int .i64 d] w fun r w' => (∃ v, r = .returned v) ∧ Hid (KeepT q w w' ∧ WQ w' q (trun d s t))) (t : Tm) (V : Value) (d : Int) (s : Int × Int) (w : World) (hm : SizeOf.sizeOf t ≤ m + 1) (hV : TmsAt w0 V t.subs) (hF : t.v.Fits) (hw : Below w0.heap.size w0 w) (hK : WK w q s.1 s.2 0) (hs : OkS s) (hd0 : 0 ≤ d) (hd1 : d ≤ 25) (h7 : t.k = 5) :
    Calls Tryz.prog 58 #[.pointer (some ⟨q, 0, none⟩), .agg #[.int .i64 t.k, .string t.nm, .int .i64 t.v.k, .int .i64 t.v.n, .int .i64 t.v.d, .string t.v.s, V], .int .i64 d] w fun r w' => (∃ v, r = .returned v) ∧ Hid (KeepT q w w' ∧ WQ w' q (trun d s t)) := by
  obtain ⟨p, c, rfl, hl, hc, HX0⟩ := hV.form
  have HX : Hid (∀ i (hi : i < t.subs.length), ∃ b off u, p = some ⟨b, off, none⟩ ∧ b < w0.heap.size ∧ TmC w0 b (off + i * 7) t.subs[i] u ∧ TmsAt w0 u t.subs[i].subs ∧ t.subs[i].v.Fits) := HX0
  have IH : Hid (_) := ih
  have HS : Hid (OkS s) := hs
  have HW : Hid (WK w q s.1 s.2 0) := hK
  have hqw : q < w.heap.size := hK.lt
  have HM : Hid (SizeOf.sizeOf t ≤ m + 1) := hm
  have hD := doc_tmE t
  have cN : Hid (∀ W : World, Calls Tryz.prog 81 #[.string t.nm] W fun e w' => e = .returned (.bool (nameB t.nm)) ∧ Below W.heap.size W w') := fun W => rname_any t.nm W
  have cC : Hid (∀ W : World, Calls Tryz.prog 85 #[.agg #[.int .i64 t.v.k, .int .i64 t.v.n, .int .i64 t.v.d, .string t.v.s]] W fun e w' => e = .returned (.int .i64 t.v.may) ∧ Below W.heap.size W w') := fun W => rcheck_any t.v.k t.v.n t.v.d t.v.s W hF.n1 hF.n2 hF.d1 hF.d2
  have cS : Hid (∀ W : World, Calls Tryz.prog 84 #[.agg #[.int .i64 t.v.k, .int .i64 t.v.n, .int .i64 t.v.d, .string t.v.s], .agg #[.int .i64 0, .int .i64 0, .int .i64 0, .string ⟨#[]⟩]] W fun e w' => e = .returned (.bool (sameB t.v.k t.v.n t.v.d t.v.s 0 0 0 ⟨#[]⟩)) ∧ Below W.heap.size W w') := fun W => rsame_any t.v.k t.v.n t.v.d t.v.s 0 0 0 ⟨#[]⟩ W
  have hte := trun_eq d s t
  have HE : Hid (ndE d s.1 = meetE d s) := nd_meet hs
  obtain ⟨R, eR⟩ : ∃ R : Int × (Int × Int), Hid (trun d s t = R) := ⟨_, rfl⟩
  rw [eR.out] at hte ⊢
  have HTE : Hid (_) := hte
  obtain ⟨ts, ets⟩ : ∃ ts : List Tm, Hid (t.subs = ts) := ⟨_, rfl⟩
  obtain ⟨nu, en⟩ : ∃ n : Nat, Hid (t.subs.length = n) := ⟨_, rfl⟩
  rw [en.out] at hl hc hD ⊢
  have HD : Hid (_) := hD
  clear hV HX0 ih hK hs hm hte hD hF
  generalize nameB t.nm = NB at *
  generalize sameB t.v.k t.v.n t.v.d t.v.s 0 0 0 ⟨#[]⟩ = SB at *
  generalize t.v.may = MY at *
  generalize t.v.k = vk at *
  generalize t.v.n = vn at *
  generalize t.v.d = vd at *
  generalize t.v.s = vs at *
  generalize t.k = tk at *
  generalize t.nm = nm at *
  have H7 : Hid (tk = 5) := h7
  clear h7
  go_enter Tryz.func58, Tryz.ntmps58
  go_wp2_with fail
  refine (rnode_any q s.1 s.2 d _ (HW.out.alloc _) ⟨HS.out.1, by have := HS.out.2.1; omega⟩).mono ?_
  rintro r w1 ⟨rfl, h1⟩
  have hK1 : KeepT q w w1 := (KeepT.of ((Below.refl _ _).alloc (Nat.le_refl _) _)).trans h1.out.2.keep
  have W1 : Hid (WK w1 q (s.1 + 1) (if s.2 < d then d else s.2) (ndE d s.1)) := h1.out.1
  have hne : w.heap.size ≠ q := by omega
  have hz1 : w.heap.size < w1.heap.size := by have := h1.out.2.size; simp at this; omega
  have B1 : Hid (w1.heap[w.heap.size]? = some (.cells #[.int .i64 tk, .string nm, .int .i64 vk, .int .i64 vn, .int .i64 vd, .string vs, .slice p nu c] 39 (0, 0))) := (h1.out.2.block w.heap.size (by simp) hne).trans (heap_allocA w _)
  have e0 : w1.cell? ⟨w.heap.size, 0, none⟩ = some (.int .i64 tk) := by rw [Lib.cell_of_heap B1.out]; rfl
  clear h1
  by_cases hE : ndE d s.1 = 0
  case neg =>
    have hE' : (ndE d s.1 == 0) = false := by simpa using hE
    rw [hE']
    go_wp2
    refine bodyPost_ret (results_none rfl _ _ _) rfl ?_
    refine ⟨⟨_, rfl⟩, hK1, ?_⟩
    have h := HTE.out
    rw [← HE.out, if_neg hE] at h
    rw [h]
    exact ⟨_, _, W1.out, fun e => absurd e hE⟩
  have hE' : (ndE d s.1 == 0) = true := by simpa using hE
  rw [hE']
  have W1' : Hid (WK w1 q (s.1 + 1) (if s.2 < d then d else s.2) 0) := by have h := W1.out; rwa [hE] at h
  clear W1
  obtain ⟨N1, hN1⟩ : ∃ N1, Hid (s.1 + 1 = N1) := ⟨_, rfl⟩
  obtain ⟨M1, hM1⟩ : ∃ M1, Hid ((if s.2 < d then d else s.2) = M1) := ⟨_, rfl⟩
  rw [hN1.out, hM1.out] at W1'
  have hmS : Hid (meetS d s = (N1, M1)) := by
    have e : meetE d s = 0 := by rw [← HE.out]; exact hE
    unfold meetS
    rw [if_pos e, ← hN1.out, ← hM1.out, Int.max_def]
    congr 1
    by_cases h : s.2 < d
    · rw [if_pos h, if_pos (by omega)]
    · rw [if_neg h]; split <;> omega
  have HR : Hid (R = if tmE t = 0 then truns (d + 1) (N1, M1) t.subs else (tmE t, (N1, M1))) := by
    have h := HTE.out
    rw [← HE.out, if_pos hE, hmS.out] at h
    exact h
  have hd24 : d ≤ 24 := meetE_le (s := s) (by rw [← HE.out]; exact hE)
  have HOk : Hid (OkS (N1, M1)) := by rw [← hmS.out]; exact meetS_ok HS.out hd0
  clear HTE HE hE hE' hN1 hM1 hmS
  obtain ⟨TE, hTE⟩ : ∃ TE, Hid (tmE t = TE) := ⟨_, rfl⟩
  rw [hTE.out] at HR HD
  clear hTE e0
  have HNo : Hid (¬ TE = 0 → ∀ W : World, WK W q N1 M1 TE → WQ W q R) := by
    intro h W hW
    have hr := HR.out
    rw [if_neg h] at hr
    rw [hr]
    exact ⟨_, _, hW, fun e => absurd e h⟩
  have h7 := H7.out
  subst h7
  have e0 : w1.cell? ⟨w.heap.size, 0, none⟩ = some (.int .i64 5) := by rw [Lib.cell_of_heap B1.out]; rfl
  go_wp2_with fail
  refine (rwrong_any q N1 M1 0 20 _ w1 W1'.out).mono ?_
  rintro r w2 ⟨⟨v2, rfl⟩, h2⟩
  have W2 : Hid (WK w2 q N1 M1 0) := by have a := h2.out.1; first | exact a | (simp [wrE, h7] at a; exact a)
  have B2 : Hid (_) := h2.out.2.heap B1.out hne
  have hK2 : KeepT q w w2 := hK1.trans h2.out.2.keep
  have hz2 : w.heap.size < w2.heap.size := lt_heap B2.out
  clear h2 e0
  have e0 : w2.cell? ⟨w.heap.size, 0, none⟩ = some (.int .i64 5) := by rw [Lib.cell_of_heap B2.out]; rfl
  have e1 : w2.cell? ⟨w.heap.size, 1, none⟩ = some (.string nm) := by rw [Lib.cell_of_heap B2.out]; rfl
  go_wp2_with fail
  refine (cN.out _).mono ?_
  rintro r w3 ⟨rfl, hb3⟩
  have W3 : Hid (WK w3 q N1 M1 0) := W2.out.below hb3
  have B3 : Hid (_) := blkB B2.out hb3
  have hK3 : KeepT q w w3 := hK2.trans (KeepT.of hb3)
  clear hb3 e0 e1
  have e2 : w3.cell? ⟨w.heap.size, 2, none⟩ = some (.int .i64 vk) := by rw [Lib.cell_of_heap B3.out]; rfl
  have e3 : w3.cell? ⟨w.heap.size, 3, none⟩ = some (.int .i64 vn) := by rw [Lib.cell_of_heap B3.out]; rfl
  have e4 : w3.cell? ⟨w.heap.size, 4, none⟩ = some (.int .i64 vd) := by rw [Lib.cell_of_heap B3.out]; rfl
  have e5 : w3.cell? ⟨w.heap.size, 5, none⟩ = some (.string vs) := by rw [Lib.cell_of_heap B3.out]; rfl
  go_wp2_with fail
  refine (cS.out _).mono ?_
  rintro r w4 ⟨rfl, hb4⟩
  have W4 : Hid (WK w4 q N1 M1 0) := W3.out.below hb4
  have B4 : Hid (_) := blkB B3.out hb4
  have hK4 : KeepT q w w4 := hK3.trans (KeepT.of hb4)
  clear hb4 e2 e3 e4 e5
  have e0 : w4.cell? ⟨w.heap.size, 0, none⟩ = some (.int .i64 5) := by rw [Lib.cell_of_heap B4.out]; rfl
  have e1 : w4.cell? ⟨w.heap.size, 1, none⟩ = some (.string nm) := by rw [Lib.cell_of_heap B4.out]; rfl
  have e6 : w4.cell? ⟨w.heap.size, 6, none⟩ = some (.slice p nu c) := by rw [Lib.cell_of_heap B4.out]; rfl
  have hxi : ((nu : Int) = 2) = (nu = 2) := by apply propext; omega
  cases SB <;> by_cases hn : nm.toList = [] <;> by_cases hx : nu = 2
  all_goals
    go_wp2_with fail
    refine (rwrong_any q N1 M1 _ 1 _ w4 W4.out).mono ?_
    rintro r w5 ⟨⟨v5, rfl⟩, h5⟩
    have W5 : Hid (WK w5 q N1 M1 TE) := by
      have a := h5.out.1
      have b := HD.out
      simp [wrE, hxi, hx, hn] at a b
      first | (subst b; exact a) | (rw [← b]; exact a)
    have hK5 : KeepT q w w5 := hK4.trans h5.out.2.keep
    have B5 : Hid (_) := h5.out.2.heap B4.out hne
    have y2 : w5.cell? ⟨q, 2, none⟩ = some (.int .i64 TE) := W5.out.e
    have f0 : w5.cell? ⟨w.heap.size, 0, none⟩ = some (.int .i64 5) := by rw [Lib.cell_of_heap B5.out]; rfl
    have f6 : w5.cell? ⟨w.heap.size, 6, none⟩ = some (.slice p nu c) := by rw [Lib.cell_of_heap B5.out]; rfl
    clear h5 e0 e1 e6
    first
    | have tn : ¬ TE = 0 := by have b := HD.out; simp [wrE, hx, hn] at b; omega
      have tn' : (TE == 0) = false := by simpa using tn
      have tn'' : (TE != 0) = true := by simpa using tn
      go_wp2
      refine bodyPost_ret (results_none rfl _ _ _) rfl ?_
      exact ⟨⟨_, rfl⟩, hK5, HNo.out tn _ W5.out⟩
    | have tz : TE = 0 := by have b := HD.out; simp [wrE, hx, hn] at b; omega
      subst tz
      have HL : Hid (R = truns (d + 1) (N1, M1) t.subs) := by have h := HR.out; rw [if_pos rfl] at h; exact h
      clear HD HR HNo cN cC cS hx
      go_wp2
      go_loopw [11] (fun v wr => ∃ (k : Nat) (N M E : Int), k ≤ nu ∧ v = .int .i64 k ∧ KeepT q w5 wr ∧ Hid (WK wr q N M E) ∧ Hid (E = 0 → OkS (N, M) ∧ R = truns (d + 1) (N, M) (t.subs.drop k)) ∧ Hid (¬ E = 0 → R.1 = E)) (fun v _ => nu - (intOf v).toNat)
      case atStart => exact ⟨0, N1, M1, 0, Nat.zero_le _, rfl, KeepT.refl _ _, W5, fun _ => ⟨HOk.out, by rw [List.drop_zero]; exact HL.out⟩, fun h => absurd rfl h⟩
      case round =>
        obtain ⟨k, N, M, E, hk, rfl, hKr, hWr, hr0, hr1⟩ := hrel
        have Br : Hid (_) := (hKr.block w.heap.size (lt_heap B5.out) hne).trans B5.out
        have r6 : wr.cell? ⟨w.heap.size, 6, none⟩ = some (.slice p nu c) := by rw [Lib.cell_of_heap Br.out]; rfl
        by_cases hlt : k < nu
        case neg =>
          have c2 : ¬ (k : Int) < nu := by omega
          go_wp2
          go_end0
          refine ⟨⟨_, rfl⟩, hK5.trans hKr, ?_⟩
          by_cases hE0 : E = 0
          · have h := (hr0.out hE0).2
            rw [List.drop_eq_nil_of_le (by have := en.out; omega), truns_nil] at h
            rw [h]
            subst hE0
            exact ⟨N, M, hWr.out, fun _ => ⟨rfl, rfl⟩⟩
          · have h := hr1.out hE0
            exact ⟨N, M, by rw [h]; exact hWr.out, fun e => absurd (h.symm.trans e) hE0⟩
        have hlt' : (k : Int) < nu := by omega
        have kx : k < t.subs.length := by have := en.out; omega
        obtain ⟨b, off, u, rfl, hb, TC, TS, TF⟩ := HX.out k kx
        have hBr : Below w0.heap.size w0 wr := hw.trans ((hK5.trans hKr).below (B := w0.heap.size) hq (Nat.le_of_lt hqw))
        obtain ⟨a0, a1, a2, a3, a4, a5, a6⟩ := TC.below hBr hb
        have hsz : SizeOf.sizeOf t.subs[k] ≤ m := by
          have h1 := mem_lt k kx
          have h2 := t.subs_lt
          have h3 := HM.out
          unfold Hid at h3
          omega
        have cT : Hid (Calls Tryz.prog 58 #[.pointer (some ⟨q, 0, none⟩), .agg #[.int .i64 t.subs[k].k, .string t.subs[k].nm, .int .i64 t.subs[k].v.k, .int .i64 t.subs[k].v.n, .int .i64 t.subs[k].v.d, .string t.subs[k].v.s, u], .int .i64 (d + 1)] wr fun r w' => (∃ v, r = .returned v) ∧ Hid (KeepT q wr w' ∧ ∃ N' M' E', WK w' q N' M' E' ∧ (E' = 0 → OkS (N', M') ∧ R = truns (d + 1) (N', M') (t.subs.drop (k + 1))) ∧ (¬ E' = 0 → R.1 = E'))) := by
          by_cases hE0 : E = 0
          · subst hE0
            obtain ⟨o1, o2⟩ := hr0.out rfl
            refine (IH.out t.subs[k] u (d + 1) (N, M) wr hsz TS TF hBr hWr.out o1 (by omega) (by omega)).mono ?_
            rintro r w' ⟨hv, h⟩
            obtain ⟨N', M', g1, g2⟩ := h.out.2
            rw [List.drop_eq_getElem_cons kx, truns_cons] at o2
            refine ⟨hv, h.out.1, N', M', _, g1, fun e => ?_, fun e => ?_⟩
            · obtain ⟨rfl, rfl⟩ := g2 e
              rw [if_pos e] at o2
              have ok := truns_ok (SizeOf.sizeOf [t.subs[k]]) [t.subs[k]] (d + 1) (N, M) (Nat.le_refl _) o1 (by omega)
              rw [truns_cons, if_pos e, truns_nil] at ok
              exact ⟨ok, o2⟩
            · rw [if_neg e] at o2
              rw [o2]
          · refine (rterm_no q N M E (d + 1) _ _ _ _ _ _ u wr hWr.out hE0).mono ?_
            rintro r w' ⟨hv, h⟩
            exact ⟨hv, KeepT.of h.out.1, N, M, E, h.out.2, fun e => absurd e hE0, fun _ => hr1.out hE0⟩
        clear hr0 hr1 TC TS TF IH HX
        generalize t.subs[k].k = k0 at *
        generalize t.subs[k].nm = k1 at *
        generalize t.subs[k].v.k = k2 at *
        generalize t.subs[k].v.n = k3 at *
        generalize t.subs[k].v.d = k4 at *
        generalize t.subs[k].v.s = k5 at *
        have nw : IntKind.i64.wrap (d + 1) = d + 1 := by rw [IntKind.wrap_i64]; omega
        have nw2 : wrap64 (d + 1) = d + 1 := by unfold wrap64; omega
        go_wp2_with fail
        refine cT.out.mono ?_
        rintro r w6 ⟨⟨v6, rfl⟩, h6⟩
        obtain ⟨hk6, N', M', E', g1, g2, g3⟩ := h6.out
        have HP : Hid (WK w6 q N' M' E' ∧ (E' = 0 → OkS (N', M') ∧ R = truns (d + 1) (N', M') (t.subs.drop (k + 1))) ∧ (¬ E' = 0 → R.1 = E')) := ⟨g1, g2, g3⟩
        have hK6 : KeepT q w5 w6 := hKr.trans hk6
        clear g1 g2 g3 h6 cT
        go_wp2
        exact ⟨⟨k + 1, N', M', E', by omega, by go_num, hK6, HP.out.1, HP.out.2.1, HP.out.2.2⟩, by simp [intOf]; omega⟩
end Go.Proofs.YtfajjphfjilpnaaGreat

namespace Go.Proofs.YtfajjphfjilpnaaGreat
open Go.RowKit LX Go.Shelf
set_option linter.unusedVariables false

theorem rterm_any (w0 : World) (q : Nat) (hq : w0.heap.size ≤ q) : ∀ (m : Nat) (t : Tm) (V : Value) (d : Int) (s : Int × Int) (w : World), SizeOf.sizeOf t ≤ m → TmsAt w0 V t.subs → t.v.Fits → Below w0.heap.size w0 w → WK w q s.1 s.2 0 → OkS s → 0 ≤ d → d ≤ 25 →
    Calls Tryz.prog 58 #[.pointer (some ⟨q, 0, none⟩), .agg #[.int .i64 t.k, .string t.nm, .int .i64 t.v.k, .int .i64 t.v.n, .int .i64 t.v.d, .string t.v.s, V], .int .i64 d] w fun r w' => (∃ v, r = .returned v) ∧ Hid (KeepT q w w' ∧ WQ w' q (trun d s t)) := by
  intro m
  induction m with
  | zero => intro t V d s w hm; cases t; simp at hm
  | succ m ih =>
    intro t V d s w hm hV hF hw hK hs hd0 hd1
    have h7 : t.k < 1 ∨ 5 < t.k ∨ t.k = 1 ∨ t.k = 2 ∨ t.k = 3 ∨ t.k = 4 ∨ t.k = 5 := by omega
    rcases h7 with h7 | h7 | h7 | h7 | h7 | h7 | h7
    · exact rterm_clo w0 q hq m ih t V d s w hm hV hF hw hK hs hd0 hd1 h7
    · exact rterm_chi w0 q hq m ih t V d s w hm hV hF hw hK hs hd0 hd1 h7
    · exact rterm_c1 w0 q hq m ih t V d s w hm hV hF hw hK hs hd0 hd1 h7
    · exact rterm_c2 w0 q hq m ih t V d s w hm hV hF hw hK hs hd0 hd1 h7
    · exact rterm_c3 w0 q hq m ih t V d s w hm hV hF hw hK hs hd0 hd1 h7
    · exact rterm_c4 w0 q hq m ih t V d s w hm hV hF hw hK hs hd0 hd1 h7
    · exact rterm_c5 w0 q hq m ih t V d s w hm hV hF hw hK hs hd0 hd1 h7
theorem trun_okS (d : Int) (s : Int × Int) (t : Tm) (hs : OkS s) (hd : 0 ≤ d) : OkS (trun d s t).2 := by
  have ok := truns_ok (SizeOf.sizeOf [t]) [t] d s (Nat.le_refl _) hs hd
  rw [truns_cons] at ok
  by_cases h : (trun d s t).1 = 0
  · rw [if_pos h, truns_nil] at ok; exact ok
  · rw [if_neg h] at ok; exact ok
theorem rterm_walks (w0 : World) (q : Nat) (hq : w0.heap.size ≤ q) (t : Tm) (V : Value) (hV : TmsAt w0 V t.subs) (hF : t.v.Fits) (d : Int) (hd0 : 0 ≤ d) (hd1 : d ≤ 25) :
    Walks w0 q 58 (.agg #[.int .i64 t.k, .string t.nm, .int .i64 t.v.k, .int .i64 t.v.n, .int .i64 t.v.d, .string t.v.s, V]) d (fun s => trun d s t) := by
  intro W R F hW hS
  obtain ⟨N, M, E, h, h1, h2⟩ := hS
  by_cases hE : E = 0
  · subst hE
    obtain ⟨ho, hR⟩ := h1 rfl
    refine (rterm_any w0 q hq _ t V d (N, M) W (Nat.le_refl _) hV hF hW h ho hd0 hd1).mono ?_
    rintro r w' ⟨hv, g⟩
    exact ⟨hv, g.out.1, WS.step (w := w') (G := fun s => trun d s t) hR g.out.2 (trun_okS d (N, M) t ho hd0)⟩
  · refine (rterm_no q N M E d _ _ _ _ _ _ V W h hE).mono ?_
    rintro r w' ⟨hv, g⟩
    exact ⟨hv, KeepT.of g.out.1, N, M, E, g.out.2, fun e => absurd e hE, h2⟩
end Go.Proofs.YtfajjphfjilpnaaGreat

namespace Go.Proofs.YtfajjphfjilpnaaGreat
open Go.RowKit LX Go.Shelf
set_option linter.unusedVariables false

set_option maxRecDepth 100000 in
set_option maxHeartbeats 8000000 in
theorem rformula_no (q : Nat) (N M E d k op lo hi : Int) (nm : ByteArray) (o : Bool) (uv ut us ur : Value) (w : World) (h : WK w q N M E) (hE : ¬ E = 0) :
    Calls Tryz.prog 30 #[.pointer (some ⟨q, 0, none⟩), .agg #[.int .i64 k, .string nm, .int .i64 op, uv, ut, .int .i64 lo, .int .i64 hi, .bool o, us, ur], .int .i64 d] w fun r w' => (∃ v, r = .returned v) ∧ Hid (Below w.heap.size w w' ∧ WK w' q N M E) := by
  have H : Hid (WK w q N M E) := h
  clear h
  go_enter Tryz.func30, Tryz.ntmps30
  go_wp2_with fail
  refine (rnode_no q N M E d _ (H.out.alloc _) hE).mono ?_
  rintro r w1 ⟨rfl, rfl⟩
  go_wp2
  refine bodyPost_ret (results_none rfl _ _ _) rfl ?_
  exact ⟨⟨_, rfl⟩, by go_grown, H.out.alloc _⟩
set_option maxRecDepth 100000 in
set_option maxHeartbeats 8000000 in
theorem rregex_no (q : Nat) (N M E d k : Int) (ut us : Value) (w : World) (h : WK w q N M E) (hE : ¬ E = 0) :
    Calls Tryz.prog 59 #[.pointer (some ⟨q, 0, none⟩), .agg #[.int .i64 k, ut, us], .int .i64 d] w fun r w' => (∃ v, r = .returned v) ∧ Hid (Below w.heap.size w w' ∧ WK w' q N M E) := by
  have H : Hid (WK w q N M E) := h
  clear h
  go_enter Tryz.func59, Tryz.ntmps59
  go_wp2_with fail
  refine (rnode_no q N M E d _ (H.out.alloc _) hE).mono ?_
  rintro r w1 ⟨rfl, rfl⟩
  go_wp2
  refine bodyPost_ret (results_none rfl _ _ _) rfl ?_
  exact ⟨⟨_, rfl⟩, by go_grown, H.out.alloc _⟩
theorem wrE_ne {e E : Int} (h : ¬ e = 0) : ¬ wrE true e E = 0 := by
  unfold wrE
  by_cases hE : E = 0 <;> simp [hE, h]
theorem wrE_keep {b : Bool} {e E : Int} (h : ¬ E = 0) : ¬ wrE b e E = 0 := by
  unfold wrE
  rw [if_neg (fun x => h x.2)]
  exact h
theorem truns_and (d : Int) (s : Int × Int) (t : Tm) (l : List Tm) (K : Int × Int → Int × (Int × Int)) : andT (truns d s (t :: l)) K = andT (trun d s t) fun s1 => andT (truns d s1 l) K := by
  rw [truns_cons]
  exact andT_assoc (trun d s t) (fun s1 => truns d s1 l) K
theorem rruns_and (d : Int) (s : Int × Int) (t : Rx) (l : List Rx) (K : Int × Int → Int × (Int × Int)) : andT (rruns d s (t :: l)) K = andT (rrun d s t) fun s1 => andT (rruns d s1 l) K := by
  rw [rruns_cons, andT_assoc]
theorem fruns_and (d : Int) (s : Int × Int) (t : Fm) (l : List Fm) (K : Int × Int → Int × (Int × Int)) : andT (fruns d s (t :: l)) K = andT (frun d s t) fun s1 => andT (fruns d s1 l) K := by
  rw [fruns_cons, andT_assoc]
end Go.Proofs.YtfajjphfjilpnaaGreat

namespace Go.Proofs.YtfajjphfjilpnaaGreat
open Go.RowKit LX Go.Shelf
set_option linter.unusedVariables false

set_option maxRecDepth 100000 in
set_option maxHeartbeats 8000000 in
theorem rformula_cA (w0 : World) (q : Nat) (hq : w0.heap.size ≤ q) (f : Fm) (uv ut us ur : Value) (hQ : QAt w0 (f, ⟨uv, ut, us, ur⟩)) (d : Int) (hd0 : 0 ≤ d) (hd1 : d ≤ 25)
    (IT : d ≤ 24 → ∀ (i : Nat) (hi : i < f.terms.length) (u : Value), TmsAt w0 u f.terms[i].subs → f.terms[i].v.Fits → Walks w0 q 58 (.agg #[.int .i64 f.terms[i].k, .string f.terms[i].nm, .int .i64 f.terms[i].v.k, .int .i64 f.terms[i].v.n, .int .i64 f.terms[i].v.d, .string f.terms[i].v.s, u]) (d + 1) (fun s => trun (d + 1) s f.terms[i]))
    (IR : d ≤ 24 → ∀ (i : Nat) (hi : i < f.rgx.length) (u1 u2 : Value), FmsAt w0 u1 f.rgx[i].test → RxsAt w0 u2 f.rgx[i].subs → Walks w0 q 59 (.agg #[.int .i64 f.rgx[i].k, u1, u2]) (d + 1) (fun s => rrun (d + 1) s f.rgx[i]))
    (IF : d ≤ 24 → ∀ (i : Nat) (hi : i < f.subs.length) (y : FQ), QAt w0 (f.subs[i], y) → Walks w0 q 30 (.agg #[.int .i64 f.subs[i].k, .string f.subs[i].nm, .int .i64 f.subs[i].op, y.v, y.t, .int .i64 f.subs[i].lo, .int .i64 f.subs[i].hi, .bool f.subs[i].opn, y.s, y.r]) (d + 1) (fun s => frun (d + 1) s f.subs[i]))
    (hk : f.k < 1) (N M : Int) (w : World) (R : Int × (Int × Int)) (F : Int × Int → Int × (Int × Int)) (hw : Below w0.heap.size w0 w) (hK : WK w q N M 0) (ho : OkS (N, M)) (hR : R = andT (frun d (N, M) f) F) :
    Calls Tryz.prog 30 #[.pointer (some ⟨q, 0, none⟩), .agg #[.int .i64 f.k, .string f.nm, .int .i64 f.op, uv, ut, .int .i64 f.lo, .int .i64 f.hi, .bool f.opn, us, ur], .int .i64 d] w fun r w' => (∃ v, r = .returned v) ∧ Hid (KeepT q w w' ∧ WS w' q R F) := by
  obtain ⟨hv, ht, hs, hr⟩ := hQ
  dsimp only at hv ht hs hr
  have HV : Hid (NmsAt w0 uv f.vars) := hv
  obtain ⟨pv, cv, rfl, hlv, hcv, HXV0⟩ := hv.form
  have HXV : Hid (_) := HXV0
  obtain ⟨pt, ct, rfl, hlt0, hct, HXT0⟩ := ht.form
  have HXT : Hid (∀ i (hi : i < f.terms.length), ∃ b off u, pt = some ⟨b, off, none⟩ ∧ b < w0.heap.size ∧ TmC w0 b (off + i * 7) f.terms[i] u ∧ TmsAt w0 u f.terms[i].subs ∧ f.terms[i].v.Fits) := HXT0
  obtain ⟨ps, cs, rfl, hls, hcs, HXF0⟩ := hs.form
  have HXF : Hid (∀ i (hi : i < f.subs.length), ∃ b off uv ut us ur, ps = some ⟨b, off, none⟩ ∧ b < w0.heap.size ∧ FmC w0 b (off + i * 10) f.subs[i] uv ut us ur ∧ NmsAt w0 uv f.subs[i].vars ∧ TmsAt w0 ut f.subs[i].terms ∧ FmsAt w0 us f.subs[i].subs ∧ RxsAt w0 ur f.subs[i].rgx) := HXF0
  obtain ⟨pr, cr, rfl, hlr, hcr, HXR0⟩ := hr.form
  have HXR : Hid (∀ i (hi : i < f.rgx.length), ∃ b off ut us, pr = some ⟨b, off, none⟩ ∧ b < w0.heap.size ∧ RxC w0 b (off + i * 3) f.rgx[i] ut us ∧ FmsAt w0 ut f.rgx[i].test ∧ RxsAt w0 us f.rgx[i].subs) := HXR0
  have HD : Hid (_) := doc_fmE f hls
  have HW : Hid (WK w q N M 0) := hK
  have HO : Hid (OkS (N, M)) := ho
  have hqw : q < w.heap.size := hK.lt
  have HR0 : Hid (R = andT (meetE d (N, M), meetS d (N, M)) fun s1 => andT (fmE f, s1) fun s1 => andT (truns (d + 1) s1 f.terms) fun s2 => andT (rruns (d + 1) s2 f.rgx) fun s3 => andT (fruns (d + 1) s3 f.subs) F) := by
    have h := hR
    rw [frun_eq] at h
    simp only [andT_assoc] at h
    exact h
  have cM : Hid (∀ W : World, Calls Tryz.prog 53 #[.agg #[.int .i64 f.k, .string f.nm, .int .i64 f.op, .slice pv f.vars.length cv, .slice pt f.terms.length ct, .int .i64 f.lo, .int .i64 f.hi, .bool f.opn, .slice ps f.subs.length cs, .slice pr f.rgx.length cr]] W fun r w' => r = .returned (.bool (manyB f.k f.vars.length f.terms.length)) ∧ Below W.heap.size W w') := fun W => rmany_any f.k f.op f.lo f.hi f.nm f.opn pv pt ps pr f.vars.length cv f.terms.length ct f.subs.length cs f.rgx.length cr W
  have cF : Hid (∀ W : World, Calls Tryz.prog 54 #[.agg #[.int .i64 f.k, .string f.nm, .int .i64 f.op, .slice pv f.vars.length cv, .slice pt f.terms.length ct, .int .i64 f.lo, .int .i64 f.hi, .bool f.opn, .slice ps f.subs.length cs, .slice pr f.rgx.length cr]] W fun r w' => r = .returned (.bool (formB (usO f.k) f.nm f.op f.lo f.hi f.opn f.vars.length f.terms.length f.subs.length f.rgx.length)) ∧ Below W.heap.size W w') := fun W => rform_any f.k f.op f.lo f.hi f.nm f.opn pv pt ps pr f.vars.length cv f.terms.length ct f.subs.length cs f.rgx.length cr W
  have cN : Hid (∀ W : World, Below w0.heap.size w0 W → Calls Tryz.prog 55 #[.agg #[.int .i64 f.k, .string f.nm, .int .i64 f.op, .slice pv f.vars.length cv, .slice pt f.terms.length ct, .int .i64 f.lo, .int .i64 f.hi, .bool f.opn, .slice ps f.subs.length cs, .slice pr f.rgx.length cr]] W fun r w' => r = .returned (.bool (namedB (usO f.k) f.nm f.vars f.lo f.hi f.opn)) ∧ Below W.heap.size W w') := fun W hW => rnamed_any f.k f.op f.lo f.hi f.nm f.opn f.vars pv pt ps pr f.vars.length cv f.terms.length ct f.subs.length cs f.rgx.length cr W (HV.out.below hW)
  have cW : Hid (∀ W : World, Below w0.heap.size w0 W → Calls Tryz.prog 56 #[.slice pv f.vars.length cv] W fun r w' => r = .returned (.bool (repN [] f.vars)) ∧ Below W.heap.size W w') := fun W hW => rtwice_any _ f.vars W (HV.out.below hW)
  clear hv ht hs hr HXV0 HXT0 HXF0 HXR0 hK ho hR
  have HE : Hid (ndE d N = meetE d (N, M)) := nd_meet (s := (N, M)) HO.out
  have CT0 : Hid (_) := IT
  have CR0 : Hid (_) := IR
  have CF0 : Hid (_) := IF
  clear IT IR IF
  obtain ⟨FE, hFE⟩ : ∃ FE, Hid (fmE f = FE) := ⟨_, rfl⟩
  rw [hFE.out] at HR0 HD
  clear hFE
  obtain ⟨nv, env⟩ : ∃ n : Nat, Hid (f.vars.length = n) := ⟨_, rfl⟩
  obtain ⟨nt, ent⟩ : ∃ n : Nat, Hid (f.terms.length = n) := ⟨_, rfl⟩
  obtain ⟨ns, ens⟩ : ∃ n : Nat, Hid (f.subs.length = n) := ⟨_, rfl⟩
  obtain ⟨nr, enr⟩ : ∃ n : Nat, Hid (f.rgx.length = n) := ⟨_, rfl⟩
  rw [env.out] at cM cF cN cW hlv hcv HD ⊢
  rw [ent.out] at cM cF cN hlt0 hct HD ⊢
  rw [ens.out] at cM cF cN hls hcs HD ⊢
  rw [enr.out] at cM cF cN hlr hcr HD ⊢
  generalize formB (usO f.k) f.nm f.op f.lo f.hi f.opn nv nt ns nr = FB at *
  generalize namedB (usO f.k) f.nm f.vars f.lo f.hi f.opn = GB at *
  generalize manyB f.k nv nt = MB at *
  generalize repN [] f.vars = RB at *
  generalize Lib.containsS (f.vars.drop 1) f.nm = CB at *
  generalize f.nm = nm at *
  generalize f.lo = lo at *
  generalize f.hi = hi at *
  generalize f.opn = o at *
  generalize f.op = op at *
  generalize f.k = tk at *
  have hne : w.heap.size ≠ q := by omega
  go_enter Tryz.func30, Tryz.ntmps30
  go_wp2_with fail
  refine (rnode_any q N M d _ (HW.out.alloc _) ⟨HO.out.1, by have := HO.out.2.1; simp at this; omega⟩).mono ?_
  rintro r w1 ⟨rfl, h1⟩
  have hK1 : KeepT q w w1 := (KeepT.of ((Below.refl _ _).alloc (Nat.le_refl _) _)).trans h1.out.2.keep
  have W1 : Hid (WK w1 q (N + 1) (if M < d then d else M) (ndE d N)) := h1.out.1
  have B1 : Hid (w1.heap[w.heap.size]? = some (.cells #[.int .i64 tk, .string nm, .int .i64 op, .slice pv nv cv, .slice pt nt ct, .int .i64 lo, .int .i64 hi, .bool o, .slice ps ns cs, .slice pr nr cr] 29 (0, 0))) := (h1.out.2.block w.heap.size (by simp) hne).trans (heap_allocA w _)
  clear h1
  by_cases hE : ndE d N = 0
  case neg =>
    have hE' : (ndE d N == 0) = false := by simpa using hE
    rw [hE']
    go_wp2
    refine bodyPost_ret (results_none rfl _ _ _) rfl ?_
    refine ⟨⟨_, rfl⟩, hK1, _, _, _, W1.out, fun e => absurd e hE, fun _ => ?_⟩
    have h := HR0.out
    rw [← HE.out] at h
    rw [h, andT_ne hE]
  have hE' : (ndE d N == 0) = true := by simpa using hE
  rw [hE']
  obtain ⟨N1, hN1⟩ : ∃ N1, Hid (N + 1 = N1) := ⟨_, rfl⟩
  obtain ⟨M1, hM1⟩ : ∃ M1, Hid ((if M < d then d else M) = M1) := ⟨_, rfl⟩
  have W1' : Hid (WK w1 q N1 M1 0) := by have h := W1.out; rw [hE, hN1.out, hM1.out] at h; exact h
  clear W1
  have hmS : Hid (meetS d (N, M) = (N1, M1)) := by
    have e : meetE d (N, M) = 0 := by rw [← HE.out]; exact hE
    unfold meetS
    rw [if_pos e, ← hN1.out, ← hM1.out, Int.max_def]
    show (N + 1, if M ≤ d then d else M) = (N + 1, if M < d then d else M)
    congr 1
    by_cases h : M < d
    · rw [if_pos h, if_pos (by omega)]
    · rw [if_neg h]; split <;> omega
  have HR1 : Hid (R = andT (FE, (N1, M1)) fun s1 => andT (truns (d + 1) s1 f.terms) fun s2 => andT (rruns (d + 1) s2 f.rgx) fun s3 => andT (fruns (d + 1) s3 f.subs) F) := by
    have h := HR0.out
    rw [← HE.out, hE, andT_eq, hmS.out] at h
    exact h
  have hd24 : d ≤ 24 := meetE_le (s := (N, M)) (by rw [← HE.out]; exact hE)
  have HOk : Hid (OkS (N1, M1)) := by rw [← hmS.out]; exact meetS_ok HO.out hd0
  have CT := CT0.out hd24
  have CR := CR0.out hd24
  have CF := CF0.out hd24
  have CT : Hid (_) := CT
  have CR : Hid (_) := CR
  have CF : Hid (_) := CF
  clear HR0 HE hE hE' hN1 hM1 hmS CT0 CR0 CF0
  have HNo : Hid (¬ FE = 0 → ∀ W : World, WK W q N1 M1 FE → WS W q R F) := by
    intro h W hW
    have hr := HR1.out
    rw [andT_ne h] at hr
    exact ⟨_, _, _, hW, fun e => absurd e h, fun _ => by rw [hr]⟩
  have hk20 : tk < 1 ∨ 22 < tk := by omega
  have k19 : (tk == 19) = false := by simp; omega
  have k19' : ¬ tk = 19 := by omega
  have e0 : w1.cell? ⟨w.heap.size, 0, none⟩ = some (.int .i64 tk) := by rw [Lib.cell_of_heap B1.out]; rfl
  go_wp2_with fail
  refine (rwrong_any q N1 M1 0 20 _ w1 W1'.out).mono ?_
  rintro r w2 ⟨⟨v2, rfl⟩, h2⟩
  have W2 : Hid (WK w2 q N1 M1 20) := by have a := h2.out.1; first | exact a | (simp [wrE, hk] at a; exact a)
  have B2 : Hid (_) := h2.out.2.heap B1.out hne
  have hK2 : KeepT q w w2 := hK1.trans h2.out.2.keep
  clear h2 e0 B1 hK1 W1'
  have e0 : w2.cell? ⟨w.heap.size, 0, none⟩ = some (.int .i64 tk) := by rw [Lib.cell_of_heap B2.out]; rfl
  have e1 : w2.cell? ⟨w.heap.size, 1, none⟩ = some (.string nm) := by rw [Lib.cell_of_heap B2.out]; rfl
  have e2 : w2.cell? ⟨w.heap.size, 2, none⟩ = some (.int .i64 op) := by rw [Lib.cell_of_heap B2.out]; rfl
  have e3 : w2.cell? ⟨w.heap.size, 3, none⟩ = some (.slice pv nv cv) := by rw [Lib.cell_of_heap B2.out]; rfl
  have e4 : w2.cell? ⟨w.heap.size, 4, none⟩ = some (.slice pt nt ct) := by rw [Lib.cell_of_heap B2.out]; rfl
  have e5 : w2.cell? ⟨w.heap.size, 5, none⟩ = some (.int .i64 lo) := by rw [Lib.cell_of_heap B2.out]; rfl
  have e6 : w2.cell? ⟨w.heap.size, 6, none⟩ = some (.int .i64 hi) := by rw [Lib.cell_of_heap B2.out]; rfl
  have e7 : w2.cell? ⟨w.heap.size, 7, none⟩ = some (.bool o) := by rw [Lib.cell_of_heap B2.out]; rfl
  have e8 : w2.cell? ⟨w.heap.size, 8, none⟩ = some (.slice ps ns cs) := by rw [Lib.cell_of_heap B2.out]; rfl
  have e9 : w2.cell? ⟨w.heap.size, 9, none⟩ = some (.slice pr nr cr) := by rw [Lib.cell_of_heap B2.out]; rfl
  have hB2 : Below w0.heap.size w0 w2 := hw.trans (hK2.below (B := w0.heap.size) hq (Nat.le_of_lt hqw))
  go_wp2_with fail
  refine (cM.out _).mono ?_
  rintro r w3 ⟨rfl, hb3⟩
  have W3 : Hid (WK w3 q N1 M1 20) := W2.out.below hb3
  have B3 : Hid (_) := blkB B2.out hb3
  have hK3 : KeepT q w w3 := hK2.trans (KeepT.of hb3)
  clear hb3 e0 e1 e2 e3 e4 e5 e6 e7 e8 e9 hB2 B2 W2 hK2 cM
  obtain ⟨E2, hE2⟩ : ∃ E, Hid (wrE MB 3 20 = E) := ⟨_, rfl⟩
  go_wp2_with fail
  refine (rwrong_any q N1 M1 _ 3 MB w3 W3.out).mono ?_
  rintro r w4 ⟨⟨v4, rfl⟩, h4⟩
  have W4 : Hid (WK w4 q N1 M1 E2) := by have a := h4.out.1; rw [hE2.out] at a; exact a
  have B4 : Hid (_) := h4.out.2.heap B3.out hne
  have hK4 : KeepT q w w4 := hK3.trans h4.out.2.keep
  have HD2 : Hid (wrE (RB || (decide (tk = 19) && CB)) 30 (wrE (!(FB && GB)) 1 E2) = FE) := by
    have h := HD.out
    rw [show wrE (decide (tk < 1 ∨ 22 < tk)) 20 0 = 20 by simp [wrE, hk], hE2.out] at h
    exact h
  clear h4 B3 W3 hK3 HD
  have e0 : w4.cell? ⟨w.heap.size, 0, none⟩ = some (.int .i64 tk) := by rw [Lib.cell_of_heap B4.out]; rfl
  have e1 : w4.cell? ⟨w.heap.size, 1, none⟩ = some (.string nm) := by rw [Lib.cell_of_heap B4.out]; rfl
  have e2 : w4.cell? ⟨w.heap.size, 2, none⟩ = some (.int .i64 op) := by rw [Lib.cell_of_heap B4.out]; rfl
  have e3 : w4.cell? ⟨w.heap.size, 3, none⟩ = some (.slice pv nv cv) := by rw [Lib.cell_of_heap B4.out]; rfl
  have e4 : w4.cell? ⟨w.heap.size, 4, none⟩ = some (.slice pt nt ct) := by rw [Lib.cell_of_heap B4.out]; rfl
  have e5 : w4.cell? ⟨w.heap.size, 5, none⟩ = some (.int .i64 lo) := by rw [Lib.cell_of_heap B4.out]; rfl
  have e6 : w4.cell? ⟨w.heap.size, 6, none⟩ = some (.int .i64 hi) := by rw [Lib.cell_of_heap B4.out]; rfl
  have e7 : w4.cell? ⟨w.heap.size, 7, none⟩ = some (.bool o) := by rw [Lib.cell_of_heap B4.out]; rfl
  have e8 : w4.cell? ⟨w.heap.size, 8, none⟩ = some (.slice ps ns cs) := by rw [Lib.cell_of_heap B4.out]; rfl
  have e9 : w4.cell? ⟨w.heap.size, 9, none⟩ = some (.slice pr nr cr) := by rw [Lib.cell_of_heap B4.out]; rfl
  have hB4 : Below w0.heap.size w0 w4 := hw.trans (hK4.below (B := w0.heap.size) hq (Nat.le_of_lt hqw))
  go_wp2_with fail
  refine (cF.out _).mono ?_
  rintro r w5 ⟨rfl, hb5⟩
  have W5 : Hid (WK w5 q N1 M1 E2) := W4.out.below hb5
  have B5 : Hid (_) := blkB B4.out hb5
  have hK5 : KeepT q w w5 := hK4.trans (KeepT.of hb5)
  clear hb5 e0 e1 e2 e3 e4 e5 e6 e7 e8 e9 hB4 B4 W4 hK4 cF
  have e0 : w5.cell? ⟨w.heap.size, 0, none⟩ = some (.int .i64 tk) := by rw [Lib.cell_of_heap B5.out]; rfl
  have e1 : w5.cell? ⟨w.heap.size, 1, none⟩ = some (.string nm) := by rw [Lib.cell_of_heap B5.out]; rfl
  have e2 : w5.cell? ⟨w.heap.size, 2, none⟩ = some (.int .i64 op) := by rw [Lib.cell_of_heap B5.out]; rfl
  have e3 : w5.cell? ⟨w.heap.size, 3, none⟩ = some (.slice pv nv cv) := by rw [Lib.cell_of_heap B5.out]; rfl
  have e4 : w5.cell? ⟨w.heap.size, 4, none⟩ = some (.slice pt nt ct) := by rw [Lib.cell_of_heap B5.out]; rfl
  have e5 : w5.cell? ⟨w.heap.size, 5, none⟩ = some (.int .i64 lo) := by rw [Lib.cell_of_heap B5.out]; rfl
  have e6 : w5.cell? ⟨w.heap.size, 6, none⟩ = some (.int .i64 hi) := by rw [Lib.cell_of_heap B5.out]; rfl
  have e7 : w5.cell? ⟨w.heap.size, 7, none⟩ = some (.bool o) := by rw [Lib.cell_of_heap B5.out]; rfl
  have e8 : w5.cell? ⟨w.heap.size, 8, none⟩ = some (.slice ps ns cs) := by rw [Lib.cell_of_heap B5.out]; rfl
  have e9 : w5.cell? ⟨w.heap.size, 9, none⟩ = some (.slice pr nr cr) := by rw [Lib.cell_of_heap B5.out]; rfl
  have hB5 : Below w0.heap.size w0 w5 := hw.trans (hK5.below (B := w0.heap.size) hq (Nat.le_of_lt hqw))
  go_wp2_with fail
  refine (cN.out _ hB5).mono ?_
  rintro r w6 ⟨rfl, hb6⟩
  have W6 : Hid (WK w6 q N1 M1 E2) := W5.out.below hb6
  have B6 : Hid (_) := blkB B5.out hb6
  have hK6 : KeepT q w w6 := hK5.trans (KeepT.of hb6)
  clear hb6 e0 e1 e2 e3 e4 e5 e6 e7 e8 e9 hB5 B5 W5 hK5 cN
  obtain ⟨E3, hE3⟩ : ∃ E, Hid (wrE (!(FB && GB)) 1 E2 = E) := ⟨_, rfl⟩
  rw [hE3.out] at HD2
  have h3n : ¬ E3 = 0 := by rw [← hE3.out]; exact wrE_keep (by rw [← hE2.out]; exact wrE_keep (by decide))
  cases FB with
  | false =>
    go_wp2_with fail
    refine (rwrong_any q N1 M1 _ 1 _ w6 W6.out).mono ?_
    rintro r w7 ⟨⟨v7, rfl⟩, h7⟩
    have W7 : Hid (WK w7 q N1 M1 E3) := by have a := h7.out.1; have b := hE3.out; first | (rw [b] at a; exact a) | (rw [← b]; exact a)
    have B7 : Hid (_) := h7.out.2.heap B6.out hne
    have hK7 : KeepT q w w7 := hK6.trans h7.out.2.keep
    clear h7 B6 W6 hK6
    have e3 : w7.cell? ⟨w.heap.size, 3, none⟩ = some (.slice pv nv cv) := by rw [Lib.cell_of_heap B7.out]; rfl
    have hB7 : Below w0.heap.size w0 w7 := hw.trans (hK7.below (B := w0.heap.size) hq (Nat.le_of_lt hqw))
    go_wp2_with fail
    refine (cW.out _ hB7).mono ?_
    rintro r w8 ⟨rfl, hb8⟩
    have W8 : Hid (WK w8 q N1 M1 E3) := W7.out.below hb8
    have B8 : Hid (_) := blkB B7.out hb8
    have hK8 : KeepT q w w8 := hK7.trans (KeepT.of hb8)
    clear hb8 e3 hB7 B7 W7 hK7 cW
    have e0 : w8.cell? ⟨w.heap.size, 0, none⟩ = some (.int .i64 tk) := by rw [Lib.cell_of_heap B8.out]; rfl
    have e3 : w8.cell? ⟨w.heap.size, 3, none⟩ = some (.slice pv nv cv) := by rw [Lib.cell_of_heap B8.out]; rfl
    have e1 : w8.cell? ⟨w.heap.size, 1, none⟩ = some (.string nm) := by rw [Lib.cell_of_heap B8.out]; rfl
    cases RB with
    | true =>
      go_wp2_with fail
      refine (rwrong_any q N1 M1 _ 30 _ _ W8.out).mono ?_
      rintro r w9 ⟨⟨v9, rfl⟩, h9⟩
      have W9 : Hid (WK w9 q N1 M1 FE) := by have a := h9.out.1; have b := HD2.out; rw [show (true || (decide (tk = 19) && CB)) = true by simp [k19']] at b; rw [b] at a; exact a
      have B9 : Hid (_) := h9.out.2.heap B8.out hne
      have hK9 : KeepT q w w9 := hK8.trans h9.out.2.keep
      have y2 : w9.cell? ⟨q, 2, none⟩ = some (.int .i64 FE) := W9.out.e
      clear h9 e0 e1 e3
      have tn : ¬ FE = 0 := by have h := HD2.out; rw [← h]; exact wrE_ne (by decide)
      have tn' : (FE == 0) = false := by simpa using tn
      have tn'' : (FE != 0) = true := by simpa using tn
      go_wp2
      refine bodyPost_ret (results_none rfl _ _ _) rfl ?_
      exact ⟨⟨_, rfl⟩, hK9, HNo.out tn _ W9.out⟩
    | false =>
      go_wp2_with fail
      refine (rwrong_any q N1 M1 _ 30 _ _ W8.out).mono ?_
      rintro r w9 ⟨⟨v9, rfl⟩, h9⟩
      have W9 : Hid (WK w9 q N1 M1 FE) := by have a := h9.out.1; have b := HD2.out; rw [show (false || (decide (tk = 19) && CB)) = false by simp [k19']] at b; rw [b] at a; exact a
      have B9 : Hid (_) := h9.out.2.heap B8.out hne
      have hK9 : KeepT q w w9 := hK8.trans h9.out.2.keep
      have y2 : w9.cell? ⟨q, 2, none⟩ = some (.int .i64 FE) := W9.out.e
      clear h9 e0 e1 e3
      have tn : ¬ FE = 0 := by have h := HD2.out; rw [← h]; exact wrE_keep h3n
      have tn' : (FE == 0) = false := by simpa using tn
      have tn'' : (FE != 0) = true := by simpa using tn
      go_wp2
      refine bodyPost_ret (results_none rfl _ _ _) rfl ?_
      exact ⟨⟨_, rfl⟩, hK9, HNo.out tn _ W9.out⟩
  | true =>
    go_wp2_with fail
    refine (rwrong_any q N1 M1 _ 1 _ w6 W6.out).mono ?_
    rintro r w7 ⟨⟨v7, rfl⟩, h7⟩
    have W7 : Hid (WK w7 q N1 M1 E3) := by have a := h7.out.1; have b := hE3.out; first | (rw [b] at a; exact a) | (rw [← b]; exact a)
    have B7 : Hid (_) := h7.out.2.heap B6.out hne
    have hK7 : KeepT q w w7 := hK6.trans h7.out.2.keep
    clear h7 B6 W6 hK6
    have e3 : w7.cell? ⟨w.heap.size, 3, none⟩ = some (.slice pv nv cv) := by rw [Lib.cell_of_heap B7.out]; rfl
    have hB7 : Below w0.heap.size w0 w7 := hw.trans (hK7.below (B := w0.heap.size) hq (Nat.le_of_lt hqw))
    go_wp2_with fail
    refine (cW.out _ hB7).mono ?_
    rintro r w8 ⟨rfl, hb8⟩
    have W8 : Hid (WK w8 q N1 M1 E3) := W7.out.below hb8
    have B8 : Hid (_) := blkB B7.out hb8
    have hK8 : KeepT q w w8 := hK7.trans (KeepT.of hb8)
    clear hb8 e3 hB7 B7 W7 hK7 cW
    have e0 : w8.cell? ⟨w.heap.size, 0, none⟩ = some (.int .i64 tk) := by rw [Lib.cell_of_heap B8.out]; rfl
    have e3 : w8.cell? ⟨w.heap.size, 3, none⟩ = some (.slice pv nv cv) := by rw [Lib.cell_of_heap B8.out]; rfl
    have e1 : w8.cell? ⟨w.heap.size, 1, none⟩ = some (.string nm) := by rw [Lib.cell_of_heap B8.out]; rfl
    cases RB with
    | true =>
      go_wp2_with fail
      refine (rwrong_any q N1 M1 _ 30 _ _ W8.out).mono ?_
      rintro r w9 ⟨⟨v9, rfl⟩, h9⟩
      have W9 : Hid (WK w9 q N1 M1 FE) := by have a := h9.out.1; have b := HD2.out; rw [show (true || (decide (tk = 19) && CB)) = true by simp [k19']] at b; rw [b] at a; exact a
      have B9 : Hid (_) := h9.out.2.heap B8.out hne
      have hK9 : KeepT q w w9 := hK8.trans h9.out.2.keep
      have y2 : w9.cell? ⟨q, 2, none⟩ = some (.int .i64 FE) := W9.out.e
      clear h9 e0 e1 e3
      have tn : ¬ FE = 0 := by have h := HD2.out; rw [← h]; exact wrE_ne (by decide)
      have tn' : (FE == 0) = false := by simpa using tn
      have tn'' : (FE != 0) = true := by simpa using tn
      go_wp2
      refine bodyPost_ret (results_none rfl _ _ _) rfl ?_
      exact ⟨⟨_, rfl⟩, hK9, HNo.out tn _ W9.out⟩
    | false =>
      go_wp2_with fail
      refine (rwrong_any q N1 M1 _ 30 _ _ W8.out).mono ?_
      rintro r w9 ⟨⟨v9, rfl⟩, h9⟩
      have W9 : Hid (WK w9 q N1 M1 FE) := by have a := h9.out.1; have b := HD2.out; rw [show (false || (decide (tk = 19) && CB)) = false by simp [k19']] at b; rw [b] at a; exact a
      have B9 : Hid (_) := h9.out.2.heap B8.out hne
      have hK9 : KeepT q w w9 := hK8.trans h9.out.2.keep
      have y2 : w9.cell? ⟨q, 2, none⟩ = some (.int .i64 FE) := W9.out.e
      clear h9 e0 e1 e3
      have tn : ¬ FE = 0 := by have h := HD2.out; rw [← h]; exact wrE_keep h3n
      have tn' : (FE == 0) = false := by simpa using tn
      have tn'' : (FE != 0) = true := by simpa using tn
      go_wp2
      refine bodyPost_ret (results_none rfl _ _ _) rfl ?_
      exact ⟨⟨_, rfl⟩, hK9, HNo.out tn _ W9.out⟩
end Go.Proofs.YtfajjphfjilpnaaGreat
