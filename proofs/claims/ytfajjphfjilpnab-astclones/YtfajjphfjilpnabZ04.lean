/- How deep a formula is; when it may be, said at once; its parts may be. -/
import Derived.Test.YtfajjphfjilpnabZ03

namespace Go.Proofs.Ytfajjphfjilpnab
open Go.RowKit LX Go.Shelf
set_option linter.unusedVariables false

/-- Texts of the call's own, in a block that P names. -/
def NmsOwn (P : Nat → Prop) (w : World) (v : Value) (vs : List ByteArray) : Prop := w.ownsRow 0 9 1 v vs.length (vs.map Value.string) ∧ vs.length ≤ 9223372036854775807 ∧ ∀ q, v.ownBlock = some q → P q
theorem NmsOwn.keep {P : Nat → Prop} {w w' : World} {v : Value} {vs : List ByteArray} (h : NmsOwn P w v vs) (hk : ∀ q, P q → q < w.heap.size → w'.heap[q]? = w.heap[q]?) : NmsOwn P w' v vs := ⟨own_keepP h.1 (fun q hq => hk q (h.2.2 q hq)), h.2.1, h.2.2⟩
theorem NmsOwn.mono {P P' : Nat → Prop} {w : World} {v : Value} {vs : List ByteArray} (h : NmsOwn P w v vs) (hP : ∀ q, P q → q < w.heap.size → P' q) : NmsOwn P' w v vs := ⟨h.1, h.2.1, fun q hq => hP q (h.2.2 q hq) (own_lt h.1 hq)⟩
theorem NmsOwn.at {P : Nat → Prop} {w : World} {v : Value} {vs : List ByteArray} (h : NmsOwn P w v vs) : NmsAt w v vs := OwnN.nms (B := 0) h.1 h.2.1
theorem OwnN.nmsOwn {B : Nat} {w : World} {v : Value} {vs : List ByteArray} (h : OwnN B v vs w) (hl : vs.length ≤ 9223372036854775807) : NmsOwn (fun q => B ≤ q) w v vs := ⟨own_monoB h (Nat.zero_le _), hl, fun q hq => (World.ownsRow.lt h q hq).1⟩
/-- The cells of regexes, their slices with them. -/
def rcs (x : Rx × (Value × Value)) : List Value := [.int .i64 x.1.k, x.2.1, x.2.2]
def flatR (ps : List (Rx × (Value × Value))) : List Value := ps.flatMap rcs
theorem flatR_append (xs ys : List (Rx × (Value × Value))) : flatR (xs ++ ys) = flatR xs ++ flatR ys := by simp [flatR]
theorem flatR_get : ∀ (xs : List (Rx × (Value × Value))) (i j : Nat) (h : i < xs.length), j < 3 → (flatR xs)[i * 3 + j]? = (rcs xs[i])[j]?
  | [], i, j, h, _ => by simp at h
  | x :: l, 0, j, h, hj => by
    show (rcs x ++ flatR l)[0 * 3 + j]? = _
    rw [List.getElem?_append_left (by simp [rcs]; omega)]
    simp
  | x :: l, i + 1, j, h, hj => by
    show (rcs x ++ flatR l)[(i + 1) * 3 + j]? = _
    rw [List.getElem?_append_right (by simp [rcs]; omega), show (i + 1) * 3 + j - (rcs x).length = i * 3 + j by simp [rcs]; omega]
    exact flatR_get l i j (by simpa using h) hj
section
mutual
/-- Formulas in memory of the call's own, all that is within them too: the blocks are those that P names. -/
inductive FmsOwn (P : Nat → Prop) (w : World) : Value → List Fm → Prop
  | mk {v : Value} {fs : List Fm} (ps : List (Fm × FQ)) (e : ps.map Prod.fst = fs) (hl : fs.length ≤ 9223372036854775807) (row : w.ownsRow 0 29 10 v fs.length (flatF ps)) (pl : ∀ q, v.ownBlock = some q → P q) (vars : ∀ x ∈ ps, NmsOwn P w x.2.v x.1.vars) (terms : ∀ x ∈ ps, TmsOwn P w x.2.t x.1.terms) (sub : ∀ x ∈ ps, FmsOwn P w x.2.s x.1.subs) (rgx : ∀ x ∈ ps, RxsOwn P w x.2.r x.1.rgx) : FmsOwn P w v fs
inductive RxsOwn (P : Nat → Prop) (w : World) : Value → List Rx → Prop
  | mk {v : Value} {rs : List Rx} (ps : List (Rx × (Value × Value))) (e : ps.map Prod.fst = rs) (hl : rs.length ≤ 9223372036854775807) (row : w.ownsRow 0 60 3 v rs.length (flatR ps)) (pl : ∀ q, v.ownBlock = some q → P q) (test : ∀ x ∈ ps, FmsOwn P w x.2.1 x.1.test) (sub : ∀ x ∈ ps, RxsOwn P w x.2.2 x.1.subs) : RxsOwn P w v rs
end
end
theorem mem_fst {α β : Type} [SizeOf α] {ps : List (α × β)} {fs : List α} (e : ps.map Prod.fst = fs) {x : α × β} (h : x ∈ ps) : SizeOf.sizeOf x.1 < SizeOf.sizeOf fs := by
  subst e
  exact List.sizeOf_lt_of_mem (List.mem_map.2 ⟨x, h, rfl⟩)
theorem both_keep {P : Nat → Prop} {w w' : World} (hk : ∀ q, P q → q < w.heap.size → w'.heap[q]? = w.heap[q]?) : ∀ n, (∀ (v : Value) (fs : List Fm), SizeOf.sizeOf fs ≤ n → FmsOwn P w v fs → FmsOwn P w' v fs) ∧ (∀ (v : Value) (rs : List Rx), SizeOf.sizeOf rs ≤ n → RxsOwn P w v rs → RxsOwn P w' v rs) := by
  intro n
  induction n with
  | zero => exact ⟨fun v fs hn h => by cases fs <;> simp at hn, fun v rs hn h => by cases rs <;> simp at hn⟩
  | succ n ih =>
    refine ⟨fun v fs hn h => ?_, fun v rs hn h => ?_⟩
    · cases h with
      | mk ps e hl row pl vars terms sub rgx =>
        exact .mk ps e hl (own_keepP row (fun q hq => hk q (pl q hq))) pl (fun x hx => (vars x hx).keep hk) (fun x hx => (terms x hx).keep hk)
          (fun x hx => ih.1 _ _ (by have := mem_fst e hx; have := Fm.subs_lt x.1; omega) (sub x hx)) (fun x hx => ih.2 _ _ (by have := mem_fst e hx; have := Fm.rgx_lt x.1; omega) (rgx x hx))
    · cases h with
      | mk ps e hl row pl test sub =>
        exact .mk ps e hl (own_keepP row (fun q hq => hk q (pl q hq))) pl
          (fun x hx => ih.1 _ _ (by have := mem_fst e hx; have := Rx.test_lt x.1; omega) (test x hx)) (fun x hx => ih.2 _ _ (by have := mem_fst e hx; have := Rx.subs_lt x.1; omega) (sub x hx))
theorem FmsOwn.keep {P : Nat → Prop} {w w' : World} {v : Value} {fs : List Fm} (h : FmsOwn P w v fs) (hk : ∀ q, P q → q < w.heap.size → w'.heap[q]? = w.heap[q]?) : FmsOwn P w' v fs := (both_keep hk _).1 v fs (Nat.le_refl _) h
theorem RxsOwn.keep {P : Nat → Prop} {w w' : World} {v : Value} {rs : List Rx} (h : RxsOwn P w v rs) (hk : ∀ q, P q → q < w.heap.size → w'.heap[q]? = w.heap[q]?) : RxsOwn P w' v rs := (both_keep hk _).2 v rs (Nat.le_refl _) h
theorem both_mono {P P' : Nat → Prop} {w : World} (hP : ∀ q, P q → q < w.heap.size → P' q) : ∀ n, (∀ (v : Value) (fs : List Fm), SizeOf.sizeOf fs ≤ n → FmsOwn P w v fs → FmsOwn P' w v fs) ∧ (∀ (v : Value) (rs : List Rx), SizeOf.sizeOf rs ≤ n → RxsOwn P w v rs → RxsOwn P' w v rs) := by
  intro n
  induction n with
  | zero => exact ⟨fun v fs hn h => by cases fs <;> simp at hn, fun v rs hn h => by cases rs <;> simp at hn⟩
  | succ n ih =>
    refine ⟨fun v fs hn h => ?_, fun v rs hn h => ?_⟩
    · cases h with
      | mk ps e hl row pl vars terms sub rgx =>
        exact .mk ps e hl row (fun q hq => hP q (pl q hq) (own_lt row hq)) (fun x hx => (vars x hx).mono hP) (fun x hx => (terms x hx).mono hP)
          (fun x hx => ih.1 _ _ (by have := mem_fst e hx; have := Fm.subs_lt x.1; omega) (sub x hx)) (fun x hx => ih.2 _ _ (by have := mem_fst e hx; have := Fm.rgx_lt x.1; omega) (rgx x hx))
    · cases h with
      | mk ps e hl row pl test sub =>
        exact .mk ps e hl row (fun q hq => hP q (pl q hq) (own_lt row hq))
          (fun x hx => ih.1 _ _ (by have := mem_fst e hx; have := Rx.test_lt x.1; omega) (test x hx)) (fun x hx => ih.2 _ _ (by have := mem_fst e hx; have := Rx.subs_lt x.1; omega) (sub x hx))
theorem FmsOwn.mono {P P' : Nat → Prop} {w : World} {v : Value} {fs : List Fm} (h : FmsOwn P w v fs) (hP : ∀ q, P q → q < w.heap.size → P' q) : FmsOwn P' w v fs := (both_mono hP _).1 v fs (Nat.le_refl _) h
theorem RxsOwn.mono {P P' : Nat → Prop} {w : World} {v : Value} {rs : List Rx} (h : RxsOwn P w v rs) (hP : ∀ q, P q → q < w.heap.size → P' q) : RxsOwn P' w v rs := (both_mono hP _).2 v rs (Nat.le_refl _) h
theorem both_at {P : Nat → Prop} {w : World} : ∀ n, (∀ (v : Value) (fs : List Fm), SizeOf.sizeOf fs ≤ n → FmsOwn P w v fs → FmsAt w v fs) ∧ (∀ (v : Value) (rs : List Rx), SizeOf.sizeOf rs ≤ n → RxsOwn P w v rs → RxsAt w v rs) := by
  intro n
  induction n with
  | zero => exact ⟨fun v fs hn h => by cases fs <;> simp at hn, fun v rs hn h => by cases rs <;> simp at hn⟩
  | succ n ih =>
    refine ⟨fun v fs hn h => ?_, fun v rs hn h => ?_⟩
    · cases h with
      | mk ps e hl row pl vars terms sub rgx =>
        have row' := row
        have e' := e
        subst e
        obtain ⟨hL, ⟨rfl, hn0⟩ | ⟨g, cap, cur, rfl, hg1, hg2, hg3, hg4, hg5, hg6⟩⟩ := row
        · rw [List.length_eq_zero_iff.1 hn0]
          exact .nil
        · have hg := (Array.getElem?_eq_some_iff.1 hg2).1
          have hp : ∀ i, i < (ps.map Prod.fst).length → i < ps.length := fun i hi => by simpa using hi
          refine .row (b := g) (off := 0) (fun i => if h : i < ps.length then ps[i].2.v else .bool false) (fun i => if h : i < ps.length then ps[i].2.t else .bool false) (fun i => if h : i < ps.length then ps[i].2.s else .bool false) (fun i => if h : i < ps.length then ps[i].2.r else .bool false) hl hg3 hg (fun i hi => ?_) (fun i hi => ?_) (fun i hi => ?_) (fun i hi => ?_) (fun i hi => ?_)
          · have hi' := hp i hi
            have C : ∀ j, j < 10 → w.cell? ⟨g, 0 + i * 10 + j, none⟩ = (fcs ps[i])[j]? := fun j hj => by
              rw [Nat.zero_add, row'.cellAt _ (by simp; omega)]
              exact flatF_get ps i j hi' hj
            rw [List.getElem_map, dif_pos hi', dif_pos hi', dif_pos hi', dif_pos hi']
            exact ⟨(C 0 (by omega)).trans rfl, (C 1 (by omega)).trans rfl, (C 2 (by omega)).trans rfl, (C 3 (by omega)).trans rfl, (C 4 (by omega)).trans rfl, (C 5 (by omega)).trans rfl, (C 6 (by omega)).trans rfl, (C 7 (by omega)).trans rfl, (C 8 (by omega)).trans rfl, (C 9 (by omega)).trans rfl⟩
          · have hi' := hp i hi
            rw [List.getElem_map, dif_pos hi']
            exact (vars _ (List.getElem_mem hi')).at
          · have hi' := hp i hi
            rw [List.getElem_map, dif_pos hi']
            exact (terms _ (List.getElem_mem hi')).at
          · have hi' := hp i hi
            rw [List.getElem_map, dif_pos hi']
            exact ih.1 _ _ (by have := mem_fst e' (List.getElem_mem hi'); have := Fm.subs_lt ps[i].1; omega) (sub _ (List.getElem_mem hi'))
          · have hi' := hp i hi
            rw [List.getElem_map, dif_pos hi']
            exact ih.2 _ _ (by have := mem_fst e' (List.getElem_mem hi'); have := Fm.rgx_lt ps[i].1; omega) (rgx _ (List.getElem_mem hi'))
    · cases h with
      | mk ps e hl row pl test sub =>
        have row' := row
        have e' := e
        subst e
        obtain ⟨hL, ⟨rfl, hn0⟩ | ⟨g, cap, cur, rfl, hg1, hg2, hg3, hg4, hg5, hg6⟩⟩ := row
        · rw [List.length_eq_zero_iff.1 hn0]
          exact .nil
        · have hg := (Array.getElem?_eq_some_iff.1 hg2).1
          have hp : ∀ i, i < (ps.map Prod.fst).length → i < ps.length := fun i hi => by simpa using hi
          refine .row (b := g) (off := 0) (fun i => if h : i < ps.length then ps[i].2.1 else .bool false) (fun i => if h : i < ps.length then ps[i].2.2 else .bool false) hl hg3 hg (fun i hi => ?_) (fun i hi => ?_) (fun i hi => ?_)
          · have hi' := hp i hi
            have C : ∀ j, j < 3 → w.cell? ⟨g, 0 + i * 3 + j, none⟩ = (rcs ps[i])[j]? := fun j hj => by
              rw [Nat.zero_add, row'.cellAt _ (by simp; omega)]
              exact flatR_get ps i j hi' hj
            rw [List.getElem_map, dif_pos hi', dif_pos hi']
            exact ⟨(C 0 (by omega)).trans rfl, (C 1 (by omega)).trans rfl, (C 2 (by omega)).trans rfl⟩
          · have hi' := hp i hi
            rw [List.getElem_map, dif_pos hi']
            exact ih.1 _ _ (by have := mem_fst e' (List.getElem_mem hi'); have := Rx.test_lt ps[i].1; omega) (test _ (List.getElem_mem hi'))
          · have hi' := hp i hi
            rw [List.getElem_map, dif_pos hi']
            exact ih.2 _ _ (by have := mem_fst e' (List.getElem_mem hi'); have := Rx.subs_lt ps[i].1; omega) (sub _ (List.getElem_mem hi'))
theorem FmsOwn.at {P : Nat → Prop} {w : World} {v : Value} {fs : List Fm} (h : FmsOwn P w v fs) : FmsAt w v fs := (both_at _).1 v fs (Nat.le_refl _) h
theorem RxsOwn.at {P : Nat → Prop} {w : World} {v : Value} {rs : List Rx} (h : RxsOwn P w v rs) : RxsAt w v rs := (both_at _).2 v rs (Nat.le_refl _) h
/-- One formula of the call's own. -/
def QOwn (P : Nat → Prop) (w : World) (x : Fm × FQ) : Prop := NmsOwn P w x.2.v x.1.vars ∧ TmsOwn P w x.2.t x.1.terms ∧ FmsOwn P w x.2.s x.1.subs ∧ RxsOwn P w x.2.r x.1.rgx
theorem QOwn.at {P : Nat → Prop} {w : World} {x : Fm × FQ} (h : QOwn P w x) : QAt w x := ⟨h.1.at, h.2.1.at, h.2.2.1.at, h.2.2.2.at⟩
theorem QOwn.keep {P : Nat → Prop} {w w' : World} {x : Fm × FQ} (h : QOwn P w x) (hk : ∀ q, P q → q < w.heap.size → w'.heap[q]? = w.heap[q]?) : QOwn P w' x := ⟨h.1.keep hk, h.2.1.keep hk, h.2.2.1.keep hk, h.2.2.2.keep hk⟩
theorem QOwn.mono {P P' : Nat → Prop} {w : World} {x : Fm × FQ} (h : QOwn P w x) (hP : ∀ q, P q → q < w.heap.size → P' q) : QOwn P' w x := ⟨h.1.mono hP, h.2.1.mono hP, h.2.2.1.mono hP, h.2.2.2.mono hP⟩

section
mutual
/-- Texts and slices that a machine may hold. -/
def lgF : Fm → Prop
  | .mk _ nm _ vars terms _ _ _ subs rgx => nm.size ≤ 281474976710656 ∧ (vars.length * 16 ≤ 140737488355328 ∧ ∀ s ∈ vars, s.size ≤ 281474976710656) ∧ (terms.length * 88 ≤ 140737488355328 ∧ lgTs terms) ∧ (subs.length * 152 ≤ 140737488355328 ∧ lgFs subs) ∧ (rgx.length * 56 ≤ 140737488355328 ∧ lgRs rgx)
def lgFs : List Fm → Prop
  | [] => True
  | f :: l => lgF f ∧ lgFs l
def lgR : Rx → Prop
  | .mk _ t s => (t.length * 152 ≤ 140737488355328 ∧ lgFs t) ∧ (s.length * 56 ≤ 140737488355328 ∧ lgRs s)
def lgRs : List Rx → Prop
  | [] => True
  | r :: l => lgR r ∧ lgRs l
end
end
theorem lgF_eq (f : Fm) : lgF f = (f.nm.size ≤ 281474976710656 ∧ (f.vars.length * 16 ≤ 140737488355328 ∧ ∀ s ∈ f.vars, s.size ≤ 281474976710656) ∧ (f.terms.length * 88 ≤ 140737488355328 ∧ lgTs f.terms) ∧ (f.subs.length * 152 ≤ 140737488355328 ∧ lgFs f.subs) ∧ (f.rgx.length * 56 ≤ 140737488355328 ∧ lgRs f.rgx)) := by cases f; rw [lgF]; rfl
theorem lgFs_nil : lgFs [] = True := by rw [lgFs]
theorem lgFs_cons (f : Fm) (l : List Fm) : lgFs (f :: l) = (lgF f ∧ lgFs l) := by rw [lgFs]
theorem lgR_eq (r : Rx) : lgR r = ((r.test.length * 152 ≤ 140737488355328 ∧ lgFs r.test) ∧ (r.subs.length * 56 ≤ 140737488355328 ∧ lgRs r.subs)) := by cases r; rw [lgR]; rfl
theorem lgRs_nil : lgRs [] = True := by rw [lgRs]
theorem lgRs_cons (r : Rx) (l : List Rx) : lgRs (r :: l) = (lgR r ∧ lgRs l) := by rw [lgRs]
theorem lgFs_get (a : List Fm) (i : Nat) (h : i < a.length) (k : lgFs a) : lgF a[i] := by
  induction a generalizing i with
  | nil => simp at h
  | cons x l ih =>
    rw [lgFs_cons] at k
    rcases i with _ | i
    · exact k.1
    · exact ih i (by simpa using h) k.2
theorem lgRs_get (a : List Rx) (i : Nat) (h : i < a.length) (k : lgRs a) : lgR a[i] := by
  induction a generalizing i with
  | nil => simp at h
  | cons x l ih =>
    rw [lgRs_cons] at k
    rcases i with _ | i
    · exact k.1
    · exact ih i (by simpa using h) k.2
theorem inRxA : (Try.prog.info? 60).map (fun i => (i.zero, i.size, i.bytes)) = some (some (.agg #[.int .i64 0, .slice none 0 0, .slice none 0 0]), 3, 56) := by kernel_rfl
/-- What Clone, cloneFormulas and cloneRegexes tell. -/
def ClF (W : World) (f : Fm) (r : Ending) (w' : World) : Prop := ∃ q, r = .returned (.agg #[.int .i64 f.k, .string f.nm, .int .i64 f.op, q.v, q.t, .int .i64 f.lo, .int .i64 f.hi, .bool f.opn, q.s, q.r]) ∧ QOwn (fun b => W.heap.size ≤ b) w' (f, q) ∧ Below W.heap.size W w'
def ClFs (W : World) (fs : List Fm) (r : Ending) (w' : World) : Prop := ∃ v, r = .returned v ∧ FmsOwn (fun q => W.heap.size ≤ q) w' v fs ∧ Below W.heap.size W w'
def ClRs (W : World) (rs : List Rx) (r : Ending) (w' : World) : Prop := ∃ v, r = .returned v ∧ RxsOwn (fun q => W.heap.size ≤ q) w' v rs ∧ Below W.heap.size W w'

set_option maxRecDepth 100000 in
set_option maxHeartbeats 8000000 in
theorem clone_step (f : Fm) (q : FQ) (w : World) (hq : QAt w (f, q)) (hlg : lgF f)
    (IF : ∀ W : World, Below w.heap.size w W → Calls Try.prog 37 #[q.s] W (ClFs W f.subs)) (IR : ∀ W : World, Below w.heap.size w W → Calls Try.prog 36 #[q.r] W (ClRs W f.rgx)) :
    Calls Try.prog 9 #[.agg #[.int .i64 f.k, .string f.nm, .int .i64 f.op, q.v, q.t, .int .i64 f.lo, .int .i64 f.hi, .bool f.opn, q.s, q.r]] w (ClF w f) := by
  rw [lgF_eq] at hlg
  obtain ⟨l1, ⟨l2, l3⟩, ⟨l4, l5⟩, -, -⟩ := hlg
  have cF : Hid (∀ W : World, Below w.heap.size w W → Calls Try.prog 37 #[q.s] W fun r w' => ∃ p c, r = .returned (.slice p f.subs.length c) ∧ FmsOwn (fun q => W.heap.size ≤ q) w' (.slice p f.subs.length c) f.subs ∧ Below W.heap.size W w') := fun W hW => (IF W hW).mono fun r w' ⟨v, h1, h2, h3⟩ => by
    obtain ⟨p, c, rfl, -⟩ := h2.at.form
    exact ⟨p, c, h1, h2, h3⟩
  have cR : Hid (∀ W : World, Below w.heap.size w W → Calls Try.prog 36 #[q.r] W fun r w' => ∃ p c, r = .returned (.slice p f.rgx.length c) ∧ RxsOwn (fun q => W.heap.size ≤ q) w' (.slice p f.rgx.length c) f.rgx ∧ Below W.heap.size W w') := fun W hW => (IR W hW).mono fun r w' ⟨v, h1, h2, h3⟩ => by
    obtain ⟨p, c, rfl, -⟩ := h2.at.form
    exact ⟨p, c, h1, h2, h3⟩
  have cT : Hid (∀ W : World, Below w.heap.size w W → Calls Try.prog 35 #[q.t] W fun r w' => ∃ p c, r = .returned (.slice p f.terms.length c) ∧ TmsOwn (fun q => W.heap.size ≤ q) w' (.slice p f.terms.length c) f.terms ∧ Below W.heap.size W w') := fun W hW => (ctms_any _ f.terms q.t W (Nat.le_refl _) (hq.2.1.bel hW) l4 l5).mono fun r w' ⟨v, h1, h2, h3⟩ => by
    obtain ⟨p, c, rfl, -⟩ := h2.at.form
    exact ⟨p, c, h1, h2, h3⟩
  have cV : Hid (∀ W : World, Below w.heap.size w W → Calls Try.prog 34 #[q.v] W fun r w' => ∃ p c, r = .returned (.slice p f.vars.length c) ∧ NmsOwn (fun q => W.heap.size ≤ q) w' (.slice p f.vars.length c) f.vars ∧ Below W.heap.size W w') := fun W hW => (copies_any q.v f.vars W (hq.1.below hW) l2 l3).mono fun r w' ⟨v, h1, h2, h3⟩ => by
    obtain ⟨p, c, rfl, -⟩ := h2.cap
    exact ⟨p, c, h1, h2.nmsOwn (by omega), h3⟩
  have cN : Hid (∀ W : World, Calls Try.prog 33 #[.string f.nm] W fun e w' => e = .returned (.string f.nm) ∧ Below W.heap.size W w') := fun W => clone_any _ W l1
  obtain ⟨CO, eCO⟩ : ∃ CO, Hid (ClF w f = CO) := ⟨_, rfl⟩
  rw [eCO.out]
  have hCO : Hid (∀ (r : Ending) (w' : World) (v t s u : Value), r = .returned (.agg #[.int .i64 f.k, .string f.nm, .int .i64 f.op, v, t, .int .i64 f.lo, .int .i64 f.hi, .bool f.opn, s, u]) → NmsOwn (fun b => w.heap.size + 2 ≤ b) w' v f.vars → TmsOwn (fun b => w.heap.size + 2 ≤ b) w' t f.terms → FmsOwn (fun b => w.heap.size + 2 ≤ b) w' s f.subs → RxsOwn (fun b => w.heap.size + 2 ≤ b) w' u f.rgx → Below w.heap.size w w' → CO r w') := fun r w' v t s u h1 h2 h3 h4 h5 h6 => by
    rw [← eCO.out]
    exact ⟨⟨v, t, s, u⟩, h1, ⟨h2.mono fun q h _ => by omega, h3.mono fun q h _ => by omega, h4.mono fun q h _ => by omega, h5.mono fun q h _ => by omega⟩, h6⟩
  obtain ⟨uv, ut, us, ur⟩ := q
  obtain ⟨h1, h2, h3, h4⟩ := hq
  dsimp only at h1 h2 h3 h4 cF cR cT cV ⊢
  obtain ⟨-, pv, cv, rfl, -, -⟩ := h1
  obtain ⟨pt, ct, rfl, -⟩ := h2.form
  obtain ⟨ps, cs, rfl, -⟩ := h3.form
  obtain ⟨pr, cr, rfl, -⟩ := h4.form
  clear h2 h3 h4 eCO IF IR l1 l2 l3 l4 l5
  generalize f.lo = lo at *
  generalize f.hi = hi at *
  generalize f.nm = nm at *
  generalize f.opn = o at *
  generalize f.op = op at *
  generalize f.k = k at *
  obtain ⟨nv, env⟩ : ∃ n : Nat, Hid (f.vars.length = n) := ⟨_, rfl⟩
  obtain ⟨nt, ent⟩ : ∃ n : Nat, Hid (f.terms.length = n) := ⟨_, rfl⟩
  obtain ⟨ns, ens⟩ : ∃ n : Nat, Hid (f.subs.length = n) := ⟨_, rfl⟩
  obtain ⟨nr, enr⟩ : ∃ n : Nat, Hid (f.rgx.length = n) := ⟨_, rfl⟩
  rw [env.out] at cV ⊢
  rw [ent.out] at cT ⊢
  rw [ens.out] at cF ⊢
  rw [enr.out] at cR ⊢
  go_enter Try.func9, Try.ntmps9
  go_wp2_with fail
  refine (cN.out _).mono ?_
  rintro r w1 ⟨rfl, hb1⟩
  have hB1 : Below w.heap.size w w1 := Below.trans (by go_grown) (hb1.mono (by first | (simp; done) | (simp; omega)))
  have hz1 : w.heap.size + 1 < w1.heap.size := by have := hb1.size; simp at this; omega
  have e0 : w1.cell? ⟨w.heap.size, 0, none⟩ = some (.int .i64 k) := (hb1.cell (p := ⟨w.heap.size, 0, none⟩) (by first | (simp; done) | (simp; omega))).trans (by simp [go_sem, *])
  have e1 : w1.cell? ⟨w.heap.size, 1, none⟩ = some (.string nm) := (hb1.cell (p := ⟨w.heap.size, 1, none⟩) (by first | (simp; done) | (simp; omega))).trans (by simp [go_sem, *])
  have e2 : w1.cell? ⟨w.heap.size, 2, none⟩ = some (.int .i64 op) := (hb1.cell (p := ⟨w.heap.size, 2, none⟩) (by first | (simp; done) | (simp; omega))).trans (by simp [go_sem, *])
  have e3 : w1.cell? ⟨w.heap.size, 3, none⟩ = some (.slice pv nv cv) := (hb1.cell (p := ⟨w.heap.size, 3, none⟩) (by first | (simp; done) | (simp; omega))).trans (by simp [go_sem, *])
  have e4 : w1.cell? ⟨w.heap.size, 4, none⟩ = some (.slice pt nt ct) := (hb1.cell (p := ⟨w.heap.size, 4, none⟩) (by first | (simp; done) | (simp; omega))).trans (by simp [go_sem, *])
  have e5 : w1.cell? ⟨w.heap.size, 5, none⟩ = some (.int .i64 lo) := (hb1.cell (p := ⟨w.heap.size, 5, none⟩) (by first | (simp; done) | (simp; omega))).trans (by simp [go_sem, *])
  have e6 : w1.cell? ⟨w.heap.size, 6, none⟩ = some (.int .i64 hi) := (hb1.cell (p := ⟨w.heap.size, 6, none⟩) (by first | (simp; done) | (simp; omega))).trans (by simp [go_sem, *])
  have e7 : w1.cell? ⟨w.heap.size, 7, none⟩ = some (.bool o) := (hb1.cell (p := ⟨w.heap.size, 7, none⟩) (by first | (simp; done) | (simp; omega))).trans (by simp [go_sem, *])
  have e8 : w1.cell? ⟨w.heap.size, 8, none⟩ = some (.slice ps ns cs) := (hb1.cell (p := ⟨w.heap.size, 8, none⟩) (by first | (simp; done) | (simp; omega))).trans (by simp [go_sem, *])
  have e9 : w1.cell? ⟨w.heap.size, 9, none⟩ = some (.slice pr nr cr) := (hb1.cell (p := ⟨w.heap.size, 9, none⟩) (by first | (simp; done) | (simp; omega))).trans (by simp [go_sem, *])
  have f1 : w1.frozen? ⟨w.heap.size, 1, none⟩ = false := (World.frozen?_of_block (a := ⟨w.heap.size, 1, none⟩) (hb1.block (w.heap.size) (by first | (simp; done) | (simp; omega)))).trans (by simp [go_sem, *])
  have f3 : w1.frozen? ⟨w.heap.size, 3, none⟩ = false := (World.frozen?_of_block (a := ⟨w.heap.size, 3, none⟩) (hb1.block (w.heap.size) (by first | (simp; done) | (simp; omega)))).trans (by simp [go_sem, *])
  have f4 : w1.frozen? ⟨w.heap.size, 4, none⟩ = false := (World.frozen?_of_block (a := ⟨w.heap.size, 4, none⟩) (hb1.block (w.heap.size) (by first | (simp; done) | (simp; omega)))).trans (by simp [go_sem, *])
  have f8 : w1.frozen? ⟨w.heap.size, 8, none⟩ = false := (World.frozen?_of_block (a := ⟨w.heap.size, 8, none⟩) (hb1.block (w.heap.size) (by first | (simp; done) | (simp; omega)))).trans (by simp [go_sem, *])
  have f9 : w1.frozen? ⟨w.heap.size, 9, none⟩ = false := (World.frozen?_of_block (a := ⟨w.heap.size, 9, none⟩) (hb1.block (w.heap.size) (by first | (simp; done) | (simp; omega)))).trans (by simp [go_sem, *])
  have g0 : w1.cell? ⟨w.heap.size + 1, 0, none⟩ = some (.int .i64 0) := (hb1.cell (p := ⟨w.heap.size + 1, 0, none⟩) (by first | (simp; done) | (simp; omega))).trans (by simp [go_sem, *])
  have g1 : w1.cell? ⟨w.heap.size + 1, 1, none⟩ = some (.string ⟨#[]⟩) := (hb1.cell (p := ⟨w.heap.size + 1, 1, none⟩) (by first | (simp; done) | (simp; omega))).trans (by simp [go_sem, *])
  have g2 : w1.cell? ⟨w.heap.size + 1, 2, none⟩ = some (.int .i64 0) := (hb1.cell (p := ⟨w.heap.size + 1, 2, none⟩) (by first | (simp; done) | (simp; omega))).trans (by simp [go_sem, *])
  have g3 : w1.cell? ⟨w.heap.size + 1, 3, none⟩ = some (.slice none 0 0) := (hb1.cell (p := ⟨w.heap.size + 1, 3, none⟩) (by first | (simp; done) | (simp; omega))).trans (by simp [go_sem, *])
  have g4 : w1.cell? ⟨w.heap.size + 1, 4, none⟩ = some (.slice none 0 0) := (hb1.cell (p := ⟨w.heap.size + 1, 4, none⟩) (by first | (simp; done) | (simp; omega))).trans (by simp [go_sem, *])
  have g5 : w1.cell? ⟨w.heap.size + 1, 5, none⟩ = some (.int .i64 0) := (hb1.cell (p := ⟨w.heap.size + 1, 5, none⟩) (by first | (simp; done) | (simp; omega))).trans (by simp [go_sem, *])
  have g6 : w1.cell? ⟨w.heap.size + 1, 6, none⟩ = some (.int .i64 0) := (hb1.cell (p := ⟨w.heap.size + 1, 6, none⟩) (by first | (simp; done) | (simp; omega))).trans (by simp [go_sem, *])
  have g7 : w1.cell? ⟨w.heap.size + 1, 7, none⟩ = some (.bool false) := (hb1.cell (p := ⟨w.heap.size + 1, 7, none⟩) (by first | (simp; done) | (simp; omega))).trans (by simp [go_sem, *])
  have g8 : w1.cell? ⟨w.heap.size + 1, 8, none⟩ = some (.slice none 0 0) := (hb1.cell (p := ⟨w.heap.size + 1, 8, none⟩) (by first | (simp; done) | (simp; omega))).trans (by simp [go_sem, *])
  have g9 : w1.cell? ⟨w.heap.size + 1, 9, none⟩ = some (.slice none 0 0) := (hb1.cell (p := ⟨w.heap.size + 1, 9, none⟩) (by first | (simp; done) | (simp; omega))).trans (by simp [go_sem, *])
  have h0 : w1.frozen? ⟨w.heap.size + 1, 0, none⟩ = false := (World.frozen?_of_block (a := ⟨w.heap.size + 1, 0, none⟩) (hb1.block (w.heap.size + 1) (by first | (simp; done) | (simp; omega)))).trans (by simp [go_sem, *])
  have h1 : w1.frozen? ⟨w.heap.size + 1, 1, none⟩ = false := (World.frozen?_of_block (a := ⟨w.heap.size + 1, 1, none⟩) (hb1.block (w.heap.size + 1) (by first | (simp; done) | (simp; omega)))).trans (by simp [go_sem, *])
  have h2 : w1.frozen? ⟨w.heap.size + 1, 2, none⟩ = false := (World.frozen?_of_block (a := ⟨w.heap.size + 1, 2, none⟩) (hb1.block (w.heap.size + 1) (by first | (simp; done) | (simp; omega)))).trans (by simp [go_sem, *])
  have h3 : w1.frozen? ⟨w.heap.size + 1, 3, none⟩ = false := (World.frozen?_of_block (a := ⟨w.heap.size + 1, 3, none⟩) (hb1.block (w.heap.size + 1) (by first | (simp; done) | (simp; omega)))).trans (by simp [go_sem, *])
  have h4 : w1.frozen? ⟨w.heap.size + 1, 4, none⟩ = false := (World.frozen?_of_block (a := ⟨w.heap.size + 1, 4, none⟩) (hb1.block (w.heap.size + 1) (by first | (simp; done) | (simp; omega)))).trans (by simp [go_sem, *])
  have h5 : w1.frozen? ⟨w.heap.size + 1, 5, none⟩ = false := (World.frozen?_of_block (a := ⟨w.heap.size + 1, 5, none⟩) (hb1.block (w.heap.size + 1) (by first | (simp; done) | (simp; omega)))).trans (by simp [go_sem, *])
  have h6 : w1.frozen? ⟨w.heap.size + 1, 6, none⟩ = false := (World.frozen?_of_block (a := ⟨w.heap.size + 1, 6, none⟩) (hb1.block (w.heap.size + 1) (by first | (simp; done) | (simp; omega)))).trans (by simp [go_sem, *])
  have h7 : w1.frozen? ⟨w.heap.size + 1, 7, none⟩ = false := (World.frozen?_of_block (a := ⟨w.heap.size + 1, 7, none⟩) (hb1.block (w.heap.size + 1) (by first | (simp; done) | (simp; omega)))).trans (by simp [go_sem, *])
  have h8 : w1.frozen? ⟨w.heap.size + 1, 8, none⟩ = false := (World.frozen?_of_block (a := ⟨w.heap.size + 1, 8, none⟩) (hb1.block (w.heap.size + 1) (by first | (simp; done) | (simp; omega)))).trans (by simp [go_sem, *])
  have h9 : w1.frozen? ⟨w.heap.size + 1, 9, none⟩ = false := (World.frozen?_of_block (a := ⟨w.heap.size + 1, 9, none⟩) (hb1.block (w.heap.size + 1) (by first | (simp; done) | (simp; omega)))).trans (by simp [go_sem, *])
  clear hb1 cN
  go_wp2_with fail
  refine (cV.out _ (hB1.trans (by go_grown))).mono ?_
  rintro r w2 ⟨p2, c2, rfl, hO2, hb2⟩
  have hB2 : Below w.heap.size w w2 := (hB1.trans (by go_grown)).trans (hb2.mono (by have := hB1.size; simp; omega))
  have hz2 : w.heap.size + 1 < w2.heap.size := by have := hb2.size; simp at this; omega
  have e0 : w2.cell? ⟨w.heap.size, 0, none⟩ = some (.int .i64 k) := (hb2.cell (p := ⟨w.heap.size, 0, none⟩) (by first | (simp; done) | (simp; omega))).trans (by simp [go_sem, *])
  have e1 : w2.cell? ⟨w.heap.size, 1, none⟩ = some (.string nm) := (hb2.cell (p := ⟨w.heap.size, 1, none⟩) (by first | (simp; done) | (simp; omega))).trans (by simp [go_sem, *])
  have e2 : w2.cell? ⟨w.heap.size, 2, none⟩ = some (.int .i64 op) := (hb2.cell (p := ⟨w.heap.size, 2, none⟩) (by first | (simp; done) | (simp; omega))).trans (by simp [go_sem, *])
  have e3 : w2.cell? ⟨w.heap.size, 3, none⟩ = some (.slice pv nv cv) := (hb2.cell (p := ⟨w.heap.size, 3, none⟩) (by first | (simp; done) | (simp; omega))).trans (by simp [go_sem, *])
  have e4 : w2.cell? ⟨w.heap.size, 4, none⟩ = some (.slice pt nt ct) := (hb2.cell (p := ⟨w.heap.size, 4, none⟩) (by first | (simp; done) | (simp; omega))).trans (by simp [go_sem, *])
  have e5 : w2.cell? ⟨w.heap.size, 5, none⟩ = some (.int .i64 lo) := (hb2.cell (p := ⟨w.heap.size, 5, none⟩) (by first | (simp; done) | (simp; omega))).trans (by simp [go_sem, *])
  have e6 : w2.cell? ⟨w.heap.size, 6, none⟩ = some (.int .i64 hi) := (hb2.cell (p := ⟨w.heap.size, 6, none⟩) (by first | (simp; done) | (simp; omega))).trans (by simp [go_sem, *])
  have e7 : w2.cell? ⟨w.heap.size, 7, none⟩ = some (.bool o) := (hb2.cell (p := ⟨w.heap.size, 7, none⟩) (by first | (simp; done) | (simp; omega))).trans (by simp [go_sem, *])
  have e8 : w2.cell? ⟨w.heap.size, 8, none⟩ = some (.slice ps ns cs) := (hb2.cell (p := ⟨w.heap.size, 8, none⟩) (by first | (simp; done) | (simp; omega))).trans (by simp [go_sem, *])
  have e9 : w2.cell? ⟨w.heap.size, 9, none⟩ = some (.slice pr nr cr) := (hb2.cell (p := ⟨w.heap.size, 9, none⟩) (by first | (simp; done) | (simp; omega))).trans (by simp [go_sem, *])
  have f1 : w2.frozen? ⟨w.heap.size, 1, none⟩ = false := (World.frozen?_of_block (a := ⟨w.heap.size, 1, none⟩) (hb2.block (w.heap.size) (by first | (simp; done) | (simp; omega)))).trans (by simp [go_sem, *])
  have f3 : w2.frozen? ⟨w.heap.size, 3, none⟩ = false := (World.frozen?_of_block (a := ⟨w.heap.size, 3, none⟩) (hb2.block (w.heap.size) (by first | (simp; done) | (simp; omega)))).trans (by simp [go_sem, *])
  have f4 : w2.frozen? ⟨w.heap.size, 4, none⟩ = false := (World.frozen?_of_block (a := ⟨w.heap.size, 4, none⟩) (hb2.block (w.heap.size) (by first | (simp; done) | (simp; omega)))).trans (by simp [go_sem, *])
  have f8 : w2.frozen? ⟨w.heap.size, 8, none⟩ = false := (World.frozen?_of_block (a := ⟨w.heap.size, 8, none⟩) (hb2.block (w.heap.size) (by first | (simp; done) | (simp; omega)))).trans (by simp [go_sem, *])
  have f9 : w2.frozen? ⟨w.heap.size, 9, none⟩ = false := (World.frozen?_of_block (a := ⟨w.heap.size, 9, none⟩) (hb2.block (w.heap.size) (by first | (simp; done) | (simp; omega)))).trans (by simp [go_sem, *])
  have g0 : w2.cell? ⟨w.heap.size + 1, 0, none⟩ = some (.int .i64 0) := (hb2.cell (p := ⟨w.heap.size + 1, 0, none⟩) (by first | (simp; done) | (simp; omega))).trans (by simp [go_sem, *])
  have g1 : w2.cell? ⟨w.heap.size + 1, 1, none⟩ = some (.string ⟨#[]⟩) := (hb2.cell (p := ⟨w.heap.size + 1, 1, none⟩) (by first | (simp; done) | (simp; omega))).trans (by simp [go_sem, *])
  have g2 : w2.cell? ⟨w.heap.size + 1, 2, none⟩ = some (.int .i64 0) := (hb2.cell (p := ⟨w.heap.size + 1, 2, none⟩) (by first | (simp; done) | (simp; omega))).trans (by simp [go_sem, *])
  have g3 : w2.cell? ⟨w.heap.size + 1, 3, none⟩ = some (.slice none 0 0) := (hb2.cell (p := ⟨w.heap.size + 1, 3, none⟩) (by first | (simp; done) | (simp; omega))).trans (by simp [go_sem, *])
  have g4 : w2.cell? ⟨w.heap.size + 1, 4, none⟩ = some (.slice none 0 0) := (hb2.cell (p := ⟨w.heap.size + 1, 4, none⟩) (by first | (simp; done) | (simp; omega))).trans (by simp [go_sem, *])
  have g5 : w2.cell? ⟨w.heap.size + 1, 5, none⟩ = some (.int .i64 0) := (hb2.cell (p := ⟨w.heap.size + 1, 5, none⟩) (by first | (simp; done) | (simp; omega))).trans (by simp [go_sem, *])
  have g6 : w2.cell? ⟨w.heap.size + 1, 6, none⟩ = some (.int .i64 0) := (hb2.cell (p := ⟨w.heap.size + 1, 6, none⟩) (by first | (simp; done) | (simp; omega))).trans (by simp [go_sem, *])
  have g7 : w2.cell? ⟨w.heap.size + 1, 7, none⟩ = some (.bool false) := (hb2.cell (p := ⟨w.heap.size + 1, 7, none⟩) (by first | (simp; done) | (simp; omega))).trans (by simp [go_sem, *])
  have g8 : w2.cell? ⟨w.heap.size + 1, 8, none⟩ = some (.slice none 0 0) := (hb2.cell (p := ⟨w.heap.size + 1, 8, none⟩) (by first | (simp; done) | (simp; omega))).trans (by simp [go_sem, *])
  have g9 : w2.cell? ⟨w.heap.size + 1, 9, none⟩ = some (.slice none 0 0) := (hb2.cell (p := ⟨w.heap.size + 1, 9, none⟩) (by first | (simp; done) | (simp; omega))).trans (by simp [go_sem, *])
  have h0 : w2.frozen? ⟨w.heap.size + 1, 0, none⟩ = false := (World.frozen?_of_block (a := ⟨w.heap.size + 1, 0, none⟩) (hb2.block (w.heap.size + 1) (by first | (simp; done) | (simp; omega)))).trans (by simp [go_sem, *])
  have h1 : w2.frozen? ⟨w.heap.size + 1, 1, none⟩ = false := (World.frozen?_of_block (a := ⟨w.heap.size + 1, 1, none⟩) (hb2.block (w.heap.size + 1) (by first | (simp; done) | (simp; omega)))).trans (by simp [go_sem, *])
  have h2 : w2.frozen? ⟨w.heap.size + 1, 2, none⟩ = false := (World.frozen?_of_block (a := ⟨w.heap.size + 1, 2, none⟩) (hb2.block (w.heap.size + 1) (by first | (simp; done) | (simp; omega)))).trans (by simp [go_sem, *])
  have h3 : w2.frozen? ⟨w.heap.size + 1, 3, none⟩ = false := (World.frozen?_of_block (a := ⟨w.heap.size + 1, 3, none⟩) (hb2.block (w.heap.size + 1) (by first | (simp; done) | (simp; omega)))).trans (by simp [go_sem, *])
  have h4 : w2.frozen? ⟨w.heap.size + 1, 4, none⟩ = false := (World.frozen?_of_block (a := ⟨w.heap.size + 1, 4, none⟩) (hb2.block (w.heap.size + 1) (by first | (simp; done) | (simp; omega)))).trans (by simp [go_sem, *])
  have h5 : w2.frozen? ⟨w.heap.size + 1, 5, none⟩ = false := (World.frozen?_of_block (a := ⟨w.heap.size + 1, 5, none⟩) (hb2.block (w.heap.size + 1) (by first | (simp; done) | (simp; omega)))).trans (by simp [go_sem, *])
  have h6 : w2.frozen? ⟨w.heap.size + 1, 6, none⟩ = false := (World.frozen?_of_block (a := ⟨w.heap.size + 1, 6, none⟩) (hb2.block (w.heap.size + 1) (by first | (simp; done) | (simp; omega)))).trans (by simp [go_sem, *])
  have h7 : w2.frozen? ⟨w.heap.size + 1, 7, none⟩ = false := (World.frozen?_of_block (a := ⟨w.heap.size + 1, 7, none⟩) (hb2.block (w.heap.size + 1) (by first | (simp; done) | (simp; omega)))).trans (by simp [go_sem, *])
  have h8 : w2.frozen? ⟨w.heap.size + 1, 8, none⟩ = false := (World.frozen?_of_block (a := ⟨w.heap.size + 1, 8, none⟩) (hb2.block (w.heap.size + 1) (by first | (simp; done) | (simp; omega)))).trans (by simp [go_sem, *])
  have h9 : w2.frozen? ⟨w.heap.size + 1, 9, none⟩ = false := (World.frozen?_of_block (a := ⟨w.heap.size + 1, 9, none⟩) (hb2.block (w.heap.size + 1) (by first | (simp; done) | (simp; omega)))).trans (by simp [go_sem, *])
  have K2 : ∀ q, w.heap.size + 2 ≤ q → q < w1.heap.size → w2.heap[q]? = w1.heap[q]? := fun q h1 h2 => (hb2.block q (by simpa using h2)).trans (set_block (by omega))
  have HO2 : Hid (NmsOwn (fun b => w.heap.size + 2 ≤ b) w2 (.slice p2 nv c2) f.vars) := hO2.mono fun q h _ => by have : w.heap.size + 2 ≤ w1.heap.size := hz1; simp at h; omega
  clear hb2 hO2 cV K2 hB1 hz1
  go_wp2_with fail
  refine (cT.out _ (hB2.trans (by go_grown))).mono ?_
  rintro r w3 ⟨p3, c3, rfl, hO3, hb3⟩
  have hB3 : Below w.heap.size w w3 := (hB2.trans (by go_grown)).trans (hb3.mono (by have := hB2.size; simp; omega))
  have hz3 : w.heap.size + 1 < w3.heap.size := by have := hb3.size; simp at this; omega
  have e0 : w3.cell? ⟨w.heap.size, 0, none⟩ = some (.int .i64 k) := (hb3.cell (p := ⟨w.heap.size, 0, none⟩) (by first | (simp; done) | (simp; omega))).trans (by simp [go_sem, *])
  have e1 : w3.cell? ⟨w.heap.size, 1, none⟩ = some (.string nm) := (hb3.cell (p := ⟨w.heap.size, 1, none⟩) (by first | (simp; done) | (simp; omega))).trans (by simp [go_sem, *])
  have e2 : w3.cell? ⟨w.heap.size, 2, none⟩ = some (.int .i64 op) := (hb3.cell (p := ⟨w.heap.size, 2, none⟩) (by first | (simp; done) | (simp; omega))).trans (by simp [go_sem, *])
  have e3 : w3.cell? ⟨w.heap.size, 3, none⟩ = some (.slice p2 nv c2) := (hb3.cell (p := ⟨w.heap.size, 3, none⟩) (by first | (simp; done) | (simp; omega))).trans (by simp [go_sem, *])
  have e4 : w3.cell? ⟨w.heap.size, 4, none⟩ = some (.slice pt nt ct) := (hb3.cell (p := ⟨w.heap.size, 4, none⟩) (by first | (simp; done) | (simp; omega))).trans (by simp [go_sem, *])
  have e5 : w3.cell? ⟨w.heap.size, 5, none⟩ = some (.int .i64 lo) := (hb3.cell (p := ⟨w.heap.size, 5, none⟩) (by first | (simp; done) | (simp; omega))).trans (by simp [go_sem, *])
  have e6 : w3.cell? ⟨w.heap.size, 6, none⟩ = some (.int .i64 hi) := (hb3.cell (p := ⟨w.heap.size, 6, none⟩) (by first | (simp; done) | (simp; omega))).trans (by simp [go_sem, *])
  have e7 : w3.cell? ⟨w.heap.size, 7, none⟩ = some (.bool o) := (hb3.cell (p := ⟨w.heap.size, 7, none⟩) (by first | (simp; done) | (simp; omega))).trans (by simp [go_sem, *])
  have e8 : w3.cell? ⟨w.heap.size, 8, none⟩ = some (.slice ps ns cs) := (hb3.cell (p := ⟨w.heap.size, 8, none⟩) (by first | (simp; done) | (simp; omega))).trans (by simp [go_sem, *])
  have e9 : w3.cell? ⟨w.heap.size, 9, none⟩ = some (.slice pr nr cr) := (hb3.cell (p := ⟨w.heap.size, 9, none⟩) (by first | (simp; done) | (simp; omega))).trans (by simp [go_sem, *])
  have f1 : w3.frozen? ⟨w.heap.size, 1, none⟩ = false := (World.frozen?_of_block (a := ⟨w.heap.size, 1, none⟩) (hb3.block (w.heap.size) (by first | (simp; done) | (simp; omega)))).trans (by simp [go_sem, *])
  have f3 : w3.frozen? ⟨w.heap.size, 3, none⟩ = false := (World.frozen?_of_block (a := ⟨w.heap.size, 3, none⟩) (hb3.block (w.heap.size) (by first | (simp; done) | (simp; omega)))).trans (by simp [go_sem, *])
  have f4 : w3.frozen? ⟨w.heap.size, 4, none⟩ = false := (World.frozen?_of_block (a := ⟨w.heap.size, 4, none⟩) (hb3.block (w.heap.size) (by first | (simp; done) | (simp; omega)))).trans (by simp [go_sem, *])
  have f8 : w3.frozen? ⟨w.heap.size, 8, none⟩ = false := (World.frozen?_of_block (a := ⟨w.heap.size, 8, none⟩) (hb3.block (w.heap.size) (by first | (simp; done) | (simp; omega)))).trans (by simp [go_sem, *])
  have f9 : w3.frozen? ⟨w.heap.size, 9, none⟩ = false := (World.frozen?_of_block (a := ⟨w.heap.size, 9, none⟩) (hb3.block (w.heap.size) (by first | (simp; done) | (simp; omega)))).trans (by simp [go_sem, *])
  have g0 : w3.cell? ⟨w.heap.size + 1, 0, none⟩ = some (.int .i64 0) := (hb3.cell (p := ⟨w.heap.size + 1, 0, none⟩) (by first | (simp; done) | (simp; omega))).trans (by simp [go_sem, *])
  have g1 : w3.cell? ⟨w.heap.size + 1, 1, none⟩ = some (.string ⟨#[]⟩) := (hb3.cell (p := ⟨w.heap.size + 1, 1, none⟩) (by first | (simp; done) | (simp; omega))).trans (by simp [go_sem, *])
  have g2 : w3.cell? ⟨w.heap.size + 1, 2, none⟩ = some (.int .i64 0) := (hb3.cell (p := ⟨w.heap.size + 1, 2, none⟩) (by first | (simp; done) | (simp; omega))).trans (by simp [go_sem, *])
  have g3 : w3.cell? ⟨w.heap.size + 1, 3, none⟩ = some (.slice none 0 0) := (hb3.cell (p := ⟨w.heap.size + 1, 3, none⟩) (by first | (simp; done) | (simp; omega))).trans (by simp [go_sem, *])
  have g4 : w3.cell? ⟨w.heap.size + 1, 4, none⟩ = some (.slice none 0 0) := (hb3.cell (p := ⟨w.heap.size + 1, 4, none⟩) (by first | (simp; done) | (simp; omega))).trans (by simp [go_sem, *])
  have g5 : w3.cell? ⟨w.heap.size + 1, 5, none⟩ = some (.int .i64 0) := (hb3.cell (p := ⟨w.heap.size + 1, 5, none⟩) (by first | (simp; done) | (simp; omega))).trans (by simp [go_sem, *])
  have g6 : w3.cell? ⟨w.heap.size + 1, 6, none⟩ = some (.int .i64 0) := (hb3.cell (p := ⟨w.heap.size + 1, 6, none⟩) (by first | (simp; done) | (simp; omega))).trans (by simp [go_sem, *])
  have g7 : w3.cell? ⟨w.heap.size + 1, 7, none⟩ = some (.bool false) := (hb3.cell (p := ⟨w.heap.size + 1, 7, none⟩) (by first | (simp; done) | (simp; omega))).trans (by simp [go_sem, *])
  have g8 : w3.cell? ⟨w.heap.size + 1, 8, none⟩ = some (.slice none 0 0) := (hb3.cell (p := ⟨w.heap.size + 1, 8, none⟩) (by first | (simp; done) | (simp; omega))).trans (by simp [go_sem, *])
  have g9 : w3.cell? ⟨w.heap.size + 1, 9, none⟩ = some (.slice none 0 0) := (hb3.cell (p := ⟨w.heap.size + 1, 9, none⟩) (by first | (simp; done) | (simp; omega))).trans (by simp [go_sem, *])
  have h0 : w3.frozen? ⟨w.heap.size + 1, 0, none⟩ = false := (World.frozen?_of_block (a := ⟨w.heap.size + 1, 0, none⟩) (hb3.block (w.heap.size + 1) (by first | (simp; done) | (simp; omega)))).trans (by simp [go_sem, *])
  have h1 : w3.frozen? ⟨w.heap.size + 1, 1, none⟩ = false := (World.frozen?_of_block (a := ⟨w.heap.size + 1, 1, none⟩) (hb3.block (w.heap.size + 1) (by first | (simp; done) | (simp; omega)))).trans (by simp [go_sem, *])
  have h2 : w3.frozen? ⟨w.heap.size + 1, 2, none⟩ = false := (World.frozen?_of_block (a := ⟨w.heap.size + 1, 2, none⟩) (hb3.block (w.heap.size + 1) (by first | (simp; done) | (simp; omega)))).trans (by simp [go_sem, *])
  have h3 : w3.frozen? ⟨w.heap.size + 1, 3, none⟩ = false := (World.frozen?_of_block (a := ⟨w.heap.size + 1, 3, none⟩) (hb3.block (w.heap.size + 1) (by first | (simp; done) | (simp; omega)))).trans (by simp [go_sem, *])
  have h4 : w3.frozen? ⟨w.heap.size + 1, 4, none⟩ = false := (World.frozen?_of_block (a := ⟨w.heap.size + 1, 4, none⟩) (hb3.block (w.heap.size + 1) (by first | (simp; done) | (simp; omega)))).trans (by simp [go_sem, *])
  have h5 : w3.frozen? ⟨w.heap.size + 1, 5, none⟩ = false := (World.frozen?_of_block (a := ⟨w.heap.size + 1, 5, none⟩) (hb3.block (w.heap.size + 1) (by first | (simp; done) | (simp; omega)))).trans (by simp [go_sem, *])
  have h6 : w3.frozen? ⟨w.heap.size + 1, 6, none⟩ = false := (World.frozen?_of_block (a := ⟨w.heap.size + 1, 6, none⟩) (hb3.block (w.heap.size + 1) (by first | (simp; done) | (simp; omega)))).trans (by simp [go_sem, *])
  have h7 : w3.frozen? ⟨w.heap.size + 1, 7, none⟩ = false := (World.frozen?_of_block (a := ⟨w.heap.size + 1, 7, none⟩) (hb3.block (w.heap.size + 1) (by first | (simp; done) | (simp; omega)))).trans (by simp [go_sem, *])
  have h8 : w3.frozen? ⟨w.heap.size + 1, 8, none⟩ = false := (World.frozen?_of_block (a := ⟨w.heap.size + 1, 8, none⟩) (hb3.block (w.heap.size + 1) (by first | (simp; done) | (simp; omega)))).trans (by simp [go_sem, *])
  have h9 : w3.frozen? ⟨w.heap.size + 1, 9, none⟩ = false := (World.frozen?_of_block (a := ⟨w.heap.size + 1, 9, none⟩) (hb3.block (w.heap.size + 1) (by first | (simp; done) | (simp; omega)))).trans (by simp [go_sem, *])
  have K3 : ∀ q, w.heap.size + 2 ≤ q → q < w2.heap.size → w3.heap[q]? = w2.heap[q]? := fun q h1 h2 => (hb3.block q (by simpa using h2)).trans (set_block (by omega))
  have HO2 : Hid (NmsOwn (fun b => w.heap.size + 2 ≤ b) w3 (.slice p2 nv c2) f.vars) := HO2.out.keep K3
  have HO3 : Hid (TmsOwn (fun b => w.heap.size + 2 ≤ b) w3 (.slice p3 nt c3) f.terms) := hO3.mono fun q h _ => by have : w.heap.size + 2 ≤ w2.heap.size := hz2; simp at h; omega
  clear hb3 hO3 cT K3 hB2 hz2
  go_wp2_with fail
  refine (cR.out _ (hB3.trans (by go_grown))).mono ?_
  rintro r w4 ⟨p4, c4, rfl, hO4, hb4⟩
  have hB4 : Below w.heap.size w w4 := (hB3.trans (by go_grown)).trans (hb4.mono (by have := hB3.size; simp; omega))
  have hz4 : w.heap.size + 1 < w4.heap.size := by have := hb4.size; simp at this; omega
  have e0 : w4.cell? ⟨w.heap.size, 0, none⟩ = some (.int .i64 k) := (hb4.cell (p := ⟨w.heap.size, 0, none⟩) (by first | (simp; done) | (simp; omega))).trans (by simp [go_sem, *])
  have e1 : w4.cell? ⟨w.heap.size, 1, none⟩ = some (.string nm) := (hb4.cell (p := ⟨w.heap.size, 1, none⟩) (by first | (simp; done) | (simp; omega))).trans (by simp [go_sem, *])
  have e2 : w4.cell? ⟨w.heap.size, 2, none⟩ = some (.int .i64 op) := (hb4.cell (p := ⟨w.heap.size, 2, none⟩) (by first | (simp; done) | (simp; omega))).trans (by simp [go_sem, *])
  have e3 : w4.cell? ⟨w.heap.size, 3, none⟩ = some (.slice p2 nv c2) := (hb4.cell (p := ⟨w.heap.size, 3, none⟩) (by first | (simp; done) | (simp; omega))).trans (by simp [go_sem, *])
  have e4 : w4.cell? ⟨w.heap.size, 4, none⟩ = some (.slice p3 nt c3) := (hb4.cell (p := ⟨w.heap.size, 4, none⟩) (by first | (simp; done) | (simp; omega))).trans (by simp [go_sem, *])
  have e5 : w4.cell? ⟨w.heap.size, 5, none⟩ = some (.int .i64 lo) := (hb4.cell (p := ⟨w.heap.size, 5, none⟩) (by first | (simp; done) | (simp; omega))).trans (by simp [go_sem, *])
  have e6 : w4.cell? ⟨w.heap.size, 6, none⟩ = some (.int .i64 hi) := (hb4.cell (p := ⟨w.heap.size, 6, none⟩) (by first | (simp; done) | (simp; omega))).trans (by simp [go_sem, *])
  have e7 : w4.cell? ⟨w.heap.size, 7, none⟩ = some (.bool o) := (hb4.cell (p := ⟨w.heap.size, 7, none⟩) (by first | (simp; done) | (simp; omega))).trans (by simp [go_sem, *])
  have e8 : w4.cell? ⟨w.heap.size, 8, none⟩ = some (.slice ps ns cs) := (hb4.cell (p := ⟨w.heap.size, 8, none⟩) (by first | (simp; done) | (simp; omega))).trans (by simp [go_sem, *])
  have e9 : w4.cell? ⟨w.heap.size, 9, none⟩ = some (.slice pr nr cr) := (hb4.cell (p := ⟨w.heap.size, 9, none⟩) (by first | (simp; done) | (simp; omega))).trans (by simp [go_sem, *])
  have f1 : w4.frozen? ⟨w.heap.size, 1, none⟩ = false := (World.frozen?_of_block (a := ⟨w.heap.size, 1, none⟩) (hb4.block (w.heap.size) (by first | (simp; done) | (simp; omega)))).trans (by simp [go_sem, *])
  have f3 : w4.frozen? ⟨w.heap.size, 3, none⟩ = false := (World.frozen?_of_block (a := ⟨w.heap.size, 3, none⟩) (hb4.block (w.heap.size) (by first | (simp; done) | (simp; omega)))).trans (by simp [go_sem, *])
  have f4 : w4.frozen? ⟨w.heap.size, 4, none⟩ = false := (World.frozen?_of_block (a := ⟨w.heap.size, 4, none⟩) (hb4.block (w.heap.size) (by first | (simp; done) | (simp; omega)))).trans (by simp [go_sem, *])
  have f8 : w4.frozen? ⟨w.heap.size, 8, none⟩ = false := (World.frozen?_of_block (a := ⟨w.heap.size, 8, none⟩) (hb4.block (w.heap.size) (by first | (simp; done) | (simp; omega)))).trans (by simp [go_sem, *])
  have f9 : w4.frozen? ⟨w.heap.size, 9, none⟩ = false := (World.frozen?_of_block (a := ⟨w.heap.size, 9, none⟩) (hb4.block (w.heap.size) (by first | (simp; done) | (simp; omega)))).trans (by simp [go_sem, *])
  have g0 : w4.cell? ⟨w.heap.size + 1, 0, none⟩ = some (.int .i64 0) := (hb4.cell (p := ⟨w.heap.size + 1, 0, none⟩) (by first | (simp; done) | (simp; omega))).trans (by simp [go_sem, *])
  have g1 : w4.cell? ⟨w.heap.size + 1, 1, none⟩ = some (.string ⟨#[]⟩) := (hb4.cell (p := ⟨w.heap.size + 1, 1, none⟩) (by first | (simp; done) | (simp; omega))).trans (by simp [go_sem, *])
  have g2 : w4.cell? ⟨w.heap.size + 1, 2, none⟩ = some (.int .i64 0) := (hb4.cell (p := ⟨w.heap.size + 1, 2, none⟩) (by first | (simp; done) | (simp; omega))).trans (by simp [go_sem, *])
  have g3 : w4.cell? ⟨w.heap.size + 1, 3, none⟩ = some (.slice none 0 0) := (hb4.cell (p := ⟨w.heap.size + 1, 3, none⟩) (by first | (simp; done) | (simp; omega))).trans (by simp [go_sem, *])
  have g4 : w4.cell? ⟨w.heap.size + 1, 4, none⟩ = some (.slice none 0 0) := (hb4.cell (p := ⟨w.heap.size + 1, 4, none⟩) (by first | (simp; done) | (simp; omega))).trans (by simp [go_sem, *])
  have g5 : w4.cell? ⟨w.heap.size + 1, 5, none⟩ = some (.int .i64 0) := (hb4.cell (p := ⟨w.heap.size + 1, 5, none⟩) (by first | (simp; done) | (simp; omega))).trans (by simp [go_sem, *])
  have g6 : w4.cell? ⟨w.heap.size + 1, 6, none⟩ = some (.int .i64 0) := (hb4.cell (p := ⟨w.heap.size + 1, 6, none⟩) (by first | (simp; done) | (simp; omega))).trans (by simp [go_sem, *])
  have g7 : w4.cell? ⟨w.heap.size + 1, 7, none⟩ = some (.bool false) := (hb4.cell (p := ⟨w.heap.size + 1, 7, none⟩) (by first | (simp; done) | (simp; omega))).trans (by simp [go_sem, *])
  have g8 : w4.cell? ⟨w.heap.size + 1, 8, none⟩ = some (.slice none 0 0) := (hb4.cell (p := ⟨w.heap.size + 1, 8, none⟩) (by first | (simp; done) | (simp; omega))).trans (by simp [go_sem, *])
  have g9 : w4.cell? ⟨w.heap.size + 1, 9, none⟩ = some (.slice none 0 0) := (hb4.cell (p := ⟨w.heap.size + 1, 9, none⟩) (by first | (simp; done) | (simp; omega))).trans (by simp [go_sem, *])
  have h0 : w4.frozen? ⟨w.heap.size + 1, 0, none⟩ = false := (World.frozen?_of_block (a := ⟨w.heap.size + 1, 0, none⟩) (hb4.block (w.heap.size + 1) (by first | (simp; done) | (simp; omega)))).trans (by simp [go_sem, *])
  have h1 : w4.frozen? ⟨w.heap.size + 1, 1, none⟩ = false := (World.frozen?_of_block (a := ⟨w.heap.size + 1, 1, none⟩) (hb4.block (w.heap.size + 1) (by first | (simp; done) | (simp; omega)))).trans (by simp [go_sem, *])
  have h2 : w4.frozen? ⟨w.heap.size + 1, 2, none⟩ = false := (World.frozen?_of_block (a := ⟨w.heap.size + 1, 2, none⟩) (hb4.block (w.heap.size + 1) (by first | (simp; done) | (simp; omega)))).trans (by simp [go_sem, *])
  have h3 : w4.frozen? ⟨w.heap.size + 1, 3, none⟩ = false := (World.frozen?_of_block (a := ⟨w.heap.size + 1, 3, none⟩) (hb4.block (w.heap.size + 1) (by first | (simp; done) | (simp; omega)))).trans (by simp [go_sem, *])
  have h4 : w4.frozen? ⟨w.heap.size + 1, 4, none⟩ = false := (World.frozen?_of_block (a := ⟨w.heap.size + 1, 4, none⟩) (hb4.block (w.heap.size + 1) (by first | (simp; done) | (simp; omega)))).trans (by simp [go_sem, *])
  have h5 : w4.frozen? ⟨w.heap.size + 1, 5, none⟩ = false := (World.frozen?_of_block (a := ⟨w.heap.size + 1, 5, none⟩) (hb4.block (w.heap.size + 1) (by first | (simp; done) | (simp; omega)))).trans (by simp [go_sem, *])
  have h6 : w4.frozen? ⟨w.heap.size + 1, 6, none⟩ = false := (World.frozen?_of_block (a := ⟨w.heap.size + 1, 6, none⟩) (hb4.block (w.heap.size + 1) (by first | (simp; done) | (simp; omega)))).trans (by simp [go_sem, *])
  have h7 : w4.frozen? ⟨w.heap.size + 1, 7, none⟩ = false := (World.frozen?_of_block (a := ⟨w.heap.size + 1, 7, none⟩) (hb4.block (w.heap.size + 1) (by first | (simp; done) | (simp; omega)))).trans (by simp [go_sem, *])
  have h8 : w4.frozen? ⟨w.heap.size + 1, 8, none⟩ = false := (World.frozen?_of_block (a := ⟨w.heap.size + 1, 8, none⟩) (hb4.block (w.heap.size + 1) (by first | (simp; done) | (simp; omega)))).trans (by simp [go_sem, *])
  have h9 : w4.frozen? ⟨w.heap.size + 1, 9, none⟩ = false := (World.frozen?_of_block (a := ⟨w.heap.size + 1, 9, none⟩) (hb4.block (w.heap.size + 1) (by first | (simp; done) | (simp; omega)))).trans (by simp [go_sem, *])
  have K4 : ∀ q, w.heap.size + 2 ≤ q → q < w3.heap.size → w4.heap[q]? = w3.heap[q]? := fun q h1 h2 => (hb4.block q (by simpa using h2)).trans (set_block (by omega))
  have HO2 : Hid (NmsOwn (fun b => w.heap.size + 2 ≤ b) w4 (.slice p2 nv c2) f.vars) := HO2.out.keep K4
  have HO3 : Hid (TmsOwn (fun b => w.heap.size + 2 ≤ b) w4 (.slice p3 nt c3) f.terms) := HO3.out.keep K4
  have HO4 : Hid (RxsOwn (fun b => w.heap.size + 2 ≤ b) w4 (.slice p4 nr c4) f.rgx) := hO4.mono fun q h _ => by have : w.heap.size + 2 ≤ w3.heap.size := hz3; simp at h; omega
  clear hb4 hO4 cR K4 hB3 hz3
  go_wp2_with fail
  refine (cF.out _ (hB4.trans (by go_grown))).mono ?_
  rintro r w5 ⟨p5, c5, rfl, hO5, hb5⟩
  have hB5 : Below w.heap.size w w5 := (hB4.trans (by go_grown)).trans (hb5.mono (by have := hB4.size; simp; omega))
  have hz5 : w.heap.size + 1 < w5.heap.size := by have := hb5.size; simp at this; omega
  have e0 : w5.cell? ⟨w.heap.size, 0, none⟩ = some (.int .i64 k) := (hb5.cell (p := ⟨w.heap.size, 0, none⟩) (by first | (simp; done) | (simp; omega))).trans (by simp [go_sem, *])
  have e1 : w5.cell? ⟨w.heap.size, 1, none⟩ = some (.string nm) := (hb5.cell (p := ⟨w.heap.size, 1, none⟩) (by first | (simp; done) | (simp; omega))).trans (by simp [go_sem, *])
  have e2 : w5.cell? ⟨w.heap.size, 2, none⟩ = some (.int .i64 op) := (hb5.cell (p := ⟨w.heap.size, 2, none⟩) (by first | (simp; done) | (simp; omega))).trans (by simp [go_sem, *])
  have e3 : w5.cell? ⟨w.heap.size, 3, none⟩ = some (.slice p2 nv c2) := (hb5.cell (p := ⟨w.heap.size, 3, none⟩) (by first | (simp; done) | (simp; omega))).trans (by simp [go_sem, *])
  have e4 : w5.cell? ⟨w.heap.size, 4, none⟩ = some (.slice p3 nt c3) := (hb5.cell (p := ⟨w.heap.size, 4, none⟩) (by first | (simp; done) | (simp; omega))).trans (by simp [go_sem, *])
  have e5 : w5.cell? ⟨w.heap.size, 5, none⟩ = some (.int .i64 lo) := (hb5.cell (p := ⟨w.heap.size, 5, none⟩) (by first | (simp; done) | (simp; omega))).trans (by simp [go_sem, *])
  have e6 : w5.cell? ⟨w.heap.size, 6, none⟩ = some (.int .i64 hi) := (hb5.cell (p := ⟨w.heap.size, 6, none⟩) (by first | (simp; done) | (simp; omega))).trans (by simp [go_sem, *])
  have e7 : w5.cell? ⟨w.heap.size, 7, none⟩ = some (.bool o) := (hb5.cell (p := ⟨w.heap.size, 7, none⟩) (by first | (simp; done) | (simp; omega))).trans (by simp [go_sem, *])
  have e8 : w5.cell? ⟨w.heap.size, 8, none⟩ = some (.slice ps ns cs) := (hb5.cell (p := ⟨w.heap.size, 8, none⟩) (by first | (simp; done) | (simp; omega))).trans (by simp [go_sem, *])
  have e9 : w5.cell? ⟨w.heap.size, 9, none⟩ = some (.slice p4 nr c4) := (hb5.cell (p := ⟨w.heap.size, 9, none⟩) (by first | (simp; done) | (simp; omega))).trans (by simp [go_sem, *])
  have f1 : w5.frozen? ⟨w.heap.size, 1, none⟩ = false := (World.frozen?_of_block (a := ⟨w.heap.size, 1, none⟩) (hb5.block (w.heap.size) (by first | (simp; done) | (simp; omega)))).trans (by simp [go_sem, *])
  have f3 : w5.frozen? ⟨w.heap.size, 3, none⟩ = false := (World.frozen?_of_block (a := ⟨w.heap.size, 3, none⟩) (hb5.block (w.heap.size) (by first | (simp; done) | (simp; omega)))).trans (by simp [go_sem, *])
  have f4 : w5.frozen? ⟨w.heap.size, 4, none⟩ = false := (World.frozen?_of_block (a := ⟨w.heap.size, 4, none⟩) (hb5.block (w.heap.size) (by first | (simp; done) | (simp; omega)))).trans (by simp [go_sem, *])
  have f8 : w5.frozen? ⟨w.heap.size, 8, none⟩ = false := (World.frozen?_of_block (a := ⟨w.heap.size, 8, none⟩) (hb5.block (w.heap.size) (by first | (simp; done) | (simp; omega)))).trans (by simp [go_sem, *])
  have f9 : w5.frozen? ⟨w.heap.size, 9, none⟩ = false := (World.frozen?_of_block (a := ⟨w.heap.size, 9, none⟩) (hb5.block (w.heap.size) (by first | (simp; done) | (simp; omega)))).trans (by simp [go_sem, *])
  have g0 : w5.cell? ⟨w.heap.size + 1, 0, none⟩ = some (.int .i64 0) := (hb5.cell (p := ⟨w.heap.size + 1, 0, none⟩) (by first | (simp; done) | (simp; omega))).trans (by simp [go_sem, *])
  have g1 : w5.cell? ⟨w.heap.size + 1, 1, none⟩ = some (.string ⟨#[]⟩) := (hb5.cell (p := ⟨w.heap.size + 1, 1, none⟩) (by first | (simp; done) | (simp; omega))).trans (by simp [go_sem, *])
  have g2 : w5.cell? ⟨w.heap.size + 1, 2, none⟩ = some (.int .i64 0) := (hb5.cell (p := ⟨w.heap.size + 1, 2, none⟩) (by first | (simp; done) | (simp; omega))).trans (by simp [go_sem, *])
  have g3 : w5.cell? ⟨w.heap.size + 1, 3, none⟩ = some (.slice none 0 0) := (hb5.cell (p := ⟨w.heap.size + 1, 3, none⟩) (by first | (simp; done) | (simp; omega))).trans (by simp [go_sem, *])
  have g4 : w5.cell? ⟨w.heap.size + 1, 4, none⟩ = some (.slice none 0 0) := (hb5.cell (p := ⟨w.heap.size + 1, 4, none⟩) (by first | (simp; done) | (simp; omega))).trans (by simp [go_sem, *])
  have g5 : w5.cell? ⟨w.heap.size + 1, 5, none⟩ = some (.int .i64 0) := (hb5.cell (p := ⟨w.heap.size + 1, 5, none⟩) (by first | (simp; done) | (simp; omega))).trans (by simp [go_sem, *])
  have g6 : w5.cell? ⟨w.heap.size + 1, 6, none⟩ = some (.int .i64 0) := (hb5.cell (p := ⟨w.heap.size + 1, 6, none⟩) (by first | (simp; done) | (simp; omega))).trans (by simp [go_sem, *])
  have g7 : w5.cell? ⟨w.heap.size + 1, 7, none⟩ = some (.bool false) := (hb5.cell (p := ⟨w.heap.size + 1, 7, none⟩) (by first | (simp; done) | (simp; omega))).trans (by simp [go_sem, *])
  have g8 : w5.cell? ⟨w.heap.size + 1, 8, none⟩ = some (.slice none 0 0) := (hb5.cell (p := ⟨w.heap.size + 1, 8, none⟩) (by first | (simp; done) | (simp; omega))).trans (by simp [go_sem, *])
  have g9 : w5.cell? ⟨w.heap.size + 1, 9, none⟩ = some (.slice none 0 0) := (hb5.cell (p := ⟨w.heap.size + 1, 9, none⟩) (by first | (simp; done) | (simp; omega))).trans (by simp [go_sem, *])
  have h0 : w5.frozen? ⟨w.heap.size + 1, 0, none⟩ = false := (World.frozen?_of_block (a := ⟨w.heap.size + 1, 0, none⟩) (hb5.block (w.heap.size + 1) (by first | (simp; done) | (simp; omega)))).trans (by simp [go_sem, *])
  have h1 : w5.frozen? ⟨w.heap.size + 1, 1, none⟩ = false := (World.frozen?_of_block (a := ⟨w.heap.size + 1, 1, none⟩) (hb5.block (w.heap.size + 1) (by first | (simp; done) | (simp; omega)))).trans (by simp [go_sem, *])
  have h2 : w5.frozen? ⟨w.heap.size + 1, 2, none⟩ = false := (World.frozen?_of_block (a := ⟨w.heap.size + 1, 2, none⟩) (hb5.block (w.heap.size + 1) (by first | (simp; done) | (simp; omega)))).trans (by simp [go_sem, *])
  have h3 : w5.frozen? ⟨w.heap.size + 1, 3, none⟩ = false := (World.frozen?_of_block (a := ⟨w.heap.size + 1, 3, none⟩) (hb5.block (w.heap.size + 1) (by first | (simp; done) | (simp; omega)))).trans (by simp [go_sem, *])
  have h4 : w5.frozen? ⟨w.heap.size + 1, 4, none⟩ = false := (World.frozen?_of_block (a := ⟨w.heap.size + 1, 4, none⟩) (hb5.block (w.heap.size + 1) (by first | (simp; done) | (simp; omega)))).trans (by simp [go_sem, *])
  have h5 : w5.frozen? ⟨w.heap.size + 1, 5, none⟩ = false := (World.frozen?_of_block (a := ⟨w.heap.size + 1, 5, none⟩) (hb5.block (w.heap.size + 1) (by first | (simp; done) | (simp; omega)))).trans (by simp [go_sem, *])
  have h6 : w5.frozen? ⟨w.heap.size + 1, 6, none⟩ = false := (World.frozen?_of_block (a := ⟨w.heap.size + 1, 6, none⟩) (hb5.block (w.heap.size + 1) (by first | (simp; done) | (simp; omega)))).trans (by simp [go_sem, *])
  have h7 : w5.frozen? ⟨w.heap.size + 1, 7, none⟩ = false := (World.frozen?_of_block (a := ⟨w.heap.size + 1, 7, none⟩) (hb5.block (w.heap.size + 1) (by first | (simp; done) | (simp; omega)))).trans (by simp [go_sem, *])
  have h8 : w5.frozen? ⟨w.heap.size + 1, 8, none⟩ = false := (World.frozen?_of_block (a := ⟨w.heap.size + 1, 8, none⟩) (hb5.block (w.heap.size + 1) (by first | (simp; done) | (simp; omega)))).trans (by simp [go_sem, *])
  have h9 : w5.frozen? ⟨w.heap.size + 1, 9, none⟩ = false := (World.frozen?_of_block (a := ⟨w.heap.size + 1, 9, none⟩) (hb5.block (w.heap.size + 1) (by first | (simp; done) | (simp; omega)))).trans (by simp [go_sem, *])
  have K5 : ∀ q, w.heap.size + 2 ≤ q → q < w4.heap.size → w5.heap[q]? = w4.heap[q]? := fun q h1 h2 => (hb5.block q (by simpa using h2)).trans (set_block (by omega))
  have HO2 : Hid (NmsOwn (fun b => w.heap.size + 2 ≤ b) w5 (.slice p2 nv c2) f.vars) := HO2.out.keep K5
  have HO3 : Hid (TmsOwn (fun b => w.heap.size + 2 ≤ b) w5 (.slice p3 nt c3) f.terms) := HO3.out.keep K5
  have HO4 : Hid (RxsOwn (fun b => w.heap.size + 2 ≤ b) w5 (.slice p4 nr c4) f.rgx) := HO4.out.keep K5
  have HO5 : Hid (FmsOwn (fun b => w.heap.size + 2 ≤ b) w5 (.slice p5 ns c5) f.subs) := hO5.mono fun q h _ => by have : w.heap.size + 2 ≤ w4.heap.size := hz4; simp at h; omega
  clear hb5 hO5 cF K5 hB4 hz4
  go_wp2
  refine bodyPost_ret (by simp [results, Try.results9, go_sem, g0, g1, g2, g3, g4, g5, g6, g7, g8, g9]; try rfl) rfl ?_
  refine hCO.out _ _ _ _ _ _ rfl (HO2.out.keep fun q h _ => ?_) (HO3.out.keep fun q h _ => ?_) (HO5.out.keep fun q h _ => ?_) (HO4.out.keep fun q h _ => ?_) (hB5.trans (by go_grown))
  all_goals (repeat rw [set_block (by omega)])

set_option maxRecDepth 100000 in
set_option maxHeartbeats 8000000 in
theorem fcl_step (fs : List Fm) (V : Value) (w : World) (hV : FmsAt w V fs) (lv : fs.length * 152 ≤ 140737488355328) (HC : ∀ i (hi : i < fs.length) (q : FQ) (W : World), QAt w (fs[i], q) → Below w.heap.size w W → Calls Try.prog 9 #[.agg #[.int .i64 fs[i].k, .string fs[i].nm, .int .i64 fs[i].op, q.v, q.t, .int .i64 fs[i].lo, .int .i64 fs[i].hi, .bool fs[i].opn, q.s, q.r]] W (ClF W fs[i])) :
    Calls Try.prog 37 #[V] w (ClFs w fs) := by
  obtain ⟨i0, hi, hz0, hz1, hz2⟩ := info_parts inFA
  obtain ⟨p, c, rfl, hl, hc, HX0⟩ := hV.form
  have HX : Hid (∀ i (hi : i < fs.length), ∃ b off uv ut us ur, p = some ⟨b, off, none⟩ ∧ b < w.heap.size ∧ FmC w b (off + i * 10) fs[i] uv ut us ur ∧ NmsAt w uv fs[i].vars ∧ TmsAt w ut fs[i].terms ∧ FmsAt w us fs[i].subs ∧ RxsAt w ur fs[i].rgx) := HX0
  have HCC : Hid (∀ i (hi : i < fs.length) (q : FQ) (W : World), QAt w (fs[i], q) → Below w.heap.size w W → Calls Try.prog 9 #[.agg #[.int .i64 fs[i].k, .string fs[i].nm, .int .i64 fs[i].op, q.v, q.t, .int .i64 fs[i].lo, .int .i64 fs[i].hi, .bool fs[i].opn, q.s, q.r]] W (ClF W fs[i])) := HC
  obtain ⟨CO, eCO⟩ : ∃ CO, Hid (ClFs w fs = CO) := ⟨_, rfl⟩
  rw [eCO.out]
  clear hV HX0 HC
  obtain ⟨n, en⟩ : ∃ n : Nat, Hid (fs.length = n) := ⟨_, rfl⟩
  rw [en.out] at lv hl hc ⊢
  go_enter Try.func37, Try.ntmps37
  go_wp2
  go_loopw [3, 8] (fun v3 v wr => ∃ (k : Nat) (L : List (Fm × FQ)), k ≤ n ∧ v = .int .i64 k ∧ L.length = k ∧ Hid (L.map Prod.fst = fs.take k) ∧ Below w.heap.size w wr ∧ Hid (wr.ownsRow w.heap.size 29 10 v3 k (flatF L)) ∧ Hid (∀ x ∈ L, QOwn (fun q => w.heap.size ≤ q ∧ v3.ownBlock ≠ some q) wr x)) (fun _ v _ => n - (intOf v).toNat)
  case atStart => exact ⟨0, [], Nat.zero_le _, rfl, rfl, (show _ = _ by simp), Below.refl _ _, ⟨rfl, .inl ⟨rfl, rfl⟩⟩, fun x hx => by simp at hx⟩
  case round =>
    obtain ⟨k, L, hk, rfl, hLk, hF, hB, hO, hS⟩ := hrel
    have hsz := hB.size
    have HK : Hid (∀ q, u3.ownBlock = some q → w.heap.size ≤ q) := fun q hq => (World.ownsRow.lt hO.out q hq).1
    have HKw : Hid (∀ q, u3.ownBlock = some q → q < wr.heap.size) := fun q hq => own_lt hO.out hq
    by_cases hlt : k < n
    case neg =>
      have c2 : ¬ (k : Int) < n := by omega
      have hE : Hid (CO (.returned u3) wr) := by
        have h := hF.out
        rw [List.take_of_length_le (by have := en.out; omega)] at h
        have ho := hO.out
        rw [show k = fs.length by have := en.out; omega] at ho
        unfold Hid
        rw [← eCO.out]
        exact ⟨u3, rfl, .mk L h (by have := en.out; omega) (own_monoB ho (Nat.zero_le _)) (fun q hq => (World.ownsRow.lt ho q hq).1) (fun x hx => ((hS.out x hx).mono fun q hq _ => hq.1).1) (fun x hx => ((hS.out x hx).mono fun q hq _ => hq.1).2.1) (fun x hx => ((hS.out x hx).mono fun q hq _ => hq.1).2.2.1) (fun x hx => ((hS.out x hx).mono fun q hq _ => hq.1).2.2.2), hB⟩
      go_wp2
      first | (go_ret; exact hE.out) | exact hE.out
    have hlt' : (k : Int) < n := by omega
    have kx : k < fs.length := by have := en.out; omega
    obtain ⟨b, off, uv, ut, us0, ur, rfl, hb, FC, FV, FT, FS, FR⟩ := HX.out k kx
    obtain ⟨a0, a1, a2, a3, a4, a5, a6, a7, a8, a9⟩ := FC.below hB hb
    have hbr : b < wr.heap.size := Nat.lt_of_lt_of_le hb hsz
    have hF3 : Hid (∀ u, (L ++ [(fs[k], u)]).map Prod.fst = fs.take (k + 1)) := fun u => by
      have h := hF.out
      rw [List.take_succ_eq_append_getElem kx, List.map_append, h]
      rfl
    have cC : Hid (∀ W : World, Below w.heap.size w W → Calls Try.prog 9 #[.agg #[.int .i64 fs[k].k, .string fs[k].nm, .int .i64 fs[k].op, uv, ut, .int .i64 fs[k].lo, .int .i64 fs[k].hi, .bool fs[k].opn, us0, ur]] W (ClF W fs[k])) := fun W hW => HCC.out k kx ⟨uv, ut, us0, ur⟩ W ⟨FV, FT, FS, FR⟩ hW
    obtain ⟨-, pv, cv, rfl, -⟩ := FV
    obtain ⟨pt, ct, rfl, -⟩ := FT.form
    obtain ⟨ps, cs, rfl, -⟩ := FS.form
    obtain ⟨pr, cr, rfl, -⟩ := FR.form
    obtain ⟨f, ef⟩ : ∃ f : Fm, Hid (fs[k] = f) := ⟨fs[k], (show _ = _ from rfl)⟩
    clear FC FT FS FR hF
    rw [ef.out] at a0 a1 a2 a3 a4 a5 a6 a7 a8 a9 hF3 cC
    have cC2 : Hid (∀ W : World, Below w.heap.size w W → Calls Try.prog 9 #[.agg #[.int .i64 f.k, .string f.nm, .int .i64 f.op, .slice pv f.vars.length cv, .slice pt f.terms.length ct, .int .i64 f.lo, .int .i64 f.hi, .bool f.opn, .slice ps f.subs.length cs, .slice pr f.rgx.length cr]] W fun r w' => ∃ qv dv qt dt qs ds qr dr, r = .returned (.agg #[.int .i64 f.k, .string f.nm, .int .i64 f.op, .slice qv f.vars.length dv, .slice qt f.terms.length dt, .int .i64 f.lo, .int .i64 f.hi, .bool f.opn, .slice qs f.subs.length ds, .slice qr f.rgx.length dr]) ∧ QOwn (fun b => W.heap.size ≤ b) w' (f, ⟨.slice qv f.vars.length dv, .slice qt f.terms.length dt, .slice qs f.subs.length ds, .slice qr f.rgx.length dr⟩) ∧ Below W.heap.size W w') := fun W hW => (cC.out W hW).mono fun r w' ⟨q, h1, h2, h3⟩ => by
      obtain ⟨v1, v2, v3, v4⟩ := q
      have hA := h2.at
      obtain ⟨x1, x2, x3, x4⟩ := hA
      dsimp only at x1 x2 x3 x4 h1
      obtain ⟨qv, dv, rfl, -⟩ := x1.form
      obtain ⟨qt, dt, rfl, -⟩ := x2.form
      obtain ⟨qs, ds, rfl, -⟩ := x3.form
      obtain ⟨qr, dr, rfl, -⟩ := x4.form
      exact ⟨qv, dv, qt, dt, qs, ds, qr, dr, h1, h2, h3⟩
    have hcs : Hid (∀ q : FQ, flatF [(f, q)] = [.int .i64 f.k, .string f.nm, .int .i64 f.op, q.v, q.t, .int .i64 f.lo, .int .i64 f.hi, .bool f.opn, q.s, q.r]) := fun q => rfl
    clear cC
    generalize f.k = tk at *
    generalize f.nm = nm at *
    generalize f.op = top at *
    generalize f.lo = lo at *
    generalize f.hi = ihi at *
    generalize f.opn = o at *
    generalize f.vars.length = nv at *
    generalize f.terms.length = nt at *
    generalize f.subs.length = ns at *
    generalize f.rgx.length = nr at *
    go_wp2_with fail
    refine (cC2.out _ (hB.alloc hsz _)).mono ?_
    rintro r wl ⟨qv, dv, qt, dt, qs, ds, qr, dr, rfl, hQ, hb1⟩
    obtain ⟨hB3, hn3⟩ := bgX (n := wr.heap.size) (W0 := wr) (by go_grown) (by go_size) hb1
    have hzl : wr.heap.size + 1 ≤ wl.heap.size := by have := hb1.size; simp at this; omega
    have HQ : Hid (QOwn (fun b => wr.heap.size + 1 ≤ b) wl (f, ⟨.slice qv nv dv, .slice qt nt dt, .slice qs ns ds, .slice qr nr dr⟩)) := hQ.mono fun q hq _ => by simpa using hq
    have hO3 : Hid (wl.ownsRow w.heap.size 29 10 u3 k (flatF L)) := own_belA hO.out hB3
    have hBl : Below w.heap.size w wl := hB.trans (hB3.mono hsz)
    clear hb1 hQ cC2 hO a0 a1 a2 a3 a4 a5 a6 a7 a8 a9
    go_wp2_with (at_builtin; refine wpList_append_own_at _ rfl _ _ 26 rfl w.heap.size 29 i0 (.agg #[.int .i64 0, .string ByteArray.empty, .int .i64 0, .slice none 0 0, .slice none 0 0, .int .i64 0, .int .i64 0, .bool false, .slice none 0 0, .slice none 0 0]) 10 152 Try.underlying26 hi hz0 hz1 hz2 rfl (by decide) _ _ _ rfl (World.ownsRow.alloc hO3.out _) ⟨wl.heap.size, 0, none⟩ 1 1 [.int .i64 tk, .string nm, .int .i64 top, .slice qv nv dv, .slice qt nt dt, .int .i64 lo, .int .i64 ihi, .bool o, .slice qs ns ds, .slice qr nr dr] rfl rfl ?cc1 ?cc2 ?cc3 ?cc4 ?cc5 ?_)
    case cc1 => (intro j u hj; rw [Addr.add_lit]; (rcases j with _ | _ | _ | _ | _ | _ | _ | _ | _ | _ | j) <;> simp at hj <;> subst hj <;> simp (maxDischargeDepth := 12) [go_sem])
    case cc2 => first | rfl | (intro u hu; simp at hu; rcases hu with rfl | rfl | rfl | rfl | rfl | rfl | rfl | rfl | rfl | rfl <;> rfl)
    case cc3 => unfold maxLen; omega
    case cc4 => omega
    case cc5 => first | omega | (simp; omega)
    intro v' w4 h2 h3 _ h5
    have O4 : Hid (w4.ownsRow w.heap.size 29 10 v' (k + 1) (flatF (L ++ [(f, ⟨.slice qv nv dv, .slice qt nt dt, .slice qs ns ds, .slice qr nr dr⟩)]))) := by
      unfold Hid
      rw [flatF_append, hcs.out]
      exact h2
    have B4 : Below w.heap.size w w4 := Below.grown (hBl.alloc (by omega) _) h3 (by simp; omega) HK.out
    have blk : Hid (∀ q, q < wl.heap.size → u3.ownBlock ≠ some q → w4.heap[q]? = wl.heap[q]?) := fun q hq hne => (h3.block q (by simp; omega) (fun h => hne h.symm)).trans (Below.heap_alloc _ _ q hq)
    have h50 : v'.ownBlock = u3.ownBlock ∨ v'.ownBlock = some (wl.heap.size + 1) := by simpa using h5
    have h5' : Hid (v'.ownBlock = u3.ownBlock ∨ v'.ownBlock = some (wl.heap.size + 1)) := h50
    have S4 : Hid (∀ x ∈ L ++ [(f, (⟨.slice qv nv dv, .slice qt nt dt, .slice qs ns ds, .slice qr nr dr⟩ : FQ))], QOwn (fun q => w.heap.size ≤ q ∧ v'.ownBlock ≠ some q) w4 x) := fun x hx => by
      rcases List.mem_append.1 hx with hx | hx
      · have b := hS.out x hx
        refine (((b.mono (P' := fun q => (w.heap.size ≤ q ∧ u3.ownBlock ≠ some q) ∧ q < wr.heap.size) fun q h1 h2 => ⟨h1, h2⟩).keep (w' := w4) fun q h1 h2 => ?_).mono fun q h1 _ => ⟨h1.1.1, ?_⟩)
        · exact (blk.out q (by omega) h1.1.2).trans (hB3.block q h1.2)
        · rcases h5'.out with h5 | h5
          · rw [h5]; exact h1.1.2
          · rw [h5]; intro h; injection h with h; omega
      · simp only [List.mem_singleton] at hx
        subst hx
        refine (((HQ.out.mono (P' := fun q => wr.heap.size + 1 ≤ q ∧ q < wl.heap.size) fun q h1 h2 => ⟨h1, h2⟩).keep (w' := w4) fun q h1 h2 => ?_).mono fun q h1 _ => ⟨by omega, ?_⟩)
        · exact blk.out q h2 (fun h => by have := HKw.out q h; omega)
        · rcases h5'.out with h5 | h5
          · rw [h5]; intro h; have := HKw.out q h; omega
          · rw [h5]; intro h; injection h with h; omega
    have hF4 : Hid ((L ++ [(f, (⟨.slice qv nv dv, .slice qt nt dt, .slice qs ns ds, .slice qr nr dr⟩ : FQ))]).map Prod.fst = fs.take (k + 1)) := hF3.out _
    clear h2 h3 h5 h50 HK hO3 hS blk hF3 HQ h5' HKw hcs
    go_wp2
    exact ⟨⟨k + 1, L ++ [(f, ⟨.slice qv nv dv, .slice qt nt dt, .slice qs ns ds, .slice qr nr dr⟩)], by omega, by go_num, by simp; omega, hF4, B4, O4, S4⟩, by simp [intOf]; omega⟩

end Go.Proofs.Ytfajjphfjilpnab

namespace Go.Proofs.Ytfajjphfjilpnab
open Go.RowKit LX Go.Shelf
set_option linter.unusedVariables false

set_option maxRecDepth 100000 in
set_option maxHeartbeats 8000000 in
theorem rcl_step (rs : List Rx) (V : Value) (w : World) (hV : RxsAt w V rs) (lv : rs.length * 56 ≤ 140737488355328) (HA : ∀ i (hi : i < rs.length) (v : Value) (W : World), FmsAt w v rs[i].test → Below w.heap.size w W → Calls Try.prog 37 #[v] W (ClFs W rs[i].test)) (HC : ∀ i (hi : i < rs.length) (v : Value) (W : World), RxsAt w v rs[i].subs → Below w.heap.size w W → Calls Try.prog 36 #[v] W (ClRs W rs[i].subs)) :
    Calls Try.prog 36 #[V] w (ClRs w rs) := by
  obtain ⟨i0, hi, hz0, hz1, hz2⟩ := info_parts inRxA
  obtain ⟨p, c, rfl, hl, hc, HX0⟩ := hV.form
  have HX : Hid (∀ i (hi : i < rs.length), ∃ b off ut us, p = some ⟨b, off, none⟩ ∧ b < w.heap.size ∧ RxC w b (off + i * 3) rs[i] ut us ∧ FmsAt w ut rs[i].test ∧ RxsAt w us rs[i].subs) := HX0
  have HAA : Hid (∀ i (hi : i < rs.length) (v : Value) (W : World), FmsAt w v rs[i].test → Below w.heap.size w W → Calls Try.prog 37 #[v] W (ClFs W rs[i].test)) := HA
  have HCC : Hid (∀ i (hi : i < rs.length) (v : Value) (W : World), RxsAt w v rs[i].subs → Below w.heap.size w W → Calls Try.prog 36 #[v] W (ClRs W rs[i].subs)) := HC
  obtain ⟨CO, eCO⟩ : ∃ CO, Hid (ClRs w rs = CO) := ⟨_, rfl⟩
  rw [eCO.out]
  clear hV HX0 HC HA
  obtain ⟨n, en⟩ : ∃ n : Nat, Hid (rs.length = n) := ⟨_, rfl⟩
  rw [en.out] at lv hl hc ⊢
  go_enter Try.func36, Try.ntmps36
  go_wp2
  go_loopw [3, 8] (fun v3 v wr => ∃ (k : Nat) (L : List (Rx × (Value × Value))), k ≤ n ∧ v = .int .i64 k ∧ L.length = k ∧ Hid (L.map Prod.fst = rs.take k) ∧ Below w.heap.size w wr ∧ Hid (wr.ownsRow w.heap.size 60 3 v3 k (flatR L)) ∧ Hid (∀ x ∈ L, FmsOwn (fun q => w.heap.size ≤ q ∧ v3.ownBlock ≠ some q) wr x.2.1 x.1.test ∧ RxsOwn (fun q => w.heap.size ≤ q ∧ v3.ownBlock ≠ some q) wr x.2.2 x.1.subs)) (fun _ v _ => n - (intOf v).toNat)
  case atStart => exact ⟨0, [], Nat.zero_le _, rfl, rfl, (show _ = _ by simp), Below.refl _ _, ⟨rfl, .inl ⟨rfl, rfl⟩⟩, fun x hx => by simp at hx⟩
  case round =>
    obtain ⟨k, L, hk, rfl, hLk, hF, hB, hO, hS⟩ := hrel
    have hsz := hB.size
    have HK : Hid (∀ q, u3.ownBlock = some q → w.heap.size ≤ q) := fun q hq => (World.ownsRow.lt hO.out q hq).1
    have HKw : Hid (∀ q, u3.ownBlock = some q → q < wr.heap.size) := fun q hq => own_lt hO.out hq
    by_cases hlt : k < n
    case neg =>
      have c2 : ¬ (k : Int) < n := by omega
      have hE : Hid (CO (.returned u3) wr) := by
        have h := hF.out
        rw [List.take_of_length_le (by have := en.out; omega)] at h
        have ho := hO.out
        rw [show k = rs.length by have := en.out; omega] at ho
        unfold Hid
        rw [← eCO.out]
        exact ⟨u3, rfl, .mk L h (by have := en.out; omega) (own_monoB ho (Nat.zero_le _)) (fun q hq => (World.ownsRow.lt ho q hq).1) (fun x hx => (hS.out x hx).1.mono fun q hq _ => hq.1) (fun x hx => (hS.out x hx).2.mono fun q hq _ => hq.1), hB⟩
      go_wp2
      first | (go_ret; exact hE.out) | exact hE.out
    have hlt' : (k : Int) < n := by omega
    have kx : k < rs.length := by have := en.out; omega
    obtain ⟨b, off, ut, us0, rfl, hb, FC, FT, FS⟩ := HX.out k kx
    obtain ⟨a0, a1, a2⟩ := FC.below hB hb
    have hbr : b < wr.heap.size := Nat.lt_of_lt_of_le hb hsz
    have hF3 : Hid (∀ u, (L ++ [(rs[k], u)]).map Prod.fst = rs.take (k + 1)) := fun u => by
      have h := hF.out
      rw [List.take_succ_eq_append_getElem kx, List.map_append, h]
      rfl
    have cA : Hid (∀ W : World, Below w.heap.size w W → Calls Try.prog 37 #[ut] W fun r w' => ∃ p c, r = .returned (.slice p rs[k].test.length c) ∧ FmsOwn (fun q => W.heap.size ≤ q) w' (.slice p rs[k].test.length c) rs[k].test ∧ Below W.heap.size W w') := fun W hW => (HAA.out k kx ut W FT hW).mono fun r w' ⟨v, h1, h2, h3⟩ => by
      obtain ⟨p, c, rfl, -⟩ := h2.at.form
      exact ⟨p, c, h1, h2, h3⟩
    have cC : Hid (∀ W : World, Below w.heap.size w W → Calls Try.prog 36 #[us0] W fun r w' => ∃ p c, r = .returned (.slice p rs[k].subs.length c) ∧ RxsOwn (fun q => W.heap.size ≤ q) w' (.slice p rs[k].subs.length c) rs[k].subs ∧ Below W.heap.size W w') := fun W hW => (HCC.out k kx us0 W FS hW).mono fun r w' ⟨v, h1, h2, h3⟩ => by
      obtain ⟨p, c, rfl, -⟩ := h2.at.form
      exact ⟨p, c, h1, h2, h3⟩
    obtain ⟨pt, ct, rfl, -⟩ := FT.form
    obtain ⟨ps, cs, rfl, -⟩ := FS.form
    obtain ⟨f, ef⟩ : ∃ f : Rx, Hid (rs[k] = f) := ⟨rs[k], (show _ = _ from rfl)⟩
    clear FC FT FS hF
    rw [ef.out] at a0 a1 a2 hF3 cA cC
    have hcs : Hid (∀ u v : Value, flatR [(f, (u, v))] = [.int .i64 f.k, u, v]) := fun u v => rfl
    generalize f.k = tk at *
    obtain ⟨nt, ent⟩ : ∃ n : Nat, Hid (f.test.length = n) := ⟨_, rfl⟩
    obtain ⟨ns, ens⟩ : ∃ n : Nat, Hid (f.subs.length = n) := ⟨_, rfl⟩
    rw [ent.out] at cA a1
    rw [ens.out] at cC a2
    go_wp2_with fail
    refine (cA.out _ (hB.alloc hsz _)).mono ?_
    rintro r w1 ⟨p1, c1, rfl, hO1, hb1⟩
    obtain ⟨hB1, hn1⟩ := bgX (n := wr.heap.size) (W0 := wr) (by go_grown) (by go_size) hb1
    have hz1' : wr.heap.size + 1 ≤ w1.heap.size := by have := hb1.size; simp at this; omega
    have e0 : w1.cell? ⟨wr.heap.size, 0, none⟩ = some (.int .i64 tk) := (hb1.cell (p := ⟨wr.heap.size, 0, none⟩) (by first | (simp; done) | (simp; omega))).trans (by simp [go_sem, *])
    have e1 : w1.cell? ⟨wr.heap.size, 1, none⟩ = some (.slice pt nt ct) := (hb1.cell (p := ⟨wr.heap.size, 1, none⟩) (by first | (simp; done) | (simp; omega))).trans (by simp [go_sem, *])
    have e2 : w1.cell? ⟨wr.heap.size, 2, none⟩ = some (.slice ps ns cs) := (hb1.cell (p := ⟨wr.heap.size, 2, none⟩) (by first | (simp; done) | (simp; omega))).trans (by simp [go_sem, *])
    have f1 : w1.frozen? ⟨wr.heap.size, 1, none⟩ = false := (World.frozen?_of_block (a := ⟨wr.heap.size, 1, none⟩) (hb1.block (wr.heap.size) (by first | (simp; done) | (simp; omega)))).trans (by simp [go_sem, *])
    have f2 : w1.frozen? ⟨wr.heap.size, 2, none⟩ = false := (World.frozen?_of_block (a := ⟨wr.heap.size, 2, none⟩) (hb1.block (wr.heap.size) (by first | (simp; done) | (simp; omega)))).trans (by simp [go_sem, *])
    have HO1 : Hid (FmsOwn (fun q => wr.heap.size + 1 ≤ q) w1 (.slice p1 nt c1) f.test) := hO1.mono fun q h _ => by simpa using h
    have hBw1 : Below w.heap.size w w1 := hB.trans (hB1.mono hsz)
    clear hb1 hO1 cA a0 a1 a2
    go_wp2_with fail
    refine (cC.out _ (hBw1.trans (by go_grown))).mono ?_
    rintro r wl ⟨p2, c2, rfl, hO2, hb2⟩
    obtain ⟨hB3, hn3⟩ := bgX (n := wr.heap.size) (W0 := wr) (hB1.trans (by go_grown)) (by first | (simp; done) | (simp; omega)) hb2
    have hzl : w1.heap.size ≤ wl.heap.size := by have := hb2.size; simpa using this
    have e0 : wl.cell? ⟨wr.heap.size, 0, none⟩ = some (.int .i64 tk) := (hb2.cell (p := ⟨wr.heap.size, 0, none⟩) (by first | (simp; done) | (simp; omega))).trans (by simp [go_sem, *])
    have e1 : wl.cell? ⟨wr.heap.size, 1, none⟩ = some (.slice p1 nt c1) := (hb2.cell (p := ⟨wr.heap.size, 1, none⟩) (by first | (simp; done) | (simp; omega))).trans (by simp [go_sem, *])
    have e2 : wl.cell? ⟨wr.heap.size, 2, none⟩ = some (.slice ps ns cs) := (hb2.cell (p := ⟨wr.heap.size, 2, none⟩) (by first | (simp; done) | (simp; omega))).trans (by simp [go_sem, *])
    have f2 : wl.frozen? ⟨wr.heap.size, 2, none⟩ = false := (World.frozen?_of_block (a := ⟨wr.heap.size, 2, none⟩) (hb2.block (wr.heap.size) (by first | (simp; done) | (simp; omega)))).trans (by simp [go_sem, *])
    have HO2 : Hid (RxsOwn (fun q => wr.heap.size + 1 ≤ q) wl (.slice p2 ns c2) f.subs) := hO2.mono fun q h _ => by simp at h; omega
    have HO1' : Hid (FmsOwn (fun q => wr.heap.size + 1 ≤ q) wl (.slice p1 nt c1) f.test) := HO1.out.keep fun q h1 h2 => (hb2.block q (by simpa using h2)).trans (set_block (by omega))
    have hBl : Below w.heap.size w wl := hB.trans (hB3.mono hsz)
    have hB3s : Below wr.heap.size wr (wl.setCell ⟨wr.heap.size, 2, none⟩ (.slice p2 ns c2)) := hB3.trans (by go_grown)
    have hBs : Below w.heap.size w (wl.setCell ⟨wr.heap.size, 2, none⟩ (.slice p2 ns c2)) := hBl.trans (by go_grown)
    have hO3 : Hid ((wl.setCell ⟨wr.heap.size, 2, none⟩ (.slice p2 ns c2)).ownsRow w.heap.size 60 3 u3 k (flatR L)) := own_belA hO.out hB3s
    clear hb2 hO2 cC hO HO1 hB1 hn1
    go_wp2_with (at_builtin; refine wpList_append_own_at _ rfl _ _ 27 rfl w.heap.size 60 i0 (.agg #[.int .i64 0, .slice none 0 0, .slice none 0 0]) 3 56 Try.underlying27 hi hz0 hz1 hz2 rfl (by decide) _ _ _ rfl (World.ownsRow.alloc hO3.out _) ⟨wl.heap.size, 0, none⟩ 1 1 [.int .i64 tk, .slice p1 nt c1, .slice p2 ns c2] rfl rfl ?cc1 ?cc2 ?cc3 ?cc4 ?cc5 ?_)
    case cc1 => (intro j u hj; rw [Addr.add_lit]; (rcases j with _ | _ | _ | j) <;> simp at hj <;> subst hj <;> simp (maxDischargeDepth := 12) [go_sem])
    case cc2 => first | rfl | (intro u hu; simp at hu; rcases hu with rfl | rfl | rfl <;> rfl)
    case cc3 => unfold maxLen; omega
    case cc4 => omega
    case cc5 => first | omega | (simp; omega)
    intro v' w4 h2 h3 _ h5
    have O4 : Hid (w4.ownsRow w.heap.size 60 3 v' (k + 1) (flatR (L ++ [(f, (.slice p1 nt c1, .slice p2 ns c2))]))) := by
      unfold Hid
      rw [flatR_append, hcs.out]
      exact h2
    have B4 : Below w.heap.size w w4 := Below.grown (hBs.alloc (by simp; omega) _) h3 (by simp; omega) HK.out
    have blk : Hid (∀ q, q < wl.heap.size → q ≠ wr.heap.size → u3.ownBlock ≠ some q → w4.heap[q]? = wl.heap[q]?) := fun q hq hn hne => ((h3.block q (by simp; omega) (fun h => hne h.symm)).trans (Below.heap_alloc _ _ q (by simpa using hq))).trans (set_block hn)
    have h50 : v'.ownBlock = u3.ownBlock ∨ v'.ownBlock = some (wl.heap.size + 1) := by simpa using h5
    have h5' : Hid (v'.ownBlock = u3.ownBlock ∨ v'.ownBlock = some (wl.heap.size + 1)) := h50
    have X1 : ∀ q, (w.heap.size ≤ q ∧ u3.ownBlock ≠ some q) ∧ q < wr.heap.size → w4.heap[q]? = wr.heap[q]? := fun q h => (blk.out q (by omega) (by omega) h.1.2).trans (hB3.block q h.2)
    have X2 : ∀ q, (w.heap.size ≤ q ∧ u3.ownBlock ≠ some q) ∧ q < wr.heap.size → w.heap.size ≤ q ∧ v'.ownBlock ≠ some q := fun q h => ⟨h.1.1, by
      rcases h5'.out with h5 | h5
      · rw [h5]; exact h.1.2
      · rw [h5]; intro h; injection h with h; omega⟩
    have Y1 : ∀ q, wr.heap.size + 1 ≤ q ∧ q < wl.heap.size → w4.heap[q]? = wl.heap[q]? := fun q h => blk.out q h.2 (by omega) (fun h' => by have := HKw.out q h'; omega)
    have Y2 : ∀ q, wr.heap.size + 1 ≤ q ∧ q < wl.heap.size → w.heap.size ≤ q ∧ v'.ownBlock ≠ some q := fun q h => ⟨by omega, by
      rcases h5'.out with h5 | h5
      · rw [h5]; intro h'; have := HKw.out q h'; omega
      · rw [h5]; intro h'; injection h' with h'; omega⟩
    have S4 : Hid (∀ x ∈ L ++ [(f, (Value.slice p1 nt c1, Value.slice p2 ns c2))], FmsOwn (fun q => w.heap.size ≤ q ∧ v'.ownBlock ≠ some q) w4 x.2.1 x.1.test ∧ RxsOwn (fun q => w.heap.size ≤ q ∧ v'.ownBlock ≠ some q) w4 x.2.2 x.1.subs) := fun x hx => by
      rcases List.mem_append.1 hx with hx | hx
      · obtain ⟨b1, b2⟩ := hS.out x hx
        exact ⟨((b1.mono (P' := fun q => (w.heap.size ≤ q ∧ u3.ownBlock ≠ some q) ∧ q < wr.heap.size) fun q h1 h2 => ⟨h1, h2⟩).keep (w' := w4) fun q h1 _ => X1 q h1).mono fun q h1 _ => X2 q h1,
          ((b2.mono (P' := fun q => (w.heap.size ≤ q ∧ u3.ownBlock ≠ some q) ∧ q < wr.heap.size) fun q h1 h2 => ⟨h1, h2⟩).keep (w' := w4) fun q h1 _ => X1 q h1).mono fun q h1 _ => X2 q h1⟩
      · simp only [List.mem_singleton] at hx
        subst hx
        exact ⟨((HO1'.out.mono (P' := fun q => wr.heap.size + 1 ≤ q ∧ q < wl.heap.size) fun q h1 h2 => ⟨h1, h2⟩).keep (w' := w4) fun q h1 _ => Y1 q h1).mono fun q h1 _ => Y2 q h1,
          ((HO2.out.mono (P' := fun q => wr.heap.size + 1 ≤ q ∧ q < wl.heap.size) fun q h1 h2 => ⟨h1, h2⟩).keep (w' := w4) fun q h1 _ => Y1 q h1).mono fun q h1 _ => Y2 q h1⟩
    have hF4 : Hid ((L ++ [(f, (Value.slice p1 nt c1, Value.slice p2 ns c2))]).map Prod.fst = rs.take (k + 1)) := hF3.out _
    clear h2 h3 h5 h50 HK hO3 hS blk hF3 HO1' HO2 h5' HKw hcs X1 X2 Y1 Y2
    go_wp2
    exact ⟨⟨k + 1, L ++ [(f, (.slice p1 nt c1, .slice p2 ns c2))], by omega, by go_num, by simp; omega, hF4, B4, O4, S4⟩, by simp [intOf]; omega⟩

theorem both_clone : ∀ m : Nat, (∀ (fs : List Fm) (V : Value) (w : World), SizeOf.sizeOf fs ≤ m → FmsAt w V fs → fs.length * 152 ≤ 140737488355328 → lgFs fs → Calls Try.prog 37 #[V] w (ClFs w fs)) ∧ (∀ (rs : List Rx) (V : Value) (w : World), SizeOf.sizeOf rs ≤ m → RxsAt w V rs → rs.length * 56 ≤ 140737488355328 → lgRs rs → Calls Try.prog 36 #[V] w (ClRs w rs)) := by
  intro m
  induction m with
  | zero => exact ⟨fun fs V w hm => by cases fs <;> simp at hm, fun rs V w hm => by cases rs <;> simp at hm⟩
  | succ m ih =>
    refine ⟨fun fs V w hm hV lv hlg => fcl_step fs V w hV lv fun i hi q W hq hW => ?_, fun rs V w hm hV lv hlg => rcl_step rs V w hV lv (fun i hi v W hv hW => ?_) (fun i hi v W hv hW => ?_)⟩
    · have l := lgFs_get fs i hi hlg
      have l0 := l
      rw [lgF_eq] at l
      have s := mem_lt i hi
      have hqW : QAt W (fs[i], q) := hq.below hW
      refine clone_step fs[i] q W hqW l0 (fun W' hW' => ih.1 _ _ W' (by have := Fm.subs_lt fs[i]; omega) (hqW.2.2.1.bel hW') l.2.2.2.1.1 l.2.2.2.1.2) (fun W' hW' => ih.2 _ _ W' (by have := Fm.rgx_lt fs[i]; omega) (hqW.2.2.2.bel hW') l.2.2.2.2.1 l.2.2.2.2.2)
    · have l := lgRs_get rs i hi hlg
      rw [lgR_eq] at l
      have s := mem_lt i hi
      exact ih.1 _ _ W (by have := Rx.test_lt rs[i]; omega) (hv.bel hW) l.1.1 l.1.2
    · have l := lgRs_get rs i hi hlg
      rw [lgR_eq] at l
      have s := mem_lt i hi
      exact ih.2 _ _ W (by have := Rx.subs_lt rs[i]; omega) (hv.bel hW) l.2.1 l.2.2
/-- Clone, at any formula that a machine may hold. -/
theorem clone_fm (f : Fm) (q : FQ) (w : World) (hq : QAt w (f, q)) (hlg : lgF f) : Calls Try.prog 9 #[.agg #[.int .i64 f.k, .string f.nm, .int .i64 f.op, q.v, q.t, .int .i64 f.lo, .int .i64 f.hi, .bool f.opn, q.s, q.r]] w (ClF w f) := by
  have l := hlg
  rw [lgF_eq] at l
  exact clone_step f q w hq hlg (fun W hW => (both_clone _).1 _ _ W (Nat.le_refl _) (hq.2.2.1.bel hW) l.2.2.2.1.1 l.2.2.2.1.2) (fun W hW => (both_clone _).2 _ _ W (Nat.le_refl _) (hq.2.2.2.bel hW) l.2.2.2.2.1 l.2.2.2.2.2)

end Go.Proofs.Ytfajjphfjilpnab

namespace Go.Proofs.Ytfajjphfjilpnab
open Go.RowKit LX Go.Shelf
set_option linter.unusedVariables false

section
mutual
def sameT : Tm → Tm → Bool
  | .mk k n v s, t => (k == t.k) && ((n.toList == t.nm.toList) && (v.same t.v && sameTs s t.subs))
def sameTs : List Tm → List Tm → Bool
  | [], [] => true
  | [], _ :: _ => false
  | _ :: _, [] => false
  | x :: l, y :: m => sameT x y && sameTs l m
end
end
theorem sameT_eq (x y : Tm) : sameT x y = ((x.k == y.k) && ((x.nm.toList == y.nm.toList) && (x.v.same y.v && sameTs x.subs y.subs))) := by
  cases x
  rw [sameT]
  rfl
theorem sameTs_nil : sameTs [] [] = true := by rw [sameTs]
theorem sameTs_cons (x y : Tm) (l m : List Tm) : sameTs (x :: l) (y :: m) = (sameT x y && sameTs l m) := by rw [sameTs]
theorem sameTs_len : ∀ {xs ys : List Tm}, xs.length ≠ ys.length → sameTs xs ys = false
  | [], [], h => absurd rfl h
  | [], _ :: _, _ => by rw [sameTs]
  | _ :: _, [], _ => by rw [sameTs]
  | x :: xs, y :: ys, h => by rw [sameTs_cons, sameTs_len (fun e => h (by simp [e])), Bool.and_false]

set_option maxRecDepth 100000 in
set_option maxHeartbeats 8000000 in
theorem eqfT_step (A B : Value) (xs ys : List Tm) (w : World) (hA : TmsAt w A xs) (hB : TmsAt w B ys) (HC : ∀ i (hi : i < xs.length) (hi' : i < ys.length) (u u' : Value) (W : World), TmsAt w u xs[i].subs → TmsAt w u' ys[i].subs → Below w.heap.size w W → Calls Try.prog 29 #[.agg #[.int .i64 xs[i].k, .string xs[i].nm, .int .i64 xs[i].v.k, .int .i64 xs[i].v.n, .int .i64 xs[i].v.d, .string xs[i].v.s, u], .agg #[.int .i64 ys[i].k, .string ys[i].nm, .int .i64 ys[i].v.k, .int .i64 ys[i].v.n, .int .i64 ys[i].v.d, .string ys[i].v.s, u']] W fun e w' => e = .returned (.bool (sameT xs[i] ys[i])) ∧ Below W.heap.size W w') :
    Calls Try.prog 28 #[A, B, .func (.func 29) #[] #[]] w fun e w' => e = .returned (.bool (sameTs xs ys)) ∧ Below w.heap.size w w' := by
  have eg : ∀ args w, (callFunc 29 args).run Try.prog w = .ok (.enter 29 args) w := enters_of Try.func29 (by kernel_rfl) rfl
  obtain ⟨p, c, rfl, lx, hc, HX0⟩ := hA.form
  obtain ⟨p', c', rfl, ly, hc', HY0⟩ := hB.form
  by_cases hl : xs.length = ys.length
  case neg =>
    have h2 : ((xs.length : Int) == ys.length) = false := by simp; omega
    have HS : Hid (sameTs xs ys = false) := sameTs_len hl
    clear HX0 HY0 hA hB HC
    generalize xs.length = n at *
    generalize ys.length = m at *
    go_enter Try.func28, Try.ntmps28
    go_wp2
    go_ret
    exact ⟨ret_bool HS.out.symm, by go_grown⟩
  have HX : Hid (∀ i (hi : i < xs.length), ∃ b off u, p = some ⟨b, off, none⟩ ∧ b < w.heap.size ∧ TmC w b (off + i * 7) xs[i] u ∧ TmsAt w u xs[i].subs ∧ xs[i].v.Fits) := HX0
  have HY : Hid (∀ i (hi : i < ys.length), ∃ b off u, p' = some ⟨b, off, none⟩ ∧ b < w.heap.size ∧ TmC w b (off + i * 7) ys[i] u ∧ TmsAt w u ys[i].subs ∧ ys[i].v.Fits) := HY0
  have HCC : Hid (∀ i (hi : i < xs.length) (hi' : i < ys.length) (u u' : Value) (W : World), TmsAt w u xs[i].subs → TmsAt w u' ys[i].subs → Below w.heap.size w W → Calls Try.prog 29 #[.agg #[.int .i64 xs[i].k, .string xs[i].nm, .int .i64 xs[i].v.k, .int .i64 xs[i].v.n, .int .i64 xs[i].v.d, .string xs[i].v.s, u], .agg #[.int .i64 ys[i].k, .string ys[i].nm, .int .i64 ys[i].v.k, .int .i64 ys[i].v.n, .int .i64 ys[i].v.d, .string ys[i].v.s, u']] W fun e w' => e = .returned (.bool (sameT xs[i] ys[i])) ∧ Below W.heap.size W w') := HC
  obtain ⟨n, en⟩ : ∃ n : Nat, Hid (xs.length = n) := ⟨_, rfl⟩
  have em : Hid (ys.length = n) := hl.symm.trans en.out
  rw [en.out] at lx hc ⊢
  rw [em.out] at hc' ⊢
  clear hA hB hl ly HX0 HY0 HC
  go_enter Try.func28, Try.ntmps28
  go_wp2
  go_loopw [17] (fun i wr => ∃ k : Nat, k ≤ n ∧ i = .int .i64 k ∧ Hid (sameTs xs ys = sameTs (xs.drop k) (ys.drop k)) ∧ Below w.heap.size w wr) (fun i _ => n - (intOf i).toNat)
  case atStart => exact ⟨0, Nat.zero_le _, rfl, (show sameTs xs ys = sameTs (xs.drop 0) (ys.drop 0) by simp), Below.refl _ _⟩
  case round =>
    obtain ⟨k, hk, rfl, hr, hB⟩ := hrel
    have hsz := hB.size
    by_cases hlt : k < n
    case neg =>
      have c2 : ¬ (k : Int) < n := by omega
      have hr3 : Hid (sameTs xs ys = true) := by
        have h := hr.out
        rw [List.drop_eq_nil_of_le (by have := en.out; omega), List.drop_eq_nil_of_le (by have := em.out; omega), sameTs_nil] at h
        exact h
      go_wp2
      go_ret
      exact ⟨ret_bool hr3.out.symm, hB⟩
    have hlt' : (k : Int) < n := by omega
    have kx : k < xs.length := by have := en.out; omega
    have ky : k < ys.length := by have := em.out; omega
    obtain ⟨b, off, u, rfl, hb, TC, TS, TF⟩ := HX.out k kx
    obtain ⟨b', off', u', rfl, hb', TC', TS', TF'⟩ := HY.out k ky
    obtain ⟨a0, a1, a2, a3, a4, a5, a6⟩ := TC.below hB hb
    obtain ⟨b0, b1, b2, b3, b4, b5, b6⟩ := TC'.below hB hb'
    have hbr : b < wr.heap.size := Nat.lt_of_lt_of_le hb hsz
    have hbr' : b' < wr.heap.size := Nat.lt_of_lt_of_le hb' hsz
    have hr2 : Hid (sameTs xs ys = (sameT xs[k] ys[k] && sameTs (xs.drop (k + 1)) (ys.drop (k + 1)))) := by
      have h := hr.out
      rw [List.drop_eq_getElem_cons kx, List.drop_eq_getElem_cons ky, sameTs_cons] at h
      exact h
    have ct : Hid (∀ W : World, Below w.heap.size w W → Calls Try.prog 29 #[.agg #[.int .i64 xs[k].k, .string xs[k].nm, .int .i64 xs[k].v.k, .int .i64 xs[k].v.n, .int .i64 xs[k].v.d, .string xs[k].v.s, u], .agg #[.int .i64 ys[k].k, .string ys[k].nm, .int .i64 ys[k].v.k, .int .i64 ys[k].v.n, .int .i64 ys[k].v.d, .string ys[k].v.s, u']] W fun e w' => e = .returned (.bool (sameT xs[k] ys[k])) ∧ Below W.heap.size W w') := fun W hW => HCC.out k kx ky u u' W TS TS' hW
    clear hr TC TC'
    obtain ⟨pu, cu, rfl, -⟩ := TS.form
    obtain ⟨pu', cu', rfl, -⟩ := TS'.form
    clear TS TF TS' TF'
    generalize sameT xs[k] ys[k] = C at *
    generalize xs[k].k = xg_k at *
    generalize ys[k].k = yg_k at *
    generalize xs[k].nm = xg_nm at *
    generalize ys[k].nm = yg_nm at *
    generalize xs[k].v.k = xg_vk at *
    generalize ys[k].v.k = yg_vk at *
    generalize xs[k].v.n = xg_vn at *
    generalize ys[k].v.n = yg_vn at *
    generalize xs[k].v.d = xg_vd at *
    generalize ys[k].v.d = yg_vd at *
    generalize xs[k].v.s = xg_vs at *
    generalize ys[k].v.s = yg_vs at *
    generalize xs[k].subs.length = xg_subslength at *
    generalize ys[k].subs.length = yg_subslength at *
    go_wp2_with fail
    refine (ct.out _ (hB.trans (by go_grown))).mono ?_
    rintro e w1 ⟨rfl, hw1⟩
    obtain ⟨hw2, hn2⟩ := bgX (n := wr.heap.size) (W0 := wr) (by go_grown) (by go_size) hw1
    have hB2 : Hid (Below w.heap.size w w1) := hB.trans (hw2.mono hsz)
    clear a0 a1 a2 a3 a4 a5 a6 b0 b1 b2 b3 b4 b5 b6 ct hw1 hw2 hn2
    cases C with
    | true =>
      have hr3 : Hid (sameTs xs ys = sameTs (xs.drop (k + 1)) (ys.drop (k + 1))) := by have := hr2.out; rwa [Bool.true_and] at this
      go_wp2
      exact ⟨⟨k + 1, by omega, by go_num, hr3, hB2.out⟩, by simp [intOf]; omega⟩
    | false =>
      have hr3 : Hid (sameTs xs ys = false) := by have := hr2.out; rwa [Bool.false_and] at this
      go_wp2
      go_ret
      exact ⟨ret_bool hr3.out.symm, hB2.out⟩

set_option maxRecDepth 100000 in
set_option maxHeartbeats 8000000 in
theorem samet_step (x y : Tm) (u v : Value) (w : World) (hu : TmsAt w u x.subs) (hv : TmsAt w v y.subs) (IH : ∀ W : World, Below w.heap.size w W → Calls Try.prog 28 #[u, v, .func (.func 29) #[] #[]] W fun e w' => e = .returned (.bool (sameTs x.subs y.subs)) ∧ Below W.heap.size W w') :
    Calls Try.prog 29 #[.agg #[.int .i64 x.k, .string x.nm, .int .i64 x.v.k, .int .i64 x.v.n, .int .i64 x.v.d, .string x.v.s, u], .agg #[.int .i64 y.k, .string y.nm, .int .i64 y.v.k, .int .i64 y.v.n, .int .i64 y.v.d, .string y.v.s, v]] w fun e w' => e = .returned (.bool (sameT x y)) ∧ Below w.heap.size w w' := by
  have cV : Hid (∀ W : World, Calls Try.prog 45 #[.agg #[.int .i64 x.v.k, .int .i64 x.v.n, .int .i64 x.v.d, .string x.v.s], .agg #[.int .i64 y.v.k, .int .i64 y.v.n, .int .i64 y.v.d, .string y.v.s]] W fun e w' => e = .returned (.bool (x.v.same y.v)) ∧ Below W.heap.size W w') := fun W => vsame_any x.v.k x.v.n x.v.d x.v.s y.v.k y.v.n y.v.d y.v.s W
  have cI : Hid (∀ W : World, Below w.heap.size w W → Calls Try.prog 28 #[u, v, .func (.func 29) #[] #[]] W fun e w' => e = .returned (.bool (sameTs x.subs y.subs)) ∧ Below W.heap.size W w') := IH
  have hE : Hid (sameT x y = ((x.k == y.k) && ((x.nm.toList == y.nm.toList) && (x.v.same y.v && sameTs x.subs y.subs)))) := sameT_eq x y
  obtain ⟨pu, cu, rfl, -⟩ := hu.form
  obtain ⟨pv, cv, rfl, -⟩ := hv.form
  clear hu hv IH
  generalize sameT x y = R at *
  generalize sameTs x.subs y.subs = D at *
  generalize x.v.same y.v = C at *
  generalize x.k = xg_k at *
  generalize y.k = yg_k at *
  generalize x.nm = xg_nm at *
  generalize y.nm = yg_nm at *
  generalize x.v.k = xg_vk at *
  generalize y.v.k = yg_vk at *
  generalize x.v.n = xg_vn at *
  generalize y.v.n = yg_vn at *
  generalize x.v.d = xg_vd at *
  generalize y.v.d = yg_vd at *
  generalize x.v.s = xg_vs at *
  generalize y.v.s = yg_vs at *
  generalize x.subs.length = xg_subslength at *
  generalize y.subs.length = yg_subslength at *
  by_cases h1 : (xg_k == yg_k) = true
  case neg =>
    have h1' : (xg_k == yg_k) = false := by simpa using h1
    have hR : Hid (R = false) := by have h := hE.out; rw [h1'] at h; simp at h; exact h
    clear h1
    go_enter Try.func29, Try.ntmps29
    go_wp2
    go_ret
    exact ⟨ret_bool hR.out.symm, by go_grown⟩
  by_cases h2 : (xg_nm.toList == yg_nm.toList) = true
  case neg =>
    have h2' : (xg_nm.toList == yg_nm.toList) = false := by simpa using h2
    have hR : Hid (R = false) := by have h := hE.out; rw [h2'] at h; simp at h; exact h
    clear h2
    go_enter Try.func29, Try.ntmps29
    go_wp2
    go_ret
    exact ⟨ret_bool hR.out.symm, by go_grown⟩
  go_enter Try.func29, Try.ntmps29
  go_wp2_with fail
  refine (cV.out _).mono ?_
  rintro e w1 ⟨rfl, hw1⟩
  obtain ⟨hB1, hn1⟩ := bgX (n := w.heap.size) (W0 := w) (by go_grown) (by go_size) hw1
  have hz1 : w.heap.size + 1 < w1.heap.size := by have := hw1.size; simp at this; omega
  have e6 : w1.cell? ⟨w.heap.size, 6, none⟩ = some (.slice pu xg_subslength cu) := (hw1.cell (p := ⟨w.heap.size, 6, none⟩) (by first | (simp; done) | (simp; omega))).trans (by simp [go_sem])
  have g6 : w1.cell? ⟨w.heap.size + 1, 6, none⟩ = some (.slice pv yg_subslength cv) := (hw1.cell (p := ⟨w.heap.size + 1, 6, none⟩) (by first | (simp; done) | (simp; omega))).trans (by simp [go_sem])
  clear hw1 cV
  cases C with
  | false =>
    have hR : Hid (R = false) := by have h := hE.out; simp at h; exact h
    go_wp2
    go_ret
    exact ⟨ret_bool hR.out.symm, hB1⟩
  | true =>
    have hR : Hid (R = D) := by have h := hE.out; rw [h1, h2] at h; simp at h; exact h
    go_wp2_with fail
    refine (cI.out _ hB1).mono ?_
    rintro e w2 ⟨rfl, hw2⟩
    have hB2 : Below w.heap.size w w2 := hB1.trans (hw2.mono hn1)
    clear hw2 cI e6 g6
    cases D with
    | false =>
      go_wp2
      go_ret
      exact ⟨ret_bool hR.out.symm, hB2⟩
    | true =>
      go_wp2
      go_ret
      exact ⟨ret_bool hR.out.symm, hB2⟩
theorem same_tms : ∀ (m : Nat) (xs ys : List Tm) (A B : Value) (w : World), SizeOf.sizeOf xs ≤ m → TmsAt w A xs → TmsAt w B ys → Calls Try.prog 28 #[A, B, .func (.func 29) #[] #[]] w fun e w' => e = .returned (.bool (sameTs xs ys)) ∧ Below w.heap.size w w' := by
  intro m
  induction m with
  | zero => intro xs ys A B w hm; cases xs <;> simp at hm
  | succ m ih =>
    intro xs ys A B w hm hA hB
    exact eqfT_step A B xs ys w hA hB fun i hi hi' u u' W h1 h2 hW => samet_step xs[i] ys[i] u u' W (h1.bel hW) (h2.bel hW) fun W' hW' => ih _ _ _ _ W' (by have := mem_lt i hi; have := Tm.subs_lt xs[i]; omega) ((h1.bel hW).bel hW') ((h2.bel hW).bel hW')

end Go.Proofs.Ytfajjphfjilpnab

namespace Go.Proofs.Ytfajjphfjilpnab
open Go.RowKit LX Go.Shelf
set_option linter.unusedVariables false

section
mutual
def sameF : Fm → Fm → Bool
  | .mk k nm op vars terms lo hi opn subs rgx, f => (k == f.k) && ((nm.toList == f.nm.toList) && ((op == f.op) && (((lo == f.lo) && ((hi == f.hi) && (opn == f.opn))) && (decide (vars = f.vars) && (sameTs terms f.terms && (sameRs rgx f.rgx && sameFs subs f.subs))))))
def sameFs : List Fm → List Fm → Bool
  | [], [] => true
  | [], _ :: _ => false
  | _ :: _, [] => false
  | x :: l, y :: m => sameF x y && sameFs l m
def sameR : Rx → Rx → Bool
  | .mk k t s, r => (k == r.k) && (sameFs t r.test && sameRs s r.subs)
def sameRs : List Rx → List Rx → Bool
  | [], [] => true
  | [], _ :: _ => false
  | _ :: _, [] => false
  | x :: l, y :: m => sameR x y && sameRs l m
end
end
theorem sameF_eq (x f : Fm) : sameF x f = ((x.k == f.k) && ((x.nm.toList == f.nm.toList) && ((x.op == f.op) && (((x.lo == f.lo) && ((x.hi == f.hi) && (x.opn == f.opn))) && (decide (x.vars = f.vars) && (sameTs x.terms f.terms && (sameRs x.rgx f.rgx && sameFs x.subs f.subs))))))) := by
  cases x
  rw [sameF]
  rfl
theorem sameR_eq (x r : Rx) : sameR x r = ((x.k == r.k) && (sameFs x.test r.test && sameRs x.subs r.subs)) := by
  cases x
  rw [sameR]
  rfl
theorem sameFs_nil : sameFs [] [] = true := by rw [sameFs]
theorem sameFs_cons (x y : Fm) (l m : List Fm) : sameFs (x :: l) (y :: m) = (sameF x y && sameFs l m) := by rw [sameFs]
theorem sameFs_len : ∀ {xs ys : List Fm}, xs.length ≠ ys.length → sameFs xs ys = false
  | [], [], h => absurd rfl h
  | [], _ :: _, _ => by rw [sameFs]
  | _ :: _, [], _ => by rw [sameFs]
  | x :: xs, y :: ys, h => by rw [sameFs_cons, sameFs_len (fun e => h (by simp [e])), Bool.and_false]
theorem sameRs_nil : sameRs [] [] = true := by rw [sameRs]
theorem sameRs_cons (x y : Rx) (l m : List Rx) : sameRs (x :: l) (y :: m) = (sameR x y && sameRs l m) := by rw [sameRs]
theorem sameRs_len : ∀ {xs ys : List Rx}, xs.length ≠ ys.length → sameRs xs ys = false
  | [], [], h => absurd rfl h
  | [], _ :: _, _ => by rw [sameRs]
  | _ :: _, [], _ => by rw [sameRs]
  | x :: xs, y :: ys, h => by rw [sameRs_cons, sameRs_len (fun e => h (by simp [e])), Bool.and_false]

set_option maxRecDepth 100000 in
set_option maxHeartbeats 8000000 in
theorem eqfF_step (A B : Value) (xs ys : List Fm) (w : World) (hA : FmsAt w A xs) (hB : FmsAt w B ys) (HC : ∀ i (hi : i < xs.length) (hi' : i < ys.length) (q q' : FQ) (W : World), QAt w (xs[i], q) → QAt w (ys[i], q') → Below w.heap.size w W → Calls Try.prog 8 #[.agg #[.int .i64 xs[i].k, .string xs[i].nm, .int .i64 xs[i].op, q.v, q.t, .int .i64 xs[i].lo, .int .i64 xs[i].hi, .bool xs[i].opn, q.s, q.r], .agg #[.int .i64 ys[i].k, .string ys[i].nm, .int .i64 ys[i].op, q'.v, q'.t, .int .i64 ys[i].lo, .int .i64 ys[i].hi, .bool ys[i].opn, q'.s, q'.r]] W fun e w' => e = .returned (.bool (sameF xs[i] ys[i])) ∧ Below W.heap.size W w') :
    Calls Try.prog 32 #[A, B, .func (.func 8) #[] #[]] w fun e w' => e = .returned (.bool (sameFs xs ys)) ∧ Below w.heap.size w w' := by
  have eg : ∀ args w, (callFunc 8 args).run Try.prog w = .ok (.enter 8 args) w := enters_of Try.func8 (by kernel_rfl) rfl
  obtain ⟨p, c, rfl, lx, hc, HX0⟩ := hA.form
  obtain ⟨p', c', rfl, ly, hc', HY0⟩ := hB.form
  by_cases hl : xs.length = ys.length
  case neg =>
    have h2 : ((xs.length : Int) == ys.length) = false := by simp; omega
    have HS : Hid (sameFs xs ys = false) := sameFs_len hl
    clear HX0 HY0 hA hB HC
    generalize xs.length = n at *
    generalize ys.length = m at *
    go_enter Try.func32, Try.ntmps32
    go_wp2
    go_ret
    exact ⟨ret_bool HS.out.symm, by go_grown⟩
  have HX : Hid (∀ i (hi : i < xs.length), ∃ b off uv ut us ur, p = some ⟨b, off, none⟩ ∧ b < w.heap.size ∧ FmC w b (off + i * 10) xs[i] uv ut us ur ∧ NmsAt w uv xs[i].vars ∧ TmsAt w ut xs[i].terms ∧ FmsAt w us xs[i].subs ∧ RxsAt w ur xs[i].rgx) := HX0
  have HY : Hid (∀ i (hi : i < ys.length), ∃ b off uv ut us ur, p' = some ⟨b, off, none⟩ ∧ b < w.heap.size ∧ FmC w b (off + i * 10) ys[i] uv ut us ur ∧ NmsAt w uv ys[i].vars ∧ TmsAt w ut ys[i].terms ∧ FmsAt w us ys[i].subs ∧ RxsAt w ur ys[i].rgx) := HY0
  have HCC : Hid (∀ i (hi : i < xs.length) (hi' : i < ys.length) (q q' : FQ) (W : World), QAt w (xs[i], q) → QAt w (ys[i], q') → Below w.heap.size w W → Calls Try.prog 8 #[.agg #[.int .i64 xs[i].k, .string xs[i].nm, .int .i64 xs[i].op, q.v, q.t, .int .i64 xs[i].lo, .int .i64 xs[i].hi, .bool xs[i].opn, q.s, q.r], .agg #[.int .i64 ys[i].k, .string ys[i].nm, .int .i64 ys[i].op, q'.v, q'.t, .int .i64 ys[i].lo, .int .i64 ys[i].hi, .bool ys[i].opn, q'.s, q'.r]] W fun e w' => e = .returned (.bool (sameF xs[i] ys[i])) ∧ Below W.heap.size W w') := HC
  obtain ⟨n, en⟩ : ∃ n : Nat, Hid (xs.length = n) := ⟨_, rfl⟩
  have em : Hid (ys.length = n) := hl.symm.trans en.out
  rw [en.out] at lx hc ⊢
  rw [em.out] at hc' ⊢
  clear hA hB hl ly HX0 HY0 HC
  go_enter Try.func32, Try.ntmps32
  go_wp2
  go_loopw [17] (fun i wr => ∃ k : Nat, k ≤ n ∧ i = .int .i64 k ∧ Hid (sameFs xs ys = sameFs (xs.drop k) (ys.drop k)) ∧ Below w.heap.size w wr) (fun i _ => n - (intOf i).toNat)
  case atStart => exact ⟨0, Nat.zero_le _, rfl, (show sameFs xs ys = sameFs (xs.drop 0) (ys.drop 0) by simp), Below.refl _ _⟩
  case round =>
    obtain ⟨k, hk, rfl, hr, hB⟩ := hrel
    have hsz := hB.size
    by_cases hlt : k < n
    case neg =>
      have c2 : ¬ (k : Int) < n := by omega
      have hr3 : Hid (sameFs xs ys = true) := by
        have h := hr.out
        rw [List.drop_eq_nil_of_le (by have := en.out; omega), List.drop_eq_nil_of_le (by have := em.out; omega), sameFs_nil] at h
        exact h
      go_wp2
      go_ret
      exact ⟨ret_bool hr3.out.symm, hB⟩
    have hlt' : (k : Int) < n := by omega
    have kx : k < xs.length := by have := en.out; omega
    have ky : k < ys.length := by have := em.out; omega
    obtain ⟨b, off, uv, ut, us, ur, rfl, hb, TC, FV, FT, FS, FR⟩ := HX.out k kx
    obtain ⟨b', off', uv', ut', us', ur', rfl, hb', TC', FV', FT', FS', FR'⟩ := HY.out k ky
    obtain ⟨a0, a1, a2, a3, a4, a5, a6, a7, a8, a9⟩ := TC.below hB hb
    obtain ⟨b0, b1, b2, b3, b4, b5, b6, b7, b8, b9⟩ := TC'.below hB hb'
    have hbr : b < wr.heap.size := Nat.lt_of_lt_of_le hb hsz
    have hbr' : b' < wr.heap.size := Nat.lt_of_lt_of_le hb' hsz
    have hr2 : Hid (sameFs xs ys = (sameF xs[k] ys[k] && sameFs (xs.drop (k + 1)) (ys.drop (k + 1)))) := by
      have h := hr.out
      rw [List.drop_eq_getElem_cons kx, List.drop_eq_getElem_cons ky, sameFs_cons] at h
      exact h
    have ct : Hid (∀ W : World, Below w.heap.size w W → Calls Try.prog 8 #[.agg #[.int .i64 xs[k].k, .string xs[k].nm, .int .i64 xs[k].op, uv, ut, .int .i64 xs[k].lo, .int .i64 xs[k].hi, .bool xs[k].opn, us, ur], .agg #[.int .i64 ys[k].k, .string ys[k].nm, .int .i64 ys[k].op, uv', ut', .int .i64 ys[k].lo, .int .i64 ys[k].hi, .bool ys[k].opn, us', ur']] W fun e w' => e = .returned (.bool (sameF xs[k] ys[k])) ∧ Below W.heap.size W w') := fun W hW => HCC.out k kx ky ⟨uv, ut, us, ur⟩ ⟨uv', ut', us', ur'⟩ W ⟨FV, FT, FS, FR⟩ ⟨FV', FT', FS', FR'⟩ hW
    clear hr TC TC'
    obtain ⟨-, pv, cv, rfl, -⟩ := FV
    obtain ⟨pt, ct, rfl, -⟩ := FT.form
    obtain ⟨ps, cs, rfl, -⟩ := FS.form
    obtain ⟨pr, cr, rfl, -⟩ := FR.form
    obtain ⟨-, pv', cv', rfl, -⟩ := FV'
    obtain ⟨pt', ct', rfl, -⟩ := FT'.form
    obtain ⟨ps', cs', rfl, -⟩ := FS'.form
    obtain ⟨pr', cr', rfl, -⟩ := FR'.form
    clear FT FS FR FT' FS' FR'
    generalize sameF xs[k] ys[k] = C at *
    generalize xs[k].k = xg_k at *
    generalize ys[k].k = yg_k at *
    generalize xs[k].nm = xg_nm at *
    generalize ys[k].nm = yg_nm at *
    generalize xs[k].op = xg_op at *
    generalize ys[k].op = yg_op at *
    generalize xs[k].lo = xg_lo at *
    generalize ys[k].lo = yg_lo at *
    generalize xs[k].hi = xg_hi at *
    generalize ys[k].hi = yg_hi at *
    generalize xs[k].opn = xg_opn at *
    generalize ys[k].opn = yg_opn at *
    generalize xs[k].vars.length = xg_varslength at *
    generalize ys[k].vars.length = yg_varslength at *
    generalize xs[k].terms.length = xg_termslength at *
    generalize ys[k].terms.length = yg_termslength at *
    generalize xs[k].subs.length = xg_subslength at *
    generalize ys[k].subs.length = yg_subslength at *
    generalize xs[k].rgx.length = xg_rgxlength at *
    generalize ys[k].rgx.length = yg_rgxlength at *
    go_wp2_with fail
    refine (ct.out _ (hB.trans (by go_grown))).mono ?_
    rintro e w1 ⟨rfl, hw1⟩
    obtain ⟨hw2, hn2⟩ := bgX (n := wr.heap.size) (W0 := wr) (by go_grown) (by go_size) hw1
    have hB2 : Hid (Below w.heap.size w w1) := hB.trans (hw2.mono hsz)
    clear a0 a1 a2 a3 a4 a5 a6 a7 a8 a9 b0 b1 b2 b3 b4 b5 b6 b7 b8 b9 ct hw1 hw2 hn2
    cases C with
    | true =>
      have hr3 : Hid (sameFs xs ys = sameFs (xs.drop (k + 1)) (ys.drop (k + 1))) := by have := hr2.out; rwa [Bool.true_and] at this
      go_wp2
      exact ⟨⟨k + 1, by omega, by go_num, hr3, hB2.out⟩, by simp [intOf]; omega⟩
    | false =>
      have hr3 : Hid (sameFs xs ys = false) := by have := hr2.out; rwa [Bool.false_and] at this
      go_wp2
      go_ret
      exact ⟨ret_bool hr3.out.symm, hB2.out⟩

set_option maxRecDepth 100000 in
set_option maxHeartbeats 8000000 in
theorem eqfR_step (A B : Value) (xs ys : List Rx) (w : World) (hA : RxsAt w A xs) (hB : RxsAt w B ys) (HC : ∀ i (hi : i < xs.length) (hi' : i < ys.length) (ut us ut' us' : Value) (W : World), FmsAt w ut xs[i].test → RxsAt w us xs[i].subs → FmsAt w ut' ys[i].test → RxsAt w us' ys[i].subs → Below w.heap.size w W → Calls Try.prog 31 #[.agg #[.int .i64 xs[i].k, ut, us], .agg #[.int .i64 ys[i].k, ut', us']] W fun e w' => e = .returned (.bool (sameR xs[i] ys[i])) ∧ Below W.heap.size W w') :
    Calls Try.prog 30 #[A, B, .func (.func 31) #[] #[]] w fun e w' => e = .returned (.bool (sameRs xs ys)) ∧ Below w.heap.size w w' := by
  have eg : ∀ args w, (callFunc 31 args).run Try.prog w = .ok (.enter 31 args) w := enters_of Try.func31 (by kernel_rfl) rfl
  obtain ⟨p, c, rfl, lx, hc, HX0⟩ := hA.form
  obtain ⟨p', c', rfl, ly, hc', HY0⟩ := hB.form
  by_cases hl : xs.length = ys.length
  case neg =>
    have h2 : ((xs.length : Int) == ys.length) = false := by simp; omega
    have HS : Hid (sameRs xs ys = false) := sameRs_len hl
    clear HX0 HY0 hA hB HC
    generalize xs.length = n at *
    generalize ys.length = m at *
    go_enter Try.func30, Try.ntmps30
    go_wp2
    go_ret
    exact ⟨ret_bool HS.out.symm, by go_grown⟩
  have HX : Hid (∀ i (hi : i < xs.length), ∃ b off ut us, p = some ⟨b, off, none⟩ ∧ b < w.heap.size ∧ RxC w b (off + i * 3) xs[i] ut us ∧ FmsAt w ut xs[i].test ∧ RxsAt w us xs[i].subs) := HX0
  have HY : Hid (∀ i (hi : i < ys.length), ∃ b off ut us, p' = some ⟨b, off, none⟩ ∧ b < w.heap.size ∧ RxC w b (off + i * 3) ys[i] ut us ∧ FmsAt w ut ys[i].test ∧ RxsAt w us ys[i].subs) := HY0
  have HCC : Hid (∀ i (hi : i < xs.length) (hi' : i < ys.length) (ut us ut' us' : Value) (W : World), FmsAt w ut xs[i].test → RxsAt w us xs[i].subs → FmsAt w ut' ys[i].test → RxsAt w us' ys[i].subs → Below w.heap.size w W → Calls Try.prog 31 #[.agg #[.int .i64 xs[i].k, ut, us], .agg #[.int .i64 ys[i].k, ut', us']] W fun e w' => e = .returned (.bool (sameR xs[i] ys[i])) ∧ Below W.heap.size W w') := HC
  obtain ⟨n, en⟩ : ∃ n : Nat, Hid (xs.length = n) := ⟨_, rfl⟩
  have em : Hid (ys.length = n) := hl.symm.trans en.out
  rw [en.out] at lx hc ⊢
  rw [em.out] at hc' ⊢
  clear hA hB hl ly HX0 HY0 HC
  go_enter Try.func30, Try.ntmps30
  go_wp2
  go_loopw [17] (fun i wr => ∃ k : Nat, k ≤ n ∧ i = .int .i64 k ∧ Hid (sameRs xs ys = sameRs (xs.drop k) (ys.drop k)) ∧ Below w.heap.size w wr) (fun i _ => n - (intOf i).toNat)
  case atStart => exact ⟨0, Nat.zero_le _, rfl, (show sameRs xs ys = sameRs (xs.drop 0) (ys.drop 0) by simp), Below.refl _ _⟩
  case round =>
    obtain ⟨k, hk, rfl, hr, hB⟩ := hrel
    have hsz := hB.size
    by_cases hlt : k < n
    case neg =>
      have c2 : ¬ (k : Int) < n := by omega
      have hr3 : Hid (sameRs xs ys = true) := by
        have h := hr.out
        rw [List.drop_eq_nil_of_le (by have := en.out; omega), List.drop_eq_nil_of_le (by have := em.out; omega), sameRs_nil] at h
        exact h
      go_wp2
      go_ret
      exact ⟨ret_bool hr3.out.symm, hB⟩
    have hlt' : (k : Int) < n := by omega
    have kx : k < xs.length := by have := en.out; omega
    have ky : k < ys.length := by have := em.out; omega
    obtain ⟨b, off, ut, us, rfl, hb, TC, TT, TS⟩ := HX.out k kx
    obtain ⟨b', off', ut', us', rfl, hb', TC', TT', TS'⟩ := HY.out k ky
    obtain ⟨a0, a1, a2⟩ := TC.below hB hb
    obtain ⟨b0, b1, b2⟩ := TC'.below hB hb'
    have hbr : b < wr.heap.size := Nat.lt_of_lt_of_le hb hsz
    have hbr' : b' < wr.heap.size := Nat.lt_of_lt_of_le hb' hsz
    have hr2 : Hid (sameRs xs ys = (sameR xs[k] ys[k] && sameRs (xs.drop (k + 1)) (ys.drop (k + 1)))) := by
      have h := hr.out
      rw [List.drop_eq_getElem_cons kx, List.drop_eq_getElem_cons ky, sameRs_cons] at h
      exact h
    have ct : Hid (∀ W : World, Below w.heap.size w W → Calls Try.prog 31 #[.agg #[.int .i64 xs[k].k, ut, us], .agg #[.int .i64 ys[k].k, ut', us']] W fun e w' => e = .returned (.bool (sameR xs[k] ys[k])) ∧ Below W.heap.size W w') := fun W hW => HCC.out k kx ky ut us ut' us' W TT TS TT' TS' hW
    clear hr TC TC'
    obtain ⟨pt, ct, rfl, -⟩ := TT.form
    obtain ⟨ps, cs, rfl, -⟩ := TS.form
    obtain ⟨pt', ct', rfl, -⟩ := TT'.form
    obtain ⟨ps', cs', rfl, -⟩ := TS'.form
    clear TT TS TT' TS'
    generalize sameR xs[k] ys[k] = C at *
    generalize xs[k].k = xg_k at *
    generalize ys[k].k = yg_k at *
    generalize xs[k].test.length = xg_testlength at *
    generalize ys[k].test.length = yg_testlength at *
    generalize xs[k].subs.length = xg_subslength at *
    generalize ys[k].subs.length = yg_subslength at *
    go_wp2_with fail
    refine (ct.out _ (hB.trans (by go_grown))).mono ?_
    rintro e w1 ⟨rfl, hw1⟩
    obtain ⟨hw2, hn2⟩ := bgX (n := wr.heap.size) (W0 := wr) (by go_grown) (by go_size) hw1
    have hB2 : Hid (Below w.heap.size w w1) := hB.trans (hw2.mono hsz)
    clear a0 a1 a2 b0 b1 b2 ct hw1 hw2 hn2
    cases C with
    | true =>
      have hr3 : Hid (sameRs xs ys = sameRs (xs.drop (k + 1)) (ys.drop (k + 1))) := by have := hr2.out; rwa [Bool.true_and] at this
      go_wp2
      exact ⟨⟨k + 1, by omega, by go_num, hr3, hB2.out⟩, by simp [intOf]; omega⟩
    | false =>
      have hr3 : Hid (sameRs xs ys = false) := by have := hr2.out; rwa [Bool.false_and] at this
      go_wp2
      go_ret
      exact ⟨ret_bool hr3.out.symm, hB2.out⟩

theorem eqS_any (A B : Value) (xs ys : List ByteArray) (w : World) (hA : NmsAt w A xs) (hB : NmsAt w B ys) : Calls Try.prog 27 #[A, B] w fun e w' => e = .returned (.bool (decide (xs = ys))) ∧ Below w.heap.size w w' := by
  obtain ⟨lx, p, c, rfl, hc, hx⟩ := hA
  obtain ⟨ly, p', c', rfl, hc', hy⟩ := hB
  by_cases hl : xs.length = ys.length
  case neg =>
    refine (Try.slices_Equal_string_lens p p' xs.length c ys.length c' w hl).mono fun e w' ⟨h1, h2⟩ => ⟨?_, by rw [h2]; exact Below.refl _ _⟩
    rw [h1, show decide (xs = ys) = false from decide_eq_false (fun h => hl (by rw [h]))]
  rcases hx with hx | ⟨b, off, rfl, hb, cx⟩
  · subst hx
    refine (Try.slices_Equal_string_empty p p' c ys.length c' w ly).mono fun e w' ⟨h1, h2⟩ => ⟨?_, by rw [h2]; exact Below.refl _ _⟩
    have : ys = [] := List.length_eq_zero_iff.1 (by simpa using hl.symm)
    rw [h1, this]
    rfl
  · rcases hy with hy | ⟨b', off', rfl, hb', cy⟩
    · subst hy
      have : xs = [] := List.length_eq_zero_iff.1 (by simpa using hl)
      subst this
      refine (Try.slices_Equal_string_empty _ p' c 0 c' w (by simp)).mono fun e w' ⟨h1, h2⟩ => ⟨?_, by rw [h2]; exact Below.refl _ _⟩
      rw [h1]
      rfl
    · refine (Try.slices_Equal_string b off xs.length c b' off' ys.length c' xs ys w (Nat.le_refl _) (Nat.le_refl _) lx ly (fun j hj => by rw [getD_lt _ _ _ hj]; exact cx j hj) (fun j hj => by rw [getD_lt _ _ _ hj]; exact cy j hj)).mono fun e w' ⟨h1, q, h2⟩ => ⟨?_, by rw [h2]; exact bdrewA _ (Below.refl _ _)⟩
      rw [h1, List.take_length, List.take_length]

set_option maxRecDepth 100000 in
set_option maxHeartbeats 8000000 in
theorem samer_step (x y : Rx) (ut us vt vs : Value) (w : World) (h1 : FmsAt w ut x.test) (h2 : RxsAt w us x.subs) (h3 : FmsAt w vt y.test) (h4 : RxsAt w vs y.subs) (IF : ∀ W : World, Below w.heap.size w W → Calls Try.prog 32 #[ut, vt, .func (.func 8) #[] #[]] W fun e w' => e = .returned (.bool (sameFs x.test y.test)) ∧ Below W.heap.size W w') (IR : ∀ W : World, Below w.heap.size w W → Calls Try.prog 30 #[us, vs, .func (.func 31) #[] #[]] W fun e w' => e = .returned (.bool (sameRs x.subs y.subs)) ∧ Below W.heap.size W w') :
    Calls Try.prog 31 #[.agg #[.int .i64 x.k, ut, us], .agg #[.int .i64 y.k, vt, vs]] w fun e w' => e = .returned (.bool (sameR x y)) ∧ Below w.heap.size w w' := by
  have cF : Hid (∀ W : World, Below w.heap.size w W → Calls Try.prog 32 #[ut, vt, .func (.func 8) #[] #[]] W fun e w' => e = .returned (.bool (sameFs x.test y.test)) ∧ Below W.heap.size W w') := IF
  have cR : Hid (∀ W : World, Below w.heap.size w W → Calls Try.prog 30 #[us, vs, .func (.func 31) #[] #[]] W fun e w' => e = .returned (.bool (sameRs x.subs y.subs)) ∧ Below W.heap.size W w') := IR
  have hE : Hid (sameR x y = ((x.k == y.k) && (sameFs x.test y.test && sameRs x.subs y.subs))) := sameR_eq x y
  obtain ⟨pt, ct, rfl, -⟩ := h1.form
  obtain ⟨ps, cs, rfl, -⟩ := h2.form
  obtain ⟨pt', ct', rfl, -⟩ := h3.form
  obtain ⟨ps', cs', rfl, -⟩ := h4.form
  clear h1 h2 h3 h4 IF IR
  generalize sameR x y = R at *
  generalize sameFs x.test y.test = C at *
  generalize sameRs x.subs y.subs = D at *
  generalize x.test.length = nt at *
  generalize x.subs.length = ns at *
  generalize y.test.length = nt' at *
  generalize y.subs.length = ns' at *
  generalize x.k = k at *
  generalize y.k = k' at *
  by_cases h1 : (k == k') = true
  case neg =>
    have h1' : (k == k') = false := by simpa using h1
    have hR : Hid (R = false) := by have h := hE.out; rw [h1'] at h; simp at h; exact h
    clear h1
    go_enter Try.func31, Try.ntmps31
    go_wp2
    go_ret
    exact ⟨ret_bool hR.out.symm, by go_grown⟩
  go_enter Try.func31, Try.ntmps31
  go_wp2_with fail
  refine (cF.out _ (by go_grown)).mono ?_
  rintro e w1 ⟨rfl, hw1⟩
  obtain ⟨hB1, hn1⟩ := bgX (n := w.heap.size) (W0 := w) (by go_grown) (by go_size) hw1
  have e2 : w1.cell? ⟨w.heap.size, 2, none⟩ = some (.slice ps ns cs) := (hw1.cell (p := ⟨w.heap.size, 2, none⟩) (by first | (simp; done) | (simp; omega))).trans (by simp [go_sem])
  have g2 : w1.cell? ⟨w.heap.size + 1, 2, none⟩ = some (.slice ps' ns' cs') := (hw1.cell (p := ⟨w.heap.size + 1, 2, none⟩) (by first | (simp; done) | (simp; omega))).trans (by simp [go_sem])
  clear hw1 cF
  cases C with
  | false =>
    have hR : Hid (R = false) := by have h := hE.out; simp at h; exact h
    go_wp2
    go_ret
    exact ⟨ret_bool hR.out.symm, hB1⟩
  | true =>
    have hR : Hid (R = D) := by have h := hE.out; rw [h1] at h; simp at h; exact h
    go_wp2_with fail
    refine (cR.out _ hB1).mono ?_
    rintro e w2 ⟨rfl, hw2⟩
    have hB2 : Below w.heap.size w w2 := hB1.trans (hw2.mono hn1)
    clear hw2 cR e2 g2
    cases D with
    | false =>
      go_wp2
      go_ret
      exact ⟨ret_bool hR.out.symm, hB2⟩
    | true =>
      go_wp2
      go_ret
      exact ⟨ret_bool hR.out.symm, hB2⟩

set_option maxRecDepth 100000 in
set_option maxHeartbeats 8000000 in
theorem samef_step (x y : Fm) (q q' : FQ) (w : World) (hq : QAt w (x, q)) (hq' : QAt w (y, q')) (IF : ∀ W : World, Below w.heap.size w W → Calls Try.prog 32 #[q.s, q'.s, .func (.func 8) #[] #[]] W fun e w' => e = .returned (.bool (sameFs x.subs y.subs)) ∧ Below W.heap.size W w') (IR : ∀ W : World, Below w.heap.size w W → Calls Try.prog 30 #[q.r, q'.r, .func (.func 31) #[] #[]] W fun e w' => e = .returned (.bool (sameRs x.rgx y.rgx)) ∧ Below W.heap.size W w') :
    Calls Try.prog 8 #[.agg #[.int .i64 x.k, .string x.nm, .int .i64 x.op, q.v, q.t, .int .i64 x.lo, .int .i64 x.hi, .bool x.opn, q.s, q.r], .agg #[.int .i64 y.k, .string y.nm, .int .i64 y.op, q'.v, q'.t, .int .i64 y.lo, .int .i64 y.hi, .bool y.opn, q'.s, q'.r]] w fun e w' => e = .returned (.bool (sameF x y)) ∧ Below w.heap.size w w' := by
  have cV : Hid (∀ W : World, Below w.heap.size w W → Calls Try.prog 27 #[q.v, q'.v] W fun e w' => e = .returned (.bool (decide (x.vars = y.vars))) ∧ Below W.heap.size W w') := fun W hW => eqS_any _ _ _ _ W (hq.1.below hW) (hq'.1.below hW)
  have cT : Hid (∀ W : World, Below w.heap.size w W → Calls Try.prog 28 #[q.t, q'.t, .func (.func 29) #[] #[]] W fun e w' => e = .returned (.bool (sameTs x.terms y.terms)) ∧ Below W.heap.size W w') := fun W hW => same_tms _ _ _ _ _ W (Nat.le_refl _) (hq.2.1.bel hW) (hq'.2.1.bel hW)
  have cR : Hid (∀ W : World, Below w.heap.size w W → Calls Try.prog 30 #[q.r, q'.r, .func (.func 31) #[] #[]] W fun e w' => e = .returned (.bool (sameRs x.rgx y.rgx)) ∧ Below W.heap.size W w') := IR
  have cF : Hid (∀ W : World, Below w.heap.size w W → Calls Try.prog 32 #[q.s, q'.s, .func (.func 8) #[] #[]] W fun e w' => e = .returned (.bool (sameFs x.subs y.subs)) ∧ Below W.heap.size W w') := IF
  have hE : Hid (sameF x y = ((x.k == y.k) && ((x.nm.toList == y.nm.toList) && ((x.op == y.op) && (((x.lo == y.lo) && ((x.hi == y.hi) && (x.opn == y.opn))) && (decide (x.vars = y.vars) && (sameTs x.terms y.terms && (sameRs x.rgx y.rgx && sameFs x.subs y.subs)))))))) := sameF_eq x y
  obtain ⟨uv, ut, us, ur⟩ := q
  obtain ⟨uv', ut', us', ur'⟩ := q'
  obtain ⟨h1, h2, h3, h4⟩ := hq
  obtain ⟨h1', h2', h3', h4'⟩ := hq'
  dsimp only at h1 h2 h3 h4 h1' h2' h3' h4' cV cT cR cF ⊢
  obtain ⟨-, pv, cv, rfl, -⟩ := h1
  obtain ⟨pt, ct, rfl, -⟩ := h2.form
  obtain ⟨ps, cs, rfl, -⟩ := h3.form
  obtain ⟨pr, cr, rfl, -⟩ := h4.form
  obtain ⟨-, pv', cv', rfl, -⟩ := h1'
  obtain ⟨pt', ct', rfl, -⟩ := h2'.form
  obtain ⟨ps', cs', rfl, -⟩ := h3'.form
  obtain ⟨pr', cr', rfl, -⟩ := h4'.form
  clear h2 h3 h4 h2' h3' h4' IF IR
  generalize sameF x y = R at *
  generalize sameFs x.subs y.subs = C4 at *
  generalize sameRs x.rgx y.rgx = C3 at *
  generalize sameTs x.terms y.terms = C2 at *
  generalize decide (x.vars = y.vars) = C1 at *
  generalize x.vars.length = nv at *
  generalize y.vars.length = nv' at *
  generalize x.terms.length = nt at *
  generalize y.terms.length = nt' at *
  generalize x.subs.length = ns at *
  generalize y.subs.length = ns' at *
  generalize x.rgx.length = nr at *
  generalize y.rgx.length = nr' at *
  generalize x.lo = lo at *
  generalize y.lo = lo' at *
  generalize x.hi = hi at *
  generalize y.hi = hi' at *
  generalize x.nm = nm at *
  generalize y.nm = nm' at *
  generalize x.opn = o at *
  generalize y.opn = o' at *
  generalize x.op = op at *
  generalize y.op = op' at *
  generalize x.k = k at *
  generalize y.k = k' at *
  by_cases h1 : (k == k') = true
  case neg =>
    have hf : (k == k') = false := by simpa using h1
    have hR : Hid (R = false) := by have h := hE.out; rw [hf] at h; simp at h; exact h
    clear h1
    go_enter Try.func8, Try.ntmps8
    go_wp2
    go_ret
    exact ⟨ret_bool hR.out.symm, by go_grown⟩
  by_cases h2 : (nm.toList == nm'.toList) = true
  case neg =>
    have hf : (nm.toList == nm'.toList) = false := by simpa using h2
    have hR : Hid (R = false) := by have h := hE.out; rw [hf] at h; simp at h; exact h
    clear h2
    go_enter Try.func8, Try.ntmps8
    go_wp2
    go_ret
    exact ⟨ret_bool hR.out.symm, by go_grown⟩
  by_cases h3 : (op == op') = true
  case neg =>
    have hf : (op == op') = false := by simpa using h3
    have hR : Hid (R = false) := by have h := hE.out; rw [hf] at h; simp at h; exact h
    clear h3
    go_enter Try.func8, Try.ntmps8
    go_wp2
    go_ret
    exact ⟨ret_bool hR.out.symm, by go_grown⟩
  by_cases h4l : lo = lo'
  case neg =>
    have hf : (lo == lo') = false := by simpa using h4l
    have hR : Hid (R = false) := by have h := hE.out; rw [hf] at h; simp at h; exact h
    go_enter Try.func8, Try.ntmps8
    go_wp2
    all_goals (go_ret; exact ⟨ret_bool hR.out.symm, by go_grown⟩)
  subst h4l
  by_cases h4h : hi = hi'
  case neg =>
    have hf : (hi == hi') = false := by simpa using h4h
    have hR : Hid (R = false) := by have h := hE.out; rw [hf] at h; simp at h; exact h
    go_enter Try.func8, Try.ntmps8
    go_wp2
    all_goals (go_ret; exact ⟨ret_bool hR.out.symm, by go_grown⟩)
  subst h4h
  by_cases h4o : o = o'
  case neg =>
    have hf : (o == o') = false := by simpa using h4o
    have hR : Hid (R = false) := by have h := hE.out; rw [hf] at h; simp at h; exact h
    go_enter Try.func8, Try.ntmps8
    go_wp2
    all_goals (go_ret; exact ⟨ret_bool hR.out.symm, by go_grown⟩)
  subst h4o
  have hR0 : Hid (R = (C1 && (C2 && (C3 && C4)))) := by have h := hE.out; rw [h1, h2, h3] at h; simp only [beq_self_eq_true, Bool.true_and] at h; exact h
  clear hE
  go_enter Try.func8, Try.ntmps8
  go_wp2_with (go_at_call 27; refine (cV.out _ (by go_grown)).mono ?_)
  rintro e w1 ⟨rfl, hw1⟩
  obtain ⟨hB1, hn1⟩ := bgX (n := w.heap.size) (W0 := w) (by go_grown) (by go_size) hw1
  have hz1 : w.heap.size + 1 < w1.heap.size := by have := hw1.size; simp at this; omega
  have e4 : w1.cell? ⟨w.heap.size, 4, none⟩ = some (.slice pt nt ct) := (hw1.cell (p := ⟨w.heap.size, 4, none⟩) (by first | (simp; done) | (simp; omega))).trans (by simp [go_sem])
  have g4 : w1.cell? ⟨w.heap.size + 1, 4, none⟩ = some (.slice pt' nt' ct') := (hw1.cell (p := ⟨w.heap.size + 1, 4, none⟩) (by first | (simp; done) | (simp; omega))).trans (by simp [go_sem])
  have e9 : w1.cell? ⟨w.heap.size, 9, none⟩ = some (.slice pr nr cr) := (hw1.cell (p := ⟨w.heap.size, 9, none⟩) (by first | (simp; done) | (simp; omega))).trans (by simp [go_sem])
  have g9 : w1.cell? ⟨w.heap.size + 1, 9, none⟩ = some (.slice pr' nr' cr') := (hw1.cell (p := ⟨w.heap.size + 1, 9, none⟩) (by first | (simp; done) | (simp; omega))).trans (by simp [go_sem])
  have e8 : w1.cell? ⟨w.heap.size, 8, none⟩ = some (.slice ps ns cs) := (hw1.cell (p := ⟨w.heap.size, 8, none⟩) (by first | (simp; done) | (simp; omega))).trans (by simp [go_sem])
  have g8 : w1.cell? ⟨w.heap.size + 1, 8, none⟩ = some (.slice ps' ns' cs') := (hw1.cell (p := ⟨w.heap.size + 1, 8, none⟩) (by first | (simp; done) | (simp; omega))).trans (by simp [go_sem])
  clear hw1 cV
  cases C1 with
  | false =>
    have hR : Hid (R = false) := by have h := hR0.out; simp at h; exact h
    go_wp2
    go_ret
    exact ⟨ret_bool hR.out.symm, hB1⟩
  | true =>
    go_wp2_with fail
    refine (cT.out _ hB1).mono ?_
    rintro e w2 ⟨rfl, hw2⟩
    have hB2 : Below w.heap.size w w2 := hB1.trans (hw2.mono hn1)
    have hn2 : w.heap.size ≤ w2.heap.size := hB2.size
    have hz2 : w.heap.size + 1 < w2.heap.size := Nat.lt_of_lt_of_le hz1 hw2.size
    have e9 : w2.cell? ⟨w.heap.size, 9, none⟩ = some (.slice pr nr cr) := (hw2.cell (p := ⟨w.heap.size, 9, none⟩) (by show w.heap.size < _; omega)).trans (e9)
    have g9 : w2.cell? ⟨w.heap.size + 1, 9, none⟩ = some (.slice pr' nr' cr') := (hw2.cell (p := ⟨w.heap.size + 1, 9, none⟩) (by show w.heap.size + 1 < _; omega)).trans (g9)
    have e8 : w2.cell? ⟨w.heap.size, 8, none⟩ = some (.slice ps ns cs) := (hw2.cell (p := ⟨w.heap.size, 8, none⟩) (by show w.heap.size < _; omega)).trans (e8)
    have g8 : w2.cell? ⟨w.heap.size + 1, 8, none⟩ = some (.slice ps' ns' cs') := (hw2.cell (p := ⟨w.heap.size + 1, 8, none⟩) (by show w.heap.size + 1 < _; omega)).trans (g8)
    clear hw2 cT
    cases C2 with
    | false =>
      have hR : Hid (R = false) := by have h := hR0.out; simp at h; exact h
      go_wp2
      go_ret
      exact ⟨ret_bool hR.out.symm, hB2⟩
    | true =>
      go_wp2_with fail
      refine (cR.out _ hB2).mono ?_
      rintro e w3 ⟨rfl, hw3⟩
      have hB3 : Below w.heap.size w w3 := hB2.trans (hw3.mono hn2)
      have hn3 : w.heap.size ≤ w3.heap.size := hB3.size
      have hz3 : w.heap.size + 1 < w3.heap.size := Nat.lt_of_lt_of_le hz2 hw3.size
      have e8 : w3.cell? ⟨w.heap.size, 8, none⟩ = some (.slice ps ns cs) := (hw3.cell (p := ⟨w.heap.size, 8, none⟩) (by show w.heap.size < _; omega)).trans (e8)
      have g8 : w3.cell? ⟨w.heap.size + 1, 8, none⟩ = some (.slice ps' ns' cs') := (hw3.cell (p := ⟨w.heap.size + 1, 8, none⟩) (by show w.heap.size + 1 < _; omega)).trans (g8)
      clear hw3 cR
      cases C3 with
      | false =>
        have hR : Hid (R = false) := by have h := hR0.out; simp at h; exact h
        go_wp2
        go_ret
        exact ⟨ret_bool hR.out.symm, hB3⟩
      | true =>
        go_wp2_with fail
        refine (cF.out _ hB3).mono ?_
        rintro e w4 ⟨rfl, hw4⟩
        have hB4 : Below w.heap.size w w4 := hB3.trans (hw4.mono hn3)
        have hn4 : w.heap.size ≤ w4.heap.size := hB4.size
        have hz4 : w.heap.size + 1 < w4.heap.size := Nat.lt_of_lt_of_le hz3 hw4.size
        clear hw4 cF
        cases C4 with
        | false =>
          have hR : Hid (R = false) := by have h := hR0.out; simp at h; exact h
          go_wp2
          go_ret
          exact ⟨ret_bool hR.out.symm, hB4⟩
        | true =>
          have hR : Hid (R = true) := by have h := hR0.out; simp at h; exact h
          go_wp2
          go_ret
          exact ⟨ret_bool hR.out.symm, hB4⟩

theorem both_same : ∀ m : Nat, (∀ (xs ys : List Fm) (A B : Value) (w : World), SizeOf.sizeOf xs ≤ m → FmsAt w A xs → FmsAt w B ys → Calls Try.prog 32 #[A, B, .func (.func 8) #[] #[]] w fun e w' => e = .returned (.bool (sameFs xs ys)) ∧ Below w.heap.size w w') ∧ (∀ (xs ys : List Rx) (A B : Value) (w : World), SizeOf.sizeOf xs ≤ m → RxsAt w A xs → RxsAt w B ys → Calls Try.prog 30 #[A, B, .func (.func 31) #[] #[]] w fun e w' => e = .returned (.bool (sameRs xs ys)) ∧ Below w.heap.size w w') := by
  intro m
  induction m with
  | zero => exact ⟨fun xs ys A B w hm => by cases xs <;> simp at hm, fun xs ys A B w hm => by cases xs <;> simp at hm⟩
  | succ m ih =>
    refine ⟨fun xs ys A B w hm hA hB => eqfF_step A B xs ys w hA hB fun i hi hi' q q' W h1 h2 hW => ?_, fun xs ys A B w hm hA hB => eqfR_step A B xs ys w hA hB fun i hi hi' ut us ut' us' W h1 h2 h3 h4 hW => ?_⟩
    · have s := mem_lt i hi
      have k1 := h1.below hW
      have k2 := h2.below hW
      exact samef_step xs[i] ys[i] q q' W k1 k2 (fun W' hW' => ih.1 _ _ _ _ W' (by have := Fm.subs_lt xs[i]; omega) (k1.2.2.1.bel hW') (k2.2.2.1.bel hW')) (fun W' hW' => ih.2 _ _ _ _ W' (by have := Fm.rgx_lt xs[i]; omega) (k1.2.2.2.bel hW') (k2.2.2.2.bel hW'))
    · have s := mem_lt i hi
      exact samer_step xs[i] ys[i] ut us ut' us' W (h1.bel hW) (h2.bel hW) (h3.bel hW) (h4.bel hW) (fun W' hW' => ih.1 _ _ _ _ W' (by have := Rx.test_lt xs[i]; omega) ((h1.bel hW).bel hW') ((h3.bel hW).bel hW')) (fun W' hW' => ih.2 _ _ _ _ W' (by have := Rx.subs_lt xs[i]; omega) ((h2.bel hW).bel hW') ((h4.bel hW).bel hW'))
/-- Same, at any two formulas. -/
theorem same_fm (x y : Fm) (q q' : FQ) (w : World) (hq : QAt w (x, q)) (hq' : QAt w (y, q')) :
    Calls Try.prog 8 #[.agg #[.int .i64 x.k, .string x.nm, .int .i64 x.op, q.v, q.t, .int .i64 x.lo, .int .i64 x.hi, .bool x.opn, q.s, q.r], .agg #[.int .i64 y.k, .string y.nm, .int .i64 y.op, q'.v, q'.t, .int .i64 y.lo, .int .i64 y.hi, .bool y.opn, q'.s, q'.r]] w fun e w' => e = .returned (.bool (sameF x y)) ∧ Below w.heap.size w w' :=
  samef_step x y q q' w hq hq' (fun W hW => (both_same _).1 _ _ _ _ W (Nat.le_refl _) (hq.2.2.1.bel hW) (hq'.2.2.1.bel hW)) (fun W hW => (both_same _).2 _ _ _ _ W (Nat.le_refl _) (hq.2.2.2.bel hW) (hq'.2.2.2.bel hW))

end Go.Proofs.Ytfajjphfjilpnab

namespace Go.Proofs.Ytfajjphfjilpnab
open Go.RowKit LX Go.Shelf
set_option linter.unusedVariables false

/-- Formulas in a slice; what stands within them lies in the memory told. -/
def PtsAt (w0 w : World) (v : Value) (fs : List Fm) : Prop := ∃ p c, v = .slice p fs.length c ∧ fs.length ≤ 9223372036854775807 ∧ fs.length ≤ c ∧ ∀ i (hi : i < fs.length), ∃ b off q, p = some ⟨b, off, none⟩ ∧ b < w.heap.size ∧ FmC w b (off + i * 10) fs[i] q.v q.t q.s q.r ∧ QAt w0 (fs[i], q)
theorem fms_pts {w0 w : World} {v : Value} {fs : List Fm} (h : FmsAt w0 v fs) (hb : Below w0.heap.size w0 w) : PtsAt w0 w v fs := by
  obtain ⟨p, c, e, h1, h2, h3⟩ := h.form
  refine ⟨p, c, e, h1, h2, fun i hi => ?_⟩
  obtain ⟨b, off, uv, ut, us, ur, e1, e2, e3, e4, e5, e6, e7⟩ := h3 i hi
  exact ⟨b, off, ⟨uv, ut, us, ur⟩, e1, Nat.lt_of_lt_of_le e2 hb.size, e3.below hb e2, e4, e5, e6, e7⟩
theorem OwnF.pts {w0 : World} {B : Nat} {v : Value} {L : List Fm} {w : World} (h : OwnF w0 B v L w) (hl : L.length ≤ 9223372036854775807) : PtsAt w0 w v L := by
  obtain ⟨ps, h1, h2, h3⟩ := h
  have h' := h3
  have hlen : ps.length = L.length := by rw [← h1, List.length_map]
  obtain ⟨hl2, ⟨e, hn⟩ | ⟨g, cap, cur, rfl, hg1, hg2, hg3, hg4, hg5, hg6⟩⟩ := h3
  · exact ⟨none, 0, by rw [e, hn], hl, by omega, fun i hi => by omega⟩
  · refine ⟨_, _, rfl, hl, hg3, fun i hi => ⟨g, 0, (ps[i]'(by omega)).2, rfl, (Array.getElem?_eq_some_iff.1 hg2).1, ?_⟩⟩
    have hc : ∀ (j : Nat), j < 10 → w.cell? ⟨g, 0 + i * 10 + j, none⟩ = (fcs (ps[i]'(by omega)))[j]? := fun j hj => by
      rw [show 0 + i * 10 + j = i * 10 + j by omega, h'.cellAt _ (by omega), flatF_get ps i j (by omega) hj]
    have he : (ps[i]'(by omega)).1 = L[i] := by
      have h5 : (ps.map Prod.fst)[i]? = L[i]? := by rw [h1]
      rw [List.getElem?_map, List.getElem?_eq_getElem (show i < ps.length by omega), List.getElem?_eq_getElem hi] at h5
      simpa using h5
    rw [← he]
    exact ⟨⟨hc 0 (by omega), hc 1 (by omega), hc 2 (by omega), hc 3 (by omega), hc 4 (by omega), hc 5 (by omega), hc 6 (by omega), hc 7 (by omega), hc 8 (by omega), hc 9 (by omega)⟩, h2 _ (List.getElem_mem _)⟩

set_option maxRecDepth 100000 in
set_option maxHeartbeats 4000000 in
theorem parts_src (w0 : World) (f : Fm) (q : FQ) (hq : QAt w0 (f, q)) (w : World) (hw : Below w0.heap.size w0 w) (hl : (rtss f.rgx).length ≤ 1000000000) :
    Calls Try.prog 41 #[.agg #[.int .i64 f.k, .string f.nm, .int .i64 f.op, q.v, q.t, .int .i64 f.lo, .int .i64 f.hi, .bool f.opn, q.s, q.r]] w fun e w' => ∃ v, e = .returned v ∧ PtsAt w0 w' v (ptsF f) ∧ Below w.heap.size w w' := by
  obtain ⟨uv, ut, us, ur⟩ := q
  obtain ⟨h1, h2, h3, h4⟩ := hq
  dsimp only at h1 h2 h3 h4 ⊢
  have HS : Hid (∀ W, Below w0.heap.size w0 W → PtsAt w0 W us f.subs) := fun W hW => fms_pts h3 hW
  have cT : Hid (∀ W : World, Below w0.heap.size w0 W → Calls Try.prog 52 #[ur] W fun e w' => ∃ v, e = .returned v ∧ OwnF w0 W.heap.size v (rtss f.rgx) w' ∧ Below W.heap.size W w') := fun W hW => tests_any w0 _ f.rgx ur W (Nat.le_refl _) h4 hW hl
  obtain ⟨-, pv, cv, rfl, -, -⟩ := h1
  obtain ⟨pt, ct, rfl, -⟩ := h2.form
  obtain ⟨ps, cs, rfl, -⟩ := h3.form
  obtain ⟨pr, cr, rfl, lr, -⟩ := h4.form
  clear h2 h3 h4
  have hw0 := hw.size
  by_cases he : f.rgx = []
  · have e1 : Hid (ptsF f = f.subs) := if_pos he
    have e2 : f.rgx.length = 0 := by rw [he]; rfl
    rw [e1.out, e2]
    clear cT
    go_enter Try.func41, Try.ntmps41
    go_wp2
    go_ret
    exact ⟨_, rfl, HS.out _ (hw.trans ((Below.refl _ _).alloc hw0 _)), (Below.refl _ _).alloc (Nat.le_refl _) _⟩
  · have e1 : Hid (ptsF f = rtss f.rgx) := if_neg he
    have e2 : 0 < f.rgx.length := List.length_pos_iff.2 he
    rw [e1.out]
    obtain ⟨n, en⟩ : ∃ n : Nat, f.rgx.length = n := ⟨_, rfl⟩
    rw [en] at e2 cT lr ⊢
    have e3 : (0 : Int) < n := by omega
    go_enter Try.func41, Try.ntmps41
    go_wp2_with fail
    refine (cT.out _ (hw.trans ((Below.refl _ _).alloc hw0 _))).mono ?_
    rintro r w2 ⟨v, rfl, hO, hb⟩
    have hB : Below w.heap.size w w2 := ((Below.refl _ _).alloc (Nat.le_refl _) _).trans (hb.mono (by simp))
    have hF : Hid (PtsAt w0 w2 v (rtss f.rgx)) := hO.pts (by omega)
    clear hO hb cT
    go_wp2
    go_ret
    exact ⟨_, rfl, hF.out, hB⟩


/-- The part at a path. -/
def partP : Fm → List Int → Option Fm
  | f, [] => some f
  | f, n :: l => if n < 0 then none else match (ptsF f)[n.toNat]? with
    | some g => partP g l
    | none => none
theorem rtss_lg : ∀ (m : Nat) (rs : List Rx), SizeOf.sizeOf rs ≤ m → lgRs rs → lgFs (rtss rs) := by
  intro m
  induction m with
  | zero => intro rs hm; cases rs <;> simp at hm
  | succ m ih =>
    intro rs hm h
    cases rs with
    | nil => rw [rtss_nil, lgFs_nil]; trivial
    | cons r l =>
      have s1 : SizeOf.sizeOf l ≤ m := by simp at hm; omega
      have s2 : SizeOf.sizeOf r.subs ≤ m := by have := Rx.subs_lt r; simp at hm; omega
      rw [lgRs_cons, lgR_eq] at h
      rw [rtss_cons, rts_eq]
      have app : ∀ a b : List Fm, lgFs a → lgFs b → lgFs (a ++ b) := fun a b ha hb => by
        induction a with
        | nil => exact hb
        | cons x a ih => rw [lgFs_cons] at ha; rw [List.cons_append, lgFs_cons]; exact ⟨ha.1, ih ha.2⟩
      exact app _ _ (app _ _ h.1.1.2 (ih _ s2 h.1.2.2)) (ih _ s1 h.2)
theorem pts_lg {f : Fm} (h : lgF f) : lgFs (ptsF f) := by
  rw [lgF_eq] at h
  unfold ptsF
  by_cases h1 : f.rgx = []
  · rw [if_pos h1]; exact h.2.2.2.1.2
  · rw [if_neg h1]; exact rtss_lg _ _ (Nat.le_refl _) h.2.2.2.2.2
/-- A formula in a block of its own. -/
def BoxF (w : World) (N : Nat) (f : Fm) (q : FQ) : Prop := w.heap[N]? = some (.cells #[.int .i64 f.k, .string f.nm, .int .i64 f.op, q.v, q.t, .int .i64 f.lo, .int .i64 f.hi, .bool f.opn, q.s, q.r] 29 (0, 0))
theorem BoxF.lt {w : World} {N : Nat} {f : Fm} {q : FQ} (h : BoxF w N f q) : N < w.heap.size := (Array.getElem?_eq_some_iff.1 h).1
theorem BoxF.fz {w : World} {N : Nat} {f : Fm} {q : FQ} (h : BoxF w N f q) (i : Nat) : w.frozen? ⟨N, i, none⟩ = false := Lib.frozen_of_heap h i
theorem BoxF.bel {w w' : World} {N : Nat} {f : Fm} {q : FQ} (h : BoxF w N f q) (hb : Below w.heap.size w w') : BoxF w' N f q := (hb.block N h.lt).trans h
theorem BoxF.at {w w' : World} {N : Nat} {f : Fm} {q : FQ} (h : BoxF w N f q) (hb : w'.heap[N]? = w.heap[N]?) : BoxF w' N f q := hb.trans h
theorem set_heapB {W : World} {b o e : Nat} {u : Value} {cur cur' : Array Value} {fz : Nat × Nat} (hb : W.heap[b]? = some (.cells cur e fz)) (hc : cur.setIfInBounds o u = cur') : (W.setCell ⟨b, o, none⟩ u).heap[b]? = some (.cells cur' e fz) := by rw [set_heapA hb, hc]
theorem BoxF.put {w : World} {N : Nat} {f g : Fm} {q r : FQ} (h : BoxF w N f q) : BoxF ((((((((((w.setCell ⟨N, 0, none⟩ (.int .i64 g.k)).setCell ⟨N, 1, none⟩ (.string g.nm)).setCell ⟨N, 2, none⟩ (.int .i64 g.op)).setCell ⟨N, 3, none⟩ (r.v)).setCell ⟨N, 4, none⟩ (r.t)).setCell ⟨N, 5, none⟩ (.int .i64 g.lo)).setCell ⟨N, 6, none⟩ (.int .i64 g.hi)).setCell ⟨N, 7, none⟩ (.bool g.opn)).setCell ⟨N, 8, none⟩ (r.s)).setCell ⟨N, 9, none⟩ (r.r)) N g r := by
  unfold BoxF at h ⊢
  replace h := set_heapB (o := 0) (u := .int .i64 g.k) (cur' := #[.int .i64 g.k, .string f.nm, .int .i64 f.op, q.v, q.t, .int .i64 f.lo, .int .i64 f.hi, .bool f.opn, q.s, q.r]) h (by simp)
  replace h := set_heapB (o := 1) (u := .string g.nm) (cur' := #[.int .i64 g.k, .string g.nm, .int .i64 f.op, q.v, q.t, .int .i64 f.lo, .int .i64 f.hi, .bool f.opn, q.s, q.r]) h (by simp)
  replace h := set_heapB (o := 2) (u := .int .i64 g.op) (cur' := #[.int .i64 g.k, .string g.nm, .int .i64 g.op, q.v, q.t, .int .i64 f.lo, .int .i64 f.hi, .bool f.opn, q.s, q.r]) h (by simp)
  replace h := set_heapB (o := 3) (u := r.v) (cur' := #[.int .i64 g.k, .string g.nm, .int .i64 g.op, r.v, q.t, .int .i64 f.lo, .int .i64 f.hi, .bool f.opn, q.s, q.r]) h (by simp)
  replace h := set_heapB (o := 4) (u := r.t) (cur' := #[.int .i64 g.k, .string g.nm, .int .i64 g.op, r.v, r.t, .int .i64 f.lo, .int .i64 f.hi, .bool f.opn, q.s, q.r]) h (by simp)
  replace h := set_heapB (o := 5) (u := .int .i64 g.lo) (cur' := #[.int .i64 g.k, .string g.nm, .int .i64 g.op, r.v, r.t, .int .i64 g.lo, .int .i64 f.hi, .bool f.opn, q.s, q.r]) h (by simp)
  replace h := set_heapB (o := 6) (u := .int .i64 g.hi) (cur' := #[.int .i64 g.k, .string g.nm, .int .i64 g.op, r.v, r.t, .int .i64 g.lo, .int .i64 g.hi, .bool f.opn, q.s, q.r]) h (by simp)
  replace h := set_heapB (o := 7) (u := .bool g.opn) (cur' := #[.int .i64 g.k, .string g.nm, .int .i64 g.op, r.v, r.t, .int .i64 g.lo, .int .i64 g.hi, .bool g.opn, q.s, q.r]) h (by simp)
  replace h := set_heapB (o := 8) (u := r.s) (cur' := #[.int .i64 g.k, .string g.nm, .int .i64 g.op, r.v, r.t, .int .i64 g.lo, .int .i64 g.hi, .bool g.opn, r.s, q.r]) h (by simp)
  replace h := set_heapB (o := 9) (u := r.r) (cur' := #[.int .i64 g.k, .string g.nm, .int .i64 g.op, r.v, r.t, .int .i64 g.lo, .int .i64 g.hi, .bool g.opn, r.s, r.r]) h (by simp)
  exact h
/-- A path where it lies. -/
def PthAt (w : World) (v : Value) (ns : List Int) : Prop := ns.length ≤ 9223372036854775807 ∧ ∃ p c, v = .slice p ns.length c ∧ ns.length ≤ c ∧ ∀ i (hi : i < ns.length), ∃ b off, p = some ⟨b, off, none⟩ ∧ b < w.heap.size ∧ w.cell? ⟨b, off + i, none⟩ = some (.int .i64 ns[i])
def fm0 : Fm := .mk 0 ⟨#[]⟩ 0 [] [] 0 0 false [] []
def fq0 : FQ := ⟨.slice none 0 0, .slice none 0 0, .slice none 0 0, .slice none 0 0⟩
/-- What Part tells. -/
def PartOut (w : World) (f : Fm) (ns : List Int) (r : Ending) (w' : World) : Prop := Below w.heap.size w w' ∧ ((¬ chkF f = 0 ∧ r = .returned (.tuple #[.agg #[.int .i64 0, .string ⟨#[]⟩, .int .i64 0, .slice none 0 0, .slice none 0 0, .int .i64 0, .int .i64 0, .bool false, .slice none 0 0, .slice none 0 0], .int .i64 (chkF f)])) ∨
  (chkF f = 0 ∧ partP f ns = none ∧ r = .returned (.tuple #[.agg #[.int .i64 0, .string ⟨#[]⟩, .int .i64 0, .slice none 0 0, .slice none 0 0, .int .i64 0, .int .i64 0, .bool false, .slice none 0 0, .slice none 0 0], .int .i64 5])) ∨
  (chkF f = 0 ∧ ∃ g q, partP f ns = some g ∧ r = .returned (.tuple #[.agg #[.int .i64 g.k, .string g.nm, .int .i64 g.op, q.v, q.t, .int .i64 g.lo, .int .i64 g.hi, .bool g.opn, q.s, q.r], .int .i64 0]) ∧ QOwn (fun b => w.heap.size ≤ b) w' (g, q)))
theorem andT_ok {x : Int × (Int × Int)} {K : Int × Int → Int × (Int × Int)} (h : OkS x.2) (hK : ∀ s, OkS s → OkS (K s).2) : OkS (andT x K).2 := by
  unfold andT
  split
  · exact hK _ h
  · exact h
theorem both_okS : ∀ m : Nat, (∀ (fs : List Fm) (dep : Int) (s : Int × Int), SizeOf.sizeOf fs ≤ m → OkS s → 0 ≤ dep → OkS (fruns dep s fs).2) ∧ (∀ (rs : List Rx) (dep : Int) (s : Int × Int), SizeOf.sizeOf rs ≤ m → OkS s → 0 ≤ dep → OkS (rruns dep s rs).2) := by
  intro m
  induction m with
  | zero => exact ⟨fun fs dep s hm => by cases fs <;> simp at hm, fun rs dep s hm => by cases rs <;> simp at hm⟩
  | succ m ih =>
    constructor
    · intro fs dep s hm hs hd
      cases fs with
      | nil => rw [fruns_nil]; exact hs
      | cons f l =>
        have s1 : SizeOf.sizeOf l ≤ m := by simp at hm; omega
        have s2 : SizeOf.sizeOf f.subs ≤ m := by have := Fm.subs_lt f; simp at hm; omega
        have s3 : SizeOf.sizeOf f.rgx ≤ m := by have := Fm.rgx_lt f; simp at hm; omega
        rw [fruns_cons, frun_eq]
        exact andT_ok (andT_ok (meetS_ok hs hd) fun s h => andT_ok h fun s h => andT_ok (truns_ok _ _ _ _ (Nat.le_refl _) h (by omega)) fun s h => andT_ok (ih.2 _ _ _ s3 h (by omega)) fun s h => ih.1 _ _ _ s2 h (by omega)) fun s h => ih.1 _ _ _ s1 h hd
    · intro rs dep s hm hs hd
      cases rs with
      | nil => rw [rruns_nil]; exact hs
      | cons r l =>
        have s1 : SizeOf.sizeOf l ≤ m := by simp at hm; omega
        have s2 : SizeOf.sizeOf r.subs ≤ m := by have := Rx.subs_lt r; simp at hm; omega
        have s3 : SizeOf.sizeOf r.test ≤ m := by have := Rx.test_lt r; simp at hm; omega
        rw [rruns_cons, rrun_eq]
        exact andT_ok (andT_ok (meetS_ok hs hd) fun s h => andT_ok h fun s h => andT_ok (ih.1 _ _ _ s3 h (by omega)) fun s h => ih.2 _ _ _ s2 h (by omega)) fun s h => ih.2 _ _ _ s1 h hd
theorem frun_okS (f : Fm) : OkS (frun 1 (0, 0) f).2 := by
  have h := (both_okS _).1 [f] 1 (0, 0) (Nat.le_refl _) ⟨by decide, by decide, by decide, by decide⟩ (by decide)
  rw [fruns_one] at h
  exact h
theorem chk_good {f : Fm} (h : chkF f = 0) : wfF f ∧ nodF f ≤ 256 := by
  have h0 : (frun 1 (0, 0) f).1 = 0 := by
    unfold chkF at h
    by_cases h1 : (frun 1 (0, 0) f).1 = 0
    · exact h1
    · rw [if_neg h1] at h; exact absurd h h1
  have h1 := fruns_good (fs := [f]) (dep := 1) (s := (0, 0)) (by rw [fruns_one]; exact pair0 h0)
  rw [wfFs_cons, nodFs_cons, nodFs_nil] at h1
  have h2 : OkS (frun 1 (0, 0) f).2 := frun_okS f
  have h3 : ((frun 1 (0, 0) f).2).1 ≤ 256 := h2.2.1
  refine ⟨h1.1.1, ?_⟩
  have := h1.2
  simp at this
  omega

end Go.Proofs.Ytfajjphfjilpnab

namespace Go.Proofs.Ytfajjphfjilpnab
open Go.RowKit LX Go.Shelf
set_option linter.unusedVariables false

end Go.Proofs.Ytfajjphfjilpnab
