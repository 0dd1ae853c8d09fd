/- Pop over texts. -/
import Derived.RangeFuncNested
import Derived.RangeFuncBound
import Derived.RangeFuncCalls
import Derived.RangeFuncLeaves
import Derived.Shelf.Abstract
import Derived.Shelf.RegionOpen
import Derived.WalkKit
import Derived.OwnWalk
import Derived.OwnWalkIn
import Derived.TacticsInMore
import Derived.LoopNIn
import Derived.LoopIn
import Derived.Laws.OwnMore
import Derived.Lib.Builder
import Derived.Maps.AppendAt
import Derived.Handy
import Derived.IntWalk
import Derived.Deep.Cut
import Derived.BigQuiet
import Derived.Deep.QuietTactic
import Derived.WalkLawsBesides
import Derived.WalkMore
import Derived.WalkSpells
import Derived.Deep.RegionHeld3
import Derived.Deep.RegionLaw
import Derived.Test.YtondchfhdhllhaaRows
import Derived.Lib.SliceRun

namespace Go.Proofs.Ytondchfhdhllhaa
open Go.RowKit Go.Shelf
set_option linter.unusedVariables false

/-- What was there and is not of P lies as it lay. -/
structure Fr (P : Nat → Prop) (w w' : World) : Prop where
  os : w'.os = w.os
  tape : w'.tape = w.tape
  output : w'.output = w.output
  size : w.heap.size ≤ w'.heap.size
  block : ∀ k, k < w.heap.size → ¬ P k → w'.heap[k]? = w.heap[k]?
theorem Fr.refl (P : Nat → Prop) (w : World) : Fr P w w := ⟨rfl, rfl, rfl, Nat.le_refl _, fun _ _ _ => rfl⟩
theorem Fr.trans {P Q : Nat → Prop} {a b c : World} (h : Fr P a b) (k : Fr Q b c) (hQ : ∀ i, Q i → P i ∨ a.heap.size ≤ i) : Fr P a c :=
  ⟨k.os.trans h.os, k.tape.trans h.tape, k.output.trans h.output, Nat.le_trans h.size k.size, fun i hi hp => (k.block i (Nat.lt_of_lt_of_le hi h.size) (fun q => by rcases hQ i q with q | q; exact hp q; omega)).trans (h.block i hi hp)⟩
theorem Fr.mono {P Q : Nat → Prop} {a b : World} (h : Fr P a b) (hQ : ∀ i, P i → Q i ∨ a.heap.size ≤ i) : Fr Q a b :=
  ⟨h.os, h.tape, h.output, h.size, fun i hi hp => h.block i hi (fun q => by rcases hQ i q with q | q; exact hp q; omega)⟩
theorem Fr.drew {P : Nat → Prop} {a b : World} (h : Fr P a b) : Fr P a b.drew := ⟨h.os, h.tape, h.output, h.size, h.block⟩
theorem Fr.alloc {P : Nat → Prop} {a b : World} (h : Fr P a b) (o : Obj) : Fr P a (b.alloc o) :=
  h.trans (Q := fun _ => False) ⟨rfl, rfl, rfl, by simp, fun k hk _ => Below.heap_alloc _ _ _ hk⟩ (fun _ h => h.elim)
theorem Fr.setCell {P : Nat → Prop} {a b : World} (h : Fr P a b) {p : Addr} (hp : P p.block ∨ a.heap.size ≤ p.block) (u : Value) : Fr P a (b.setCell p u) :=
  h.trans (Q := fun k => k = p.block) ⟨rfl, rfl, rfl, by simp [World.setCell], fun k hk hn => Below.heap_setCell _ _ _ _ hn⟩ (fun i e => by subst e; exact hp)
theorem Fr.grown {P : Nat → Prop} {a b c : World} {row : Option Nat} (h : Fr P a b) (hg : b.grownBy c row) (hr : ∀ k, row = some k → P k ∨ a.heap.size ≤ k) : Fr P a c :=
  h.trans (Q := fun k => row = some k) ⟨hg.os, hg.tape, hg.output, hg.size, fun k hk hn => hg.block k hk (fun e => hn e.symm)⟩ (fun i e => hr i e)
theorem Fr.of_below {P : Nat → Prop} {a b : World} (h : Below a.heap.size a b) : Fr P a b := ⟨h.os, h.tape, h.output, h.size, fun k hk _ => h.block k hk⟩
theorem Fr.below {P : Nat → Prop} {a b : World} {n : Nat} (h : Fr P a b) (hn : n ≤ a.heap.size) (hp : ∀ k, P k → n ≤ k) : Below n a b := ⟨h.os, h.tape, h.output, h.size, fun k hk => h.block k (by omega) (fun q => by have := hp k q; omega)⟩
theorem Fr.row {P : Nat → Prop} {a b : World} (h : Fr P a b) {base e size n : Nat} {v : Value} {xs : List Value} (hr : a.ownsRow base e size v n xs) (hp : ∀ k, v.ownBlock = some k → ¬ P k) : b.ownsRow base e size v n xs := by
  obtain ⟨h1, h2⟩ := hr
  refine ⟨h1, ?_⟩
  rcases h2 with h2 | ⟨g, cap, cur, hv, hg, hh, r⟩
  · exact Or.inl h2
  · exact Or.inr ⟨g, cap, cur, hv, hg, (h.block g (Array.getElem?_eq_some_iff.1 hh).1 (hp g (by rw [hv]; rfl))).trans hh, r⟩
theorem Fr.heap {P : Nat → Prop} {a b : World} (h : Fr P a b) {k : Nat} {o : Obj} (hk : a.heap[k]? = some o) (hp : ¬ P k) : b.heap[k]? = some o := (h.block k (Array.getElem?_eq_some_iff.1 hk).1 hp).trans hk
theorem lt_heap {a : World} {k : Nat} {o : Obj} (hk : a.heap[k]? = some o) : k < a.heap.size := (Array.getElem?_eq_some_iff.1 hk).1
theorem row_ne {w : World} {B e e' size n T : Nat} {v : Value} {xs : List Value} {cur : Array Value} {fr : Nat × Nat} (h : w.ownsRow B e size v n xs) (hT : w.heap[T]? = some (.cells cur e' fr)) (hne : e ≠ e') : v.ownBlock ≠ some T := by
  intro hv
  obtain ⟨-, ⟨rfl, -⟩ | ⟨g, cap, cur', rfl, -, hg, -⟩⟩ := h
  · cases hv
  · injection hv with hv
    have hv' : g = T := hv
    subst hv'
    rw [hT] at hg
    injection hg with hg
    injection hg with _ hg
    exact hne hg.symm
theorem row_ne2 {w : World} {B B' e e' size size' n n' : Nat} {v v' : Value} {xs xs' : List Value} (h : w.ownsRow B e size v n xs) (h' : w.ownsRow B' e' size' v' n' xs') (hne : e ≠ e') : ∀ k, v.ownBlock = some k → v'.ownBlock = some k → False := by
  intro k hk hk'
  obtain ⟨-, ⟨rfl, -⟩ | ⟨g, cap, cur', rfl, -, hg, -⟩⟩ := h
  · cases hk
  · injection hk with hk
    have : g = k := hk
    subst this
    exact row_ne h' hg (fun e => hne e.symm) hk'
theorem row_form {w : World} {B e size n : Nat} {v : Value} {xs : List Value} (h : w.ownsRow B e size v n xs) : ∃ p c, v = .slice p n c := by
  obtain ⟨-, ⟨e, hn⟩ | ⟨g, cap, cur, e, -⟩⟩ := h
  · exact ⟨none, 0, by rw [e, hn]⟩
  · exact ⟨_, _, e⟩
theorem set_heap {w : World} {b j : Nat} {cs : Array Value} {t : TypeId} {fr : Nat × Nat} (h : w.heap[b]? = some (.cells cs t fr)) (u : Value) : (w.setCell ⟨b, j, none⟩ u).heap[b]? = some (.cells (cs.setIfInBounds j u) t fr) := by
  show (w.heap.modify b _)[b]? = _
  rw [Array.getElem?_modify, if_pos rfl, h]
  rfl

/-- append to a row of one's own, in a region that draws: where the new row lies. -/
theorem step_append_at {P : Program} {ops : Array Oper} {o : Oper} {a : Act} {w : World} {K : Act → World → Prop} {Q : Exit → Act → World → Prop} {E : Prop}
    (hg : o.guard = none) (s x : Operand) (t : TypeId) (ho : o.op = Op.call { callee := Callee.builtin Builtin.append, args := #[s, x], argTypes := #[t, t] })
    (base : Nat) (e : TypeId) (i : TypeInfo) (z : Value) (size bytes : Nat) (ht : P.underlying t = some (.slice e)) (hi : P.info? e = some i) (hz : i.zero = some z) (hsize : i.size = size) (hby : i.bytes = bytes) (hzs : z.cells.size = size) (hsz : 0 < size)
    (v : Value) (n : Nat) (xs : List Value) (hs : a.eval s = v) (hown : w.ownsRow base e size v n xs)
    (ad : Addr) (m c : Nat) (news : List Value) (hx : a.eval x = .slice (some ad) m c) (hl : news.length = m * size) (hnews : ∀ j u, news[j]? = some u → w.cell? (ad.add j) = some u) (h1 : ∀ u ∈ news, u.oneCell' = true)
    (h63 : n + m ≤ maxLen) (hbytes : (n + m) * bytes ≤ 140737488355328) (hbase : base ≤ w.heap.size)
    (h : ∀ v' w', w'.ownsRow base e size v' (n + m) (xs ++ news) → w.grownBy w' v.ownBlock → (v'.ownBlock = v.ownBlock ∨ v'.ownBlock = some w.heap.size) → K (a.put o.dst v') w') :
    if Region.wanted o (yielded ops a.tmps) = true then Oper.wp P o a w K Q else E := by
  have hw : Region.wanted o (yielded ops a.tmps) = true := by simp [Region.wanted, hg]
  rw [if_pos hw]
  obtain ⟨v', w', hr, h2, h3, h4, h5⟩ := run_append_own_at (P := P) w base t o.type e i z size bytes ht hi hz hsize hby hzs hsz v n xs hown ad m c news hl hnews h1 h63 hbytes hbase
  unfold Oper.wp execOp
  simp only [ho, resolve, invoke, builtin, Sem.run_bind, Sem.run_pure, Result.andThen_ok, List.map_toArray, List.map_cons, List.map_nil, hs, hx, hr]
  exact h v' w' h2 h3 h5

/-- No operation is a defer statement. -/
def noDefer (ops : Array Oper) : Bool := ops.all fun o => match o.op with | .defer _ => false | _ => true
theorem noDefer_spec {ops : Array Oper} (h : noDefer ops = true) {j : Nat} {o : Oper} (ho : ops[j]? = some o) : ∀ c, o.op ≠ .defer c := by
  intro c heq
  have := Array.all_eq_true_iff_forall_mem.1 h o (Array.mem_of_getElem? ho)
  simp [heq] at this
/-- What an operation does where nothing is asked, it does within a round. -/
theorem wpOpsIn_round {n l : Nat} {P : Program} {ops : Array Oper} {Q : Exit → Act → World → Prop} (hd : noDefer ops = true) (hQ : ¬ LetsOut Q) : ∀ (is : List Nat) (a : Act) (w : World), wpOps P ops Q is a w → wpOpsIn (Fence.wide.inRound l) n P ops Q is a w
  | [], _, _, h => h
  | i :: rest, a, w, h => by
    simp only [wpOps] at h
    simp only [wpOpsIn]
    cases ho : ops[i]? with
    | none =>
      simp only [ho] at h ⊢
      exact wpOpsIn_round hd hQ rest a w h
    | some o =>
      simp only [ho] at h ⊢
      by_cases hw : Region.wanted o (yielded ops a.tmps) = true
      · simp only [hw, if_true] at h ⊢
        rcases h with h | h
        · refine ⟨fun _ _ => trivial, ?_⟩
          have hs : o.semAt (Fence.wide.inRound l).round a.eval = execOp a.eval o := Oper.semAt_eq _ _ _ (noDefer_spec hd ho)
          rw [hs]
          unfold Oper.wp at h
          generalize (execOp a.eval o).run P w = r at h ⊢
          have ih := fun a w => wpOpsIn_round (n := n) (l := l) (P := P) hd hQ rest a w
          cases r with
          | ok x w' =>
            cases x with
            | value v => exact ih _ _ h
            | skip => exact ih _ _ h
            | defer d => exact ih _ _ h
            | enter f args =>
              refine ⟨fun hh => (by cases hh), ?_⟩
              refine (CallsIn.inRound l (callsIn_wide.2 h)).mono ?_
              intro e w'' he
              cases e with
              | returned v => exact ih _ _ he
              | panicked c => exact he
              | outgrown => exact he
            | row row args =>
              refine ⟨fun hh => (by cases hh), ?_⟩
              intro c cs _
              obtain ⟨v, w'', r, s⟩ := h c cs
              exact ⟨v, w'', ih _ _ r, stepsIn_wide.2 s⟩
            | _ => exact h.elim
          | halt x w' =>
            cases x with
            | panic v => exact h
            | _ => exact h.elim
        · exact absurd h.2 hQ
      · simp only [hw] at h ⊢
        exact ⟨fun _ _ => trivial, wpOpsIn_round hd hQ rest _ w h⟩
/-- A region that draws, within a round. -/
theorem wpInR_held {n l id : Nat} {P : Program} {ops : Array Oper} {Q : Exit → Act → World → Prop} {S : World → Prop} {a : Act} {w : World} (hm : P.follows .mixedOrders = true) (hd : noDefer ops = true) (hQ : ¬ LetsOut Q) (hS : S w.drew)
    (h : S w.drew → wpAnyH P .any ops Q S ops.size (Array.replicate ops.size false) a w.drew) : (Code.region id ops true).wpIn (Fence.wide.inRound l) n P Q a w :=
  wpIn_region_draw fun t => wpOpsIn_round hd hQ _ _ _ (by
    simp only [Region.schedule, hm, Bool.true_or, if_true]
    exact wpAny_sound ops.size t _ a _ (wpAny_of_held _ _ _ _ (h hS)))
end Go.Proofs.Ytondchfhdhllhaa

namespace Go.Proofs.Ytondchfhdhllhaa
open Go.RowKit Go.Shelf
set_option linter.unusedVariables false

/-- From the right: of x and all behind it. -/
def sumR {α : Type} (f : α → α → α) : α → List α → α
  | x, [] => x
  | x, y :: r => f x (sumR f y r)
/-- From the left. -/
def sumL {α : Type} (f : α → α → α) (x : α) (r : List α) : α := r.foldl f x
/-- Each thing with what the operation makes of it and of all behind it. -/
def tls {α : Type} (f : α → α → α) : List α → List (α × α)
  | [] => []
  | x :: r => (x, sumR f x r) :: tls f r
theorem tls_len {α : Type} (f : α → α → α) (L : List α) : (tls f L).length = L.length := by
  induction L with
  | nil => rfl
  | cons x r ih => simp [tls, ih]
theorem sumL_snoc {α : Type} (f : α → α → α) (x y : α) (r : List α) : sumL f x (r ++ [y]) = f (sumL f x r) y := by simp [sumL]
theorem sumL_f {α : Type} (f : α → α → α) (ha : ∀ a b c, f (f a b) c = f a (f b c)) (x y : α) (r : List α) : sumL f (f x y) r = f x (sumL f y r) := by
  induction r generalizing y with
  | nil => rfl
  | cons z r ih => simp only [sumL, List.foldl_cons] at ih ⊢; rw [ha]; exact ih _
theorem sumR_L {α : Type} (f : α → α → α) (ha : ∀ a b c, f (f a b) c = f a (f b c)) (x : α) (r : List α) : sumR f x r = sumL f x r := by
  induction r generalizing x with
  | nil => rfl
  | cons y r ih => rw [sumR, ih]; exact (sumL_f f ha x y r).symm
theorem sum_app {α : Type} (f : α → α → α) (ha : ∀ a b c, f (f a b) c = f a (f b c)) (x y : α) (r s : List α) : sumL f x (r ++ y :: s) = f (sumR f x r) (sumL f y s) := by
  rw [sumR_L f ha]
  simp only [sumL, List.foldl_append, List.foldl_cons]
  exact sumL_f f ha _ y s
theorem ok_sumR {α : Type} {f : α → α → α} {ok : Nat → α → Prop} (h : ∀ i j x y, ok i x → ok j y → i + j ≤ 8192 → ok (i + j) (f x y)) : ∀ (x : α) (r : List α), ok 1 x → (∀ y ∈ r, ok 1 y) → r.length + 1 ≤ 8192 → ok (r.length + 1) (sumR f x r)
  | x, [], hx, _, _ => hx
  | x, y :: r, hx, hr, hl => by
    simp only [List.length_cons] at hl
    have h1 := h 1 (r.length + 1) x _ hx (ok_sumR h y r (hr y (by simp)) (fun z hz => hr z (by simp [hz])) (by omega)) (by omega)
    rw [show 1 + (r.length + 1) = (y :: r).length + 1 by simp; omega] at h1
    exact h1
theorem ok_sumL {α : Type} {f : α → α → α} {ok : Nat → α → Prop} (h : ∀ i j x y, ok i x → ok j y → i + j ≤ 8192 → ok (i + j) (f x y)) : ∀ (r : List α) (x : α) (i : Nat), ok i x → (∀ y ∈ r, ok 1 y) → i + r.length ≤ 8192 → ok (i + r.length) (sumL f x r)
  | [], x, i, hx, _, _ => hx
  | y :: r, x, i, hx, hr, hl => by
    simp only [List.length_cons] at hl
    have h1 := ok_sumL h r (f x y) (i + 1) (h i 1 x y hx (hr y (by simp)) (by omega)) (fun z hz => hr z (by simp [hz])) (by omega)
    rw [show i + 1 + r.length = i + (y :: r).length by simp; omega] at h1
    exact h1
theorem wp_world {P : Program} {c : Code} {Q : Exit → Act → World → Prop} {a : Act} {w : World} (h : ∀ W, W = w → c.wp P Q a W) : c.wp P Q a w := h w rfl
theorem second (w : World) (o1 o2 : Obj) : ((w.alloc o1).alloc o2).heap[w.heap.size + 1]? = some o2 := by
  have h := World.alloc_heap_new (w.alloc o1) o2
  rw [World.size_alloc] at h
  exact h
theorem Below.drewN {B : Nat} {a w : World} (h : Below B a w) (q : Nat) : Below B a (w.drewN q) := ⟨h.os, h.tape, h.output, h.size, h.block⟩
theorem Fr.drewN {P : Nat → Prop} {a w : World} (h : Fr P a w) (q : Nat) : Fr P a (w.drewN q) := ⟨h.os, h.tape, h.output, h.size, h.block⟩
/-- The blocks of F, and what is new. -/
def FF (F : Nat → Prop) (w w' : World) : Nat → Prop := fun k => F k ∨ (w.heap.size ≤ k ∧ k < w'.heap.size)
end Go.Proofs.Ytondchfhdhllhaa

namespace Go.Proofs.Ytondchfhdhllhaa
open Go.RowKit Go.Shelf
set_option linter.unusedVariables false

def celS (x : ByteArray) : List Value := [.string x]
def flS (L : List (ByteArray)) : List Value := L.flatMap celS
def tcS (p : (ByteArray) × (ByteArray)) : List Value := celS p.1 ++ celS p.2
def tflS (L : List ((ByteArray) × (ByteArray))) : List Value := L.flatMap tcS
theorem tflS_len (L : List ((ByteArray) × (ByteArray))) : (tflS L).length = L.length * 2 := by
  induction L with
  | nil => rfl
  | cons x r ih => simp only [tflS, List.flatMap_cons, List.length_append, List.length_cons] at ih ⊢; rw [ih]; simp [tcS, celS]; omega
theorem flS_snoc (L : List (ByteArray)) (x : ByteArray) : flS (L ++ [x]) = flS L ++ celS x := by simp [flS]
theorem tflS_snoc (L : List ((ByteArray) × (ByteArray))) (x : (ByteArray) × (ByteArray)) : tflS (L ++ [x]) = tflS L ++ tcS x := by simp [tflS]

/-- The window in block bw: the things ahead X, those behind Y; F holds of its blocks. -/
structure WinS (f : ByteArray → ByteArray → ByteArray) (w : World) (bw : Nat) (op : Value) (nt : ByteArray) (c : Int) (X Y : List (ByteArray)) (F : Nat → Prop) (va vb : Value) (sm : ByteArray) : Prop where
  blk : w.heap[bw]? = some (.cells #[op, .string nt, .int .i64 c, va, vb, .string sm] 67 (0, 0))
  ra : w.ownsRow 0 69 2 va X.length (tflS (tls f X).reverse)
  rb : w.ownsRow 0 9 1 vb Y.length (flS Y)
  sum : ∀ x r, Y = x :: r → sm = sumL f x r
  lim : X.length + Y.length ≤ 8192
  fw : F bw
  fa : ∀ k, va.ownBlock = some k → F k
  fb : ∀ k, vb.ownBlock = some k → F k
  ft : ∀ k, F k → k < w.heap.size

section
variable {f : ByteArray → ByteArray → ByteArray} {w w' : World} {bw : Nat} {op : Value} {nt : ByteArray} {c : Int} {X Y : List (ByteArray)} {F F' P : Nat → Prop} {va vb : Value} {sm : ByteArray}
theorem WinS.fr (H : WinS f w bw op nt c X Y F va vb sm) (h : Fr P w w') (hp : ∀ k, F k → ¬ P k) : WinS f w' bw op nt c X Y F va vb sm :=
  ⟨h.heap H.blk (hp _ H.fw), h.row H.ra (fun k e => hp _ (H.fa k e)), h.row H.rb (fun k e => hp _ (H.fb k e)), H.sum, H.lim, H.fw, H.fa, H.fb, fun k hk => Nat.lt_of_lt_of_le (H.ft k hk) h.size⟩
theorem WinS.wide (H : WinS f w bw op nt c X Y F va vb sm) (h : ∀ k, F k → F' k) (ht : ∀ k, F' k → k < w.heap.size) : WinS f w bw op nt c X Y F' va vb sm :=
  ⟨H.blk, H.ra, H.rb, H.sum, H.lim, h _ H.fw, fun k e => h _ (H.fa k e), fun k e => h _ (H.fb k e), ht⟩
end

/-- What the window's operation is: f, among things that are ok; it may change blocks of G, where it keeps a state, told by I and how often it was called. -/
structure OpS (op : Value) (f : ByteArray → ByteArray → ByteArray) (ok : Nat → ByteArray → Prop) (G : Nat → Prop) (I : Nat → World → Prop) : Prop where
  form : ∃ K caps, op = .func (.func K) #[] caps ∧ (∀ args w, (callFunc K args).run Try.prog w = .ok (.enter K args) w) ∧
    ∀ n i j x y w, ok i x → ok j y → i + j ≤ 8192 → I n w → Calls Try.prog K (#[(.string x), (.string y)] ++ caps) w fun e w' => e = .returned (.string (f x y)) ∧ I (n + 1) w' ∧ Fr G w w'
  okf : ∀ i j x y, ok i x → ok j y → i + j ≤ 8192 → ok (i + j) (f x y)
  stay : ∀ n w w' P, I n w → Fr P w w' → (∀ k, G k → ¬ P k) → I n w'
  glt : ∀ n w k, I n w → G k → k < w.heap.size

set_option maxRecDepth 100000 in
set_option maxHeartbeats 4000000 in
theorem lenS_any {f : ByteArray → ByteArray → ByteArray} {w : World} {bw : Nat} {op : Value} {nt : ByteArray} {c : Int} {X Y : List (ByteArray)} {F : Nat → Prop} {va vb : Value} {sm : ByteArray} (H : WinS f w bw op nt c X Y F va vb sm) :
    Calls Try.prog 28 #[.pointer (some ⟨bw, 0, none⟩)] w fun e w' => e = .returned (.int .i64 ((X.length + Y.length : Nat) : Int)) ∧ ∃ q, w' = w.drewN q := by
  obtain ⟨pa, ca, rfl⟩ := row_form H.ra
  obtain ⟨pb, cb, rfl⟩ := row_form H.rb
  have y1 : w.cell? ⟨bw, 3, none⟩ = some (.slice pa X.length ca) := by rw [Lib.cell_of_heap H.blk]; rfl
  have y2 : w.cell? ⟨bw, 4, none⟩ = some (.slice pb Y.length cb) := by rw [Lib.cell_of_heap H.blk]; rfl
  have hl := H.lim
  have hL : (X.length : Int) + Y.length ≤ 8192 := by omega
  go_enter Try.func28, Try.ntmps28
  go_wp2
  go_quiet (fail)
  go_wp2
  go_ret
  exact ⟨by congr 2, _, rfl⟩

set_option maxRecDepth 100000 in
set_option maxHeartbeats 4000000 in
theorem sumAS_any {f : ByteArray → ByteArray → ByteArray} {w : World} {bw : Nat} {op : Value} {nt : ByteArray} {c : Int} {x : ByteArray} {r Y : List (ByteArray)} {F : Nat → Prop} {va vb : Value} {sm : ByteArray} (H : WinS f w bw op nt c (x :: r) Y F va vb sm) :
    Calls Try.prog 39 #[.pointer (some ⟨bw, 0, none⟩)] w fun e w' => e = .returned (.string (sumR f x r)) ∧ Below w.heap.size w w' := by
  have hra := H.ra
  have hlt := lt_heap H.blk
  obtain ⟨hn, ⟨e, hn0⟩ | ⟨g, cap, cur, rfl, -, hg, hc1, hc2, -⟩⟩ := hra
  · exact absurd hn0 (by simp)
  have hgl := lt_heap hg
  have y1 : w.cell? ⟨bw, 3, none⟩ = some (.slice (some ⟨g, 0, none⟩) (r.length + 1) cap) := by rw [Lib.cell_of_heap H.blk]; rfl
  have hrow := H.ra
  have e0 : tflS (tls f (x :: r)).reverse = tflS (tls f r).reverse ++ tcS (x, sumR f x r) := by simp only [tls, List.reverse_cons]; exact tflS_snoc _ _
  have e1 : (tflS (tls f r).reverse).length = r.length * 2 := by rw [tflS_len, List.length_reverse, tls_len]
  have z : ∀ j, j < 1 → w.cell? ⟨g, r.length * 2 + (1 + j), none⟩ = (celS (sumR f x r))[j]? := fun j hj => by
    rw [hrow.cellAt _ (by simp; omega), e0, List.getElem?_append_right (by rw [e1]; omega), e1, show r.length * 2 + (1 + j) - r.length * 2 = 1 + j by omega]
    rw [show tcS (x, sumR f x r) = celS x ++ celS (sumR f x r) from rfl, List.getElem?_append_right (by simp [celS])]
    simp [celS]
  have z0 : w.cell? ⟨g, r.length * 2 + 1, none⟩ = some (.string (sumR f x r)) := z 0 (by omega)
  clear z e0 e1 hrow hn hg
  have hlim := H.lim
  have nR : (0 : Int) < (r.length : Int) + 1 := by omega
  clear H
  have hR : r.length ≤ 8192 := by simp only [List.length_cons] at hlim; omega
  clear hlim hc1
  generalize sumR f x r = q at *
  generalize r.length = m at *
  have m1 : (m : Int) + 1 - 1 = m := by omega
  have m2 : (m : Int) < (m : Int) + 1 := by omega
  have m3 : (0 : Int) ≤ m := by omega
  have m4 : IntKind.i64.wrap (m : Int) = m := by rw [IntKind.wrap_i64]; omega
  have m5 : ((m : Int)).toNat = m := by omega
  have hlw := World.new_ne w ⟨bw, 3, none⟩ y1
  go_enter Try.func39, Try.ntmps39
  go_wp2
  go_quiet (fail)
  go_wp2
  go_ret
  exact ⟨rfl, ⟨rfl, rfl, rfl, Nat.le_refl _, fun _ _ => rfl⟩⟩

set_option maxRecDepth 100000 in
set_option maxHeartbeats 4000000 in
theorem joinS_any {f : ByteArray → ByteArray → ByteArray} {w : World} {bw : Nat} {op : Value} {nt : ByteArray} {c : Int} {X Y : List (ByteArray)} {F : Nat → Prop} {va vb : Value} {sm : ByteArray} {ok : Nat → ByteArray → Prop} {G : Nat → Prop} {I : Nat → World → Prop} {n : Nat} (O : OpS op f ok G I) (x y : ByteArray) {i j : Nat} (hx : ok i x) (hy : ok j y) (hij : i + j ≤ 8192) (H : WinS f w bw op nt c X Y F va vb sm) (hI : I n w) (hd : ∀ k, F k → ¬ G k) :
    Calls Try.prog 37 #[.pointer (some ⟨bw, 0, none⟩), (.string x), (.string y)] w fun e w' => e = .returned (.string (f x y)) ∧ I (n + 1) w' ∧ Fr (fun k => k = bw ∨ G k) w w' ∧
      w'.heap[bw]? = some (.cells #[op, .string nt, .int .i64 (wrap64 (c + 1)), va, vb, .string sm] 67 (0, 0)) := by
  obtain ⟨K, caps, rfl, hK, hcall⟩ := O.form
  have hlt := lt_heap H.blk
  have y0 : w.cell? ⟨bw, 0, none⟩ = some (.func (.func K) #[] caps) := by rw [Lib.cell_of_heap H.blk]; rfl
  have y1 : w.cell? ⟨bw, 2, none⟩ = some (.int .i64 c) := by rw [Lib.cell_of_heap H.blk]; rfl
  have f1 : w.frozen? ⟨bw, 2, none⟩ = false := Lib.frozen_of_heap H.blk _
  have hG : ¬ G bw := hd _ H.fw
  have hblk := H.blk
  have n0 := World.new_ne w ⟨bw, 0, none⟩ y0
  have n1 : bw < w.heap.size + 1 := by omega
  have n2 : bw < w.heap.size + 1 + 1 := by omega
  go_enter Try.func37, Try.ntmps37
  go_wp2
  go_wp2_with (refine (hcall n i j x y _ hx hy hij (O.stay n w _ (fun k => k = bw) hI ((Fr.refl (fun k => k = bw) w).setCell (p := ⟨bw, 2, none⟩) (Or.inl rfl) _) (fun k hk e => hG (e ▸ hk)))).mono ?_; rintro e w1 ⟨rfl, hI2, hF2⟩)
  go_ret
  refine ⟨rfl, hI2, ((Fr.refl (fun k => k = bw ∨ G k) w).setCell (p := ⟨bw, 2, none⟩) (Or.inl (Or.inl rfl)) _).trans hF2 (fun k h => Or.inl (Or.inr h)), ?_⟩
  rw [hF2.block bw (by simp; omega) hG, set_heap hblk]
  rfl
end Go.Proofs.Ytondchfhdhllhaa

namespace Go.Proofs.Ytondchfhdhllhaa
open Go.RowKit Go.Shelf
set_option linter.unusedVariables false

/-- A window as it stands, with its operation's state. -/
structure StS (f : ByteArray → ByteArray → ByteArray) (op : Value) (nt : ByteArray) (ok : Nat → ByteArray → Prop) (G : Nat → Prop) (I : Nat → World → Prop) (w : World) (bw : Nat) (c : Int) (n : Nat) (X Y : List (ByteArray)) (F : Nat → Prop) : Prop where
  win : ∃ va vb sm, WinS f w bw op nt c X Y F va vb sm
  st : I n w
  okX : ∀ x ∈ X, ok 1 x
  okY : ∀ x ∈ Y, ok 1 x
  dis : ∀ k, F k → ¬ G k
  lim : X.length + Y.length ≤ 4096
theorem inTS : (Try.prog.info? 69).map (fun i => (i.zero, i.size, i.bytes)) = some (some (.agg #[.string ByteArray.empty, .string ByteArray.empty]), 2, 32) := by kernel_rfl
theorem inES : (Try.prog.info? 9).map (fun i => (i.zero, i.size, i.bytes)) = some (some (.string ByteArray.empty), 1, 16) := by kernel_rfl
theorem StS.fr {f : ByteArray → ByteArray → ByteArray} {w : World} {bw : Nat} {op : Value} {nt : ByteArray} {c : Int} {X Y : List (ByteArray)} {F : Nat → Prop} {ok : Nat → ByteArray → Prop} {G : Nat → Prop} {I : Nat → World → Prop} {n : Nat} {w' : World} {P : Nat → Prop} (O : OpS op f ok G I) (H : StS f op nt ok G I w bw c n X Y F) (h : Fr P w w') (hp : ∀ k, F k → ¬ P k) (hg : ∀ k, G k → ¬ P k) : StS f op nt ok G I w' bw c n X Y F := by
  obtain ⟨va, vb, sm, H1⟩ := H.win
  exact ⟨⟨va, vb, sm, H1.fr h hp⟩, O.stay _ _ _ _ H.st h hg, H.okX, H.okY, H.dis, H.lim⟩

set_option maxRecDepth 100000 in
set_option maxHeartbeats 4000000 in
theorem newS_any (f : ByteArray → ByteArray → ByteArray) (K : FuncId) (caps : Array Value) (nt : ByteArray) (w : World) :
    Calls Try.prog 22 #[.func (.func K) #[] caps, (.string nt)] w fun e w' => ∃ bw, e = .returned (.pointer (some ⟨bw, 0, none⟩)) ∧ w.heap.size ≤ bw ∧ Below w.heap.size w w' ∧ WinS f w' bw (.func (.func K) #[] caps) nt 0 [] [] (fun k => k = bw) (.slice none 0 0) (.slice none 0 0) ⟨#[]⟩ := by
  go_enter Try.func22, Try.ntmps22
  go_wp2
  go_ret
  refine ⟨w.heap.size, rfl, by omega, by go_grown, ⟨?_, ⟨rfl, .inl ⟨rfl, rfl⟩⟩, ⟨rfl, .inl ⟨rfl, rfl⟩⟩, (fun x r h => by cases h), by simp, rfl, (fun k h => by cases h), (fun k h => by cases h), (fun k h => by subst h; simp)⟩⟩
  exact World.alloc_heap_new w _

theorem pushS_end {f : ByteArray → ByteArray → ByteArray} {w W w2 : World} {bw : Nat} {op : Value} {nt : ByteArray} {c : Int} {X Y : List (ByteArray)} {F : Nat → Prop} {va vb v' : Value} {sm x : ByteArray} (hF : ∀ k, F k → k < w.heap.size) (hs : w.heap.size ≤ W.heap.size)
    (blk : W.heap[bw]? = some (.cells #[op, .string nt, .int .i64 c, va, vb, .string sm] 67 (0, 0))) (ra : W.ownsRow 0 69 2 va X.length (tflS (tls f X).reverse)) (rb : W.ownsRow 0 9 1 vb Y.length (flS Y))
    (fw : F bw) (fa : ∀ k, va.ownBlock = some k → F k) (fb : ∀ k, vb.ownBlock = some k → F k) (lim : X.length + Y.length < 4096) (hsum : ∀ y r, Y ++ [x] = y :: r → sm = sumL f y r)
    (h2 : w2.ownsRow 0 9 1 v' (Y.length + 1) (flS Y ++ [.string x])) (h3 : (W.alloc (.cells #[.string x] 9)).grownBy w2 vb.ownBlock) (h5 : v'.ownBlock = vb.ownBlock ∨ v'.ownBlock = some (W.heap.size + 1)) :
    ∃ p c2, v' = .slice p (Y.length + 1) c2 ∧ w2.cell? ⟨bw, 4, none⟩ = some vb ∧ w2.frozen? ⟨bw, 4, none⟩ = false ∧
      Hid (WinS f (w2.setCell ⟨bw, 4, none⟩ v') bw op nt c X (Y ++ [x]) (FF F w (w2.setCell ⟨bw, 4, none⟩ v')) va v' sm ∧ Fr F W (w2.setCell ⟨bw, 4, none⟩ v')) := by
  obtain ⟨p, c2, hv⟩ := row_form h2
  have ha1 := (Fr.refl (fun _ => False) W).alloc (.cells #[.string x] 9)
  have blk1 := ha1.heap blk (fun h => h)
  have rb1 := ha1.row rb (fun _ _ h => h)
  have ra1 := ha1.row ra (fun _ _ h => h)
  have hg2 : Fr (fun k => vb.ownBlock = some k) (W.alloc (.cells #[.string x] 9)) w2 := (Fr.refl _ _).grown h3 (fun k e => Or.inl e)
  have blk2 := hg2.heap blk1 (row_ne rb1 blk1 (by decide))
  have ra2 := hg2.row ra1 (fun k e e' => row_ne2 ra1 rb1 (by decide) k e e')
  have hs3 : Fr (fun k => k = bw) w2 (w2.setCell ⟨bw, 4, none⟩ v') := (Fr.refl (fun k => k = bw) w2).setCell (p := ⟨bw, 4, none⟩) (Or.inl rfl) _
  have ra3 := hs3.row ra2 (fun k e e' => row_ne ra2 blk2 (by decide) (e' ▸ e))
  have rb3 := hs3.row h2 (fun k e e' => row_ne h2 blk2 (by decide) (e' ▸ e))
  have hz1 : W.heap.size + 1 ≤ w2.heap.size := by have := h3.size; simpa using this
  have hz3 := hs3.size
  refine ⟨p, c2, hv, (Lib.cell_of_heap blk2 _).trans rfl, Lib.frozen_of_heap blk2 _, ⟨⟨?_, ra3, ?_, hsum, ?_, Or.inl fw, fun k e => Or.inl (fa k e), ?_, ?_⟩, ?_⟩⟩
  · rw [set_heap blk2]; rfl
  · rw [List.length_append, flS_snoc]; exact rb3
  · simp; omega
  · intro k e
    have hlt := (World.ownsRow.lt rb3 k e).2
    rcases h5 with h5 | h5
    · exact Or.inl (fb k (by rw [← h5]; exact e))
    · rw [h5] at e
      injection e with e
      refine Or.inr ⟨?_, hlt⟩
      omega
  · intro k hk
    rcases hk with hk | hk
    · have := hF k hk; omega
    · exact hk.2
  · exact (((ha1.mono (fun i h => h.elim)).trans hg2 (fun k e => Or.inl (fb k e))).trans hs3 (fun k e => Or.inl (e ▸ fw)))
end Go.Proofs.Ytondchfhdhllhaa

namespace Go.Proofs.Ytondchfhdhllhaa
open Go.RowKit Go.Shelf
set_option linter.unusedVariables false

theorem pushS_fin {f : ByteArray → ByteArray → ByteArray} {w : World} {bw : Nat} {op : Value} {nt : ByteArray} {c : Int} {X Y : List (ByteArray)} {F : Nat → Prop} {ok : Nat → ByteArray → Prop} {G : Nat → Prop} {I : Nat → World → Prop} {n : Nat} {c' : Int} {n' : Nat} {W w4 : World} {x sm' : ByteArray} {va' vb' : Value} (O : OpS op f ok G I) (H : StS f op nt ok G I w bw c n X Y F) (hx : ok 1 x) (hl : X.length + Y.length < 4096) (HFW : Fr (fun k => F k ∨ G k) w W) (IW : I n' W)
    (HE : WinS f w4 bw op nt c' X (Y ++ [x]) (FF F w w4) va' vb' sm' ∧ Fr F W w4) : Hid (StS f op nt ok G I w4 bw c' n' X (Y ++ [x]) (FF F w w4) ∧ Fr (fun k => F k ∨ G k) w w4) := by
  refine ⟨⟨⟨_, _, _, HE.1⟩, O.stay _ _ _ _ IW HE.2 (fun k g h => H.dis k h g), H.okX, ?_, ?_, by simp; omega⟩, HFW.trans HE.2 (fun i h => Or.inl (Or.inl h))⟩
  · intro z hz
    rcases List.mem_append.1 hz with hz | hz
    · exact H.okY z hz
    · simp at hz; subst hz; exact hx
  · intro k hk g
    rcases hk with hk | hk
    · exact H.dis k hk g
    · have := O.glt _ _ _ H.st g; omega

set_option maxRecDepth 100000 in
set_option maxHeartbeats 8000000 in
theorem pushS_first {f : ByteArray → ByteArray → ByteArray} {w : World} {bw : Nat} {op : Value} {nt : ByteArray} {c : Int} {X : List (ByteArray)} {F : Nat → Prop} {ok : Nat → ByteArray → Prop} {G : Nat → Prop} {I : Nat → World → Prop} {n : Nat}  (O : OpS op f ok G I) (x : ByteArray) (hx : ok 1 x) (H : StS f op nt ok G I w bw c n X [] F) (hl : X.length + 0 < 4096) :
    Calls Try.prog 24 #[.pointer (some ⟨bw, 0, none⟩), (.string x)] w fun e w' => e = .returned (.int .i64 0) ∧ Hid (StS f op nt ok G I w' bw c n X ([] ++ [x]) (FF F w w') ∧ Fr (fun k => F k ∨ G k) w w') := by
  obtain ⟨va, vb, sm, H1⟩ := H.win
  obtain ⟨pa, ca, rfl⟩ := row_form H1.ra
  obtain ⟨pb, cb, rfl⟩ := row_form H1.rb
  obtain ⟨i0, hi, hz0, hz1, hz2⟩ := info_parts inES
  have hlt := lt_heap H1.blk
  have HL : Hid (∀ W, Below w.heap.size w W → Calls Try.prog 28 #[.pointer (some ⟨bw, 0, none⟩)] W fun e w' => e = .returned (.int .i64 ((X.length + 0 : Nat) : Int)) ∧ Below W.heap.size W w') := fun W hW =>
    (lenS_any (H1.fr (Fr.of_below (P := fun _ => False) hW) (fun _ _ h => h))).mono (fun e w' h => ⟨h.1, by obtain ⟨q, rfl⟩ := h.2; exact Below.drewN (Below.refl _ _) q⟩)
  have hl1 : ¬ (4096 : Int) ≤ ((X.length + 0 : Nat) : Int) := by omega
  obtain ⟨m, hm⟩ : ∃ m, Hid (X.length + 0 = m) := ⟨_, rfl⟩
  rw [hm.out] at HL hl1
  go_enter Try.func24, Try.ntmps24
  go_wp2_with fail
  refine (HL.out _ (by go_grown)).mono ?_
  rintro e w1 ⟨rfl, hb1⟩
  have hb0 : Below w.heap.size w w1 := hb1
  have H2 : Hid (WinS f w1 bw op nt c X [] F (.slice pa X.length ca) (.slice pb 0 cb) sm) := H1.fr (Fr.of_below (P := fun _ => False) hb0) (fun _ _ h => h)
  have hI1 : Hid (I n w1) := O.stay _ _ _ _ H.st (Fr.of_below (P := fun _ => False) hb0) (fun _ _ h => h)
  have hlt1 := lt_heap H2.out.blk
  have hsz1 := hb0.size
  have gv : w1.cell? ⟨bw, 4, none⟩ = some (.slice pb 0 cb) := (Lib.cell_of_heap H2.out.blk _).trans rfl
  have g5 : w1.cell? ⟨bw, 5, none⟩ = some (.string sm) := (Lib.cell_of_heap H2.out.blk _).trans rfl
  have gf5 : w1.frozen? ⟨bw, 5, none⟩ = false := Lib.frozen_of_heap H2.out.blk _
  clear hb1 HL
  go_upto_region 6 with fail
  refine wp_world ?_
  intro W hW
  have HF1 : Hid (Fr (fun k => k = bw ∨ G k) w1 W) := by rw [hW]; exact ((Fr.refl (fun k => k = bw) w1).setCell (p := ⟨bw, 5, none⟩) (Or.inl rfl) _).mono (fun i e => Or.inl (Or.inl e))
  have blkW : W.heap[bw]? = some (.cells #[op, .string nt, .int .i64 c, (.slice pa X.length ca), (.slice pb 0 cb), .string x] 67 (0, 0)) := by rw [hW, (set_heap H2.out.blk _)]; rfl
  have IW : Hid (I n W) := by rw [hW]; exact O.stay _ _ _ _ hI1.out ((Fr.refl (fun k => k = bw) w1).setCell (p := ⟨bw, 5, none⟩) (Or.inl rfl) _) (fun k hk e => H.dis bw H1.fw (e ▸ hk))
  have hW0 : Hid (∀ k, F k → ¬ k = bw → ¬ (k = bw ∨ G k)) := fun k hk hn h => h.elim hn (H.dis k hk)
  have raW : Hid (W.ownsRow 0 69 2 (.slice pa X.length ca) X.length (tflS (tls f X).reverse)) := HF1.out.row H2.out.ra (fun k e => hW0.out k (H1.fa k e) (fun h => row_ne H2.out.ra H2.out.blk (by decide) (h ▸ e)))
  have rbW : Hid (W.ownsRow 0 9 1 (.slice pb 0 cb) 0 (flS [])) := HF1.out.row H2.out.rb (fun k e => hW0.out k (H1.fb k e) (fun h => row_ne H2.out.rb H2.out.blk (by decide) (h ▸ e)))
  have HFW : Hid (Fr (fun k => F k ∨ G k) w W) := (Fr.of_below hb0).trans HF1.out (fun i h => h.elim (fun e => Or.inl (Or.inl (e ▸ H1.fw))) (fun g => Or.inl (Or.inr g)))
  have hszW : w.heap.size ≤ W.heap.size := HFW.out.size
  have HSUM : Hid (∀ y' r', [] ++ [x] = y' :: r' → x = sumL f y' r') := fun y' r' h => by cases h; rfl
  have yv : W.cell? ⟨bw, 4, none⟩ = some (.slice pb 0 cb) := (Lib.cell_of_heap blkW _).trans rfl
  have hbw : bw < W.heap.size := lt_heap blkW
  have BW : Hid (_) := blkW
  clear hW blkW gv g5 gf5 hI1 HF1 hb0 hlt1 hsz1 hW0
  go_wp2_with (at_builtin; refine wpList_append_own_at _ rfl _ _ 52 rfl 0 9 i0 (.string ByteArray.empty) 1 16 Try.underlying52 hi hz0 hz1 hz2 rfl (by decide) _ _ _ rfl (World.ownsRow.alloc rbW.out _) ⟨W.heap.size, 0, none⟩ 1 1 [.string x] rfl rfl ?cc1 ?cc2 ?cc3 ?cc4 (Nat.zero_le _) ?_)
  case cc1 => (intro j u hj; rw [Addr.add_lit]; (rcases j with _ | j) <;> simp at hj <;> subst hj <;> simp (maxDischargeDepth := 12) [go_sem])
  case cc2 => (intro u hu; simp at hu; subst hu; rfl)
  case cc3 => unfold maxLen; omega
  case cc4 => omega
  intro v' w3 h2 h3 _ h5
  obtain ⟨pv, cv, rfl, k1, k2, HE⟩ := pushS_end H1.ft hszW BW.out raW.out rbW.out H1.fw H1.fa H1.fb (by simpa using hl) HSUM.out h2 h3 h5
  clear h2 h3 h5
  go_wp2
  go_ret
  exact ⟨rfl, pushS_fin O H hx (by simpa using hl) HFW.out IW.out HE.out⟩

set_option maxRecDepth 100000 in
set_option maxHeartbeats 8000000 in
theorem pushS_more {f : ByteArray → ByteArray → ByteArray} {w : World} {bw : Nat} {op : Value} {nt : ByteArray} {c : Int} {X : List (ByteArray)} {F : Nat → Prop} {ok : Nat → ByteArray → Prop} {G : Nat → Prop} {I : Nat → World → Prop} {n : Nat} {y : ByteArray} {r : List (ByteArray)} (O : OpS op f ok G I) (x : ByteArray) (hx : ok 1 x) (H : StS f op nt ok G I w bw c n X (y :: r) F) (hl : X.length + (r.length + 1) < 4096) :
    Calls Try.prog 24 #[.pointer (some ⟨bw, 0, none⟩), (.string x)] w fun e w' => e = .returned (.int .i64 0) ∧ Hid (StS f op nt ok G I w' bw (wrap64 (c + 1)) (n + 1) X ((y :: r) ++ [x]) (FF F w w') ∧ Fr (fun k => F k ∨ G k) w w') := by
  obtain ⟨va, vb, sm, H1⟩ := H.win
  obtain ⟨pa, ca, rfl⟩ := row_form H1.ra
  obtain ⟨pb, cb, rfl⟩ := row_form H1.rb
  obtain ⟨i0, hi, hz0, hz1, hz2⟩ := info_parts inES
  have hlt := lt_heap H1.blk
  have HL : Hid (∀ W, Below w.heap.size w W → Calls Try.prog 28 #[.pointer (some ⟨bw, 0, none⟩)] W fun e w' => e = .returned (.int .i64 ((X.length + (r.length + 1) : Nat) : Int)) ∧ Below W.heap.size W w') := fun W hW =>
    (lenS_any (H1.fr (Fr.of_below (P := fun _ => False) hW) (fun _ _ h => h))).mono (fun e w' h => ⟨h.1, by obtain ⟨q, rfl⟩ := h.2; exact Below.drewN (Below.refl _ _) q⟩)
  have hl1 : ¬ (4096 : Int) ≤ ((X.length + (r.length + 1) : Nat) : Int) := by omega
  obtain ⟨m, hm⟩ : ∃ m, Hid (X.length + (r.length + 1) = m) := ⟨_, rfl⟩
  rw [hm.out] at HL hl1
  go_enter Try.func24, Try.ntmps24
  go_wp2_with fail
  refine (HL.out _ (by go_grown)).mono ?_
  rintro e w1 ⟨rfl, hb1⟩
  have hb0 : Below w.heap.size w w1 := hb1
  have H2 : Hid (WinS f w1 bw op nt c X (y :: r) F (.slice pa X.length ca) (.slice pb (r.length + 1) cb) sm) := H1.fr (Fr.of_below (P := fun _ => False) hb0) (fun _ _ h => h)
  have hI1 : Hid (I n w1) := O.stay _ _ _ _ H.st (Fr.of_below (P := fun _ => False) hb0) (fun _ _ h => h)
  have hlt1 := lt_heap H2.out.blk
  have hsz1 := hb0.size
  have gv : w1.cell? ⟨bw, 4, none⟩ = some (.slice pb (r.length + 1) cb) := (Lib.cell_of_heap H2.out.blk _).trans rfl
  have g5 : w1.cell? ⟨bw, 5, none⟩ = some (.string sm) := (Lib.cell_of_heap H2.out.blk _).trans rfl
  have gf5 : w1.frozen? ⟨bw, 5, none⟩ = false := Lib.frozen_of_heap H2.out.blk _
  clear hb1 HL
  have gy : ¬ ((r.length : Int) + 1 = 0) := by omega
  have hsm : Hid (sm = sumL f y r) := H1.sum y r rfl
  have hoks : ok (1 + r.length) sm := by rw [hsm.out]; exact ok_sumL O.okf r y 1 (H.okY y (by simp)) (fun z hz => H.okY z (by simp [hz])) (by omega)
  have HJ : Hid (∀ W, Below w1.heap.size w1 W → Calls Try.prog 37 #[.pointer (some ⟨bw, 0, none⟩), (.string sm), (.string x)] W fun e w' => e = .returned (.string (f sm x)) ∧ Hid (I (n + 1) w' ∧ Fr (fun k => k = bw ∨ G k) W w' ∧
      w'.heap[bw]? = some (.cells #[op, .string nt, .int .i64 (wrap64 (c + 1)), (.slice pa X.length ca), (.slice pb (r.length + 1) cb), .string sm] 67 (0, 0)))) := fun W hW => joinS_any O sm x hoks hx (by omega) (H2.out.fr (Fr.of_below (P := fun _ => False) hW) (fun _ _ h => h)) (O.stay _ _ _ _ hI1.out (Fr.of_below (P := fun _ => False) hW) (fun _ _ h => h)) H.dis
  go_upto_region 5 with fail
  go_wp2_with fail
  refine (HJ.out _ (by first | exact (Below.refl _ w1).drew | exact Below.refl _ w1)).mono ?_
  rintro e w2 ⟨rfl, hJ⟩
  have e2 := hJ.out.2.2
  have k5 : w2.cell? ⟨bw, 5, none⟩ = some (.string sm) := (Lib.cell_of_heap e2 _).trans rfl
  have kf5 : w2.frozen? ⟨bw, 5, none⟩ = false := Lib.frozen_of_heap e2 _
  clear e2
  go_upto_region 6 with fail
  refine wp_world ?_
  intro W hW
  have HF1 : Hid (Fr (fun k => k = bw ∨ G k) w1 W) := by rw [hW]; exact hJ.out.2.1.trans ((Fr.refl (fun k => k = bw) w2).setCell (p := ⟨bw, 5, none⟩) (Or.inl rfl) _) (fun i e => Or.inl (Or.inl e))
  have blkW : W.heap[bw]? = some (.cells #[op, .string nt, .int .i64 (wrap64 (c + 1)), (.slice pa X.length ca), (.slice pb (r.length + 1) cb), .string (f sm x)] 67 (0, 0)) := by rw [hW, (set_heap hJ.out.2.2 _)]; rfl
  have IW : Hid (I (n + 1) W) := by rw [hW]; exact O.stay _ _ _ _ hJ.out.1 ((Fr.refl (fun k => k = bw) w2).setCell (p := ⟨bw, 5, none⟩) (Or.inl rfl) _) (fun k hk e => H.dis bw H1.fw (e ▸ hk))
  have hW0 : Hid (∀ k, F k → ¬ k = bw → ¬ (k = bw ∨ G k)) := fun k hk hn h => h.elim hn (H.dis k hk)
  have raW : Hid (W.ownsRow 0 69 2 (.slice pa X.length ca) X.length (tflS (tls f X).reverse)) := HF1.out.row H2.out.ra (fun k e => hW0.out k (H1.fa k e) (fun h => row_ne H2.out.ra H2.out.blk (by decide) (h ▸ e)))
  have rbW : Hid (W.ownsRow 0 9 1 (.slice pb (r.length + 1) cb) (r.length + 1) (flS (y :: r))) := HF1.out.row H2.out.rb (fun k e => hW0.out k (H1.fb k e) (fun h => row_ne H2.out.rb H2.out.blk (by decide) (h ▸ e)))
  have HFW : Hid (Fr (fun k => F k ∨ G k) w W) := (Fr.of_below hb0).trans HF1.out (fun i h => h.elim (fun e => Or.inl (Or.inl (e ▸ H1.fw))) (fun g => Or.inl (Or.inr g)))
  have hszW : w.heap.size ≤ W.heap.size := HFW.out.size
  have HSUM : Hid (∀ y' r', (y :: r) ++ [x] = y' :: r' → (f sm x) = sumL f y' r') := fun y' r' h => by rw [List.cons_append] at h; injection h with h1 h2; subst h1; subst h2; rw [sumL_snoc, hsm.out]
  have yv : W.cell? ⟨bw, 4, none⟩ = some (.slice pb (r.length + 1) cb) := (Lib.cell_of_heap blkW _).trans rfl
  have hbw : bw < W.heap.size := lt_heap blkW
  have BW : Hid (_) := blkW
  clear hW blkW gv g5 gf5 k5 kf5 hI1 HF1 hb0 hlt1 hsz1 hW0
  go_wp2_with (at_builtin; refine wpList_append_own_at _ rfl _ _ 52 rfl 0 9 i0 (.string ByteArray.empty) 1 16 Try.underlying52 hi hz0 hz1 hz2 rfl (by decide) _ _ _ rfl (World.ownsRow.alloc rbW.out _) ⟨W.heap.size, 0, none⟩ 1 1 [.string x] rfl rfl ?cc1 ?cc2 ?cc3 ?cc4 (Nat.zero_le _) ?_)
  case cc1 => (intro j u hj; rw [Addr.add_lit]; (rcases j with _ | j) <;> simp at hj <;> subst hj <;> simp (maxDischargeDepth := 12) [go_sem])
  case cc2 => (intro u hu; simp at hu; subst hu; rfl)
  case cc3 => unfold maxLen; omega
  case cc4 => omega
  intro v' w3 h2 h3 _ h5
  obtain ⟨pv, cv, rfl, k1, k2, HE⟩ := pushS_end H1.ft hszW BW.out raW.out rbW.out H1.fw H1.fa H1.fb (by simpa using hl) HSUM.out h2 h3 h5
  clear h2 h3 h5
  go_wp2
  go_ret
  exact ⟨rfl, pushS_fin O H hx (by simpa using hl) HFW.out IW.out HE.out⟩
end Go.Proofs.Ytondchfhdhllhaa

namespace Go.Proofs.Ytondchfhdhllhaa
open Go.RowKit Go.Shelf
set_option linter.unusedVariables false

/-- A number counted up as the machine does. -/
def cw (c : Int) : Nat → Int
  | 0 => c
  | k + 1 => wrap64 (cw c k + 1)
/-- The numbers below m, the greatest first, k of them. -/
def upto (m k : Nat) : List Nat := (List.range k).map fun i => m - 1 - i
theorem upto_succ (m k : Nat) : upto m (k + 1) = upto m k ++ [m - 1 - k] := by simp [upto, List.range_succ]
theorem upto_len (m k : Nat) : (upto m k).length = k := by simp [upto]
theorem upto_rev {α : Type} (L : List α) (d : α) : (upto L.length L.length).map (fun j => L[j]?.getD d) = L.reverse := by
  apply List.ext_getElem
  · simp [upto]
  · intro i h1 h2
    have hi : i < L.length := by simpa using h2
    simp only [upto, List.map_map, List.getElem_map, List.getElem_range, Function.comp, List.getElem_reverse]
    rw [List.getElem?_eq_getElem (by omega)]
    rfl
theorem keepsFrom_of {B : Nat} {P : Nat → Prop} {W W' : World} (h : Fr P W W') (hp : ∀ k o, B ≤ k → W.heap[k]? = some o → o.isCells = false → ¬ P k) : KeepsFrom B W W' :=
  ⟨h.size, fun k o hk ho hc => h.heap ho (hp k o hk ho hc)⟩
theorem setCells_fr (b : Nat) : ∀ (vs : List Value) (o : Nat) (w : World) (cs : Array Value) (t : TypeId) (fr : Nat × Nat), w.heap[b]? = some (.cells cs t fr) →
    Fr (fun k => k = b) w (w.setCells b o vs) ∧ ∃ cs', (w.setCells b o vs).heap[b]? = some (.cells cs' t fr) ∧ cs'.size = cs.size
  | [], o, w, cs, t, fr, h => ⟨Fr.refl _ _, cs, h, rfl⟩
  | v :: vs, o, w, cs, t, fr, h => by
    have h1 : Fr (fun k => k = b) w (w.setCell ⟨b, o, none⟩ v) := (Fr.refl (fun k => k = b) w).setCell (p := ⟨b, o, none⟩) (Or.inl rfl) v
    obtain ⟨h2, cs', h3, h4⟩ := setCells_fr b vs (o + 1) (w.setCell ⟨b, o, none⟩ v) _ t fr (set_heap h v)
    exact ⟨h1.trans h2 (fun i e => Or.inl e), cs', h3, by rw [h4]; simp⟩
/-- clear of a slice of one's own. -/
theorem run_clear_any {P : Program} (w : World) (t e ty : TypeId) (z : Value) (ht : P.underlying t = some (.slice e)) (hv : ∀ w, (zeroValue e).run P w = .ok z w) (hz1 : ∀ v ∈ z.cells.toList, v.oneCell' = true) (b n c : Nat) (hn : 0 < n) (cur : Array Value) (hb : w.heap[b]? = some (.cells cur e (0, 0))) (hcur : (Builtin.zeroCells z.cells n).size ≤ cur.size) (hzz : ∀ v ∈ (Builtin.zeroCells z.cells n).toList, v ∈ z.cells.toList) :
    (Builtin.clear_ #[t] ty #[.slice (some ⟨b, 0, none⟩) n c]).run P w = .ok (.tuple #[]) (w.setCells b 0 (Builtin.zeroCells z.cells n).toList) := by
  have hst := run_storeCells_cells (P := P) b 0 (Builtin.zeroCells z.cells n).toList 0 w (fun j hj => by
      rw [Lib.cell_of_heap hb]
      rw [Array.getElem?_eq_getElem (by simp at hj; omega)]
      rfl) (fun j hj => Lib.frozen_of_heap hb _) (fun v hv' => hz1 v (hzz v hv'))
  simp only [Nat.add_zero] at hst
  obtain ⟨m, rfl⟩ : ∃ m, n = m + 1 := ⟨n - 1, by omega⟩
  simp [Builtin.clear_, run_underlying ht, hv, hst]
/-- The things at some places, the last one first. -/
def zsL {α : Type} (L : List α) (d : α) (pre : List Nat) : List α := (pre.map (fun j => L[j]?.getD d)).reverse
theorem zsL_snoc {α : Type} (L : List α) (d : α) (pre : List Nat) (j : Nat) : zsL L d (pre ++ [j]) = (L[j]?.getD d) :: zsL L d pre := by simp [zsL]
theorem zsL_len {α : Type} (L : List α) (d : α) (pre : List Nat) : (zsL L d pre).length = pre.length := by simp [zsL]
theorem zsL_all {α : Type} (L : List α) (d : α) : zsL L d (upto L.length L.length) = L := by rw [zsL, upto_rev, List.reverse_reverse]
theorem zsL_mem {α : Type} (L : List α) (d : α) (hd : d ∈ L) (j : Nat) : L[j]?.getD d ∈ L := by
  rcases Nat.lt_or_ge j L.length with h | h
  · rw [List.getElem?_eq_getElem h]; exact List.getElem_mem h
  · rw [List.getElem?_eq_none h]; exact hd
theorem zsL_ok {α : Type} {ok : α → Prop} (L : List α) (d : α) (hd : d ∈ L) (h : ∀ x ∈ L, ok x) (pre : List Nat) : ∀ x ∈ zsL L d pre, ok x := by
  intro x hx
  simp only [zsL, List.mem_reverse, List.mem_map] at hx
  obtain ⟨j, -, rfl⟩ := hx
  exact h _ (zsL_mem L d hd j)
theorem row_cells {w : World} {B e size n k : Nat} {v : Value} {xs : List Value} (h : w.ownsRow B e size v n xs) (hk : v.ownBlock = some k) : ∃ cur, w.heap[k]? = some (.cells cur e (0, 0)) := by
  obtain ⟨-, ⟨rfl, -⟩ | ⟨g, cap, cur', rfl, -, hg, -⟩⟩ := h
  · cases hk
  · injection hk with hk
    have : g = k := hk
    subst this
    exact ⟨_, hg⟩
theorem wpIn_world {F : Fence} {n : Nat} {P : Program} {c : Code} {Q : Exit → Act → World → Prop} {a : Act} {w : World} (h : ∀ W, W = w → c.wpIn F n P Q a W) : c.wpIn F n P Q a w := h w rfl
end Go.Proofs.Ytondchfhdhllhaa

namespace Go.Proofs.Ytondchfhdhllhaa
open Go.RowKit Go.Shelf
set_option linter.unusedVariables false
attribute [local go_sem] Oper.semAt_some

set_option maxHeartbeats 1000000 in
theorem backS_in (n : Nat) (a : Option Addr) (len cap : Nat) (w : World) :
    CallsIn Fence.wide n Try.prog 41 #[.slice a len cap] w fun e w' => e = .returned (.func (.func 43) #[] #[.pointer (some ⟨w.heap.size, 0, none⟩)]) ∧ w' = w.alloc (.cells #[.slice a len cap] 52) := by
  refine callsIn_of_wp Try.func41 rfl trivial ?_ rfl
  simp only [Try.ntmps41, List.size_toArray, List.length_cons, List.length_nil, Nat.reduceAdd, Nat.reduceSub, Array.replicate_succ, Array.replicate_zero, List.push_toArray, List.append_toArray, List.nil_append, List.cons_append]
  gi_wp2
  go_ret
  exact ⟨rfl, rfl⟩

/-- What a round must keep: the slice and its row. -/
def KpS (Bs b : Nat) (W W' : World) : Prop := W'.heap[Bs]? = W.heap[Bs]? ∧ W'.heap[b]? = W.heap[b]?
theorem KpS.t {Bs b : Nat} {X Y Z : World} (h : KpS Bs b X Y) (k : KpS Bs b Y Z) : KpS Bs b X Z := ⟨k.1.trans h.1, k.2.trans h.2⟩
theorem KpS.b {Bs b B : Nat} (h1 : Bs < B) (h2 : b < B) (W : World) (l : Nat) (o o' : Obj) (hl : B ≤ l) (_ : W.heap[l]? = some o) (_ : o.isCells = false) (_ : o.isWalk = false) : KpS Bs b W (W.putObj l o') :=
  ⟨World.putObj_heap_other (by omega), World.putObj_heap_other (by omega)⟩

set_option maxRecDepth 100000 in
set_option maxHeartbeats 4000000 in
theorem bwdS1 (n : Nat) (hn : 1 ≤ n) (l Bs b cap : Nat) (L : List (ByteArray)) (d : ByteArray) (hL : L.length ≤ 8192) (cur : Array Value) (J Jx : List Nat → World → Prop)
    (hcur : ∀ w : World, w.heap[b]? = some (.cells cur 9 (0, 0)) → ∀ j, j < L.length → w.cell? ⟨b, j, none⟩ = some (.string (L[j]?.getD d)))
    (hY : ∀ pre x W, J pre W → pre.length < L.length → YieldAt Fence.wide (n - 1) Try.prog l #[.int .i64 (x : Nat), (.string (L[x]?.getD d))] W fun e W' =>
      (e = .returned (.bool true) ∧ J (pre ++ [x]) W' ∧ KpS Bs b W W') ∨ (e = .returned (.bool false) ∧ Jx (pre ++ [x]) W'))
    (W : World) (hBs : W.heap[Bs]? = some (.cells #[.slice (some ⟨b, 0, none⟩) L.length cap] 52 (0, 0))) (hb : W.heap[b]? = some (.cells cur 9 (0, 0))) (h0 : J [] W) :
    CallsIn Fence.wide n Try.prog 43 #[.func (.yield l) #[] #[], .pointer (some ⟨Bs, 0, none⟩)] W fun e W' => (∃ v, e = .returned v) ∧
      ((∃ ys, ys = upto L.length L.length ∧ J ys W') ∨ (∃ pre, True ∧ Jx pre W')) := by
  have HC : Hid (∀ w : World, w.heap[b]? = some (.cells cur 9 (0, 0)) → ∀ j, j < L.length → w.cell? ⟨b, j, none⟩ = some (.string (L[j]?.getD d))) := hcur
  have HYY : Hid (∀ pre x W, J pre W → pre.length < L.length → YieldAt Fence.wide (n - 1) Try.prog l #[.int .i64 (x : Nat), (.string (L[x]?.getD d))] W fun e W' =>
      (e = .returned (.bool true) ∧ J (pre ++ [x]) W' ∧ KpS Bs b W W') ∨ (e = .returned (.bool false) ∧ Jx (pre ++ [x]) W')) := hY
  clear hcur hY
  have yB : W.cell? ⟨Bs, 0, none⟩ = some (.slice (some ⟨b, 0, none⟩) L.length cap) := (Lib.cell_of_heap hBs _).trans rfl
  have H0 : Hid (W.heap[Bs]? = some (.cells #[.slice (some ⟨b, 0, none⟩) L.length cap] 52 (0, 0)) ∧ W.heap[b]? = some (.cells cur 9 (0, 0))) := ⟨hBs, hb⟩
  clear hBs hb
  obtain ⟨m, hm⟩ : ∃ m, Hid (L.length = m) := ⟨_, rfl⟩
  rw [hm.out] at yB hL H0 HC HYY ⊢
  refine callsIn_of_wp Try.func43 rfl trivial ?_ rfl
  simp only [Try.ntmps43, List.size_toArray, List.length_cons, List.length_nil, Nat.reduceAdd, Nat.reduceSub, Array.replicate_succ, Array.replicate_zero, List.push_toArray, List.append_toArray, List.nil_append, List.cons_append]
  gi_wp2
  gi_loopw [3] (fun i wr => (∃ k j' : Nat, k + j' + 1 = m ∧ i = .int .i64 (j' : Nat) ∧ J (upto m k) wr ∧ Hid (wr.heap[Bs]? = some (.cells #[.slice (some ⟨b, 0, none⟩) m cap] 52 (0, 0)) ∧ wr.heap[b]? = some (.cells cur 9 (0, 0)))) ∨ (i = .int .i64 (-1) ∧ J (upto m m) wr))
    (fun i _ => (intOf i + 1).toNat)
  case atStart =>
    cases m with
    | zero => exact Or.inr ⟨by simp, h0⟩
    | succ m' => exact Or.inl ⟨0, m', by omega, by go_num, h0, H0⟩
  case round =>
    rcases hrel with ⟨k, j', hk, rfl, hJs, HK⟩ | ⟨rfl, hJs⟩
    · have hcw : Hid (∀ j, j < m → wr.cell? ⟨b, j, none⟩ = some (.string (L[j]?.getD d))) := HC.out wr HK.out.2
      have hk' : Hid (k + j' + 1 = m) := hk
      have hj1 : (j' : Int) < m := by omega
      have hj2 : (0 : Int) ≤ (j' : Int) := by omega
      have hj3 : ¬ (j' : Int) < 0 := by omega
      have hjj : j' < m := by omega
      have hkm : k < m := by omega
      clear hk
      have z0 : wr.cell? ⟨b, j', none⟩ = some (.string (L[j']?.getD d)) := hcw.out j' (by omega)
      have yB' : wr.cell? ⟨Bs, 0, none⟩ = some (.slice (some ⟨b, 0, none⟩) m cap) := (Lib.cell_of_heap HK.out.1 _).trans rfl
      obtain ⟨fn, tmps, assign, body, hy, hR⟩ := HYY.out _ j' wr hJs (by rw [upto_len]; omega)
      try dsimp only at hy
      gi_wp2
      refine hR.mono ?_
      rintro e W3 (⟨rfl, hJ3, hk3⟩ | ⟨rfl, hJx3⟩)
      · have HK3 : Hid (W3.heap[Bs]? = some (.cells #[.slice (some ⟨b, 0, none⟩) m cap] 52 (0, 0)) ∧ W3.heap[b]? = some (.cells cur 9 (0, 0))) := ⟨hk3.1.trans HK.out.1, hk3.2.trans HK.out.2⟩
        have hJ4 : J (upto m (k + 1)) W3 := by
          have h := hk'.out
          rw [upto_succ, show m - 1 - k = j' by omega]
          exact hJ3
        gi_wp2
        go_roundw
        case rel =>
          have h := hk'.out
          cases j' with
          | zero => exact Or.inr ⟨by simp, by rw [show m = k + 1 by omega]; rw [show m = k + 1 by omega] at hJ4; exact hJ4⟩
          | succ j'' => exact Or.inl ⟨k + 1, j'', by omega, by go_num, hJ4, HK3⟩
        case measure => (simp [intOf]; try omega)
      · gi_wp2
        refine bodyPost_ret (results_none rfl _ _ _) rfl ?_
        exact ⟨⟨_, rfl⟩, .inr ⟨_, trivial, hJx3⟩⟩
    · gi_wp2
      go_end0
      exact ⟨⟨_, rfl⟩, .inl ⟨_, rfl, hJs⟩⟩

theorem bwdS_stops (n : Nat) (hn : 1 ≤ n) (Bs b cap : Nat) (L : List (ByteArray)) (d : ByteArray) (hL : L.length ≤ 8192) (cur : Array Value)
    (hcur : ∀ w : World, w.heap[b]? = some (.cells cur 9 (0, 0)) → ∀ j, j < L.length → w.cell? ⟨b, j, none⟩ = some (.string (L[j]?.getD d)))
    (w : World) (hBs : w.heap[Bs]? = some (.cells #[.slice (some ⟨b, 0, none⟩) L.length cap] 52 (0, 0))) (hb : w.heap[b]? = some (.cells cur 9 (0, 0))) :
    SeqStopsK Fence.wide n Try.prog 43 #[.pointer (some ⟨Bs, 0, none⟩)] (fun x : Nat => #[Value.int .i64 (x : Nat), (.string (L[x]?.getD d))]) (KpS Bs b) (fun ys => ys = upto L.length L.length) (fun _ => True) L.length w := fun l J Jx W hW _ _ hY h0 =>
  bwdS1 n hn l Bs b cap L d hL cur J Jx hcur hY W ((hW.block _ (lt_heap hBs)).trans hBs) ((hW.block _ (lt_heap hb)).trans hb) h0
end Go.Proofs.Ytondchfhdhllhaa

namespace Go.Proofs.Ytondchfhdhllhaa
open Go.RowKit Go.Shelf
set_option linter.unusedVariables false

structure TIS (f : ByteArray → ByteArray → ByteArray) (op : Value) (nt : ByteArray) (G : Nat → Prop) (I : Nat → World → Prop) (w : World) (bw : Nat) (c : Int) (n : Nat) (L : List (ByteArray)) (d : ByteArray) (vb : Value) (sm : ByteArray) (F : Nat → Prop) (b : Nat) (cur : Array Value) (pre : List Nat) (W : World) (va : Value) : Prop where
  win : WinS f W bw op nt (cw c (pre.length - 1)) (zsL L d pre) L (fun k => F k ∨ va.ownBlock = some k) va vb sm
  va : ∀ k, va.ownBlock = some k → F k ∨ w.heap.size ≤ k
  bp : W.heap[w.heap.size]? = some (.cells #[.pointer (some ⟨bw, 0, none⟩)] 49 (0, 0))
  bs : W.heap[w.heap.size + 1]? = some (.cells #[vb] 52 (0, 0))
  bb : W.heap[b]? = some (.cells cur 9 (0, 0))
  st : I (n + (pre.length - 1)) W
  fr : Fr (fun k => F k ∨ G k) w W

theorem TIS.own {f : ByteArray → ByteArray → ByteArray} {op : Value} {nt : ByteArray} {ok : Nat → ByteArray → Prop} {G : Nat → Prop} {I : Nat → World → Prop} {w : World} {bw : Nat} {c : Int} {n : Nat} {L : List (ByteArray)} {d : ByteArray} {vb : Value} {sm : ByteArray} {F : Nat → Prop} {b : Nat} {cur : Array Value} (O : OpS op f ok G I) (hst : I n w) (hF : ∀ k, F k → k < w.heap.size) (hb : b < w.heap.size) {B : Nat} (hB : w.heap.size + 2 ≤ B) :
    OwnFrom B (fun pre W => ∃ va, TIS f op nt G I w bw c n L d vb sm F b cur pre W va) := by
  intro pre W W' row ⟨va, h⟩ hg hr
  have hf : Fr (fun k => row = some k) W W' := (Fr.refl _ _).grown hg (fun k e => Or.inl e)
  have hn : ∀ k, k < B → ¬ row = some k := fun k hk e => by have := (hr k e).1; omega
  have hva : ∀ k, va.ownBlock = some k → ¬ row = some k := fun k e e' => by
    obtain ⟨_, o, ho, hc⟩ := hr k e'
    obtain ⟨cc, hcc⟩ := row_cells h.win.ra e
    rw [hcc] at ho
    cases ho
    cases hc
  exact ⟨va, ⟨h.win.fr hf (fun k hk => hk.elim (fun q => hn k (by have := hF k q; omega)) (hva k)), h.va, hf.heap h.bp (hn _ (by omega)), hf.heap h.bs (hn _ (by omega)), hf.heap h.bb (hn _ (by omega)),
    O.stay _ _ _ _ h.st hf (fun k g => hn k (by have := O.glt _ _ _ hst g; omega)), h.fr.trans hf (fun i e => Or.inr (by have := (hr i e).1; omega))⟩⟩
theorem TIS.below {f : ByteArray → ByteArray → ByteArray} {op : Value} {nt : ByteArray} {ok : Nat → ByteArray → Prop} {G : Nat → Prop} {I : Nat → World → Prop} {w : World} {bw : Nat} {c : Int} {n : Nat} {L : List (ByteArray)} {d : ByteArray} {vb : Value} {sm : ByteArray} {F : Nat → Prop} {b : Nat} {cur : Array Value} {pre : List Nat} {W W' : World} {va : Value} (O : OpS op f ok G I) (h : TIS f op nt G I w bw c n L d vb sm F b cur pre W va) (hb : Below W.heap.size W W') : TIS f op nt G I w bw c n L d vb sm F b cur pre W' va :=
  have hf : Fr (fun _ => False) W W' := Fr.of_below hb
  ⟨h.win.fr hf (fun _ _ h => h), h.va, hf.heap h.bp (fun h => h), hf.heap h.bs (fun h => h), hf.heap h.bb (fun h => h), O.stay _ _ _ _ h.st hf (fun _ _ h => h), h.fr.trans hf (fun _ h => h.elim)⟩

theorem tstepS {f : ByteArray → ByteArray → ByteArray} {op : Value} {nt : ByteArray} {ok : Nat → ByteArray → Prop} {G : Nat → Prop} {I : Nat → World → Prop} {w : World} {bw : Nat} {c : Int} {n : Nat} {L : List (ByteArray)} {d : ByteArray} {vb : Value} {sm : ByteArray} {F : Nat → Prop} {b : Nat} {cur : Array Value} {pre : List Nat} {W V w2 : World} {va v' : Value} {j : Nat} (O : OpS op f ok G I) (hst : I n w) (hF : ∀ k, F k → k < w.heap.size) (hd : ∀ k, F k → ¬ G k) (hfw : F bw) (hfb : ∀ k, vb.ownBlock = some k → F k) (hbf : F b) (h : TIS f op nt G I w bw c n L d vb sm F b cur pre W va) (hV : Fr (fun k => k = bw ∨ G k) W V)
    (blkV : V.heap[bw]? = some (.cells #[op, .string nt, .int .i64 (cw c pre.length), va, vb, .string sm] 67 (0, 0))) (IV : I (n + pre.length) V) (hpl : pre.length < L.length) (hLl : L.length ≤ 4096)
    (h2 : w2.ownsRow 0 69 2 v' ((zsL L d pre).length + 1) (tflS (tls f (zsL L d pre)).reverse ++ [.string (L[j]?.getD d), .string (sumR f (L[j]?.getD d) (zsL L d pre))])) (h3 : (V.alloc (.cells #[.string (L[j]?.getD d), .string (sumR f (L[j]?.getD d) (zsL L d pre))] 69)).grownBy w2 va.ownBlock) (h5 : v'.ownBlock = va.ownBlock ∨ v'.ownBlock = some (V.heap.size + 1)) :
    ∃ p c2, v' = .slice p (pre.length + 1) c2 ∧ w2.cell? ⟨bw, 3, none⟩ = some va ∧ w2.frozen? ⟨bw, 3, none⟩ = false ∧ Fr (fun k => k = bw ∨ G k ∨ va.ownBlock = some k) W w2 ∧
      Hid (TIS f op nt G I w bw c n L d vb sm F b cur (pre ++ [j]) (w2.setCell ⟨bw, 3, none⟩ v') v' ∧ Fr (fun k => k = bw ∨ G k ∨ va.ownBlock = some k) W (w2.setCell ⟨bw, 3, none⟩ v')) := by
  have hG : ∀ k, G k → k < w.heap.size := fun k g => O.glt _ _ _ hst g
  obtain ⟨p, c2, hv⟩ := row_form h2
  have hbw : bw < w.heap.size := hF _ hfw
  have hbl : b < w.heap.size := hF _ hbf
  have hne : ∀ k, (F k ∨ w.heap.size ≤ k) → ¬ k = bw → ¬ (k = bw ∨ G k) := fun k hk hn e => e.elim hn (fun g => hk.elim (fun q => hd k q g) (fun q => by have := hG k g; omega))
  have raV := hV.row h.win.ra (fun k e => hne k (h.va k e) (fun q => row_ne h.win.ra h.win.blk (by decide) (q ▸ e)))
  have rbV := hV.row h.win.rb (fun k e => hne k (Or.inl (hfb k e)) (fun q => row_ne h.win.rb h.win.blk (by decide) (q ▸ e)))
  have bpV := hV.heap h.bp (hne _ (Or.inr (Nat.le_refl _)) (by omega))
  have bsV := hV.heap h.bs (hne _ (Or.inr (by omega)) (by omega))
  have hbn : ¬ b = bw := fun q => by have e1 := h.bb; have e2 := h.win.blk; rw [q] at e1; rw [e1] at e2; injection e2 with e2; injection e2 with _ e2; cases e2
  have bbV := hV.heap h.bb (hne _ (Or.inl hbf) hbn)
  have ha1 := (Fr.refl (fun _ => False) V).alloc (.cells #[.string (L[j]?.getD d), .string (sumR f (L[j]?.getD d) (zsL L d pre))] 69)
  have blk1 := ha1.heap blkV (fun h => h)
  have rb1 := ha1.row rbV (fun _ _ h => h)
  have ra1 := ha1.row raV (fun _ _ h => h)
  have bp1 := ha1.heap bpV (fun h => h)
  have bs1 := ha1.heap bsV (fun h => h)
  have bb1 := ha1.heap bbV (fun h => h)
  have hg2 : Fr (fun k => va.ownBlock = some k) (V.alloc (.cells #[.string (L[j]?.getD d), .string (sumR f (L[j]?.getD d) (zsL L d pre))] 69)) w2 := (Fr.refl _ _).grown h3 (fun k e => Or.inl e)
  have blk2 := hg2.heap blk1 (row_ne ra1 blk1 (by decide))
  have rb2 := hg2.row rb1 (fun k e e' => row_ne2 rb1 ra1 (by decide) k e e')
  have bp2 := hg2.heap bp1 (row_ne ra1 bp1 (by decide))
  have bs2 := hg2.heap bs1 (row_ne ra1 bs1 (by decide))
  have bb2 := hg2.heap bb1 (row_ne ra1 bb1 (by decide))
  have hs3 : Fr (fun k => k = bw) w2 (w2.setCell ⟨bw, 3, none⟩ v') := (Fr.refl (fun k => k = bw) w2).setCell (p := ⟨bw, 3, none⟩) (Or.inl rfl) _
  have ra3 := hs3.row h2 (fun k e e' => row_ne h2 blk2 (by decide) (e' ▸ e))
  have rb3 := hs3.row rb2 (fun k e e' => row_ne rb2 blk2 (by decide) (e' ▸ e))
  have hz1 : V.heap.size + 1 ≤ w2.heap.size := by have := h3.size; simpa using this
  have hz3 := hs3.size
  have hwV : w.heap.size ≤ V.heap.size := Nat.le_trans h.fr.size hV.size
  have F2 : Fr (fun k => k = bw ∨ G k ∨ va.ownBlock = some k) W w2 := ((hV.mono (fun i q => Or.inl (q.elim Or.inl (fun g => Or.inr (Or.inl g))))).trans ha1 (fun _ q => q.elim)).trans hg2 (fun i q => Or.inl (Or.inr (Or.inr q)))
  have F3 : Fr (fun k => k = bw ∨ G k ∨ va.ownBlock = some k) W (w2.setCell ⟨bw, 3, none⟩ v') := F2.trans hs3 (fun i q => Or.inl (Or.inl q))
  have hva' : ∀ k, v'.ownBlock = some k → F k ∨ w.heap.size ≤ k := fun k e => by
    rcases h5 with h5 | h5
    · exact h.va k (by rw [← h5]; exact e)
    · rw [h5] at e; injection e with e; exact Or.inr (by omega)
  have elen : (pre ++ [j]).length - 1 = pre.length := by simp
  refine ⟨p, c2, by rw [hv, zsL_len], (Lib.cell_of_heap blk2 _).trans rfl, Lib.frozen_of_heap blk2 _, F2, ⟨⟨⟨?_, ?_, rb3, h.win.sum, ?_, Or.inl hfw, fun k e => Or.inr e, fun k e => Or.inl (hfb k e), ?_⟩, hva', ?_, ?_, ?_, ?_, ?_⟩, F3⟩⟩
  · rw [elen, set_heap blk2]; rfl
  · rw [zsL_snoc]
    simp only [tls, List.reverse_cons, List.length_cons]
    rw [tflS_snoc]
    exact ra3
  · rw [zsL_len]; simp; omega
  · intro k hk
    rcases hk with hk | hk
    · have := hF k hk; omega
    · exact (World.ownsRow.lt ra3 k hk).2
  · exact hs3.heap bp2 (fun q => by omega)
  · exact hs3.heap bs2 (fun q => by omega)
  · exact hs3.heap bb2 (fun q => hbn q)
  · rw [elen]
    have f1 : Fr (fun k => va.ownBlock = some k ∨ k = bw) V (w2.setCell ⟨bw, 3, none⟩ v') := ((ha1.mono (fun _ q => q.elim)).trans hg2 (fun i q => Or.inl (Or.inl q))).trans hs3 (fun i q => Or.inl (Or.inr q))
    exact O.stay _ _ _ _ IV f1 (fun k g q => q.elim (fun q => (h.va k q).elim (fun q => hd k q g) (fun q => by have := hG k g; omega)) (fun q => hd bw hfw (q ▸ g)))
  · exact h.fr.trans F3 (fun i q => q.elim (fun q => Or.inl (Or.inl (q ▸ hfw))) (fun q => q.elim (fun g => Or.inl (Or.inr g)) (fun q => (h.va i q).elim (fun q => Or.inl (Or.inl q)) Or.inr)))
/-- What a round keeps. -/
theorem tkeepS {f : ByteArray → ByteArray → ByteArray} {op : Value} {nt : ByteArray} {ok : Nat → ByteArray → Prop} {G : Nat → Prop} {I : Nat → World → Prop} {w : World} {bw : Nat} {c : Int} {n : Nat} {L : List (ByteArray)} {d : ByteArray} {vb : Value} {sm : ByteArray} {F : Nat → Prop} {b : Nat} {cur : Array Value} {pre : List Nat} {W W' : World} {va : Value} (O : OpS op f ok G I) (hst : I n w) (hF : ∀ k, F k → k < w.heap.size) (hd : ∀ k, F k → ¬ G k) (hfw : F bw) (hbf : F b) (h : TIS f op nt G I w bw c n L d vb sm F b cur pre W va) (hf : Fr (fun k => k = bw ∨ G k ∨ va.ownBlock = some k) W W') {B : Nat} (hB : w.heap.size ≤ B) :
    KeepsFrom B W W' ∧ KpS (w.heap.size + 1) b W W' := by
  have hG : ∀ k, G k → k < w.heap.size := fun k g => O.glt _ _ _ hst g
  have hbw : bw < w.heap.size := hF _ hfw
  have hbl : b < w.heap.size := hF _ hbf
  refine ⟨keepsFrom_of hf (fun k o hk ho hc e => ?_), ?_, ?_⟩
  · rcases e with e | e | e
    · omega
    · have := hG k e; omega
    · obtain ⟨cc, hcc⟩ := row_cells h.win.ra e
      rw [hcc] at ho
      cases ho
      cases hc
  · refine hf.block _ (lt_heap h.bs) (fun e => ?_)
    rcases e with e | e | e
    · omega
    · have := hG _ e; omega
    · exact row_ne h.win.ra h.bs (by decide) e
  · refine hf.block _ (lt_heap h.bb) (fun e => ?_)
    rcases e with e | e | e
    · have e1 := h.bb; have e2 := h.win.blk; rw [e] at e1; rw [e1] at e2; injection e2 with e2; injection e2 with _ e2; cases e2
    · exact hd b hbf e
    · exact row_ne h.win.ra h.bb (by decide) e
end Go.Proofs.Ytondchfhdhllhaa

namespace Go.Proofs.Ytondchfhdhllhaa
open Go.RowKit Go.Shelf
set_option linter.unusedVariables false
attribute [local go_sem] Oper.semAt_some

theorem zc_memS (A : Array Value) (i : Nat) (h : 0 < A.size) : A[i % A.size]! ∈ A.toList := by
  rw [getElem!_pos A _ (Nat.mod_lt _ h)]
  simp
theorem flS_at (d : ByteArray) : ∀ (L : List (ByteArray)) (j : Nat), j < L.length → (flS L)[j]? = some (.string (L[j]?.getD d))
  | [], j, h => absurd h (by simp)
  | x :: r, 0, h => by simp [flS, celS]
  | x :: r, j + 1, h => by
    have ih := flS_at d r j (by simpa using h)
    simpa [flS, celS] using ih
theorem curS_at {b : Nat} {cur : Array Value} (L : List (ByteArray)) (d : ByteArray) (h : cur.toList.take (L.length * 1) = flS L) : ∀ w : World, w.heap[b]? = some (.cells cur 9 (0, 0)) → ∀ j, j < L.length → w.cell? ⟨b, j, none⟩ = some (.string (L[j]?.getD d)) := by
  intro w hw j hj
  have e : ∀ i, i < L.length * 1 → w.cell? ⟨b, i, none⟩ = (flS L)[i]? := fun i hi => by
    rw [Lib.cell_of_heap hw, ← h, List.getElem?_take, if_pos hi, Array.getElem?_toList]
  have hz := flS_at d L j hj
  exact (e _ (by omega)).trans hz

theorem turnfinS {f : ByteArray → ByteArray → ByteArray} {w : World} {bw : Nat} {op : Value} {nt : ByteArray} {c : Int} {y : ByteArray} {r : List (ByteArray)} {F : Nat → Prop} {ok : Nat → ByteArray → Prop} {G : Nat → Prop} {I : Nat → World → Prop} {n : Nat} {W W9 : World} {va : Value} {sm : ByteArray} {b cb D n' : Nat} {c' : Int} {cur cur' : Array Value} (O : OpS op f ok G I) (H : StS f op nt ok G I w bw c n [] (y :: r) F) (hF : ∀ k, F k → k < w.heap.size) (hfw : F bw) (hbf : F b)
    (HW : WinS f W bw op nt c' (y :: r) (y :: r) (fun k => F k ∨ va.ownBlock = some k) va (.slice (some ⟨b, 0, none⟩) (r.length + 1) cb) sm) (HB : W.heap[b]? = some (.cells cur 9 (0, 0))) (hva : ∀ k, va.ownBlock = some k → F k ∨ w.heap.size ≤ k) (HST : I n' W) (hfr : Fr (fun k => F k ∨ G k) w W) (F9 : Fr (fun k => k = b ∨ k = bw) W W9)
    (B9 : W9.heap[bw]? = some (.cells #[op, .string nt, .int .i64 c', va, (.slice (some ⟨b, 0, none⟩) 0 cb), .string ⟨#[]⟩] 67 (0, 0))) (C9 : W9.heap[b]? = some (.cells cur' 9 (0, 0))) (hcs : cur'.size = cb * 1) (hcb : cb ≤ maxLen) (hD : w.heap.size ≤ D) (D9 : W9.heap[D]? = some (.deferred (some []))) :
    Hid (StS f op nt ok G I (W9.putObj D (.deferred none)) bw c' n' (y :: r) [] (FF F w (W9.putObj D (.deferred none))) ∧ Fr (fun k => F k ∨ G k) w (W9.putObj D (.deferred none))) := by
  have hG : ∀ k, G k → k < w.heap.size := fun k g => O.glt _ _ _ H.st g
  have hbw := hF _ hfw
  have hbl := hF _ hbf
  have hp : Fr (fun k => k = D) W9 (W9.putObj D (.deferred none)) := (Fr.refl _ _).grown (grownBy_putObj' W9 D (.deferred none)) (fun k e => by cases e; exact Or.inl rfl)
  have ra9 := F9.row HW.ra (fun k e e' => e'.elim (fun q => row_ne HW.ra HB (by decide) (q ▸ e)) (fun q => row_ne HW.ra HW.blk (by decide) (q ▸ e)))
  have raf := hp.row ra9 (fun k e q => by
    obtain ⟨cc, hcc⟩ := row_cells ra9 e
    rw [q, D9] at hcc
    cases hcc)
  have hsz := Nat.le_trans hfr.size (Nat.le_trans F9.size hp.size)
  have FA : Fr (fun k => F k ∨ G k) w (W9.putObj D (.deferred none)) := (hfr.trans F9 (fun i e => e.elim (fun q => Or.inl (Or.inl (q ▸ hbf))) (fun q => Or.inl (Or.inl (q ▸ hfw))))).trans hp (fun i q => Or.inr (by omega))
  refine ⟨⟨⟨va, .slice (some ⟨b, 0, none⟩) 0 cb, _, ⟨hp.heap B9 (by omega), raf, ⟨rfl, .inr ⟨b, cb, cur', rfl, Nat.zero_le _, hp.heap C9 (by omega), Nat.zero_le _, hcb, hcs, by simp [flS]⟩⟩, (fun x r h => by cases h), ?_, Or.inl hfw, ?_, ?_, ?_⟩⟩, ?_, H.okY, (fun x h => by cases h), ?_, by simpa using H.lim⟩, FA⟩
  · have := H.lim; simp at this ⊢; omega
  · intro k e
    have h1 := (World.ownsRow.lt raf k e).2
    exact (hva k e).elim Or.inl (fun q => Or.inr ⟨q, h1⟩)
  · intro k e
    injection e with e
    subst e
    exact Or.inl hbf
  · intro k e
    rcases e with e | e
    · have := hF k e; omega
    · exact e.2
  · exact O.stay _ _ _ _ (O.stay _ _ _ _ HST F9 (fun k g e => e.elim (fun q => H.dis _ hbf (q ▸ g)) (fun q => H.dis _ hfw (q ▸ g)))) hp (fun k g q => by have := hG k g; omega)
  · intro k e g
    rcases e with e | e
    · exact H.dis k e g
    · have := hG k g; omega

set_option maxRecDepth 100000 in
set_option maxHeartbeats 16000000 in
theorem turnS_any {f : ByteArray → ByteArray → ByteArray} {w : World} {bw : Nat} {op : Value} {nt : ByteArray} {c : Int} {y : ByteArray} {r : List (ByteArray)} {F : Nat → Prop} {ok : Nat → ByteArray → Prop} {G : Nat → Prop} {I : Nat → World → Prop} {n : Nat} (O : OpS op f ok G I) (H : StS f op nt ok G I w bw c n [] (y :: r) F) :
    Calls Try.prog 38 #[.pointer (some ⟨bw, 0, none⟩)] w fun e w' => (∃ v, e = .returned v) ∧ Hid (StS f op nt ok G I w' bw (cw c r.length) (n + r.length) (y :: r) [] (FF F w w') ∧ Fr (fun k => F k ∨ G k) w w') := by
  obtain ⟨va, vb, sm, H1⟩ := H.win
  have hrb := H1.rb
  obtain ⟨hrl, ⟨e, hn0⟩ | ⟨b, cb, cur, rfl, -, hbb, hc1, hc2, hc3, hc4⟩⟩ := hrb
  · exact absurd hn0 (by simp)
  obtain ⟨pa, ca, rfl⟩ := row_form H1.ra
  have hbf : F b := H1.fb b rfl
  have hcur := curS_at (b := b) (y :: r) y hc4
  have hF := H1.ft
  have hlim := H.lim
  have hLl : (y :: r).length ≤ 4096 := by simpa using hlim
  have hbw : bw < w.heap.size := hF _ H1.fw
  have hbl : b < w.heap.size := hF _ hbf
  have hbw1 : bw < w.heap.size + 1 := by omega
  have yv : w.cell? ⟨bw, 4, none⟩ = some (.slice (some ⟨b, 0, none⟩) (r.length + 1) cb) := (Lib.cell_of_heap H1.blk _).trans rfl
  have HBL : Hid (w.heap[bw]? = _) := H1.blk
  have HCUR : Hid (_ ∧ _) := And.intro hcur hbb
  have HC : Hid (_ ∧ _ ∧ _ ∧ _ ∧ _) := ⟨hrl, hc1, hc2, hc3, hc4⟩
  clear hcur hbb hrl hc1 hc2 hc3 hc4
  refine (callsIn_wide (n := 6)).1 ?_
  refine callsIn_of_wp_marks Try.func38 rfl trivial ?_ rfl
  simp only [Try.ntmps38, List.size_toArray, List.length_cons, List.length_nil, Nat.reduceAdd, Nat.reduceSub, Array.replicate_succ, Array.replicate_zero, List.push_toArray, List.append_toArray, List.nil_append, List.cons_append]
  gi_wp2_with (refine ⟨trivial, ?_⟩; gi_at_call 41; refine (backS_in _ _ _ _ _).mono ?_; rintro e w' ⟨rfl, rfl⟩)
  rename_i Q0 K0 aK
  have hB0 : Below w.heap.size w ((w.alloc (.cells #[.pointer (some ⟨bw, 0, none⟩)] 49)).alloc (.cells #[(.slice (some ⟨b, 0, none⟩) (r.length + 1) cb)] 52)) := ((Below.refl _ w).alloc (Nat.le_refl _) _).alloc (by simp) _
  have hsz0 : ((w.alloc (.cells #[.pointer (some ⟨bw, 0, none⟩)] 49)).alloc (.cells #[(.slice (some ⟨b, 0, none⟩) (r.length + 1) cb)] 52)).heap.size = w.heap.size + 2 := by simp
  have hBs : ((w.alloc (.cells #[.pointer (some ⟨bw, 0, none⟩)] 49)).alloc (.cells #[(.slice (some ⟨b, 0, none⟩) (r.length + 1) cb)] 52)).heap[w.heap.size + 1]? = some (.cells #[(.slice (some ⟨b, 0, none⟩) (r.length + 1) cb)] 52 (0, 0)) := second w _ _
  have hBp : ((w.alloc (.cells #[.pointer (some ⟨bw, 0, none⟩)] 49)).alloc (.cells #[(.slice (some ⟨b, 0, none⟩) (r.length + 1) cb)] 52)).heap[w.heap.size]? = some (.cells #[.pointer (some ⟨bw, 0, none⟩)] 49 (0, 0)) := by
    have h := Below.heap_alloc (w.alloc (.cells #[.pointer (some ⟨bw, 0, none⟩)] 49)) (.cells #[(.slice (some ⟨b, 0, none⟩) (r.length + 1) cb)] 52) w.heap.size (by simp)
    rw [h]; exact World.alloc_heap_new w _
  have hT0 : TIS f op nt G I w bw c n (y :: r) y (.slice (some ⟨b, 0, none⟩) (r.length + 1) cb) sm F b cur [] ((w.alloc (.cells #[.pointer (some ⟨bw, 0, none⟩)] 49)).alloc (.cells #[(.slice (some ⟨b, 0, none⟩) (r.length + 1) cb)] 52)) (.slice pa 0 ca) := ⟨(H1.fr (Fr.of_below (P := fun _ => False) hB0) (fun _ _ h => h)).wide (fun k h => Or.inl h) (fun k h => by
      have := hF k (h.elim (fun h => h) (H1.fa k)); rw [hsz0]; omega), fun k e => Or.inl (H1.fa k e), hBp, hBs, (hB0.block b hbl).trans HCUR.out.2, O.stay _ _ _ _ H.st (Fr.of_below (P := fun _ => False) hB0) (fun _ _ h => h), Fr.of_below hB0⟩
  obtain ⟨W0, hW0⟩ : ∃ W0, Hid (((w.alloc (.cells #[.pointer (some ⟨bw, 0, none⟩)] 49)).alloc (.cells #[(.slice (some ⟨b, 0, none⟩) (r.length + 1) cb)] 52)) = W0) := ⟨_, rfl⟩
  rw [hW0.out] at hB0 hsz0 hBs hBp hT0 ⊢
  clear hW0
  have hown := TIS.own (f := f) (op := op) (nt := nt) (c := c) (L := (y :: r)) (d := y) (vb := (.slice (some ⟨b, 0, none⟩) (r.length + 1) cb)) (sm := sm) (cur := cur) (bw := bw) O H.st hF hbl (B := W0.heap.size) (by omega)
  refine wpIn_rangeFunc_ownH rfl (by omega) (gf := 43) (lb := #[.pointer (some ⟨w.heap.size + 1, 0, none⟩)]) rfl trivial (enters_of Try.func43 (by kernel_rfl) rfl)
    (bwdS_stops 5 (by omega) (w.heap.size + 1) b cb (y :: r) y (by omega) cur HCUR.out.1 W0 hBs ((hB0.block b hbl).trans HCUR.out.2)) KpS.t (KpS.b (B := W0.heap.size) (by omega) (by omega)) (Below.refl _ _) (fun _ => rfl)
    (fun pre W => ∃ va, TIS f op nt G I w bw c n (y :: r) y (.slice (some ⟨b, 0, none⟩) (r.length + 1) cb) sm F b cur pre W va) (fun _ _ _ => False) hown (fun _ _ _ _ _ h _ _ => h) ⟨_, hT0⟩
    (fun j a' W => a' = ({ tmps := #[.pointer (some ⟨bw, 0, none⟩), .pointer (some ⟨w.heap.size, 0, none⟩), undef, (.string ((y :: r)[j]?.getD y)), undef, undef, .pointer (some ⟨bw, 0, none⟩), .pointer (some ⟨bw, 0, none⟩), .pointer (some ⟨bw, 4, none⟩), (.slice (some ⟨b, 0, none⟩) (r.length + 1) cb), .func (.func 43) #[] #[.pointer (some ⟨w.heap.size + 1, 0, none⟩)], .int .i64 (j : Nat), (.string ((y :: r)[j]?.getD y)), undef, undef, undef, undef, undef, undef, undef, undef, undef, undef, undef, undef, undef, undef, undef, undef, undef, undef, undef, undef, undef, undef, undef, undef, undef, undef, undef, undef, undef, undef, undef, undef, undef, undef, undef, undef, undef, undef, undef, undef], defers := [] } : Act)) ?hax ?assign ?body ?done ?stop
  case hax =>
    exact fun _ _ _ _ _ _ h _ _ => h
  case stop =>
    rintro D cc pre W _ _ h _
    exact h.elim
  case assign =>
    rintro l pre j W K ⟨va, hi⟩ hK
    gi_wp2
    exact hK _ _ (KeepsFrom.refl _ _) ⟨rfl, rfl⟩ ⟨va, hi⟩ rfl
  case body =>
    rintro l pre j a' W hl ⟨rr, hrr⟩ ⟨va, hi⟩ rfl hplt
    obtain ⟨pv, cv, hva⟩ := row_form hi.win.ra
    rw [zsL_len] at hva
    subst hva
    have yp : W.cell? ⟨w.heap.size, 0, none⟩ = some (.pointer (some ⟨bw, 0, none⟩)) := (Lib.cell_of_heap hi.bp _).trans rfl
    have yva : W.cell? ⟨bw, 3, none⟩ = some (.slice pv pre.length cv) := (Lib.cell_of_heap hi.win.blk _).trans rfl
    have hwW : w.heap.size < W.heap.size := lt_heap hi.bp
    have hbW : bw < W.heap.size := by omega
    obtain ⟨x, hx⟩ : ∃ x, Hid (((y :: r)[j]?.getD y) = x) := ⟨_, rfl⟩
    have hokx : ok 1 x := by rw [← hx.out]; exact H.okY _ (zsL_mem (y :: r) y (by simp) j)
    rw [hx.out]

    have HI : Hid (TIS f op nt G I w bw c n (y :: r) y (.slice (some ⟨b, 0, none⟩) (r.length + 1) cb) sm F b cur pre W (.slice pv pre.length cv)) := hi
    clear hi
    obtain ⟨i0, hi, hz0, hz1, hz2⟩ := info_parts inTS
    have hplt' : pre.length < r.length + 1 := hplt
    have hL' : r.length + 1 ≤ 4096 := hLl
    cases pre with
    | nil =>
      simp only [List.length_nil] at yva HI ⊢
      gi_wp2
      refine wpIn_world ?_
      intro V hV
      have FV : Hid (Fr (fun k => k = bw ∨ G k) W V) := by rw [hV]; exact Fr.refl _ W
      have BV : Hid (V.heap[bw]? = some (.cells #[op, .string nt, .int .i64 c, (.slice pv 0 cv), (.slice (some ⟨b, 0, none⟩) (r.length + 1) cb), .string sm] 67 (0, 0))) := by rw [hV]; exact HI.out.win.blk
      have IV : Hid (I n V) := by rw [hV]; exact O.stay _ _ _ _ HI.out.st (Fr.refl (fun _ => False) W) (fun _ _ h => h)
      have hneV : Hid (∀ k, w.heap.size ≤ k → ¬ (k = bw ∨ G k)) := fun k hk e => e.elim (fun q => by omega) (fun g => by have := O.glt _ _ _ H.st g; omega)
      have raV : Hid (V.ownsRow 0 69 2 (.slice pv 0 cv) 0 (tflS (tls f (zsL (y :: r) y [])).reverse)) := by
        have h0 := HI.out.win.ra
        rw [zsL_len] at h0
        exact FV.out.row h0 (fun k e e' => e'.elim (fun q => row_ne h0 HI.out.win.blk (by decide) (q ▸ e)) (fun g => (HI.out.va k e).elim (fun q => H.dis k q g) (fun q => hneV.out k q (Or.inr g))))
      have BP : Hid (V.heap[w.heap.size]? = some (.cells #[.pointer (some ⟨bw, 0, none⟩)] 49 (0, 0))) := FV.out.heap HI.out.bp (hneV.out _ (Nat.le_refl _))
      have vp : V.cell? ⟨w.heap.size, 0, none⟩ = some (.pointer (some ⟨bw, 0, none⟩)) := (Lib.cell_of_heap BP.out _).trans rfl
      have vv : V.cell? ⟨bw, 3, none⟩ = some (.slice pv 0 cv) := (Lib.cell_of_heap BV.out _).trans rfl
      have hbV : bw < V.heap.size := lt_heap BV.out
      have hwV : w.heap.size < V.heap.size := lt_heap BP.out
      have HT : Hid (∀ {V w2 : World} {v' : Value}, Fr (fun k => k = bw ∨ G k) W V → V.heap[bw]? = some (.cells #[op, .string nt, .int .i64 c, (.slice pv 0 cv), (.slice (some ⟨b, 0, none⟩) (r.length + 1) cb), .string sm] 67 (0, 0)) → I n V →
          w2.ownsRow 0 69 2 v' (0 + 1) (tflS (tls f (zsL (y :: r) y [])).reverse ++ [.string x, .string x]) → (V.alloc (.cells #[.string x, .string x] 69)).grownBy w2 (Value.slice pv 0 cv).ownBlock → (v'.ownBlock = (Value.slice pv 0 cv).ownBlock ∨ v'.ownBlock = some (V.heap.size + 1)) →
          ∃ p9 c9, v' = .slice p9 (0 + 1) c9 ∧ w2.cell? ⟨bw, 3, none⟩ = some (.slice pv 0 cv) ∧ w2.frozen? ⟨bw, 3, none⟩ = false ∧ Fr (fun k => k = bw ∨ G k ∨ (Value.slice pv 0 cv).ownBlock = some k) W w2 ∧
            Hid (TIS f op nt G I w bw c n (y :: r) y (.slice (some ⟨b, 0, none⟩) (r.length + 1) cb) sm F b cur ([] ++ [j]) (w2.setCell ⟨bw, 3, none⟩ v') v' ∧ Fr (fun k => k = bw ∨ G k ∨ (Value.slice pv 0 cv).ownBlock = some k) W (w2.setCell ⟨bw, 3, none⟩ v'))) := by
        intro V w2 v' g1 g2 g3 g4 g5 g6
        have hx' := hx.out
        subst hx'
        skip
        have hzl : (zsL (y :: r) y []).length = 0 := zsL_len _ _ _
        exact tstepS O H.st hF H.dis H1.fw H1.fb hbf HI.out g1 g2 g3 hplt hLl (by rw [hzl]; exact g4) g5 g6
      have HS : Hid (∀ w3 : World, (V.drew.alloc (.cells #[.string x, .string x] 69)).grownBy w3 (Value.slice pv 0 cv).ownBlock → w3.cell? ⟨w.heap.size, 0, none⟩ = some (.pointer (some ⟨bw, 0, none⟩)) ∧ True) := by
        intro w3 hg
        exact ⟨hg.cell (Lib.cell?_alloc_some _ (show V.drew.cell? _ = _ from vp)) (fun e => row_ne raV.out BP.out (by decide) e.symm), trivial⟩
      clear hV yp yva 
      refine wpInR_held (S := fun U => U.cell? ⟨w.heap.size, 0, none⟩ = some (.pointer (some ⟨bw, 0, none⟩)) ∧ True) (by kernel_rfl) (by kernel_rfl) (by rintro ⟨a, w, h⟩; exact h) ⟨vp, trivial⟩ (fun hHeld => ?_)
      refine wpAnyH_take (i := 0) (oi := ({ dst := some 25, op := Op.load 49 (Operand.tmp 1), type := 49, pos := "window.go:97", after := #[], guard := none } : Oper)) (v := ?yv1) rfl (by kernel_rfl) (by kernel_rfl) (by kernel_rfl) (fun _ _ _ h => h) (Or.inl ⟨by rfl, ?yh1⟩) (by assumption) ?yr1
      case yh1 => (intro wq hSw; (try dsimp only at hSw); obtain ⟨sa, sb⟩ := hSw; go_simp; first | done | with_reducible rfl)
      try simp only [Act.put, List.setIfInBounds_toArray, List.set_cons_zero, List.set_cons_succ]
      refine wpAnyH_take (i := 1) (oi := ({ dst := some 26, op := Op.load 49 (Operand.tmp 1), type := 49, pos := "window.go:97", after := #[], guard := none } : Oper)) (v := ?yv2) rfl (by kernel_rfl) (by kernel_rfl) (by kernel_rfl) (fun _ _ _ h => h) (Or.inl ⟨by rfl, ?yh2⟩) (by assumption) ?yr2
      case yh2 => (intro wq hSw; (try dsimp only at hSw); obtain ⟨sa, sb⟩ := hSw; go_simp; first | done | with_reducible rfl)
      try simp only [Act.put, List.setIfInBounds_toArray, List.set_cons_zero, List.set_cons_succ]
      refine wpAnyH_take (i := 2) (oi := ({ dst := some 27, op := Op.nilCheck (Operand.tmp 26), type := 0, pos := "window.go:97", after := #[{ on := 1, ground := Ground.data }], guard := none } : Oper)) (v := ?yv3) rfl (by kernel_rfl) (by kernel_rfl) (by kernel_rfl) (fun _ _ _ h => h) (Or.inl ⟨by rfl, ?yh3⟩) (by assumption) ?yr3
      case yh3 => (intro wq hSw; (try dsimp only at hSw); obtain ⟨sa, sb⟩ := hSw; go_simp; first | done | with_reducible rfl)
      try simp only [Act.put, List.setIfInBounds_toArray, List.set_cons_zero, List.set_cons_succ]
      refine wpAnyH_take (i := 3) (oi := ({ dst := some 28, op := Op.fieldAddr 67 (Operand.tmp 27) 3, type := 0, pos := "window.go:97", after := #[{ on := 2, ground := Ground.data }], guard := none } : Oper)) (v := ?yv4) rfl (by kernel_rfl) (by kernel_rfl) (by kernel_rfl) (fun _ _ _ h => h) (Or.inl ⟨by rfl, ?yh4⟩) (by assumption) ?yr4
      case yh4 => (intro wq hSw; (try dsimp only at hSw); obtain ⟨sa, sb⟩ := hSw; go_simp; first | done | with_reducible rfl)
      try simp only [Act.put, List.setIfInBounds_toArray, List.set_cons_zero, List.set_cons_succ]
      refine wpAnyH_take (i := 5) (oi := ({ dst := some 30, op := Op.move (Operand.tmp 3), type := 9, pos := "window.go:97", after := #[], guard := none } : Oper)) (v := ?yv5) rfl (by kernel_rfl) (by kernel_rfl) (by kernel_rfl) (fun _ _ _ h => h) (Or.inl ⟨by rfl, ?yh5⟩) (by assumption) ?yr5
      case yh5 => (intro wq hSw; (try dsimp only at hSw); obtain ⟨sa, sb⟩ := hSw; go_simp; first | done | with_reducible rfl)
      try simp only [Act.put, List.setIfInBounds_toArray, List.set_cons_zero, List.set_cons_succ]
      refine wpAnyH_take (i := 6) (oi := ({ dst := some 31, op := Op.move (Operand.tmp 4), type := 9, pos := "window.go:97", after := #[], guard := none } : Oper)) (v := ?yv6) rfl (by kernel_rfl) (by kernel_rfl) (by kernel_rfl) (fun _ _ _ h => h) (Or.inl ⟨by rfl, ?yh6⟩) (by assumption) ?yr6
      case yh6 => (intro wq hSw; (try dsimp only at hSw); obtain ⟨sa, sb⟩ := hSw; go_simp; first | done | with_reducible rfl)
      try simp only [Act.put, List.setIfInBounds_toArray, List.set_cons_zero, List.set_cons_succ]
      refine wpAnyH_take (i := 7) (oi := ({ dst := some 32, op := Op.build 69 #[(0, Operand.tmp 30), (1, Operand.tmp 31)], type := 69, pos := "window.go:97", after := #[{ on := 5, ground := Ground.data }, { on := 6, ground := Ground.data }], guard := none } : Oper)) (v := ?yv7) rfl (by kernel_rfl) (by kernel_rfl) (by kernel_rfl) (fun _ _ _ h => h) (Or.inl ⟨by rfl, ?yh7⟩) (by assumption) ?yr7
      case yh7 => (intro wq hSw; (try dsimp only at hSw); obtain ⟨sa, sb⟩ := hSw; go_simp; first | done | with_reducible rfl)
      try simp only [Act.put, List.setIfInBounds_toArray, List.set_cons_zero, List.set_cons_succ]
      refine wpAnyH_ready (rs := [4, 8]) (by kernel_rfl) (by simp) ?_
      refine (AllReadyH.cons (o := ({ dst := some 29, op := Op.load 65 (Operand.tmp 28), type := 65, pos := "window.go:97", after := #[{ on := 3, ground := Ground.data }], guard := none } : Oper)) rfl (fun K hK => ?_) (AllReadyH.cons (o := ({ dst := some 33, op := Op.buildSlice 65 1 #[(0, Operand.tmp 32)], type := 65, pos := "window.go:97", after := #[{ on := 7, ground := Ground.data }], guard := none } : Oper)) rfl (fun K hK => ?_) AllReadyH.nil))
      · have vv' : V.drew.cell? ⟨bw, 3, none⟩ = some (.slice pv 0 cv) := vv
        go_simp
        clear vv'
        refine hK.out _ _ hHeld (fun hHeld => ?_)
        clear hK K
        try simp only [Act.put, List.setIfInBounds_toArray, List.set_cons_zero, List.set_cons_succ]
        refine wpAnyH_ready (rs := [8]) (by kernel_rfl) (by simp) ?_
        refine (AllReadyH.cons (o := ({ dst := some 33, op := Op.buildSlice 65 1 #[(0, Operand.tmp 32)], type := 65, pos := "window.go:97", after := #[{ on := 7, ground := Ground.data }], guard := none } : Oper)) rfl (fun K hK => ?_) AllReadyH.nil)
        go_simp
        refine hK.out _ _ ⟨Lib.cell?_alloc_some _ hHeld.1, trivial⟩ (fun hHeld => ?_)
        clear hK K
        try simp only [Act.put, List.setIfInBounds_toArray, List.set_cons_zero, List.set_cons_succ]
        refine wpAnyH_ready (rs := [9]) (by kernel_rfl) (by simp) ?_
        refine (AllReadyH.cons (o := ({ dst := some 34, op := Op.call { callee := Callee.builtin Builtin.append, args := #[Operand.tmp 29, Operand.tmp 33], argTypes := #[65, 65] }, type := 65, pos := "window.go:97", after := #[{ on := 4, ground := Ground.data }, { on := 8, ground := Ground.data }], guard := none } : Oper)) rfl (fun K hK => ?_) AllReadyH.nil)
        have XO : (V.drew.alloc (.cells #[.string x, .string x] 69)).ownsRow 0 69 2 (.slice pv 0 cv) 0 (tflS (tls f (zsL (y :: r) y [])).reverse) := World.ownsRow.alloc (show V.drew.ownsRow _ _ _ _ _ _ from raV.out) _
        refine step_append_at rfl (.tmp 29) (.tmp 33) 65 rfl 0 69 i0 (.agg #[.string ByteArray.empty, .string ByteArray.empty]) 2 32 Try.underlying65 hi hz0 hz1 hz2 rfl (by decide) (.slice pv 0 cv) _ _ (by simp [Act.eval]) XO ⟨V.heap.size, 0, none⟩ 1 1 [.string x, .string x] (by simp [Act.eval]) rfl (by intro jj u hj; rw [Addr.add_lit]; (rcases jj with _ | _ | jj) <;> simp at hj <;> subst hj <;> simp (maxDischargeDepth := 12) [go_sem]) (by intro u hu; simp at hu; rcases hu with rfl | rfl <;> rfl) (by unfold maxLen; omega) (by omega) (Nat.zero_le _) (fun v' w3 h2 h3 h5 => ?_)
        have HA := HT.out (V := V.drew) (w2 := w3) (v' := v') FV.out.drew BV.out (O.stay _ _ _ _ IV.out (Fr.of_below (P := fun _ => False) (Below.refl _ V).drew) (fun _ _ h => h)) h2 h3 (by first | exact h5 | simpa using h5)
        obtain ⟨p2, c2, rfl, a1, a2, F2, HE⟩ := HA
        have hw3 := HS.out _ h3
        clear h2 h3 h5 XO
        refine hK.out _ _ hw3 (fun hHeld => ?_)
        clear hK K
        try simp only [Act.put, List.setIfInBounds_toArray, List.set_cons_zero, List.set_cons_succ]
        clear hw3
        refine wpAnyH_take (i := 10) (oi := ({ dst := some 35, op := Op.nilCheck (Operand.tmp 25), type := 0, pos := "window.go:97", after := #[{ on := 0, ground := Ground.data }, { on := 0, ground := Ground.phase }, { on := 1, ground := Ground.phase }, { on := 2, ground := Ground.phase }, { on := 3, ground := Ground.phase }, { on := 4, ground := Ground.phase }, { on := 5, ground := Ground.phase }, { on := 6, ground := Ground.phase }, { on := 7, ground := Ground.phase }, { on := 8, ground := Ground.phase }, { on := 9, ground := Ground.phase }], guard := none } : Oper)) (v := ?yv8) rfl (by kernel_rfl) (by kernel_rfl) (by kernel_rfl) (fun _ _ _ h => h) (Or.inl ⟨by rfl, ?yh8⟩) (by assumption) ?yr8
        case yh8 => (intro wq hSw; (try dsimp only at hSw); obtain ⟨sa, sb⟩ := hSw; go_simp; first | done | with_reducible rfl)
        try simp only [Act.put, List.setIfInBounds_toArray, List.set_cons_zero, List.set_cons_succ]
        refine wpAnyH_take (i := 11) (oi := ({ dst := some 36, op := Op.fieldAddr 67 (Operand.tmp 35) 3, type := 0, pos := "window.go:97", after := #[{ on := 10, ground := Ground.data }, { on := 0, ground := Ground.phase }, { on := 1, ground := Ground.phase }, { on := 2, ground := Ground.phase }, { on := 3, ground := Ground.phase }, { on := 4, ground := Ground.phase }, { on := 5, ground := Ground.phase }, { on := 6, ground := Ground.phase }, { on := 7, ground := Ground.phase }, { on := 8, ground := Ground.phase }, { on := 9, ground := Ground.phase }], guard := none } : Oper)) (v := ?yv9) rfl (by kernel_rfl) (by kernel_rfl) (by kernel_rfl) (fun _ _ _ h => h) (Or.inl ⟨by rfl, ?yh9⟩) (by assumption) ?yr9
        case yh9 => (intro wq hSw; (try dsimp only at hSw); obtain ⟨sa, sb⟩ := hSw; go_simp; first | done | with_reducible rfl)
        try simp only [Act.put, List.setIfInBounds_toArray, List.set_cons_zero, List.set_cons_succ]
        refine wpAnyH_ready (rs := [12]) (by kernel_rfl) (by simp) ?_
        refine (AllReadyH.cons (o := ({ dst := none, op := Op.store 65 (Operand.tmp 36) (Operand.tmp 34), type := 0, pos := "window.go:97", after := #[{ on := 11, ground := Ground.data }, { on := 9, ground := Ground.data }, { on := 9, ground := Ground.chain }, { on := 0, ground := Ground.phase }, { on := 1, ground := Ground.phase }, { on := 2, ground := Ground.phase }, { on := 3, ground := Ground.phase }, { on := 4, ground := Ground.phase }, { on := 5, ground := Ground.phase }, { on := 6, ground := Ground.phase }, { on := 7, ground := Ground.phase }, { on := 8, ground := Ground.phase }, { on := 9, ground := Ground.phase }], guard := none } : Oper)) rfl (fun K hK => ?_) AllReadyH.nil)
        go_simp
        have hS4 : Hid ((w3.setCell ⟨bw, 3, none⟩ (.slice p2 (0 + 1) c2)).cell? ⟨w.heap.size, 0, none⟩ = some (.pointer (some ⟨bw, 0, none⟩)) ∧ True) := ⟨(World.cell?_setCell_other _ _ _ _ (by intro e; injection e with e1 e2 e3; omega)).trans hHeld.1, trivial⟩
        refine hK.out _ _ hS4.out (fun hHeld => ?_)
        clear hK K
        try simp only [Act.put, List.setIfInBounds_toArray, List.set_cons_zero, List.set_cons_succ]
        refine wpAnyH_done (by kernel_rfl) ?_ _
        clear hS4
        (try gi_wp2)
        have HK := HE.out
        obtain ⟨q1, q2⟩ := tkeepS O H.st hF H.dis H1.fw hbf HI.out HK.2 (B := W0.heap.size) (by omega)
        exact ⟨q1, q2, ⟨_, HK.1⟩⟩
      · go_simp
        refine hK.out _ _ ⟨Lib.cell?_alloc_some _ hHeld.1, trivial⟩ (fun hHeld => ?_)
        clear hK K
        try simp only [Act.put, List.setIfInBounds_toArray, List.set_cons_zero, List.set_cons_succ]
        refine wpAnyH_ready (rs := [4]) (by kernel_rfl) (by simp) ?_
        refine (AllReadyH.cons (o := ({ dst := some 29, op := Op.load 65 (Operand.tmp 28), type := 65, pos := "window.go:97", after := #[{ on := 3, ground := Ground.data }], guard := none } : Oper)) rfl (fun K hK => ?_) AllReadyH.nil)
        have vv' : (V.drew.alloc (.cells #[.string x, .string x] 69)).cell? ⟨bw, 3, none⟩ = some (.slice pv 0 cv) := Lib.cell?_alloc_some _ (show V.drew.cell? _ = _ from vv)
        go_simp
        clear vv'
        refine hK.out _ _ hHeld (fun hHeld => ?_)
        clear hK K
        try simp only [Act.put, List.setIfInBounds_toArray, List.set_cons_zero, List.set_cons_succ]
        refine wpAnyH_ready (rs := [9]) (by kernel_rfl) (by simp) ?_
        refine (AllReadyH.cons (o := ({ dst := some 34, op := Op.call { callee := Callee.builtin Builtin.append, args := #[Operand.tmp 29, Operand.tmp 33], argTypes := #[65, 65] }, type := 65, pos := "window.go:97", after := #[{ on := 4, ground := Ground.data }, { on := 8, ground := Ground.data }], guard := none } : Oper)) rfl (fun K hK => ?_) AllReadyH.nil)
        have XO : (V.drew.alloc (.cells #[.string x, .string x] 69)).ownsRow 0 69 2 (.slice pv 0 cv) 0 (tflS (tls f (zsL (y :: r) y [])).reverse) := World.ownsRow.alloc (show V.drew.ownsRow _ _ _ _ _ _ from raV.out) _
        refine step_append_at rfl (.tmp 29) (.tmp 33) 65 rfl 0 69 i0 (.agg #[.string ByteArray.empty, .string ByteArray.empty]) 2 32 Try.underlying65 hi hz0 hz1 hz2 rfl (by decide) (.slice pv 0 cv) _ _ (by simp [Act.eval]) XO ⟨V.heap.size, 0, none⟩ 1 1 [.string x, .string x] (by simp [Act.eval]) rfl (by intro jj u hj; rw [Addr.add_lit]; (rcases jj with _ | _ | jj) <;> simp at hj <;> subst hj <;> simp (maxDischargeDepth := 12) [go_sem]) (by intro u hu; simp at hu; rcases hu with rfl | rfl <;> rfl) (by unfold maxLen; omega) (by omega) (Nat.zero_le _) (fun v' w3 h2 h3 h5 => ?_)
        have HA := HT.out (V := V.drew) (w2 := w3) (v' := v') FV.out.drew BV.out (O.stay _ _ _ _ IV.out (Fr.of_below (P := fun _ => False) (Below.refl _ V).drew) (fun _ _ h => h)) h2 h3 (by first | exact h5 | simpa using h5)
        obtain ⟨p2, c2, rfl, a1, a2, F2, HE⟩ := HA
        have hw3 := HS.out _ h3
        clear h2 h3 h5 XO
        refine hK.out _ _ hw3 (fun hHeld => ?_)
        clear hK K
        try simp only [Act.put, List.setIfInBounds_toArray, List.set_cons_zero, List.set_cons_succ]
        clear hw3
        refine wpAnyH_take (i := 10) (oi := ({ dst := some 35, op := Op.nilCheck (Operand.tmp 25), type := 0, pos := "window.go:97", after := #[{ on := 0, ground := Ground.data }, { on := 0, ground := Ground.phase }, { on := 1, ground := Ground.phase }, { on := 2, ground := Ground.phase }, { on := 3, ground := Ground.phase }, { on := 4, ground := Ground.phase }, { on := 5, ground := Ground.phase }, { on := 6, ground := Ground.phase }, { on := 7, ground := Ground.phase }, { on := 8, ground := Ground.phase }, { on := 9, ground := Ground.phase }], guard := none } : Oper)) (v := ?yv10) rfl (by kernel_rfl) (by kernel_rfl) (by kernel_rfl) (fun _ _ _ h => h) (Or.inl ⟨by rfl, ?yh10⟩) (by assumption) ?yr10
        case yh10 => (intro wq hSw; (try dsimp only at hSw); obtain ⟨sa, sb⟩ := hSw; go_simp; first | done | with_reducible rfl)
        try simp only [Act.put, List.setIfInBounds_toArray, List.set_cons_zero, List.set_cons_succ]
        refine wpAnyH_take (i := 11) (oi := ({ dst := some 36, op := Op.fieldAddr 67 (Operand.tmp 35) 3, type := 0, pos := "window.go:97", after := #[{ on := 10, ground := Ground.data }, { on := 0, ground := Ground.phase }, { on := 1, ground := Ground.phase }, { on := 2, ground := Ground.phase }, { on := 3, ground := Ground.phase }, { on := 4, ground := Ground.phase }, { on := 5, ground := Ground.phase }, { on := 6, ground := Ground.phase }, { on := 7, ground := Ground.phase }, { on := 8, ground := Ground.phase }, { on := 9, ground := Ground.phase }], guard := none } : Oper)) (v := ?yv11) rfl (by kernel_rfl) (by kernel_rfl) (by kernel_rfl) (fun _ _ _ h => h) (Or.inl ⟨by rfl, ?yh11⟩) (by assumption) ?yr11
        case yh11 => (intro wq hSw; (try dsimp only at hSw); obtain ⟨sa, sb⟩ := hSw; go_simp; first | done | with_reducible rfl)
        try simp only [Act.put, List.setIfInBounds_toArray, List.set_cons_zero, List.set_cons_succ]
        refine wpAnyH_ready (rs := [12]) (by kernel_rfl) (by simp) ?_
        refine (AllReadyH.cons (o := ({ dst := none, op := Op.store 65 (Operand.tmp 36) (Operand.tmp 34), type := 0, pos := "window.go:97", after := #[{ on := 11, ground := Ground.data }, { on := 9, ground := Ground.data }, { on := 9, ground := Ground.chain }, { on := 0, ground := Ground.phase }, { on := 1, ground := Ground.phase }, { on := 2, ground := Ground.phase }, { on := 3, ground := Ground.phase }, { on := 4, ground := Ground.phase }, { on := 5, ground := Ground.phase }, { on := 6, ground := Ground.phase }, { on := 7, ground := Ground.phase }, { on := 8, ground := Ground.phase }, { on := 9, ground := Ground.phase }], guard := none } : Oper)) rfl (fun K hK => ?_) AllReadyH.nil)
        go_simp
        have hS4 : Hid ((w3.setCell ⟨bw, 3, none⟩ (.slice p2 (0 + 1) c2)).cell? ⟨w.heap.size, 0, none⟩ = some (.pointer (some ⟨bw, 0, none⟩)) ∧ True) := ⟨(World.cell?_setCell_other _ _ _ _ (by intro e; injection e with e1 e2 e3; omega)).trans hHeld.1, trivial⟩
        refine hK.out _ _ hS4.out (fun hHeld => ?_)
        clear hK K
        try simp only [Act.put, List.setIfInBounds_toArray, List.set_cons_zero, List.set_cons_succ]
        refine wpAnyH_done (by kernel_rfl) ?_ _
        clear hS4
        (try gi_wp2)
        have HK := HE.out
        obtain ⟨q1, q2⟩ := tkeepS O H.st hF H.dis H1.fw hbf HI.out HK.2 (B := W0.heap.size) (by omega)
        exact ⟨q1, q2, ⟨_, HK.1⟩⟩
    | cons p ps =>
      simp only [List.length_cons] at yva HI ⊢
      have hps : ((0 : Int) < (ps.length : Int) + 1) := by omega
      have hpl2 : ps.length + 1 < r.length + 1 := by simpa using hplt'
      obtain ⟨z, zr, hZ⟩ : ∃ z zr, Hid (zsL (y :: r) y (p :: ps) = z :: zr) := by
        cases hq : zsL (y :: r) y (p :: ps) with
        | nil => have h := zsL_len (y :: r) y (p :: ps); rw [hq] at h; simp at h
        | cons z zr => exact ⟨z, zr, rfl⟩
      obtain ⟨q, hq⟩ : ∃ q, Hid (sumR f x (zsL (y :: r) y (p :: ps)) = q) := ⟨_, rfl⟩
      obtain ⟨t, ht⟩ : ∃ t, Hid (sumR f z zr = t) := ⟨_, rfl⟩
      have hqe : Hid (f x t = q) := by unfold Hid; rw [← hq.out, hZ.out, ← ht.out]; rfl
      have hzl : zr.length + 1 = ps.length + 1 := by have h := zsL_len (y :: r) y (p :: ps); rw [hZ.out] at h; simpa using h
      have hokt : ok (zr.length + 1) t := by
        rw [← ht.out]
        have hz := zsL_ok (y :: r) y (by simp) H.okY (p :: ps)
        rw [hZ.out] at hz
        exact ok_sumR O.okf z zr (hz z (by simp)) (fun u hu => hz u (by simp [hu])) (by omega)
      have hdV : Hid (∀ k, (F k ∨ (Value.slice pv (ps.length + 1) cv).ownBlock = some k) → ¬ G k) := fun k e g => e.elim (fun e => H.dis k e g) (fun e => (HI.out.va k e).elim (fun e => H.dis k e g) (fun e => by have := O.glt _ _ _ H.st g; omega))
      gi_wp2
      refine wpIn_world ?_
      intro U hU
      have HU : Hid (Below W.heap.size W U) := by rw [hU]; exact Below.refl _ W
      have HIU : Hid (TIS f op nt G I w bw c n (y :: r) y (.slice (some ⟨b, 0, none⟩) (r.length + 1) cb) sm F b cur (p :: ps) U (.slice pv (ps.length + 1) cv)) := HI.out.below O HU.out
      have HWU : Hid (WinS f U bw op nt (cw c ps.length) (z :: zr) (y :: r) (fun k => F k ∨ (Value.slice pv (ps.length + 1) cv).ownBlock = some k) (.slice pv (ps.length + 1) cv) (.slice (some ⟨b, 0, none⟩) (r.length + 1) cb) sm) := by
        have h0 := HIU.out.win
        rw [hZ.out] at h0
        exact h0
      have HSA : Hid (∀ U', Below U.heap.size U U' → Calls Try.prog 39 #[.pointer (some ⟨bw, 0, none⟩)] U' fun e w' => e = .returned (.string t) ∧ Below U'.heap.size U' w') := fun U' h' => by
        rw [← ht.out]
        exact sumAS_any (HWU.out.fr (Fr.of_below (P := fun _ => False) h') (fun _ _ h => h))
      have HJ : Hid (∀ U', Below U.heap.size U U' → Calls Try.prog 37 #[.pointer (some ⟨bw, 0, none⟩), (.string x), (.string t)] U' fun e w' => e = .returned (.string q) ∧ Hid (I (n + ps.length + 1) w' ∧ Fr (fun k => k = bw ∨ G k) U' w' ∧
          w'.heap[bw]? = some (.cells #[op, .string nt, .int .i64 (wrap64 (cw c ps.length + 1)), (.slice pv (ps.length + 1) cv), (.slice (some ⟨b, 0, none⟩) (r.length + 1) cb), .string sm] 67 (0, 0)))) := fun U' h' => by
        rw [← hqe.out]
        exact joinS_any O x t hokx hokt (by omega) (HWU.out.fr (Fr.of_below (P := fun _ => False) h') (fun _ _ h => h)) (O.stay _ _ _ _ HIU.out.st (Fr.of_below (P := fun _ => False) h') (fun _ _ h => h)) hdV.out
      have hneU : Hid (∀ k, w.heap.size ≤ k → ¬ (k = bw ∨ G k)) := fun k hk e => e.elim (fun q => by omega) (fun g => by have := O.glt _ _ _ H.st g; omega)
      have up : U.cell? ⟨w.heap.size, 0, none⟩ = some (.pointer (some ⟨bw, 0, none⟩)) := (Lib.cell_of_heap HIU.out.bp _).trans rfl
      have hwU : w.heap.size < U.heap.size := lt_heap HIU.out.bp
      clear hU yp yva 
      refine wpInR_held (S := fun U' => U'.cell? ⟨w.heap.size, 0, none⟩ = some (.pointer (some ⟨bw, 0, none⟩)) ∧ True) (by kernel_rfl) (by kernel_rfl) (by rintro ⟨a, w, h⟩; exact h) ⟨up, trivial⟩ (fun hHeld => ?_)
      refine wpAnyH_take (i := 0) (oi := ({ dst := some 20, op := Op.load 49 (Operand.tmp 1), type := 49, pos := "window.go:95", after := #[], guard := none } : Oper)) (v := ?yv12) rfl (by kernel_rfl) (by kernel_rfl) (by kernel_rfl) (fun _ _ _ h => h) (Or.inl ⟨by rfl, ?yh12⟩) (by assumption) ?yr12
      case yh12 => (intro wq hSw; (try dsimp only at hSw); obtain ⟨sa, sb⟩ := hSw; go_simp; first | done | with_reducible rfl)
      try simp only [Act.put, List.setIfInBounds_toArray, List.set_cons_zero, List.set_cons_succ]
      refine wpAnyH_take (i := 1) (oi := ({ dst := some 21, op := Op.move (Operand.tmp 3), type := 9, pos := "window.go:95", after := #[], guard := none } : Oper)) (v := ?yv13) rfl (by kernel_rfl) (by kernel_rfl) (by kernel_rfl) (fun _ _ _ h => h) (Or.inl ⟨by rfl, ?yh13⟩) (by assumption) ?yr13
      case yh13 => (intro wq hSw; (try dsimp only at hSw); obtain ⟨sa, sb⟩ := hSw; go_simp; first | done | with_reducible rfl)
      try simp only [Act.put, List.setIfInBounds_toArray, List.set_cons_zero, List.set_cons_succ]
      refine wpAnyH_take (i := 2) (oi := ({ dst := some 22, op := Op.load 49 (Operand.tmp 1), type := 49, pos := "window.go:95", after := #[], guard := none } : Oper)) (v := ?yv14) rfl (by kernel_rfl) (by kernel_rfl) (by kernel_rfl) (fun _ _ _ h => h) (Or.inl ⟨by rfl, ?yh14⟩) (by assumption) ?yr14
      case yh14 => (intro wq hSw; (try dsimp only at hSw); obtain ⟨sa, sb⟩ := hSw; go_simp; first | done | with_reducible rfl)
      try simp only [Act.put, List.setIfInBounds_toArray, List.set_cons_zero, List.set_cons_succ]
      refine wpAnyH_ready (rs := [3]) (by kernel_rfl) (by simp) ?_
      refine (AllReadyH.cons (o := ({ dst := some 23, op := Op.call { callee := Callee.value (Operand.func 39), args := #[Operand.tmp 22], argTypes := #[49] }, type := 9, pos := "window.go:95", after := #[{ on := 2, ground := Ground.data }], guard := none } : Oper)) rfl (fun K hK => ?_) AllReadyH.nil)
      go_simp
      refine (HSA.out _ (Below.refl _ U).drew).mono ?_
      rintro e u1 ⟨rfl, hb1⟩
      dsimp only
      have hbu : Hid (Below U.heap.size U u1) := ⟨hb1.os, hb1.tape, hb1.output, hb1.size, hb1.block⟩
      clear hb1
      refine hK.out _ _ ⟨(hbu.out.cell (p := ⟨w.heap.size, 0, none⟩) (by assumption)).trans up, trivial⟩ (fun hHeld => ?_)
      clear hK K
      try simp only [Act.put, List.setIfInBounds_toArray, List.set_cons_zero, List.set_cons_succ]
      refine wpAnyH_ready (rs := [4]) (by kernel_rfl) (by simp) ?_
      refine (AllReadyH.cons (o := ({ dst := some 24, op := Op.call { callee := Callee.value (Operand.func 37), args := #[Operand.tmp 20, Operand.tmp 21, Operand.tmp 23], argTypes := #[49, 9, 9] }, type := 9, pos := "window.go:95", after := #[{ on := 0, ground := Ground.data }, { on := 1, ground := Ground.data }, { on := 3, ground := Ground.data }, { on := 3, ground := Ground.chain }], guard := none } : Oper)) rfl (fun K hK => ?_) AllReadyH.nil)
      go_simp
      refine (HJ.out _ hbu.out).mono ?_
      rintro e u2 ⟨rfl, hJ⟩
      dsimp only
      have BPu : Hid (u2.heap[w.heap.size]? = some (.cells #[.pointer (some ⟨bw, 0, none⟩)] 49 (0, 0))) := hJ.out.2.1.heap ((hbu.out.block _ hwU).trans HIU.out.bp) (hneU.out _ (Nat.le_refl _))
      refine hK.out _ _ ⟨(Lib.cell_of_heap BPu.out _).trans rfl, trivial⟩ (fun hHeld => ?_)
      clear hK K
      try simp only [Act.put, List.setIfInBounds_toArray, List.set_cons_zero, List.set_cons_succ]
      refine wpAnyH_take (i := 5) (oi := ({ dst := some 4, op := Op.assign (Operand.tmp 24), type := 9, pos := "window.go:95", after := #[{ on := 4, ground := Ground.data }, { on := 4, ground := Ground.chain }, { on := 0, ground := Ground.phase }, { on := 1, ground := Ground.phase }, { on := 2, ground := Ground.phase }, { on := 3, ground := Ground.phase }, { on := 4, ground := Ground.phase }], guard := none } : Oper)) (v := ?yv15) rfl (by kernel_rfl) (by kernel_rfl) (by kernel_rfl) (fun _ _ _ h => h) (Or.inl ⟨by rfl, ?yh15⟩) (by assumption) ?yr15
      case yh15 => (intro wq hSw; (try dsimp only at hSw); obtain ⟨sa, sb⟩ := hSw; go_simp; first | done | with_reducible rfl)
      try simp only [Act.put, List.setIfInBounds_toArray, List.set_cons_zero, List.set_cons_succ]
      refine wpAnyH_done (by kernel_rfl) ?_ _
      (try gi_wp2)
      refine wpIn_world ?_
      intro V hV
      have FV : Hid (Fr (fun k => k = bw ∨ G k) W V) := by rw [hV]; exact ((Fr.of_below (P := fun k => k = bw ∨ G k) HU.out).trans (Fr.of_below (P := fun _ => False) hbu.out) (fun _ q => q.elim)).trans hJ.out.2.1 (fun _ q => Or.inl q)
      have BV : Hid (V.heap[bw]? = some (.cells #[op, .string nt, .int .i64 (cw c (ps.length + 1)), (.slice pv (ps.length + 1) cv), (.slice (some ⟨b, 0, none⟩) (r.length + 1) cb), .string sm] 67 (0, 0))) := by rw [hV]; exact hJ.out.2.2
      have IV : Hid (I (n + (ps.length + 1)) V) := by rw [hV]; exact hJ.out.1
      have hneV : Hid (∀ k, w.heap.size ≤ k → ¬ (k = bw ∨ G k)) := fun k hk e => e.elim (fun q => by omega) (fun g => by have := O.glt _ _ _ H.st g; omega)
      have raV : Hid (V.ownsRow 0 69 2 (.slice pv (ps.length + 1) cv) (ps.length + 1) (tflS (tls f (zsL (y :: r) y (p :: ps))).reverse)) := by
        have h0 := HI.out.win.ra
        rw [zsL_len] at h0
        exact FV.out.row h0 (fun k e e' => e'.elim (fun q => row_ne h0 HI.out.win.blk (by decide) (q ▸ e)) (fun g => (HI.out.va k e).elim (fun q => H.dis k q g) (fun q => hneV.out k q (Or.inr g))))
      have BP : Hid (V.heap[w.heap.size]? = some (.cells #[.pointer (some ⟨bw, 0, none⟩)] 49 (0, 0))) := FV.out.heap HI.out.bp (hneV.out _ (Nat.le_refl _))
      have vp : V.cell? ⟨w.heap.size, 0, none⟩ = some (.pointer (some ⟨bw, 0, none⟩)) := (Lib.cell_of_heap BP.out _).trans rfl
      have vv : V.cell? ⟨bw, 3, none⟩ = some (.slice pv (ps.length + 1) cv) := (Lib.cell_of_heap BV.out _).trans rfl
      have hbV : bw < V.heap.size := lt_heap BV.out
      have hwV : w.heap.size < V.heap.size := lt_heap BP.out
      have HT : Hid (∀ {V w2 : World} {v' : Value}, Fr (fun k => k = bw ∨ G k) W V → V.heap[bw]? = some (.cells #[op, .string nt, .int .i64 (cw c (ps.length + 1)), (.slice pv (ps.length + 1) cv), (.slice (some ⟨b, 0, none⟩) (r.length + 1) cb), .string sm] 67 (0, 0)) → I (n + (ps.length + 1)) V →
          w2.ownsRow 0 69 2 v' ((ps.length + 1) + 1) (tflS (tls f (zsL (y :: r) y (p :: ps))).reverse ++ [.string x, .string q]) → (V.alloc (.cells #[.string x, .string q] 69)).grownBy w2 (Value.slice pv (ps.length + 1) cv).ownBlock → (v'.ownBlock = (Value.slice pv (ps.length + 1) cv).ownBlock ∨ v'.ownBlock = some (V.heap.size + 1)) →
          ∃ p9 c9, v' = .slice p9 ((ps.length + 1) + 1) c9 ∧ w2.cell? ⟨bw, 3, none⟩ = some (.slice pv (ps.length + 1) cv) ∧ w2.frozen? ⟨bw, 3, none⟩ = false ∧ Fr (fun k => k = bw ∨ G k ∨ (Value.slice pv (ps.length + 1) cv).ownBlock = some k) W w2 ∧
            Hid (TIS f op nt G I w bw c n (y :: r) y (.slice (some ⟨b, 0, none⟩) (r.length + 1) cb) sm F b cur ((p :: ps) ++ [j]) (w2.setCell ⟨bw, 3, none⟩ v') v' ∧ Fr (fun k => k = bw ∨ G k ∨ (Value.slice pv (ps.length + 1) cv).ownBlock = some k) W (w2.setCell ⟨bw, 3, none⟩ v'))) := by
        intro V w2 v' g1 g2 g3 g4 g5 g6
        have hx' := hx.out
        subst hx'
        have hq' := hq.out
        subst hq'
        have hzl : (zsL (y :: r) y (p :: ps)).length = (ps.length + 1) := zsL_len _ _ _
        exact tstepS O H.st hF H.dis H1.fw H1.fb hbf HI.out g1 g2 g3 hplt hLl (by rw [hzl]; exact g4) g5 g6
      have HS : Hid (∀ w3 : World, (V.drew.alloc (.cells #[.string x, .string q] 69)).grownBy w3 (Value.slice pv (ps.length + 1) cv).ownBlock → w3.cell? ⟨w.heap.size, 0, none⟩ = some (.pointer (some ⟨bw, 0, none⟩)) ∧ True) := by
        intro w3 hg
        exact ⟨hg.cell (Lib.cell?_alloc_some _ (show V.drew.cell? _ = _ from vp)) (fun e => row_ne raV.out BP.out (by decide) e.symm), trivial⟩
      clear hV  up  hHeld
      refine wpInR_held (S := fun U => U.cell? ⟨w.heap.size, 0, none⟩ = some (.pointer (some ⟨bw, 0, none⟩)) ∧ True) (by kernel_rfl) (by kernel_rfl) (by rintro ⟨a, w, h⟩; exact h) ⟨vp, trivial⟩ (fun hHeld => ?_)
      refine wpAnyH_take (i := 0) (oi := ({ dst := some 25, op := Op.load 49 (Operand.tmp 1), type := 49, pos := "window.go:97", after := #[], guard := none } : Oper)) (v := ?yv16) rfl (by kernel_rfl) (by kernel_rfl) (by kernel_rfl) (fun _ _ _ h => h) (Or.inl ⟨by rfl, ?yh16⟩) (by assumption) ?yr16
      case yh16 => (intro wq hSw; (try dsimp only at hSw); obtain ⟨sa, sb⟩ := hSw; go_simp; first | done | with_reducible rfl)
      try simp only [Act.put, List.setIfInBounds_toArray, List.set_cons_zero, List.set_cons_succ]
      refine wpAnyH_take (i := 1) (oi := ({ dst := some 26, op := Op.load 49 (Operand.tmp 1), type := 49, pos := "window.go:97", after := #[], guard := none } : Oper)) (v := ?yv17) rfl (by kernel_rfl) (by kernel_rfl) (by kernel_rfl) (fun _ _ _ h => h) (Or.inl ⟨by rfl, ?yh17⟩) (by assumption) ?yr17
      case yh17 => (intro wq hSw; (try dsimp only at hSw); obtain ⟨sa, sb⟩ := hSw; go_simp; first | done | with_reducible rfl)
      try simp only [Act.put, List.setIfInBounds_toArray, List.set_cons_zero, List.set_cons_succ]
      refine wpAnyH_take (i := 2) (oi := ({ dst := some 27, op := Op.nilCheck (Operand.tmp 26), type := 0, pos := "window.go:97", after := #[{ on := 1, ground := Ground.data }], guard := none } : Oper)) (v := ?yv18) rfl (by kernel_rfl) (by kernel_rfl) (by kernel_rfl) (fun _ _ _ h => h) (Or.inl ⟨by rfl, ?yh18⟩) (by assumption) ?yr18
      case yh18 => (intro wq hSw; (try dsimp only at hSw); obtain ⟨sa, sb⟩ := hSw; go_simp; first | done | with_reducible rfl)
      try simp only [Act.put, List.setIfInBounds_toArray, List.set_cons_zero, List.set_cons_succ]
      refine wpAnyH_take (i := 3) (oi := ({ dst := some 28, op := Op.fieldAddr 67 (Operand.tmp 27) 3, type := 0, pos := "window.go:97", after := #[{ on := 2, ground := Ground.data }], guard := none } : Oper)) (v := ?yv19) rfl (by kernel_rfl) (by kernel_rfl) (by kernel_rfl) (fun _ _ _ h => h) (Or.inl ⟨by rfl, ?yh19⟩) (by assumption) ?yr19
      case yh19 => (intro wq hSw; (try dsimp only at hSw); obtain ⟨sa, sb⟩ := hSw; go_simp; first | done | with_reducible rfl)
      try simp only [Act.put, List.setIfInBounds_toArray, List.set_cons_zero, List.set_cons_succ]
      refine wpAnyH_take (i := 5) (oi := ({ dst := some 30, op := Op.move (Operand.tmp 3), type := 9, pos := "window.go:97", after := #[], guard := none } : Oper)) (v := ?yv20) rfl (by kernel_rfl) (by kernel_rfl) (by kernel_rfl) (fun _ _ _ h => h) (Or.inl ⟨by rfl, ?yh20⟩) (by assumption) ?yr20
      case yh20 => (intro wq hSw; (try dsimp only at hSw); obtain ⟨sa, sb⟩ := hSw; go_simp; first | done | with_reducible rfl)
      try simp only [Act.put, List.setIfInBounds_toArray, List.set_cons_zero, List.set_cons_succ]
      refine wpAnyH_take (i := 6) (oi := ({ dst := some 31, op := Op.move (Operand.tmp 4), type := 9, pos := "window.go:97", after := #[], guard := none } : Oper)) (v := ?yv21) rfl (by kernel_rfl) (by kernel_rfl) (by kernel_rfl) (fun _ _ _ h => h) (Or.inl ⟨by rfl, ?yh21⟩) (by assumption) ?yr21
      case yh21 => (intro wq hSw; (try dsimp only at hSw); obtain ⟨sa, sb⟩ := hSw; go_simp; first | done | with_reducible rfl)
      try simp only [Act.put, List.setIfInBounds_toArray, List.set_cons_zero, List.set_cons_succ]
      refine wpAnyH_take (i := 7) (oi := ({ dst := some 32, op := Op.build 69 #[(0, Operand.tmp 30), (1, Operand.tmp 31)], type := 69, pos := "window.go:97", after := #[{ on := 5, ground := Ground.data }, { on := 6, ground := Ground.data }], guard := none } : Oper)) (v := ?yv22) rfl (by kernel_rfl) (by kernel_rfl) (by kernel_rfl) (fun _ _ _ h => h) (Or.inl ⟨by rfl, ?yh22⟩) (by assumption) ?yr22
      case yh22 => (intro wq hSw; (try dsimp only at hSw); obtain ⟨sa, sb⟩ := hSw; go_simp; first | done | with_reducible rfl)
      try simp only [Act.put, List.setIfInBounds_toArray, List.set_cons_zero, List.set_cons_succ]
      refine wpAnyH_ready (rs := [4, 8]) (by kernel_rfl) (by simp) ?_
      refine (AllReadyH.cons (o := ({ dst := some 29, op := Op.load 65 (Operand.tmp 28), type := 65, pos := "window.go:97", after := #[{ on := 3, ground := Ground.data }], guard := none } : Oper)) rfl (fun K hK => ?_) (AllReadyH.cons (o := ({ dst := some 33, op := Op.buildSlice 65 1 #[(0, Operand.tmp 32)], type := 65, pos := "window.go:97", after := #[{ on := 7, ground := Ground.data }], guard := none } : Oper)) rfl (fun K hK => ?_) AllReadyH.nil))
      · have vv' : V.drew.cell? ⟨bw, 3, none⟩ = some (.slice pv (ps.length + 1) cv) := vv
        go_simp
        clear vv'
        refine hK.out _ _ hHeld (fun hHeld => ?_)
        clear hK K
        try simp only [Act.put, List.setIfInBounds_toArray, List.set_cons_zero, List.set_cons_succ]
        refine wpAnyH_ready (rs := [8]) (by kernel_rfl) (by simp) ?_
        refine (AllReadyH.cons (o := ({ dst := some 33, op := Op.buildSlice 65 1 #[(0, Operand.tmp 32)], type := 65, pos := "window.go:97", after := #[{ on := 7, ground := Ground.data }], guard := none } : Oper)) rfl (fun K hK => ?_) AllReadyH.nil)
        go_simp
        refine hK.out _ _ ⟨Lib.cell?_alloc_some _ hHeld.1, trivial⟩ (fun hHeld => ?_)
        clear hK K
        try simp only [Act.put, List.setIfInBounds_toArray, List.set_cons_zero, List.set_cons_succ]
        refine wpAnyH_ready (rs := [9]) (by kernel_rfl) (by simp) ?_
        refine (AllReadyH.cons (o := ({ dst := some 34, op := Op.call { callee := Callee.builtin Builtin.append, args := #[Operand.tmp 29, Operand.tmp 33], argTypes := #[65, 65] }, type := 65, pos := "window.go:97", after := #[{ on := 4, ground := Ground.data }, { on := 8, ground := Ground.data }], guard := none } : Oper)) rfl (fun K hK => ?_) AllReadyH.nil)
        have XO : (V.drew.alloc (.cells #[.string x, .string q] 69)).ownsRow 0 69 2 (.slice pv (ps.length + 1) cv) (ps.length + 1) (tflS (tls f (zsL (y :: r) y (p :: ps))).reverse) := World.ownsRow.alloc (show V.drew.ownsRow _ _ _ _ _ _ from raV.out) _
        refine step_append_at rfl (.tmp 29) (.tmp 33) 65 rfl 0 69 i0 (.agg #[.string ByteArray.empty, .string ByteArray.empty]) 2 32 Try.underlying65 hi hz0 hz1 hz2 rfl (by decide) (.slice pv (ps.length + 1) cv) _ _ (by simp [Act.eval]) XO ⟨V.heap.size, 0, none⟩ 1 1 [.string x, .string q] (by simp [Act.eval]) rfl (by intro jj u hj; rw [Addr.add_lit]; (rcases jj with _ | _ | jj) <;> simp at hj <;> subst hj <;> simp (maxDischargeDepth := 12) [go_sem]) (by intro u hu; simp at hu; rcases hu with rfl | rfl <;> rfl) (by unfold maxLen; omega) (by omega) (Nat.zero_le _) (fun v' w3 h2 h3 h5 => ?_)
        have HA := HT.out (V := V.drew) (w2 := w3) (v' := v') FV.out.drew BV.out (O.stay _ _ _ _ IV.out (Fr.of_below (P := fun _ => False) (Below.refl _ V).drew) (fun _ _ h => h)) h2 h3 (by first | exact h5 | simpa using h5)
        obtain ⟨p2, c2, rfl, a1, a2, F2, HE⟩ := HA
        have hw3 := HS.out _ h3
        clear h2 h3 h5 XO
        refine hK.out _ _ hw3 (fun hHeld => ?_)
        clear hK K
        try simp only [Act.put, List.setIfInBounds_toArray, List.set_cons_zero, List.set_cons_succ]
        clear hw3
        refine wpAnyH_take (i := 10) (oi := ({ dst := some 35, op := Op.nilCheck (Operand.tmp 25), type := 0, pos := "window.go:97", after := #[{ on := 0, ground := Ground.data }, { on := 0, ground := Ground.phase }, { on := 1, ground := Ground.phase }, { on := 2, ground := Ground.phase }, { on := 3, ground := Ground.phase }, { on := 4, ground := Ground.phase }, { on := 5, ground := Ground.phase }, { on := 6, ground := Ground.phase }, { on := 7, ground := Ground.phase }, { on := 8, ground := Ground.phase }, { on := 9, ground := Ground.phase }], guard := none } : Oper)) (v := ?yv23) rfl (by kernel_rfl) (by kernel_rfl) (by kernel_rfl) (fun _ _ _ h => h) (Or.inl ⟨by rfl, ?yh23⟩) (by assumption) ?yr23
        case yh23 => (intro wq hSw; (try dsimp only at hSw); obtain ⟨sa, sb⟩ := hSw; go_simp; first | done | with_reducible rfl)
        try simp only [Act.put, List.setIfInBounds_toArray, List.set_cons_zero, List.set_cons_succ]
        refine wpAnyH_take (i := 11) (oi := ({ dst := some 36, op := Op.fieldAddr 67 (Operand.tmp 35) 3, type := 0, pos := "window.go:97", after := #[{ on := 10, ground := Ground.data }, { on := 0, ground := Ground.phase }, { on := 1, ground := Ground.phase }, { on := 2, ground := Ground.phase }, { on := 3, ground := Ground.phase }, { on := 4, ground := Ground.phase }, { on := 5, ground := Ground.phase }, { on := 6, ground := Ground.phase }, { on := 7, ground := Ground.phase }, { on := 8, ground := Ground.phase }, { on := 9, ground := Ground.phase }], guard := none } : Oper)) (v := ?yv24) rfl (by kernel_rfl) (by kernel_rfl) (by kernel_rfl) (fun _ _ _ h => h) (Or.inl ⟨by rfl, ?yh24⟩) (by assumption) ?yr24
        case yh24 => (intro wq hSw; (try dsimp only at hSw); obtain ⟨sa, sb⟩ := hSw; go_simp; first | done | with_reducible rfl)
        try simp only [Act.put, List.setIfInBounds_toArray, List.set_cons_zero, List.set_cons_succ]
        refine wpAnyH_ready (rs := [12]) (by kernel_rfl) (by simp) ?_
        refine (AllReadyH.cons (o := ({ dst := none, op := Op.store 65 (Operand.tmp 36) (Operand.tmp 34), type := 0, pos := "window.go:97", after := #[{ on := 11, ground := Ground.data }, { on := 9, ground := Ground.data }, { on := 9, ground := Ground.chain }, { on := 0, ground := Ground.phase }, { on := 1, ground := Ground.phase }, { on := 2, ground := Ground.phase }, { on := 3, ground := Ground.phase }, { on := 4, ground := Ground.phase }, { on := 5, ground := Ground.phase }, { on := 6, ground := Ground.phase }, { on := 7, ground := Ground.phase }, { on := 8, ground := Ground.phase }, { on := 9, ground := Ground.phase }], guard := none } : Oper)) rfl (fun K hK => ?_) AllReadyH.nil)
        go_simp
        have hS4 : Hid ((w3.setCell ⟨bw, 3, none⟩ (.slice p2 ((ps.length + 1) + 1) c2)).cell? ⟨w.heap.size, 0, none⟩ = some (.pointer (some ⟨bw, 0, none⟩)) ∧ True) := ⟨(World.cell?_setCell_other _ _ _ _ (by intro e; injection e with e1 e2 e3; omega)).trans hHeld.1, trivial⟩
        refine hK.out _ _ hS4.out (fun hHeld => ?_)
        clear hK K
        try simp only [Act.put, List.setIfInBounds_toArray, List.set_cons_zero, List.set_cons_succ]
        refine wpAnyH_done (by kernel_rfl) ?_ _
        clear hS4
        (try gi_wp2)
        have HK := HE.out
        obtain ⟨q1, q2⟩ := tkeepS O H.st hF H.dis H1.fw hbf HI.out HK.2 (B := W0.heap.size) (by omega)
        exact ⟨q1, q2, ⟨_, HK.1⟩⟩
      · go_simp
        refine hK.out _ _ ⟨Lib.cell?_alloc_some _ hHeld.1, trivial⟩ (fun hHeld => ?_)
        clear hK K
        try simp only [Act.put, List.setIfInBounds_toArray, List.set_cons_zero, List.set_cons_succ]
        refine wpAnyH_ready (rs := [4]) (by kernel_rfl) (by simp) ?_
        refine (AllReadyH.cons (o := ({ dst := some 29, op := Op.load 65 (Operand.tmp 28), type := 65, pos := "window.go:97", after := #[{ on := 3, ground := Ground.data }], guard := none } : Oper)) rfl (fun K hK => ?_) AllReadyH.nil)
        have vv' : (V.drew.alloc (.cells #[.string x, .string q] 69)).cell? ⟨bw, 3, none⟩ = some (.slice pv (ps.length + 1) cv) := Lib.cell?_alloc_some _ (show V.drew.cell? _ = _ from vv)
        go_simp
        clear vv'
        refine hK.out _ _ hHeld (fun hHeld => ?_)
        clear hK K
        try simp only [Act.put, List.setIfInBounds_toArray, List.set_cons_zero, List.set_cons_succ]
        refine wpAnyH_ready (rs := [9]) (by kernel_rfl) (by simp) ?_
        refine (AllReadyH.cons (o := ({ dst := some 34, op := Op.call { callee := Callee.builtin Builtin.append, args := #[Operand.tmp 29, Operand.tmp 33], argTypes := #[65, 65] }, type := 65, pos := "window.go:97", after := #[{ on := 4, ground := Ground.data }, { on := 8, ground := Ground.data }], guard := none } : Oper)) rfl (fun K hK => ?_) AllReadyH.nil)
        have XO : (V.drew.alloc (.cells #[.string x, .string q] 69)).ownsRow 0 69 2 (.slice pv (ps.length + 1) cv) (ps.length + 1) (tflS (tls f (zsL (y :: r) y (p :: ps))).reverse) := World.ownsRow.alloc (show V.drew.ownsRow _ _ _ _ _ _ from raV.out) _
        refine step_append_at rfl (.tmp 29) (.tmp 33) 65 rfl 0 69 i0 (.agg #[.string ByteArray.empty, .string ByteArray.empty]) 2 32 Try.underlying65 hi hz0 hz1 hz2 rfl (by decide) (.slice pv (ps.length + 1) cv) _ _ (by simp [Act.eval]) XO ⟨V.heap.size, 0, none⟩ 1 1 [.string x, .string q] (by simp [Act.eval]) rfl (by intro jj u hj; rw [Addr.add_lit]; (rcases jj with _ | _ | jj) <;> simp at hj <;> subst hj <;> simp (maxDischargeDepth := 12) [go_sem]) (by intro u hu; simp at hu; rcases hu with rfl | rfl <;> rfl) (by unfold maxLen; omega) (by omega) (Nat.zero_le _) (fun v' w3 h2 h3 h5 => ?_)
        have HA := HT.out (V := V.drew) (w2 := w3) (v' := v') FV.out.drew BV.out (O.stay _ _ _ _ IV.out (Fr.of_below (P := fun _ => False) (Below.refl _ V).drew) (fun _ _ h => h)) h2 h3 (by first | exact h5 | simpa using h5)
        obtain ⟨p2, c2, rfl, a1, a2, F2, HE⟩ := HA
        have hw3 := HS.out _ h3
        clear h2 h3 h5 XO
        refine hK.out _ _ hw3 (fun hHeld => ?_)
        clear hK K
        try simp only [Act.put, List.setIfInBounds_toArray, List.set_cons_zero, List.set_cons_succ]
        clear hw3
        refine wpAnyH_take (i := 10) (oi := ({ dst := some 35, op := Op.nilCheck (Operand.tmp 25), type := 0, pos := "window.go:97", after := #[{ on := 0, ground := Ground.data }, { on := 0, ground := Ground.phase }, { on := 1, ground := Ground.phase }, { on := 2, ground := Ground.phase }, { on := 3, ground := Ground.phase }, { on := 4, ground := Ground.phase }, { on := 5, ground := Ground.phase }, { on := 6, ground := Ground.phase }, { on := 7, ground := Ground.phase }, { on := 8, ground := Ground.phase }, { on := 9, ground := Ground.phase }], guard := none } : Oper)) (v := ?yv25) rfl (by kernel_rfl) (by kernel_rfl) (by kernel_rfl) (fun _ _ _ h => h) (Or.inl ⟨by rfl, ?yh25⟩) (by assumption) ?yr25
        case yh25 => (intro wq hSw; (try dsimp only at hSw); obtain ⟨sa, sb⟩ := hSw; go_simp; first | done | with_reducible rfl)
        try simp only [Act.put, List.setIfInBounds_toArray, List.set_cons_zero, List.set_cons_succ]
        refine wpAnyH_take (i := 11) (oi := ({ dst := some 36, op := Op.fieldAddr 67 (Operand.tmp 35) 3, type := 0, pos := "window.go:97", after := #[{ on := 10, ground := Ground.data }, { on := 0, ground := Ground.phase }, { on := 1, ground := Ground.phase }, { on := 2, ground := Ground.phase }, { on := 3, ground := Ground.phase }, { on := 4, ground := Ground.phase }, { on := 5, ground := Ground.phase }, { on := 6, ground := Ground.phase }, { on := 7, ground := Ground.phase }, { on := 8, ground := Ground.phase }, { on := 9, ground := Ground.phase }], guard := none } : Oper)) (v := ?yv26) rfl (by kernel_rfl) (by kernel_rfl) (by kernel_rfl) (fun _ _ _ h => h) (Or.inl ⟨by rfl, ?yh26⟩) (by assumption) ?yr26
        case yh26 => (intro wq hSw; (try dsimp only at hSw); obtain ⟨sa, sb⟩ := hSw; go_simp; first | done | with_reducible rfl)
        try simp only [Act.put, List.setIfInBounds_toArray, List.set_cons_zero, List.set_cons_succ]
        refine wpAnyH_ready (rs := [12]) (by kernel_rfl) (by simp) ?_
        refine (AllReadyH.cons (o := ({ dst := none, op := Op.store 65 (Operand.tmp 36) (Operand.tmp 34), type := 0, pos := "window.go:97", after := #[{ on := 11, ground := Ground.data }, { on := 9, ground := Ground.data }, { on := 9, ground := Ground.chain }, { on := 0, ground := Ground.phase }, { on := 1, ground := Ground.phase }, { on := 2, ground := Ground.phase }, { on := 3, ground := Ground.phase }, { on := 4, ground := Ground.phase }, { on := 5, ground := Ground.phase }, { on := 6, ground := Ground.phase }, { on := 7, ground := Ground.phase }, { on := 8, ground := Ground.phase }, { on := 9, ground := Ground.phase }], guard := none } : Oper)) rfl (fun K hK => ?_) AllReadyH.nil)
        go_simp
        have hS4 : Hid ((w3.setCell ⟨bw, 3, none⟩ (.slice p2 ((ps.length + 1) + 1) c2)).cell? ⟨w.heap.size, 0, none⟩ = some (.pointer (some ⟨bw, 0, none⟩)) ∧ True) := ⟨(World.cell?_setCell_other _ _ _ _ (by intro e; injection e with e1 e2 e3; omega)).trans hHeld.1, trivial⟩
        refine hK.out _ _ hS4.out (fun hHeld => ?_)
        clear hK K
        try simp only [Act.put, List.setIfInBounds_toArray, List.set_cons_zero, List.set_cons_succ]
        refine wpAnyH_done (by kernel_rfl) ?_ _
        clear hS4
        (try gi_wp2)
        have HK := HE.out
        obtain ⟨q1, q2⟩ := tkeepS O H.st hF H.dis H1.fw hbf HI.out HK.2 (B := W0.heap.size) (by omega)
        exact ⟨q1, q2, ⟨_, HK.1⟩⟩
  case done =>
    rintro D ys W hD rfl ⟨va, hi⟩ hK
    refine aK _ _ (wpIn_wide.2 ?_)
    have eX : zsL (y :: r) y (upto (y :: r).length (y :: r).length) = (y :: r) := zsL_all _ _
    have eN : (upto (y :: r).length (y :: r).length).length - 1 = r.length := by rw [upto_len]; simp
    have hw := hi.win
    rw [eX, eN] at hw
    have hst := hi.st
    rw [eN] at hst
    have HW : Hid (WinS f W bw op nt (cw c r.length) (y :: r) (y :: r) (fun k => F k ∨ va.ownBlock = some k) va (.slice (some ⟨b, 0, none⟩) (r.length + 1) cb) sm) := hw
    have HST : Hid (I (n + r.length) W) := hst
    have HI : Hid (TIS f op nt G I w bw c n (y :: r) y (.slice (some ⟨b, 0, none⟩) (r.length + 1) cb) sm F b cur _ W va) := hi
    clear hw hst eX eN hi
    have hsz : (Builtin.zeroCells (Value.cells (.string ⟨#[]⟩)) (r.length + 1)).size ≤ cur.size := by
      have h1 := HC.out.2.1
      have h2 := HC.out.2.2.2.1
      rw [h2]
      simp [Builtin.zeroCells, Value.cells] at h1 ⊢
      omega
    have hcl : ∀ ty, (Builtin.clear_ #[52] ty #[(.slice (some ⟨b, 0, none⟩) (r.length + 1) cb)]).run Try.prog W = .ok (.tuple #[]) (W.setCells b 0 (Builtin.zeroCells (Value.cells (.string ⟨#[]⟩)) (r.length + 1)).toList) := fun ty =>
      run_clear_any W _ _ ty (.string ⟨#[]⟩) Try.underlying52 Try.zeroValue9 (by intro v hv; simp [Value.cells] at hv; subst hv; rfl) b _ _ (by omega) cur HI.out.bb hsz (fun v hv => by
        simp only [Builtin.zeroCells, Array.toList_map, List.mem_map] at hv
        obtain ⟨i, -, rfl⟩ := hv
        exact zc_memS _ _ (by simp [Value.cells]))
    obtain ⟨f7, cur', hb7, hs7⟩ := setCells_fr b (Builtin.zeroCells (Value.cells (.string ⟨#[]⟩)) (r.length + 1)).toList 0 W cur 9 (0, 0) HI.out.bb
    generalize W.setCells b 0 (Builtin.zeroCells (Value.cells (.string ⟨#[]⟩)) (r.length + 1)).toList = W7 at hcl f7 hb7
    clear hsz
    have hbn : ¬ bw = b := fun q => by have e1 := HI.out.bb; have e2 := HW.out.blk; rw [← q] at e1; rw [e1] at e2; injection e2 with e2; injection e2 with _ e2; cases e2
    have hbnp : ¬ w.heap.size = b := by omega
    have yp : W.cell? ⟨w.heap.size, 0, none⟩ = some (.pointer (some ⟨bw, 0, none⟩)) := (Lib.cell_of_heap HI.out.bp _).trans rfl
    have yvb : W.cell? ⟨bw, 4, none⟩ = some (.slice (some ⟨b, 0, none⟩) (r.length + 1) cb) := (Lib.cell_of_heap HW.out.blk _).trans rfl
    have B7 : Hid (W7.heap[bw]? = some (.cells #[op, .string nt, .int .i64 (cw c r.length), va, (.slice (some ⟨b, 0, none⟩) (r.length + 1) cb), .string sm] 67 (0, 0))) := f7.heap HW.out.blk hbn
    have P7 : Hid (W7.heap[w.heap.size]? = some (.cells #[.pointer (some ⟨bw, 0, none⟩)] 49 (0, 0))) := f7.heap HI.out.bp hbnp
    have yp7 : W7.cell? ⟨w.heap.size, 0, none⟩ = some (.pointer (some ⟨bw, 0, none⟩)) := (Lib.cell_of_heap P7.out _).trans rfl
    have yvb7 : W7.cell? ⟨bw, 4, none⟩ = some (.slice (some ⟨b, 0, none⟩) (r.length + 1) cb) := (Lib.cell_of_heap B7.out _).trans rfl
    have yvf7 : W7.frozen? ⟨bw, 4, none⟩ = false := Lib.frozen_of_heap B7.out _
    have hcb : (0 : Int) ≤ (cb : Int) := by omega
    have F7 : Hid (Fr (fun k => k = b) W W7) := f7
    have HB7 : Hid (W7.heap[b]? = some (.cells cur' 9 (0, 0)) ∧ cur'.size = cur.size) := ⟨hb7, hs7⟩
    clear f7 hb7 hs7
    go_wp2
    refine wp_region_noPanic ?_
    go_region_with fail
    all_goals (
      refine NoPanic.normal ?_
      go_upto_region 9 with fail
      refine wp_world ?_
      intro W8 hW8
      have F8 : Hid (Fr (fun k => k = b ∨ k = bw) W W8) := by rw [hW8]; exact (Fr.setCell (P := fun k => k = b ∨ k = bw) (F7.out.mono (fun i e => Or.inl (Or.inl e))) (p := ⟨bw, 4, none⟩) (Or.inl (Or.inr rfl)) _).drew
      have B8 : Hid (W8.heap[bw]? = some (.cells #[op, .string nt, .int .i64 (cw c r.length), va, (.slice (some ⟨b, 0, none⟩) 0 cb), .string sm] 67 (0, 0))) := by rw [hW8]; exact (set_heap (w := W7) B7.out _)
      have P8 : Hid (W8.heap[w.heap.size]? = some (.cells #[.pointer (some ⟨bw, 0, none⟩)] 49 (0, 0))) := F8.out.heap HI.out.bp (fun e => e.elim hbnp (fun e => by omega))
      have C8 : Hid (W8.heap[b]? = some (.cells cur' 9 (0, 0))) := by rw [hW8]; exact (Below.heap_setCell _ _ _ _ (fun e => hbn e.symm)).trans HB7.out.1
      have yp8 : W8.cell? ⟨w.heap.size, 0, none⟩ = some (.pointer (some ⟨bw, 0, none⟩)) := (Lib.cell_of_heap P8.out _).trans rfl
      have hl8 : w.heap.size < W8.heap.size := lt_heap P8.out
      have hb8 : bw < W8.heap.size := lt_heap B8.out
      have k5 : W8.cell? ⟨bw, 5, none⟩ = some (.string sm) := (Lib.cell_of_heap B8.out _).trans rfl
      have kf5 : W8.frozen? ⟨bw, 5, none⟩ = false := Lib.frozen_of_heap B8.out _
      clear hW8 yp7 yvb7 yvf7 yp yvb hcl
      go_wp2
      have F9 := (Fr.setCell (F8.out) (p := ⟨bw, 5, none⟩) (Or.inl (Or.inr rfl)) (.string ⟨#[]⟩))
      have B9 := (set_heap B8.out (.string ⟨#[]⟩) (j := 5))
      have F98 := (Fr.setCell (Fr.refl (fun k => k = bw) W8) (p := ⟨bw, 5, none⟩) (Or.inl rfl) (.string ⟨#[]⟩))
      have C9 := F98.heap C8.out (fun e => hbn e.symm)
      have D9 := F9.heap hK (fun e => e.elim (fun e => by omega) (fun e => by omega))
      refine ⟨by simp, .inl ⟨_, _, rfl, run_takeDeferred D9, ?_⟩⟩
      exact ⟨_, results_none rfl _ _ _, ⟨_, rfl⟩, turnfinS O H hF H1.fw hbf HW.out HI.out.bb HI.out.va HST.out HI.out.fr F9 B9 C9 (HB7.out.2.trans HC.out.2.2.2.1) HC.out.2.2.1 (by omega) D9⟩)
end Go.Proofs.Ytondchfhdhllhaa

namespace Go.Proofs.Ytondchfhdhllhaa
open Go.RowKit Go.Shelf
set_option linter.unusedVariables false

theorem popfinS {f : ByteArray → ByteArray → ByteArray} {w : World} {bw : Nat} {op : Value} {nt : ByteArray} {c : Int} {X Y : List (ByteArray)} {F : Nat → Prop} {ok : Nat → ByteArray → Prop} {G : Nat → Prop} {I : Nat → World → Prop} {n : Nat} {W wf : World} {x : ByteArray} {xr Yt : List (ByteArray)} {P F' : Nat → Prop} {va vb va' : Value} {sm : ByteArray} {g n' : Nat} {c' : Int} (O : OpS op f ok G I) (H : StS f op nt ok G I w bw c n X Y F) (hF : ∀ k, F k → k < w.heap.size) (HW : StS f op nt ok G I W bw c' n' (x :: xr) Yt F') (hwin : WinS f W bw op nt c' (x :: xr) Yt F' va vb sm) (hg : va.ownBlock = some g)
    (hF' : ∀ k, F' k → F k ∨ w.heap.size ≤ k) (hfr : Fr (fun k => F k ∨ G k) w W) (f9 : Fr P W wf) (hP : ∀ k, P k → k = g ∨ k = bw ∨ (¬ F' k ∧ w.heap.size ≤ k))
    (b9 : wf.heap[bw]? = some (.cells #[op, .string nt, .int .i64 c', va', vb, .string sm] 67 (0, 0))) (r9 : wf.ownsRow 0 69 2 va' xr.length (tflS (tls f xr).reverse)) (hg' : va'.ownBlock = some g) :
    Hid (StS f op nt ok G I wf bw c' n' xr Yt (FF F w wf) ∧ Fr (fun k => F k ∨ G k) w wf) := by
  have hG : ∀ k, G k → k < w.heap.size := fun k g => O.glt _ _ _ H.st g
  have hFF : ∀ k, F' k → FF F w wf k := fun k h => (hF' k h).elim Or.inl (fun q => Or.inr ⟨q, Nat.lt_of_lt_of_le (hwin.ft k h) f9.size⟩)
  have hgF := hwin.fa g hg
  have FA : Fr (fun k => F k ∨ G k) w wf := hfr.trans f9 (fun i h => (hP i h).elim (fun q => (hF' i (q ▸ hgF)).elim (fun q => Or.inl (Or.inl q)) Or.inr) (fun q => q.elim (fun q => (hF' i (q ▸ hwin.fw)).elim (fun q => Or.inl (Or.inl q)) Or.inr) (fun q => Or.inr q.2)))
  have hl := HW.lim
  simp only [List.length_cons] at hl
  refine ⟨⟨⟨va', vb, sm, ⟨b9, r9, ?_, hwin.sum, by omega, hFF _ hwin.fw, ?_, fun k e => hFF k (hwin.fb k e), ?_⟩⟩, ?_, fun z hz => HW.okX z (by simp [hz]), HW.okY, ?_, by omega⟩, FA⟩
  · refine f9.row hwin.rb (fun k e h => ?_)
    rcases hP k h with q | q | q
    · exact row_ne2 hwin.ra hwin.rb (by decide) k (q ▸ hg) e
    · exact row_ne hwin.rb hwin.blk (by decide) (q ▸ e)
    · exact q.1 (hwin.fb k e)
  · intro k e
    rw [hg'] at e
    cases e
    exact hFF _ hgF
  · intro k h
    rcases h with h | h
    · exact Nat.lt_of_lt_of_le (hF k h) FA.size
    · exact h.2
  · refine O.stay _ _ _ _ HW.st f9 (fun k gk h => ?_)
    rcases hP k h with q | q | q
    · exact HW.dis k (q ▸ hgF) gk
    · exact HW.dis k (q ▸ hwin.fw) gk
    · have := hG k gk; omega
  · intro k h gk
    rcases h with h | h
    · exact H.dis k h gk
    · have := hG k gk; omega
theorem row_setS {w : World} {e g m cap o : Nat} {xs : List Value} (h : w.ownsRow 0 e 2 (.slice (some ⟨g, 0, none⟩) m cap) m xs) (ho : m * 2 ≤ o) (u : Value) : (w.setCell ⟨g, o, none⟩ u).ownsRow 0 e 2 (.slice (some ⟨g, 0, none⟩) m cap) m xs := by
  obtain ⟨h1, ⟨h2, -⟩ | ⟨g', cap', cur, hv, h3, hh, h4, h5, h6, h7⟩⟩ := h
  · cases h2
  · cases hv
    refine ⟨h1, .inr ⟨g, cap, cur.setIfInBounds o u, rfl, h3, set_heap hh u, h4, h5, by simpa using h6, ?_⟩⟩
    rw [Array.toList_setIfInBounds, List.take_set_of_le ho]
    exact h7
theorem row_takeS {w : World} {e g m cap : Nat} {A B : List Value} (h : w.ownsRow 0 e 2 (.slice (some ⟨g, 0, none⟩) (m + 1) cap) (m + 1) (A ++ B)) (hA : A.length = m * 2) : w.ownsRow 0 e 2 (.slice (some ⟨g, 0, none⟩) m cap) m A := by
  obtain ⟨h1, ⟨h2, -⟩ | ⟨g', cap', cur, hv, h3, hh, h4, h5, h6, h7⟩⟩ := h
  · cases h2
  · cases hv
    refine ⟨hA, .inr ⟨g, cap, cur, rfl, h3, hh, by omega, h5, h6, ?_⟩⟩
    have e1 := congrArg (List.take (m * 2)) h7
    rw [List.take_take, Nat.min_eq_left (by omega), List.take_left' hA] at e1
    exact e1

set_option maxRecDepth 100000 in
set_option maxHeartbeats 4000000 in
theorem popS_none {f : ByteArray → ByteArray → ByteArray} {w : World} {bw : Nat} {op : Value} {nt : ByteArray} {c : Int} {F : Nat → Prop} {ok : Nat → ByteArray → Prop} {G : Nat → Prop} {I : Nat → World → Prop} {n : Nat} (H : StS f op nt ok G I w bw c n [] [] F) :
    Calls Try.prog 25 #[.pointer (some ⟨bw, 0, none⟩)] w fun e w' => e = .returned (.tuple #[.string ⟨#[]⟩, .int .i64 110]) ∧ Below w.heap.size w w' := by
  obtain ⟨va, vb, sm, H1⟩ := H.win
  have HL : Hid (∀ W, Below w.heap.size w W → Calls Try.prog 28 #[.pointer (some ⟨bw, 0, none⟩)] W fun e w' => e = .returned (.int .i64 0) ∧ ∃ q, w' = W.drewN q) := fun W hW =>
    lenS_any (H1.fr (Fr.of_below (P := fun _ => False) hW) (fun _ _ h => h))
  clear H H1
  go_enter Try.func25, Try.ntmps25
  go_wp2_with (go_at_call 28; refine (HL.out _ (by go_grown)).mono ?_; rintro e w1 ⟨rfl, q, rfl⟩)
  refine bodyPost_ret (by simp [results, Try.results25, go_sem]; try rfl) rfl ?_
  exact ⟨rfl, Below.drewN (Below.refl _ w) q⟩

set_option maxRecDepth 100000 in
set_option maxHeartbeats 8000000 in
theorem popS_some {f : ByteArray → ByteArray → ByteArray} {w : World} {bw : Nat} {op : Value} {nt : ByteArray} {c : Int} {x : ByteArray} {xr Y : List (ByteArray)} {F : Nat → Prop} {ok : Nat → ByteArray → Prop} {G : Nat → Prop} {I : Nat → World → Prop} {n : Nat} (O : OpS op f ok G I) (H : StS f op nt ok G I w bw c n (x :: xr) Y F) :
    Calls Try.prog 25 #[.pointer (some ⟨bw, 0, none⟩)] w fun e w' => e = .returned (.tuple #[(.string x), .int .i64 0]) ∧ Hid (StS f op nt ok G I w' bw c n xr Y (FF F w w') ∧ Fr (fun k => F k ∨ G k) w w') := by
  obtain ⟨va, vb, sm, H1⟩ := H.win
  have hF := H1.ft
  have hlim := H.lim
  have hbw : bw < w.heap.size := hF _ H1.fw
  have HL : Hid (∀ W, Below w.heap.size w W → Calls Try.prog 28 #[.pointer (some ⟨bw, 0, none⟩)] W fun e w' => e = .returned (.int .i64 ((xr.length + 1 + Y.length : Nat) : Int)) ∧ Below W.heap.size W w') := fun W hW =>
    (lenS_any (H1.fr (Fr.of_below (P := fun _ => False) hW) (fun _ _ h => h))).mono (fun e w' h => ⟨h.1, by obtain ⟨q, rfl⟩ := h.2; exact Below.drewN (Below.refl _ _) q⟩)
  obtain ⟨mm, hmm⟩ : ∃ mm : Nat, Hid (xr.length + 1 + Y.length = mm) := ⟨_, rfl⟩
  have hmm0 : ¬ ((mm : Int) = 0) := by have := hmm.out; omega
  rw [hmm.out] at HL
  go_enter Try.func25, Try.ntmps25
  go_wp2_with fail
  refine (HL.out _ (by go_grown)).mono ?_
  rintro e w1 ⟨rfl, hb1⟩
  have hb0 : Below w.heap.size w w1 := hb1
  have HS1 : Hid (StS f op nt ok G I w1 bw c n (x :: xr) Y F) := H.fr O (Fr.of_below (P := fun _ => False) hb0) (fun _ _ h => h) (fun _ _ h => h)
  have hW1 := H1.fr (Fr.of_below (P := fun _ => False) hb0) (fun _ _ h => h)
  obtain ⟨pa, ca, hpa⟩ := row_form hW1.ra
  have yl : w1.cell? ⟨bw, 3, none⟩ = some (.slice pa (xr.length + 1) ca) := by rw [Lib.cell_of_heap hW1.blk, hpa]; rfl
  clear hb1 HL
  have hxl : ¬ ((xr.length : Int) + 1 = 0) := by omega
  clear hW1 hpa
  go_upto_region 6 with fail
  refine wp_world ?_
  intro W hW
  subst hW
  have HFW : Hid (Fr (fun k => F k ∨ G k) w W) := Fr.of_below hb0
  have HS2 : Hid (StS f op nt ok G I W bw c n (x :: xr) Y F) := HS1.out
  have HF2 : Hid (∀ k, F k → F k ∨ W.heap.size ≤ k) := fun k h => Or.inl h
  clear yl
  have hw1 : w.heap.size ≤ W.heap.size := hb0.size
  obtain ⟨va2, vb2, sm2, HW2⟩ := HS2.out.win
  have hra := HW2.ra
  obtain ⟨hn, ⟨e, hn0⟩ | ⟨g, cap, cur, rfl, -, hg, hc1, hc2, hc3, -⟩⟩ := hra
  · exact absurd hn0 (by simp)
  have e0 : tflS (tls f (x :: xr)).reverse = tflS (tls f xr).reverse ++ tcS (x, sumR f x xr) := by simp only [tls, List.reverse_cons]; exact tflS_snoc _ _
  have e1 : (tflS (tls f xr).reverse).length = xr.length * 2 := by rw [tflS_len, List.length_reverse, tls_len]
  have hrow := HW2.ra
  have z : ∀ j, j < 2 → W.cell? ⟨g, xr.length * 2 + j, none⟩ = (tcS (x, sumR f x xr))[j]? := fun j hj => by
    rw [hrow.cellAt _ (by simp; omega), e0, List.getElem?_append_right (by rw [e1]; omega), e1, show xr.length * 2 + j - xr.length * 2 = j by omega]
  have z0 : W.cell? ⟨g, xr.length * 2, none⟩ = some (.string x) := z 0 (by omega)
  have zf0 : W.frozen? ⟨g, xr.length * 2, none⟩ = false := Lib.frozen_of_heap hg _
  have z1 : W.cell? ⟨g, xr.length * 2 + 1, none⟩ = some (.string (sumR f x xr)) := z 1 (by omega)
  have zf1 : W.frozen? ⟨g, xr.length * 2 + 1, none⟩ = false := Lib.frozen_of_heap hg _
  have yva : W.cell? ⟨bw, 3, none⟩ = some (.slice (some ⟨g, 0, none⟩) (xr.length + 1) cap) := (Lib.cell_of_heap HW2.blk _).trans rfl
  have yvf : W.frozen? ⟨bw, 3, none⟩ = false := Lib.frozen_of_heap HW2.blk _
  have hgl : g < W.heap.size := lt_heap hg
  have hgbw : ¬ g = bw := fun q => row_ne HW2.ra HW2.blk (by decide) (by rw [← q]; rfl)
  have hbwW : bw < W.heap.size := lt_heap HW2.blk
  have HROW : Hid (W.ownsRow 0 69 2 (.slice (some ⟨g, 0, none⟩) xr.length cap) xr.length (tflS (tls f xr).reverse)) := by
    have h := hrow
    rw [e0] at h
    exact row_takeS h e1
  have HGH : Hid (_) := hg
  have HWW : Hid (_) := HW2
  have hcap : Hid ((x :: xr).length ≤ cap) := hc1
  have hxr : xr.length ≤ 4096 := by have := HS2.out.lim; simp at this; omega
  have hmc : (xr.length : Int) ≤ cap := by simp at hc1; omega
  clear z e0 e1 hrow hn hg HW2 hc1 hc2 hc3
  obtain ⟨m, hm⟩ : ∃ m, Hid (xr.length = m) := ⟨_, rfl⟩
  rw [hm.out] at yva hmc hxr z0 zf0 z1 zf1
  have m1 : (m : Int) + 1 - 1 = m := by omega
  have m2 : (m : Int) < (m : Int) + 1 := by omega
  have m3 : (0 : Int) ≤ m := by omega
  have m4 : IntKind.i64.wrap (m : Int) = m := by rw [IntKind.wrap_i64]; omega
  have m5 : ((m : Int)).toNat = m := by omega
  go_wp2
  refine bodyPost_ret (by simp [results, Try.results25, go_sem]; try rfl) rfl ?_
  have G9 : Fr (fun k => k = g) W ((W.setCell ⟨g, m * 2, none⟩ (.string ⟨#[]⟩)).setCell ⟨g, m * 2 + 1, none⟩ (.string ⟨#[]⟩)) := (Fr.setCell (Fr.setCell (Fr.refl (fun k => k = g) W) (p := ⟨g, m * 2, none⟩) (Or.inl rfl) (.string ⟨#[]⟩)) (p := ⟨g, m * 2 + 1, none⟩) (Or.inl rfl) (.string ⟨#[]⟩))
  have h0 := HROW.out
  rw [hm.out] at h0
  have R9 := (row_setS (o := m * 2 + 1) (row_setS (o := m * 2) h0 (by omega) (.string ⟨#[]⟩)) (by omega) (.string ⟨#[]⟩))
  have b0 := HWW.out.blk
  rw [show (x :: xr).length = m + 1 by simp [hm.out]] at b0
  have B9 := G9.heap b0 (fun e => hgbw e.symm)
  have G10 : Fr (fun k => k = bw) ((W.setCell ⟨g, m * 2, none⟩ (.string ⟨#[]⟩)).setCell ⟨g, m * 2 + 1, none⟩ (.string ⟨#[]⟩)) _ := (Fr.setCell (Fr.refl (fun k => k = bw) ((W.setCell ⟨g, m * 2, none⟩ (.string ⟨#[]⟩)).setCell ⟨g, m * 2 + 1, none⟩ (.string ⟨#[]⟩))) (p := ⟨bw, 3, none⟩) (Or.inl rfl) (.slice (some ⟨g, 0, none⟩) m cap))
  refine ⟨rfl, popfinS (g := g) (va' := (.slice (some ⟨g, 0, none⟩) m cap)) O H hF HS2.out HWW.out rfl (fun k h => (HF2.out k h).elim Or.inl (fun q => Or.inr (by omega))) HFW.out
    (P := (fun k => k = g ∨ k = bw)) ((G9.mono (fun i e => Or.inl (Or.inl e))).trans G10 (fun i e => Or.inl (Or.inr e))) (fun k h => h.elim Or.inl (fun h => Or.inr (Or.inl h)))
    (set_heap B9 _) ?_ rfl⟩
  rw [hm.out]
  exact G10.row R9 (fun k e q => row_ne R9 B9 (by decide) (q ▸ e))

set_option maxRecDepth 100000 in
set_option maxHeartbeats 8000000 in
theorem popS_turn {f : ByteArray → ByteArray → ByteArray} {w : World} {bw : Nat} {op : Value} {nt : ByteArray} {c : Int} {x : ByteArray} {xr : List (ByteArray)} {F : Nat → Prop} {ok : Nat → ByteArray → Prop} {G : Nat → Prop} {I : Nat → World → Prop} {n : Nat} (O : OpS op f ok G I) (H : StS f op nt ok G I w bw c n [] (x :: xr) F) :
    Calls Try.prog 25 #[.pointer (some ⟨bw, 0, none⟩)] w fun e w' => e = .returned (.tuple #[(.string x), .int .i64 0]) ∧ Hid (StS f op nt ok G I w' bw (cw c xr.length) (n + xr.length) xr [] (FF F w w') ∧ Fr (fun k => F k ∨ G k) w w') := by
  obtain ⟨va, vb, sm, H1⟩ := H.win
  have hF := H1.ft
  have hlim := H.lim
  have hbw : bw < w.heap.size := hF _ H1.fw
  have HL : Hid (∀ W, Below w.heap.size w W → Calls Try.prog 28 #[.pointer (some ⟨bw, 0, none⟩)] W fun e w' => e = .returned (.int .i64 ((0 + (xr.length + 1) : Nat) : Int)) ∧ Below W.heap.size W w') := fun W hW =>
    (lenS_any (H1.fr (Fr.of_below (P := fun _ => False) hW) (fun _ _ h => h))).mono (fun e w' h => ⟨h.1, by obtain ⟨q, rfl⟩ := h.2; exact Below.drewN (Below.refl _ _) q⟩)
  obtain ⟨mm, hmm⟩ : ∃ mm : Nat, Hid (0 + (xr.length + 1) = mm) := ⟨_, rfl⟩
  have hmm0 : ¬ ((mm : Int) = 0) := by have := hmm.out; omega
  rw [hmm.out] at HL
  go_enter Try.func25, Try.ntmps25
  go_wp2_with fail
  refine (HL.out _ (by go_grown)).mono ?_
  rintro e w1 ⟨rfl, hb1⟩
  have hb0 : Below w.heap.size w w1 := hb1
  have HS1 : Hid (StS f op nt ok G I w1 bw c n [] (x :: xr) F) := H.fr O (Fr.of_below (P := fun _ => False) hb0) (fun _ _ h => h) (fun _ _ h => h)
  have hW1 := H1.fr (Fr.of_below (P := fun _ => False) hb0) (fun _ _ h => h)
  obtain ⟨pa, ca, hpa⟩ := row_form hW1.ra
  have yl : w1.cell? ⟨bw, 3, none⟩ = some (.slice pa 0 ca) := by rw [Lib.cell_of_heap hW1.blk, hpa]; rfl
  clear hb1 HL
  clear hW1 hpa
  go_wp2_with fail
  refine (turnS_any O HS1.out).mono ?_
  rintro e W ⟨⟨v, rfl⟩, HSW⟩
  have HFW : Hid (Fr (fun k => F k ∨ G k) w W) := (Fr.of_below hb0).trans HSW.out.2 (fun i h => Or.inl h)
  have HS2 : Hid (StS f op nt ok G I W bw (cw c xr.length) (n + xr.length) (x :: xr) [] (FF F w1 W)) := HSW.out.1
  have HF2 : Hid (∀ k, (FF F w1 W) k → F k ∨ w1.heap.size ≤ k) := fun k h => h.elim Or.inl (fun q => Or.inr q.1)
  clear HSW yl
  have hw1 : w.heap.size ≤ w1.heap.size := hb0.size
  obtain ⟨va2, vb2, sm2, HW2⟩ := HS2.out.win
  have hra := HW2.ra
  obtain ⟨hn, ⟨e, hn0⟩ | ⟨g, cap, cur, rfl, -, hg, hc1, hc2, hc3, -⟩⟩ := hra
  · exact absurd hn0 (by simp)
  have e0 : tflS (tls f (x :: xr)).reverse = tflS (tls f xr).reverse ++ tcS (x, sumR f x xr) := by simp only [tls, List.reverse_cons]; exact tflS_snoc _ _
  have e1 : (tflS (tls f xr).reverse).length = xr.length * 2 := by rw [tflS_len, List.length_reverse, tls_len]
  have hrow := HW2.ra
  have z : ∀ j, j < 2 → W.cell? ⟨g, xr.length * 2 + j, none⟩ = (tcS (x, sumR f x xr))[j]? := fun j hj => by
    rw [hrow.cellAt _ (by simp; omega), e0, List.getElem?_append_right (by rw [e1]; omega), e1, show xr.length * 2 + j - xr.length * 2 = j by omega]
  have z0 : W.cell? ⟨g, xr.length * 2, none⟩ = some (.string x) := z 0 (by omega)
  have zf0 : W.frozen? ⟨g, xr.length * 2, none⟩ = false := Lib.frozen_of_heap hg _
  have z1 : W.cell? ⟨g, xr.length * 2 + 1, none⟩ = some (.string (sumR f x xr)) := z 1 (by omega)
  have zf1 : W.frozen? ⟨g, xr.length * 2 + 1, none⟩ = false := Lib.frozen_of_heap hg _
  have yva : W.cell? ⟨bw, 3, none⟩ = some (.slice (some ⟨g, 0, none⟩) (xr.length + 1) cap) := (Lib.cell_of_heap HW2.blk _).trans rfl
  have yvf : W.frozen? ⟨bw, 3, none⟩ = false := Lib.frozen_of_heap HW2.blk _
  have hgl : g < W.heap.size := lt_heap hg
  have hgbw : ¬ g = bw := fun q => row_ne HW2.ra HW2.blk (by decide) (by rw [← q]; rfl)
  have hbwW : bw < W.heap.size := lt_heap HW2.blk
  have HROW : Hid (W.ownsRow 0 69 2 (.slice (some ⟨g, 0, none⟩) xr.length cap) xr.length (tflS (tls f xr).reverse)) := by
    have h := hrow
    rw [e0] at h
    exact row_takeS h e1
  have HGH : Hid (_) := hg
  have HWW : Hid (_) := HW2
  have hcap : Hid ((x :: xr).length ≤ cap) := hc1
  have hxr : xr.length ≤ 4096 := by have := HS2.out.lim; simp at this; omega
  have hmc : (xr.length : Int) ≤ cap := by simp at hc1; omega
  clear z e0 e1 hrow hn hg HW2 hc1 hc2 hc3
  obtain ⟨m, hm⟩ : ∃ m, Hid (xr.length = m) := ⟨_, rfl⟩
  rw [hm.out] at yva hmc hxr z0 zf0 z1 zf1
  have m1 : (m : Int) + 1 - 1 = m := by omega
  have m2 : (m : Int) < (m : Int) + 1 := by omega
  have m3 : (0 : Int) ≤ m := by omega
  have m4 : IntKind.i64.wrap (m : Int) = m := by rw [IntKind.wrap_i64]; omega
  have m5 : ((m : Int)).toNat = m := by omega
  go_wp2
  refine bodyPost_ret (by simp [results, Try.results25, go_sem]; try rfl) rfl ?_
  have G9 : Fr (fun k => k = g) W ((W.setCell ⟨g, m * 2, none⟩ (.string ⟨#[]⟩)).setCell ⟨g, m * 2 + 1, none⟩ (.string ⟨#[]⟩)) := (Fr.setCell (Fr.setCell (Fr.refl (fun k => k = g) W) (p := ⟨g, m * 2, none⟩) (Or.inl rfl) (.string ⟨#[]⟩)) (p := ⟨g, m * 2 + 1, none⟩) (Or.inl rfl) (.string ⟨#[]⟩))
  have h0 := HROW.out
  rw [hm.out] at h0
  have R9 := (row_setS (o := m * 2 + 1) (row_setS (o := m * 2) h0 (by omega) (.string ⟨#[]⟩)) (by omega) (.string ⟨#[]⟩))
  have b0 := HWW.out.blk
  rw [show (x :: xr).length = m + 1 by simp [hm.out]] at b0
  have B9 := G9.heap b0 (fun e => hgbw e.symm)
  have G10 : Fr (fun k => k = bw) ((W.setCell ⟨g, m * 2, none⟩ (.string ⟨#[]⟩)).setCell ⟨g, m * 2 + 1, none⟩ (.string ⟨#[]⟩)) _ := (Fr.setCell (Fr.refl (fun k => k = bw) ((W.setCell ⟨g, m * 2, none⟩ (.string ⟨#[]⟩)).setCell ⟨g, m * 2 + 1, none⟩ (.string ⟨#[]⟩))) (p := ⟨bw, 3, none⟩) (Or.inl rfl) (.slice (some ⟨g, 0, none⟩) m cap))
  refine ⟨rfl, popfinS (g := g) (va' := (.slice (some ⟨g, 0, none⟩) m cap)) O H hF HS2.out HWW.out rfl (fun k h => (HF2.out k h).elim Or.inl (fun q => Or.inr (by omega))) HFW.out
    (P := (fun k => k = g ∨ k = bw)) ((G9.mono (fun i e => Or.inl (Or.inl e))).trans G10 (fun i e => Or.inl (Or.inr e))) (fun k h => h.elim Or.inl (fun h => Or.inr (Or.inl h)))
    (set_heap B9 _) ?_ rfl⟩
  rw [hm.out]
  exact G10.row R9 (fun k e q => row_ne R9 B9 (by decide) (q ▸ e))
end Go.Proofs.Ytondchfhdhllhaa
