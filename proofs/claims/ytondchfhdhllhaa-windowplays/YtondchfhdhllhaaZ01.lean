/- turn over things: what holds between its rounds. -/
import Derived.RangeFuncNested
import Derived.RangeFuncBound
import Derived.RangeFuncCalls
import Derived.RangeFuncLeaves
import Derived.Shelf.Abstract
import Derived.Shelf.RegionOpen
import Derived.WalkKit
import Derived.OwnWalk
import Derived.OwnWalkIn
import Derived.TacticsInMore
import Derived.LoopNIn
import Derived.LoopIn
import Derived.Laws.OwnMore
import Derived.Lib.Builder
import Derived.Maps.AppendAt
import Derived.Handy
import Derived.IntWalk
import Derived.Deep.Cut
import Derived.BigQuiet
import Derived.Deep.QuietTactic
import Derived.WalkLawsBesides
import Derived.WalkMore
import Derived.WalkSpells
import Derived.Deep.RegionHeld3
import Derived.Deep.RegionLaw
import Derived.Test.YtondchfhdhllhaaRows
import Derived.Lib.SliceRun

namespace Go.Proofs.Ytondchfhdhllhaa
open Go.RowKit Go.Shelf
set_option linter.unusedVariables false

/-- What was there and is not of P lies as it lay. -/
structure Fr (P : Nat → Prop) (w w' : World) : Prop where
  os : w'.os = w.os
  tape : w'.tape = w.tape
  output : w'.output = w.output
  size : w.heap.size ≤ w'.heap.size
  block : ∀ k, k < w.heap.size → ¬ P k → w'.heap[k]? = w.heap[k]?
theorem Fr.refl (P : Nat → Prop) (w : World) : Fr P w w := ⟨rfl, rfl, rfl, Nat.le_refl _, fun _ _ _ => rfl⟩
theorem Fr.trans {P Q : Nat → Prop} {a b c : World} (h : Fr P a b) (k : Fr Q b c) (hQ : ∀ i, Q i → P i ∨ a.heap.size ≤ i) : Fr P a c :=
  ⟨k.os.trans h.os, k.tape.trans h.tape, k.output.trans h.output, Nat.le_trans h.size k.size, fun i hi hp => (k.block i (Nat.lt_of_lt_of_le hi h.size) (fun q => by rcases hQ i q with q | q; exact hp q; omega)).trans (h.block i hi hp)⟩
theorem Fr.mono {P Q : Nat → Prop} {a b : World} (h : Fr P a b) (hQ : ∀ i, P i → Q i ∨ a.heap.size ≤ i) : Fr Q a b :=
  ⟨h.os, h.tape, h.output, h.size, fun i hi hp => h.block i hi (fun q => by rcases hQ i q with q | q; exact hp q; omega)⟩
theorem Fr.drew {P : Nat → Prop} {a b : World} (h : Fr P a b) : Fr P a b.drew := ⟨h.os, h.tape, h.output, h.size, h.block⟩
theorem Fr.alloc {P : Nat → Prop} {a b : World} (h : Fr P a b) (o : Obj) : Fr P a (b.alloc o) :=
  h.trans (Q := fun _ => False) ⟨rfl, rfl, rfl, by simp, fun k hk _ => Below.heap_alloc _ _ _ hk⟩ (fun _ h => h.elim)
theorem Fr.setCell {P : Nat → Prop} {a b : World} (h : Fr P a b) {p : Addr} (hp : P p.block ∨ a.heap.size ≤ p.block) (u : Value) : Fr P a (b.setCell p u) :=
  h.trans (Q := fun k => k = p.block) ⟨rfl, rfl, rfl, by simp [World.setCell], fun k hk hn => Below.heap_setCell _ _ _ _ hn⟩ (fun i e => by subst e; exact hp)
theorem Fr.grown {P : Nat → Prop} {a b c : World} {row : Option Nat} (h : Fr P a b) (hg : b.grownBy c row) (hr : ∀ k, row = some k → P k ∨ a.heap.size ≤ k) : Fr P a c :=
  h.trans (Q := fun k => row = some k) ⟨hg.os, hg.tape, hg.output, hg.size, fun k hk hn => hg.block k hk (fun e => hn e.symm)⟩ (fun i e => hr i e)
theorem Fr.of_below {P : Nat → Prop} {a b : World} (h : Below a.heap.size a b) : Fr P a b := ⟨h.os, h.tape, h.output, h.size, fun k hk _ => h.block k hk⟩
theorem Fr.below {P : Nat → Prop} {a b : World} {n : Nat} (h : Fr P a b) (hn : n ≤ a.heap.size) (hp : ∀ k, P k → n ≤ k) : Below n a b := ⟨h.os, h.tape, h.output, h.size, fun k hk => h.block k (by omega) (fun q => by have := hp k q; omega)⟩
theorem Fr.row {P : Nat → Prop} {a b : World} (h : Fr P a b) {base e size n : Nat} {v : Value} {xs : List Value} (hr : a.ownsRow base e size v n xs) (hp : ∀ k, v.ownBlock = some k → ¬ P k) : b.ownsRow base e size v n xs := by
  obtain ⟨h1, h2⟩ := hr
  refine ⟨h1, ?_⟩
  rcases h2 with h2 | ⟨g, cap, cur, hv, hg, hh, r⟩
  · exact Or.inl h2
  · exact Or.inr ⟨g, cap, cur, hv, hg, (h.block g (Array.getElem?_eq_some_iff.1 hh).1 (hp g (by rw [hv]; rfl))).trans hh, r⟩
theorem Fr.heap {P : Nat → Prop} {a b : World} (h : Fr P a b) {k : Nat} {o : Obj} (hk : a.heap[k]? = some o) (hp : ¬ P k) : b.heap[k]? = some o := (h.block k (Array.getElem?_eq_some_iff.1 hk).1 hp).trans hk
theorem lt_heap {a : World} {k : Nat} {o : Obj} (hk : a.heap[k]? = some o) : k < a.heap.size := (Array.getElem?_eq_some_iff.1 hk).1
theorem row_ne {w : World} {B e e' size n T : Nat} {v : Value} {xs : List Value} {cur : Array Value} {fr : Nat × Nat} (h : w.ownsRow B e size v n xs) (hT : w.heap[T]? = some (.cells cur e' fr)) (hne : e ≠ e') : v.ownBlock ≠ some T := by
  intro hv
  obtain ⟨-, ⟨rfl, -⟩ | ⟨g, cap, cur', rfl, -, hg, -⟩⟩ := h
  · cases hv
  · injection hv with hv
    have hv' : g = T := hv
    subst hv'
    rw [hT] at hg
    injection hg with hg
    injection hg with _ hg
    exact hne hg.symm
theorem row_ne2 {w : World} {B B' e e' size size' n n' : Nat} {v v' : Value} {xs xs' : List Value} (h : w.ownsRow B e size v n xs) (h' : w.ownsRow B' e' size' v' n' xs') (hne : e ≠ e') : ∀ k, v.ownBlock = some k → v'.ownBlock = some k → False := by
  intro k hk hk'
  obtain ⟨-, ⟨rfl, -⟩ | ⟨g, cap, cur', rfl, -, hg, -⟩⟩ := h
  · cases hk
  · injection hk with hk
    have : g = k := hk
    subst this
    exact row_ne h' hg (fun e => hne e.symm) hk'
theorem row_form {w : World} {B e size n : Nat} {v : Value} {xs : List Value} (h : w.ownsRow B e size v n xs) : ∃ p c, v = .slice p n c := by
  obtain ⟨-, ⟨e, hn⟩ | ⟨g, cap, cur, e, -⟩⟩ := h
  · exact ⟨none, 0, by rw [e, hn]⟩
  · exact ⟨_, _, e⟩
theorem set_heap {w : World} {b j : Nat} {cs : Array Value} {t : TypeId} {fr : Nat × Nat} (h : w.heap[b]? = some (.cells cs t fr)) (u : Value) : (w.setCell ⟨b, j, none⟩ u).heap[b]? = some (.cells (cs.setIfInBounds j u) t fr) := by
  show (w.heap.modify b _)[b]? = _
  rw [Array.getElem?_modify, if_pos rfl, h]
  rfl

/-- append to a row of one's own, in a region that draws: where the new row lies. -/
theorem step_append_at {P : Program} {ops : Array Oper} {o : Oper} {a : Act} {w : World} {K : Act → World → Prop} {Q : Exit → Act → World → Prop} {E : Prop}
    (hg : o.guard = none) (s x : Operand) (t : TypeId) (ho : o.op = Op.call { callee := Callee.builtin Builtin.append, args := #[s, x], argTypes := #[t, t] })
    (base : Nat) (e : TypeId) (i : TypeInfo) (z : Value) (size bytes : Nat) (ht : P.underlying t = some (.slice e)) (hi : P.info? e = some i) (hz : i.zero = some z) (hsize : i.size = size) (hby : i.bytes = bytes) (hzs : z.cells.size = size) (hsz : 0 < size)
    (v : Value) (n : Nat) (xs : List Value) (hs : a.eval s = v) (hown : w.ownsRow base e size v n xs)
    (ad : Addr) (m c : Nat) (news : List Value) (hx : a.eval x = .slice (some ad) m c) (hl : news.length = m * size) (hnews : ∀ j u, news[j]? = some u → w.cell? (ad.add j) = some u) (h1 : ∀ u ∈ news, u.oneCell' = true)
    (h63 : n + m ≤ maxLen) (hbytes : (n + m) * bytes ≤ 140737488355328) (hbase : base ≤ w.heap.size)
    (h : ∀ v' w', w'.ownsRow base e size v' (n + m) (xs ++ news) → w.grownBy w' v.ownBlock → (v'.ownBlock = v.ownBlock ∨ v'.ownBlock = some w.heap.size) → K (a.put o.dst v') w') :
    if Region.wanted o (yielded ops a.tmps) = true then Oper.wp P o a w K Q else E := by
  have hw : Region.wanted o (yielded ops a.tmps) = true := by simp [Region.wanted, hg]
  rw [if_pos hw]
  obtain ⟨v', w', hr, h2, h3, h4, h5⟩ := run_append_own_at (P := P) w base t o.type e i z size bytes ht hi hz hsize hby hzs hsz v n xs hown ad m c news hl hnews h1 h63 hbytes hbase
  unfold Oper.wp execOp
  simp only [ho, resolve, invoke, builtin, Sem.run_bind, Sem.run_pure, Result.andThen_ok, List.map_toArray, List.map_cons, List.map_nil, hs, hx, hr]
  exact h v' w' h2 h3 h5

/-- No operation is a defer statement. -/
def noDefer (ops : Array Oper) : Bool := ops.all fun o => match o.op with | .defer _ => false | _ => true
theorem noDefer_spec {ops : Array Oper} (h : noDefer ops = true) {j : Nat} {o : Oper} (ho : ops[j]? = some o) : ∀ c, o.op ≠ .defer c := by
  intro c heq
  have := Array.all_eq_true_iff_forall_mem.1 h o (Array.mem_of_getElem? ho)
  simp [heq] at this
/-- What an operation does where nothing is asked, it does within a round. -/
theorem wpOpsIn_round {n l : Nat} {P : Program} {ops : Array Oper} {Q : Exit → Act → World → Prop} (hd : noDefer ops = true) (hQ : ¬ LetsOut Q) : ∀ (is : List Nat) (a : Act) (w : World), wpOps P ops Q is a w → wpOpsIn (Fence.wide.inRound l) n P ops Q is a w
  | [], _, _, h => h
  | i :: rest, a, w, h => by
    simp only [wpOps] at h
    simp only [wpOpsIn]
    cases ho : ops[i]? with
    | none =>
      simp only [ho] at h ⊢
      exact wpOpsIn_round hd hQ rest a w h
    | some o =>
      simp only [ho] at h ⊢
      by_cases hw : Region.wanted o (yielded ops a.tmps) = true
      · simp only [hw, if_true] at h ⊢
        rcases h with h | h
        · refine ⟨fun _ _ => trivial, ?_⟩
          have hs : o.semAt (Fence.wide.inRound l).round a.eval = execOp a.eval o := Oper.semAt_eq _ _ _ (noDefer_spec hd ho)
          rw [hs]
          unfold Oper.wp at h
          generalize (execOp a.eval o).run P w = r at h ⊢
          have ih := fun a w => wpOpsIn_round (n := n) (l := l) (P := P) hd hQ rest a w
          cases r with
          | ok x w' =>
            cases x with
            | value v => exact ih _ _ h
            | skip => exact ih _ _ h
            | defer d => exact ih _ _ h
            | enter f args =>
              refine ⟨fun hh => (by cases hh), ?_⟩
              refine (CallsIn.inRound l (callsIn_wide.2 h)).mono ?_
              intro e w'' he
              cases e with
              | returned v => exact ih _ _ he
              | panicked c => exact he
              | outgrown => exact he
            | row row args =>
              refine ⟨fun hh => (by cases hh), ?_⟩
              intro c cs _
              obtain ⟨v, w'', r, s⟩ := h c cs
              exact ⟨v, w'', ih _ _ r, stepsIn_wide.2 s⟩
            | _ => exact h.elim
          | halt x w' =>
            cases x with
            | panic v => exact h
            | _ => exact h.elim
        · exact absurd h.2 hQ
      · simp only [hw] at h ⊢
        exact ⟨fun _ _ => trivial, wpOpsIn_round hd hQ rest _ w h⟩
/-- A region that draws, within a round. -/
theorem wpInR_held {n l id : Nat} {P : Program} {ops : Array Oper} {Q : Exit → Act → World → Prop} {S : World → Prop} {a : Act} {w : World} (hm : P.follows .mixedOrders = true) (hd : noDefer ops = true) (hQ : ¬ LetsOut Q) (hS : S w.drew)
    (h : S w.drew → wpAnyH P .any ops Q S ops.size (Array.replicate ops.size false) a w.drew) : (Code.region id ops true).wpIn (Fence.wide.inRound l) n P Q a w :=
  wpIn_region_draw fun t => wpOpsIn_round hd hQ _ _ _ (by
    simp only [Region.schedule, hm, Bool.true_or, if_true]
    exact wpAny_sound ops.size t _ a _ (wpAny_of_held _ _ _ _ (h hS)))
end Go.Proofs.Ytondchfhdhllhaa

namespace Go.Proofs.Ytondchfhdhllhaa
open Go.RowKit Go.Shelf
set_option linter.unusedVariables false

/-- From the right: of x and all behind it. -/
def sumR {α : Type} (f : α → α → α) : α → List α → α
  | x, [] => x
  | x, y :: r => f x (sumR f y r)
/-- From the left. -/
def sumL {α : Type} (f : α → α → α) (x : α) (r : List α) : α := r.foldl f x
/-- Each thing with what the operation makes of it and of all behind it. -/
def tls {α : Type} (f : α → α → α) : List α → List (α × α)
  | [] => []
  | x :: r => (x, sumR f x r) :: tls f r
theorem tls_len {α : Type} (f : α → α → α) (L : List α) : (tls f L).length = L.length := by
  induction L with
  | nil => rfl
  | cons x r ih => simp [tls, ih]
theorem sumL_snoc {α : Type} (f : α → α → α) (x y : α) (r : List α) : sumL f x (r ++ [y]) = f (sumL f x r) y := by simp [sumL]
theorem sumL_f {α : Type} (f : α → α → α) (ha : ∀ a b c, f (f a b) c = f a (f b c)) (x y : α) (r : List α) : sumL f (f x y) r = f x (sumL f y r) := by
  induction r generalizing y with
  | nil => rfl
  | cons z r ih => simp only [sumL, List.foldl_cons] at ih ⊢; rw [ha]; exact ih _
theorem sumR_L {α : Type} (f : α → α → α) (ha : ∀ a b c, f (f a b) c = f a (f b c)) (x : α) (r : List α) : sumR f x r = sumL f x r := by
  induction r generalizing x with
  | nil => rfl
  | cons y r ih => rw [sumR, ih]; exact (sumL_f f ha x y r).symm
theorem sum_app {α : Type} (f : α → α → α) (ha : ∀ a b c, f (f a b) c = f a (f b c)) (x y : α) (r s : List α) : sumL f x (r ++ y :: s) = f (sumR f x r) (sumL f y s) := by
  rw [sumR_L f ha]
  simp only [sumL, List.foldl_append, List.foldl_cons]
  exact sumL_f f ha _ y s
theorem ok_sumR {α : Type} {f : α → α → α} {ok : Nat → α → Prop} (h : ∀ i j x y, ok i x → ok j y → i + j ≤ 8192 → ok (i + j) (f x y)) : ∀ (x : α) (r : List α), ok 1 x → (∀ y ∈ r, ok 1 y) → r.length + 1 ≤ 8192 → ok (r.length + 1) (sumR f x r)
  | x, [], hx, _, _ => hx
  | x, y :: r, hx, hr, hl => by
    simp only [List.length_cons] at hl
    have h1 := h 1 (r.length + 1) x _ hx (ok_sumR h y r (hr y (by simp)) (fun z hz => hr z (by simp [hz])) (by omega)) (by omega)
    rw [show 1 + (r.length + 1) = (y :: r).length + 1 by simp; omega] at h1
    exact h1
theorem ok_sumL {α : Type} {f : α → α → α} {ok : Nat → α → Prop} (h : ∀ i j x y, ok i x → ok j y → i + j ≤ 8192 → ok (i + j) (f x y)) : ∀ (r : List α) (x : α) (i : Nat), ok i x → (∀ y ∈ r, ok 1 y) → i + r.length ≤ 8192 → ok (i + r.length) (sumL f x r)
  | [], x, i, hx, _, _ => hx
  | y :: r, x, i, hx, hr, hl => by
    simp only [List.length_cons] at hl
    have h1 := ok_sumL h r (f x y) (i + 1) (h i 1 x y hx (hr y (by simp)) (by omega)) (fun z hz => hr z (by simp [hz])) (by omega)
    rw [show i + 1 + r.length = i + (y :: r).length by simp; omega] at h1
    exact h1
theorem wp_world {P : Program} {c : Code} {Q : Exit → Act → World → Prop} {a : Act} {w : World} (h : ∀ W, W = w → c.wp P Q a W) : c.wp P Q a w := h w rfl
theorem second (w : World) (o1 o2 : Obj) : ((w.alloc o1).alloc o2).heap[w.heap.size + 1]? = some o2 := by
  have h := World.alloc_heap_new (w.alloc o1) o2
  rw [World.size_alloc] at h
  exact h
theorem Below.drewN {B : Nat} {a w : World} (h : Below B a w) (q : Nat) : Below B a (w.drewN q) := ⟨h.os, h.tape, h.output, h.size, h.block⟩
theorem Fr.drewN {P : Nat → Prop} {a w : World} (h : Fr P a w) (q : Nat) : Fr P a (w.drewN q) := ⟨h.os, h.tape, h.output, h.size, h.block⟩
theorem third (w : World) (a : Addr) (u : Value) (o1 o2 o3 : Obj) : ((((w.setCell a u).alloc o1).alloc o2).alloc o3).drew.heap[w.heap.size + 1 + 1]? = some o3 := by
  have h := World.alloc_heap_new (((w.setCell a u).alloc o1).alloc o2) o3
  rw [World.size_alloc, World.size_alloc, World.size_setCell] at h
  exact h
/-- The blocks of F, and what is new. -/
def FF (F : Nat → Prop) (w w' : World) : Nat → Prop := fun k => F k ∨ (w.heap.size ≤ k ∧ k < w'.heap.size)
end Go.Proofs.Ytondchfhdhllhaa

namespace Go.Proofs.Ytondchfhdhllhaa
open Go.RowKit Go.Shelf
set_option linter.unusedVariables false

def celT (x : Int × Int) : List Value := [.int .u64 x.1, .int .u64 x.2]
def flT (L : List (Int × Int)) : List Value := L.flatMap celT
def tcT (p : (Int × Int) × (Int × Int)) : List Value := celT p.1 ++ celT p.2
def tflT (L : List ((Int × Int) × (Int × Int))) : List Value := L.flatMap tcT
theorem tflT_len (L : List ((Int × Int) × (Int × Int))) : (tflT L).length = L.length * 4 := by
  induction L with
  | nil => rfl
  | cons x r ih => simp only [tflT, List.flatMap_cons, List.length_append, List.length_cons] at ih ⊢; rw [ih]; simp [tcT, celT]; omega
theorem flT_snoc (L : List (Int × Int)) (x : Int × Int) : flT (L ++ [x]) = flT L ++ celT x := by simp [flT]
theorem tflT_snoc (L : List ((Int × Int) × (Int × Int))) (x : (Int × Int) × (Int × Int)) : tflT (L ++ [x]) = tflT L ++ tcT x := by simp [tflT]

/-- The window in block bw: the things ahead X, those behind Y; F holds of its blocks. -/
structure WinT (f : Int × Int → Int × Int → Int × Int) (w : World) (bw : Nat) (op : Value) (nt : Int × Int) (c : Int) (X Y : List (Int × Int)) (F : Nat → Prop) (va vb : Value) (sm : Int × Int) : Prop where
  blk : w.heap[bw]? = some (.cells #[op, .int .u64 nt.1, .int .u64 nt.2, .int .i64 c, va, vb, .int .u64 sm.1, .int .u64 sm.2] 60 (0, 0))
  ra : w.ownsRow 0 63 4 va X.length (tflT (tls f X).reverse)
  rb : w.ownsRow 0 26 2 vb Y.length (flT Y)
  sum : ∀ x r, Y = x :: r → sm = sumL f x r
  lim : X.length + Y.length ≤ 8192
  fw : F bw
  fa : ∀ k, va.ownBlock = some k → F k
  fb : ∀ k, vb.ownBlock = some k → F k
  ft : ∀ k, F k → k < w.heap.size

section
variable {f : Int × Int → Int × Int → Int × Int} {w w' : World} {bw : Nat} {op : Value} {nt : Int × Int} {c : Int} {X Y : List (Int × Int)} {F F' P : Nat → Prop} {va vb : Value} {sm : Int × Int}
theorem WinT.fr (H : WinT f w bw op nt c X Y F va vb sm) (h : Fr P w w') (hp : ∀ k, F k → ¬ P k) : WinT f w' bw op nt c X Y F va vb sm :=
  ⟨h.heap H.blk (hp _ H.fw), h.row H.ra (fun k e => hp _ (H.fa k e)), h.row H.rb (fun k e => hp _ (H.fb k e)), H.sum, H.lim, H.fw, H.fa, H.fb, fun k hk => Nat.lt_of_lt_of_le (H.ft k hk) h.size⟩
theorem WinT.wide (H : WinT f w bw op nt c X Y F va vb sm) (h : ∀ k, F k → F' k) (ht : ∀ k, F' k → k < w.heap.size) : WinT f w bw op nt c X Y F' va vb sm :=
  ⟨H.blk, H.ra, H.rb, H.sum, H.lim, h _ H.fw, fun k e => h _ (H.fa k e), fun k e => h _ (H.fb k e), ht⟩
end

/-- What the window's operation is: f, among things that are ok; it may change blocks of G, where it keeps a state, told by I and how often it was called. -/
structure OpT (op : Value) (f : Int × Int → Int × Int → Int × Int) (ok : Nat → Int × Int → Prop) (G : Nat → Prop) (I : Nat → World → Prop) : Prop where
  form : ∃ K caps, op = .func (.func K) #[] caps ∧ (∀ args w, (callFunc K args).run Try.prog w = .ok (.enter K args) w) ∧
    ∀ n i j x y w, ok i x → ok j y → i + j ≤ 8192 → I n w → Calls Try.prog K (#[(.agg #[.int .u64 x.1, .int .u64 x.2]), (.agg #[.int .u64 y.1, .int .u64 y.2])] ++ caps) w fun e w' => e = .returned (.agg #[.int .u64 (f x y).1, .int .u64 (f x y).2]) ∧ I (n + 1) w' ∧ Fr G w w'
  okf : ∀ i j x y, ok i x → ok j y → i + j ≤ 8192 → ok (i + j) (f x y)
  stay : ∀ n w w' P, I n w → Fr P w w' → (∀ k, G k → ¬ P k) → I n w'
  glt : ∀ n w k, I n w → G k → k < w.heap.size

set_option maxRecDepth 100000 in
set_option maxHeartbeats 4000000 in
theorem lenT_any {f : Int × Int → Int × Int → Int × Int} {w : World} {bw : Nat} {op : Value} {nt : Int × Int} {c : Int} {X Y : List (Int × Int)} {F : Nat → Prop} {va vb : Value} {sm : Int × Int} (H : WinT f w bw op nt c X Y F va vb sm) :
    Calls Try.prog 17 #[.pointer (some ⟨bw, 0, none⟩)] w fun e w' => e = .returned (.int .i64 ((X.length + Y.length : Nat) : Int)) ∧ ∃ q, w' = w.drewN q := by
  obtain ⟨pa, ca, rfl⟩ := row_form H.ra
  obtain ⟨pb, cb, rfl⟩ := row_form H.rb
  have y1 : w.cell? ⟨bw, 4, none⟩ = some (.slice pa X.length ca) := by rw [Lib.cell_of_heap H.blk]; rfl
  have y2 : w.cell? ⟨bw, 5, none⟩ = some (.slice pb Y.length cb) := by rw [Lib.cell_of_heap H.blk]; rfl
  have hl := H.lim
  have hL : (X.length : Int) + Y.length ≤ 8192 := by omega
  go_enter Try.func17, Try.ntmps17
  go_wp2
  go_quiet (fail)
  go_wp2
  go_ret
  exact ⟨by congr 2, _, rfl⟩

set_option maxRecDepth 100000 in
set_option maxHeartbeats 4000000 in
theorem sumAT_any {f : Int × Int → Int × Int → Int × Int} {w : World} {bw : Nat} {op : Value} {nt : Int × Int} {c : Int} {x : Int × Int} {r Y : List (Int × Int)} {F : Nat → Prop} {va vb : Value} {sm : Int × Int} (H : WinT f w bw op nt c (x :: r) Y F va vb sm) :
    Calls Try.prog 30 #[.pointer (some ⟨bw, 0, none⟩)] w fun e w' => e = .returned (.agg #[.int .u64 (sumR f x r).1, .int .u64 (sumR f x r).2]) ∧ Below w.heap.size w w' := by
  have hra := H.ra
  have hlt := lt_heap H.blk
  obtain ⟨hn, ⟨e, hn0⟩ | ⟨g, cap, cur, rfl, -, hg, hc1, hc2, -⟩⟩ := hra
  · exact absurd hn0 (by simp)
  have hgl := lt_heap hg
  have y1 : w.cell? ⟨bw, 4, none⟩ = some (.slice (some ⟨g, 0, none⟩) (r.length + 1) cap) := by rw [Lib.cell_of_heap H.blk]; rfl
  have hrow := H.ra
  have e0 : tflT (tls f (x :: r)).reverse = tflT (tls f r).reverse ++ tcT (x, sumR f x r) := by simp only [tls, List.reverse_cons]; exact tflT_snoc _ _
  have e1 : (tflT (tls f r).reverse).length = r.length * 4 := by rw [tflT_len, List.length_reverse, tls_len]
  have z : ∀ j, j < 2 → w.cell? ⟨g, r.length * 4 + (2 + j), none⟩ = (celT (sumR f x r))[j]? := fun j hj => by
    rw [hrow.cellAt _ (by simp; omega), e0, List.getElem?_append_right (by rw [e1]; omega), e1, show r.length * 4 + (2 + j) - r.length * 4 = 2 + j by omega]
    rw [show tcT (x, sumR f x r) = celT x ++ celT (sumR f x r) from rfl, List.getElem?_append_right (by simp [celT])]
    simp [celT]
  have z0 : w.cell? ⟨g, r.length * 4 + 2, none⟩ = some (.int .u64 (sumR f x r).1) := z 0 (by omega)
  have z1 : w.cell? ⟨g, r.length * 4 + 3, none⟩ = some (.int .u64 (sumR f x r).2) := z 1 (by omega)
  clear z e0 e1 hrow hn hg
  have hlim := H.lim
  have nR : (0 : Int) < (r.length : Int) + 1 := by omega
  clear H
  have hR : r.length ≤ 8192 := by simp only [List.length_cons] at hlim; omega
  clear hlim hc1
  generalize sumR f x r = q at *
  generalize r.length = m at *
  have m1 : (m : Int) + 1 - 1 = m := by omega
  have m2 : (m : Int) < (m : Int) + 1 := by omega
  have m3 : (0 : Int) ≤ m := by omega
  have m4 : IntKind.i64.wrap (m : Int) = m := by rw [IntKind.wrap_i64]; omega
  have m5 : ((m : Int)).toNat = m := by omega
  have hlw := World.new_ne w ⟨bw, 4, none⟩ y1
  go_enter Try.func30, Try.ntmps30
  go_wp2
  go_region_held3 (fun W => W.cell? ⟨bw, 4, none⟩ = some (.slice (some ⟨g, 0, none⟩) (m + 1) cap) ∧ W.cell? ⟨g, m * 4 + 2, none⟩ = some (.int .u64 q.1) ∧ W.cell? ⟨g, m * 4 + 3, none⟩ = some (.int .u64 q.2)) (go_keep) (fail)
  go_wp2
  refine bodyPost_ret (by simp [results, Try.results30, go_sem]; try rfl) rfl ?_
  exact ⟨rfl, by go_grown⟩

set_option maxRecDepth 100000 in
set_option maxHeartbeats 4000000 in
theorem joinT_any {f : Int × Int → Int × Int → Int × Int} {w : World} {bw : Nat} {op : Value} {nt : Int × Int} {c : Int} {X Y : List (Int × Int)} {F : Nat → Prop} {va vb : Value} {sm : Int × Int} {ok : Nat → Int × Int → Prop} {G : Nat → Prop} {I : Nat → World → Prop} {n : Nat} (O : OpT op f ok G I) (x y : Int × Int) {i j : Nat} (hx : ok i x) (hy : ok j y) (hij : i + j ≤ 8192) (H : WinT f w bw op nt c X Y F va vb sm) (hI : I n w) (hd : ∀ k, F k → ¬ G k) :
    Calls Try.prog 29 #[.pointer (some ⟨bw, 0, none⟩), (.agg #[.int .u64 x.1, .int .u64 x.2]), (.agg #[.int .u64 y.1, .int .u64 y.2])] w fun e w' => e = .returned (.agg #[.int .u64 (f x y).1, .int .u64 (f x y).2]) ∧ I (n + 1) w' ∧ Fr (fun k => k = bw ∨ G k) w w' ∧
      w'.heap[bw]? = some (.cells #[op, .int .u64 nt.1, .int .u64 nt.2, .int .i64 (wrap64 (c + 1)), va, vb, .int .u64 sm.1, .int .u64 sm.2] 60 (0, 0)) := by
  obtain ⟨K, caps, rfl, hK, hcall⟩ := O.form
  have hlt := lt_heap H.blk
  have y0 : w.cell? ⟨bw, 0, none⟩ = some (.func (.func K) #[] caps) := by rw [Lib.cell_of_heap H.blk]; rfl
  have y1 : w.cell? ⟨bw, 3, none⟩ = some (.int .i64 c) := by rw [Lib.cell_of_heap H.blk]; rfl
  have f1 : w.frozen? ⟨bw, 3, none⟩ = false := Lib.frozen_of_heap H.blk _
  have hG : ¬ G bw := hd _ H.fw
  have hblk := H.blk
  have n0 := World.new_ne w ⟨bw, 0, none⟩ y0
  have n1 : bw < w.heap.size + 1 := by omega
  have n2 : bw < w.heap.size + 1 + 1 := by omega
  go_enter Try.func29, Try.ntmps29
  go_wp2
  go_region_with (refine (hcall n i j x y _ hx hy hij (O.stay n w _ (fun k => k = bw) hI (((((Fr.refl (fun k => k = bw) w).setCell (p := ⟨bw, 3, none⟩) (Or.inl rfl) _).alloc _).alloc _).alloc _).drew (fun k hk e => hG (e ▸ hk)))).mono ?_; rintro e w1 ⟨rfl, hI2, hF2⟩; have hb1 := (hF2.block (w.heap.size + 1 + 1) (by simp) (fun q => by have := O.glt _ _ _ hI q; omega)).trans (third _ _ _ _ _ _); have q0 : w1.cell? ⟨w.heap.size + 1 + 1, 0, none⟩ = some (.int .u64 0) := (Lib.cell_of_heap hb1 0).trans rfl; have q1 : w1.cell? ⟨w.heap.size + 1 + 1, 1, none⟩ = some (.int .u64 0) := (Lib.cell_of_heap hb1 1).trans rfl; have p0 : w1.frozen? ⟨w.heap.size + 1 + 1, 0, none⟩ = false := Lib.frozen_of_heap hb1 0; have p1 : w1.frozen? ⟨w.heap.size + 1 + 1, 1, none⟩ = false := Lib.frozen_of_heap hb1 1; have HF2 : Hid (Fr G _ w1) := hF2; clear hF2; clear hb1)
  all_goals (try go_wp2)
  all_goals (
    refine bodyPost_ret (by simp [results, Try.results29, go_sem, q0, q1]; try rfl) rfl ?_
    refine ⟨rfl, O.stay (n + 1) w1 _ (fun k => k = w.heap.size + 1 + 1) hI2 (((Fr.refl (fun k => k = w.heap.size + 1 + 1) w1).setCell (p := ⟨w.heap.size + 1 + 1, 0, none⟩) (Or.inl rfl) _).setCell (p := ⟨w.heap.size + 1 + 1, 1, none⟩) (Or.inl rfl) _) (fun k hk e => by have := O.glt _ _ _ hI hk; omega), ?_, ?_⟩
    · exact (((((((Fr.refl (fun k => k = bw ∨ G k) w).setCell (p := ⟨bw, 3, none⟩) (Or.inl (Or.inl rfl)) _).alloc _).alloc _).alloc _).drew.trans HF2.out (fun k h => Or.inl (Or.inr h))).setCell (p := ⟨w.heap.size + 1 + 1, 0, none⟩) (Or.inr (by show w.heap.size ≤ w.heap.size + 1 + 1; omega)) _).setCell (p := ⟨w.heap.size + 1 + 1, 1, none⟩) (Or.inr (by show w.heap.size ≤ w.heap.size + 1 + 1; omega)) _
    · rw [Below.heap_setCell _ _ _ _ (by show bw ≠ w.heap.size + 1 + 1; omega), Below.heap_setCell _ _ _ _ (by show bw ≠ w.heap.size + 1 + 1; omega), HF2.out.block bw (by simp; omega) hG]
      show ((((w.setCell _ _).alloc _).alloc _).alloc _).heap[bw]? = _
      rw [Below.heap_alloc _ _ _ (by simp; omega), Below.heap_alloc _ _ _ (by simp; omega), Below.heap_alloc _ _ _ (by simp; omega), set_heap hblk]
      rfl)
end Go.Proofs.Ytondchfhdhllhaa

namespace Go.Proofs.Ytondchfhdhllhaa
open Go.RowKit Go.Shelf
set_option linter.unusedVariables false

/-- A window as it stands, with its operation's state. -/
structure StT (f : Int × Int → Int × Int → Int × Int) (op : Value) (nt : Int × Int) (ok : Nat → Int × Int → Prop) (G : Nat → Prop) (I : Nat → World → Prop) (w : World) (bw : Nat) (c : Int) (n : Nat) (X Y : List (Int × Int)) (F : Nat → Prop) : Prop where
  win : ∃ va vb sm, WinT f w bw op nt c X Y F va vb sm
  st : I n w
  okX : ∀ x ∈ X, ok 1 x
  okY : ∀ x ∈ Y, ok 1 x
  dis : ∀ k, F k → ¬ G k
  lim : X.length + Y.length ≤ 4096
theorem inTT : (Try.prog.info? 63).map (fun i => (i.zero, i.size, i.bytes)) = some (some (.agg #[.int .u64 0, .int .u64 0, .int .u64 0, .int .u64 0]), 4, 32) := by kernel_rfl
theorem inET : (Try.prog.info? 26).map (fun i => (i.zero, i.size, i.bytes)) = some (some (.agg #[.int .u64 0, .int .u64 0]), 2, 16) := by kernel_rfl
theorem StT.fr {f : Int × Int → Int × Int → Int × Int} {w : World} {bw : Nat} {op : Value} {nt : Int × Int} {c : Int} {X Y : List (Int × Int)} {F : Nat → Prop} {ok : Nat → Int × Int → Prop} {G : Nat → Prop} {I : Nat → World → Prop} {n : Nat} {w' : World} {P : Nat → Prop} (O : OpT op f ok G I) (H : StT f op nt ok G I w bw c n X Y F) (h : Fr P w w') (hp : ∀ k, F k → ¬ P k) (hg : ∀ k, G k → ¬ P k) : StT f op nt ok G I w' bw c n X Y F := by
  obtain ⟨va, vb, sm, H1⟩ := H.win
  exact ⟨⟨va, vb, sm, H1.fr h hp⟩, O.stay _ _ _ _ H.st h hg, H.okX, H.okY, H.dis, H.lim⟩

set_option maxRecDepth 100000 in
set_option maxHeartbeats 4000000 in
theorem newT_any (f : Int × Int → Int × Int → Int × Int) (K : FuncId) (caps : Array Value) (nt : Int × Int) (w : World) :
    Calls Try.prog 7 #[.func (.func K) #[] caps, (.agg #[.int .u64 nt.1, .int .u64 nt.2])] w fun e w' => ∃ bw, e = .returned (.pointer (some ⟨bw, 0, none⟩)) ∧ w.heap.size ≤ bw ∧ Below w.heap.size w w' ∧ WinT f w' bw (.func (.func K) #[] caps) nt 0 [] [] (fun k => k = bw) (.slice none 0 0) (.slice none 0 0) (0, 0) := by
  go_enter Try.func7, Try.ntmps7
  go_wp2
  go_ret
  refine ⟨w.heap.size + 1, rfl, by omega, by go_grown, ⟨?_, ⟨rfl, .inl ⟨rfl, rfl⟩⟩, ⟨rfl, .inl ⟨rfl, rfl⟩⟩, (fun x r h => by cases h), by simp, rfl, (fun k h => by cases h), (fun k h => by cases h), (fun k h => by subst h; simp)⟩⟩
  exact second w _ _

set_option maxRecDepth 100000 in
set_option maxHeartbeats 4000000 in
theorem pushT_full {f : Int × Int → Int × Int → Int × Int} {w : World} {bw : Nat} {op : Value} {nt : Int × Int} {c : Int} {X Y : List (Int × Int)} {F : Nat → Prop} {ok : Nat → Int × Int → Prop} {G : Nat → Prop} {I : Nat → World → Prop} {n : Nat} (x : Int × Int) (H : StT f op nt ok G I w bw c n X Y F) (hl : X.length + Y.length = 4096) :
    Calls Try.prog 9 #[.pointer (some ⟨bw, 0, none⟩), (.agg #[.int .u64 x.1, .int .u64 x.2])] w fun e w' => e = .returned (.int .i64 3) ∧ Below w.heap.size w w' := by
  obtain ⟨va, vb, sm, H1⟩ := H.win
  have HL : Hid (∀ W, Below w.heap.size w W → Calls Try.prog 17 #[.pointer (some ⟨bw, 0, none⟩)] W fun e w' => e = .returned (.int .i64 4096) ∧ ∃ q, w' = W.drewN q) := fun W hW =>
    (lenT_any (H1.fr (Fr.of_below (P := fun _ => False) hW) (fun _ _ h => h))).mono (fun e w' h => by rw [hl] at h; exact h)
  clear hl H H1
  go_enter Try.func9, Try.ntmps9
  go_wp2_with (go_at_call 17; refine (HL.out _ (by go_grown)).mono ?_; rintro e w1 ⟨rfl, q, rfl⟩)
  go_ret
  exact ⟨rfl, Below.drewN ((Below.refl _ w).alloc (Nat.le_refl _) _) q⟩

theorem pushT_end {f : Int × Int → Int × Int → Int × Int} {w W w2 : World} {bw : Nat} {op : Value} {nt : Int × Int} {c : Int} {X Y : List (Int × Int)} {F : Nat → Prop} {va vb v' : Value} {sm x : Int × Int} (hF : ∀ k, F k → k < w.heap.size) (hs : w.heap.size ≤ W.heap.size)
    (blk : W.heap[bw]? = some (.cells #[op, .int .u64 nt.1, .int .u64 nt.2, .int .i64 c, va, vb, .int .u64 sm.1, .int .u64 sm.2] 60 (0, 0))) (ra : W.ownsRow 0 63 4 va X.length (tflT (tls f X).reverse)) (rb : W.ownsRow 0 26 2 vb Y.length (flT Y))
    (fw : F bw) (fa : ∀ k, va.ownBlock = some k → F k) (fb : ∀ k, vb.ownBlock = some k → F k) (lim : X.length + Y.length < 4096) (hsum : ∀ y r, Y ++ [x] = y :: r → sm = sumL f y r)
    (h2 : w2.ownsRow 0 26 2 v' (Y.length + 1) (flT Y ++ [.int .u64 x.1, .int .u64 x.2])) (h3 : (W.alloc (.cells #[.int .u64 x.1, .int .u64 x.2] 26)).grownBy w2 vb.ownBlock) (h5 : v'.ownBlock = vb.ownBlock ∨ v'.ownBlock = some (W.heap.size + 1)) :
    ∃ p c2, v' = .slice p (Y.length + 1) c2 ∧ w2.cell? ⟨bw, 5, none⟩ = some vb ∧ w2.frozen? ⟨bw, 5, none⟩ = false ∧
      Hid (WinT f (w2.setCell ⟨bw, 5, none⟩ v') bw op nt c X (Y ++ [x]) (FF F w (w2.setCell ⟨bw, 5, none⟩ v')) va v' sm ∧ Fr F W (w2.setCell ⟨bw, 5, none⟩ v')) := by
  obtain ⟨p, c2, hv⟩ := row_form h2
  have ha1 := (Fr.refl (fun _ => False) W).alloc (.cells #[.int .u64 x.1, .int .u64 x.2] 26)
  have blk1 := ha1.heap blk (fun h => h)
  have rb1 := ha1.row rb (fun _ _ h => h)
  have ra1 := ha1.row ra (fun _ _ h => h)
  have hg2 : Fr (fun k => vb.ownBlock = some k) (W.alloc (.cells #[.int .u64 x.1, .int .u64 x.2] 26)) w2 := (Fr.refl _ _).grown h3 (fun k e => Or.inl e)
  have blk2 := hg2.heap blk1 (row_ne rb1 blk1 (by decide))
  have ra2 := hg2.row ra1 (fun k e e' => row_ne2 ra1 rb1 (by decide) k e e')
  have hs3 : Fr (fun k => k = bw) w2 (w2.setCell ⟨bw, 5, none⟩ v') := (Fr.refl (fun k => k = bw) w2).setCell (p := ⟨bw, 5, none⟩) (Or.inl rfl) _
  have ra3 := hs3.row ra2 (fun k e e' => row_ne ra2 blk2 (by decide) (e' ▸ e))
  have rb3 := hs3.row h2 (fun k e e' => row_ne h2 blk2 (by decide) (e' ▸ e))
  have hz1 : W.heap.size + 1 ≤ w2.heap.size := by have := h3.size; simpa using this
  have hz3 := hs3.size
  refine ⟨p, c2, hv, (Lib.cell_of_heap blk2 _).trans rfl, Lib.frozen_of_heap blk2 _, ⟨⟨?_, ra3, ?_, hsum, ?_, Or.inl fw, fun k e => Or.inl (fa k e), ?_, ?_⟩, ?_⟩⟩
  · rw [set_heap blk2]; rfl
  · rw [List.length_append, flT_snoc]; exact rb3
  · simp; omega
  · intro k e
    have hlt := (World.ownsRow.lt rb3 k e).2
    rcases h5 with h5 | h5
    · exact Or.inl (fb k (by rw [← h5]; exact e))
    · rw [h5] at e
      injection e with e
      refine Or.inr ⟨?_, hlt⟩
      omega
  · intro k hk
    rcases hk with hk | hk
    · have := hF k hk; omega
    · exact hk.2
  · exact (((ha1.mono (fun i h => h.elim)).trans hg2 (fun k e => Or.inl (fb k e))).trans hs3 (fun k e => Or.inl (e ▸ fw)))
end Go.Proofs.Ytondchfhdhllhaa

namespace Go.Proofs.Ytondchfhdhllhaa
open Go.RowKit Go.Shelf
set_option linter.unusedVariables false

theorem pushT_fin {f : Int × Int → Int × Int → Int × Int} {w : World} {bw : Nat} {op : Value} {nt : Int × Int} {c : Int} {X Y : List (Int × Int)} {F : Nat → Prop} {ok : Nat → Int × Int → Prop} {G : Nat → Prop} {I : Nat → World → Prop} {n : Nat} {c' : Int} {n' : Nat} {W w4 : World} {x sm' : Int × Int} {va' vb' : Value} (O : OpT op f ok G I) (H : StT f op nt ok G I w bw c n X Y F) (hx : ok 1 x) (hl : X.length + Y.length < 4096) (HFW : Fr (fun k => F k ∨ G k) w W) (IW : I n' W)
    (HE : WinT f w4 bw op nt c' X (Y ++ [x]) (FF F w w4) va' vb' sm' ∧ Fr F W w4) : Hid (StT f op nt ok G I w4 bw c' n' X (Y ++ [x]) (FF F w w4) ∧ Fr (fun k => F k ∨ G k) w w4) := by
  refine ⟨⟨⟨_, _, _, HE.1⟩, O.stay _ _ _ _ IW HE.2 (fun k g h => H.dis k h g), H.okX, ?_, ?_, by simp; omega⟩, HFW.trans HE.2 (fun i h => Or.inl (Or.inl h))⟩
  · intro z hz
    rcases List.mem_append.1 hz with hz | hz
    · exact H.okY z hz
    · simp at hz; subst hz; exact hx
  · intro k hk g
    rcases hk with hk | hk
    · exact H.dis k hk g
    · have := O.glt _ _ _ H.st g; omega

set_option maxRecDepth 100000 in
set_option maxHeartbeats 8000000 in
theorem pushT_first {f : Int × Int → Int × Int → Int × Int} {w : World} {bw : Nat} {op : Value} {nt : Int × Int} {c : Int} {X : List (Int × Int)} {F : Nat → Prop} {ok : Nat → Int × Int → Prop} {G : Nat → Prop} {I : Nat → World → Prop} {n : Nat}  (O : OpT op f ok G I) (x : Int × Int) (hx : ok 1 x) (H : StT f op nt ok G I w bw c n X [] F) (hl : X.length + 0 < 4096) :
    Calls Try.prog 9 #[.pointer (some ⟨bw, 0, none⟩), (.agg #[.int .u64 x.1, .int .u64 x.2])] w fun e w' => e = .returned (.int .i64 0) ∧ Hid (StT f op nt ok G I w' bw c n X ([] ++ [x]) (FF F w w') ∧ Fr (fun k => F k ∨ G k) w w') := by
  obtain ⟨va, vb, sm, H1⟩ := H.win
  obtain ⟨pa, ca, rfl⟩ := row_form H1.ra
  obtain ⟨pb, cb, rfl⟩ := row_form H1.rb
  obtain ⟨i0, hi, hz0, hz1, hz2⟩ := info_parts inET
  have hlt := lt_heap H1.blk
  have HL : Hid (∀ W, Below w.heap.size w W → Calls Try.prog 17 #[.pointer (some ⟨bw, 0, none⟩)] W fun e w' => e = .returned (.int .i64 ((X.length + 0 : Nat) : Int)) ∧ Below W.heap.size W w') := fun W hW =>
    (lenT_any (H1.fr (Fr.of_below (P := fun _ => False) hW) (fun _ _ h => h))).mono (fun e w' h => ⟨h.1, by obtain ⟨q, rfl⟩ := h.2; exact Below.drewN (Below.refl _ _) q⟩)
  have hl1 : ¬ (4096 : Int) ≤ ((X.length + 0 : Nat) : Int) := by omega
  obtain ⟨m, hm⟩ : ∃ m, Hid (X.length + 0 = m) := ⟨_, rfl⟩
  rw [hm.out] at HL hl1
  go_enter Try.func9, Try.ntmps9
  go_wp2_with fail
  refine (HL.out _ (by go_grown)).mono ?_
  rintro e w1 ⟨rfl, hb1⟩
  have hb0 : Below w.heap.size w w1 := ((Below.refl _ w).alloc (Nat.le_refl _) _).trans (hb1.mono (by simp))
  have H2 : Hid (WinT f w1 bw op nt c X [] F (.slice pa X.length ca) (.slice pb 0 cb) sm) := H1.fr (Fr.of_below (P := fun _ => False) hb0) (fun _ _ h => h)
  have hI1 : Hid (I n w1) := O.stay _ _ _ _ H.st (Fr.of_below (P := fun _ => False) hb0) (fun _ _ h => h)
  have hlt1 := lt_heap H2.out.blk
  have hsz1 := hb0.size
  have hbx : w1.heap[w.heap.size]? = some (.cells #[.int .u64 x.1, .int .u64 x.2] 26 (0, 0)) := (hb1.block _ (by simp)).trans (World.alloc_heap_new w _)
  have x0 : w1.cell? ⟨w.heap.size, 0, none⟩ = some (.int .u64 x.1) := (Lib.cell_of_heap hbx _).trans rfl
  have x1 : w1.cell? ⟨w.heap.size, 1, none⟩ = some (.int .u64 x.2) := (Lib.cell_of_heap hbx _).trans rfl
  have gv : w1.cell? ⟨bw, 5, none⟩ = some (.slice pb 0 cb) := (Lib.cell_of_heap H2.out.blk _).trans rfl
  have g6 : w1.cell? ⟨bw, 6, none⟩ = some (.int .u64 sm.1) := (Lib.cell_of_heap H2.out.blk _).trans rfl
  have gf6 : w1.frozen? ⟨bw, 6, none⟩ = false := Lib.frozen_of_heap H2.out.blk _
  have g7 : w1.cell? ⟨bw, 7, none⟩ = some (.int .u64 sm.2) := (Lib.cell_of_heap H2.out.blk _).trans rfl
  have gf7 : w1.frozen? ⟨bw, 7, none⟩ = false := Lib.frozen_of_heap H2.out.blk _
  clear hb1 HL
  have HBX : Hid (_) := hbx
  clear hbx
  go_upto_region 6 with fail
  refine wp_world ?_
  intro W hW
  have HF1 : Hid (Fr (fun k => k = bw ∨ G k) w1 W) := by rw [hW]; exact (((Fr.refl (fun k => k = bw) w1).setCell (p := ⟨bw, 6, none⟩) (Or.inl rfl) _).setCell (p := ⟨bw, 7, none⟩) (Or.inl rfl) _).mono (fun i e => Or.inl (Or.inl e))
  have blkW : W.heap[bw]? = some (.cells #[op, .int .u64 nt.1, .int .u64 nt.2, .int .i64 c, (.slice pa X.length ca), (.slice pb 0 cb), .int .u64 x.1, .int .u64 x.2] 60 (0, 0)) := by rw [hW, (set_heap (set_heap H2.out.blk _) _)]; rfl
  have IW : Hid (I n W) := by rw [hW]; exact O.stay _ _ _ _ hI1.out (((Fr.refl (fun k => k = bw) w1).setCell (p := ⟨bw, 6, none⟩) (Or.inl rfl) _).setCell (p := ⟨bw, 7, none⟩) (Or.inl rfl) _) (fun k hk e => H.dis bw H1.fw (e ▸ hk))
  have hW0 : Hid (∀ k, F k → ¬ k = bw → ¬ (k = bw ∨ G k)) := fun k hk hn h => h.elim hn (H.dis k hk)
  have raW : Hid (W.ownsRow 0 63 4 (.slice pa X.length ca) X.length (tflT (tls f X).reverse)) := HF1.out.row H2.out.ra (fun k e => hW0.out k (H1.fa k e) (fun h => row_ne H2.out.ra H2.out.blk (by decide) (h ▸ e)))
  have rbW : Hid (W.ownsRow 0 26 2 (.slice pb 0 cb) 0 (flT [])) := HF1.out.row H2.out.rb (fun k e => hW0.out k (H1.fb k e) (fun h => row_ne H2.out.rb H2.out.blk (by decide) (h ▸ e)))
  have HFW : Hid (Fr (fun k => F k ∨ G k) w W) := (Fr.of_below hb0).trans HF1.out (fun i h => h.elim (fun e => Or.inl (Or.inl (e ▸ H1.fw))) (fun g => Or.inl (Or.inr g)))
  have hszW : w.heap.size ≤ W.heap.size := HFW.out.size
  have HSUM : Hid (∀ y' r', [] ++ [x] = y' :: r' → x = sumL f y' r') := fun y' r' h => by cases h; rfl
  have yv : W.cell? ⟨bw, 5, none⟩ = some (.slice pb 0 cb) := (Lib.cell_of_heap blkW _).trans rfl
  have bxW : W.heap[w.heap.size]? = some (.cells #[.int .u64 x.1, .int .u64 x.2] 26 (0, 0)) := HF1.out.heap HBX.out (fun h => h.elim (fun e => by omega) (fun g => by have := O.glt _ _ _ H.st g; omega))
  have x0' : W.cell? ⟨w.heap.size, 0, none⟩ = some (.int .u64 x.1) := (Lib.cell_of_heap bxW _).trans rfl
  have x1' : W.cell? ⟨w.heap.size, 1, none⟩ = some (.int .u64 x.2) := (Lib.cell_of_heap bxW _).trans rfl
  clear bxW HBX x0 x1
  have hbw : bw < W.heap.size := lt_heap blkW
  have BW : Hid (_) := blkW
  clear hW blkW gv g6 gf6 g7 gf7 hI1 HF1 hb0 hlt1 hsz1 hW0
  go_region_law (refine step_append_at rfl (.tmp 32) (.tmp 34) 37 rfl 0 26 i0 (.agg #[.int .u64 0, .int .u64 0]) 2 16 Try.underlying37 hi hz0 hz1 hz2 rfl (by decide) (.slice pb 0 cb) _ _ (by simp [Act.eval]) (World.ownsRow.alloc (show W.drew.ownsRow _ _ _ _ _ _ from rbW.out) _) ⟨W.heap.size, 0, none⟩ 1 1 [.int .u64 x.1, .int .u64 x.2] (by simp [Act.eval]) rfl (by intro j u hj; rw [Addr.add_lit]; (rcases j with _ | _ | j) <;> simp at hj <;> subst hj <;> simp (maxDischargeDepth := 12) [go_sem]) (by intro u hu; simp at hu; rcases hu with rfl | rfl <;> rfl) (by unfold maxLen; omega) (by omega) (Nat.zero_le _) (fun v' w3 h2 h3 h5 => ?_); obtain ⟨pv, cv, rfl, k1, k2, HE⟩ := pushT_end (W := W.drew) H1.ft hszW BW.out raW.out rbW.out H1.fw H1.fa H1.fb (by simpa using hl) HSUM.out h2 h3 (by first | exact h5 | simpa using h5); clear h2 h3 h5)
  all_goals (
    go_wp2
    go_ret
    exact ⟨rfl, pushT_fin O H hx (by simpa using hl) HFW.out.drew (O.stay _ _ _ _ IW.out (Fr.of_below (P := fun _ => False) (Below.refl _ W).drew) (fun _ _ h => h)) HE.out⟩)

set_option maxRecDepth 100000 in
set_option maxHeartbeats 8000000 in
theorem pushT_more {f : Int × Int → Int × Int → Int × Int} {w : World} {bw : Nat} {op : Value} {nt : Int × Int} {c : Int} {X : List (Int × Int)} {F : Nat → Prop} {ok : Nat → Int × Int → Prop} {G : Nat → Prop} {I : Nat → World → Prop} {n : Nat} {y : Int × Int} {r : List (Int × Int)} (O : OpT op f ok G I) (x : Int × Int) (hx : ok 1 x) (H : StT f op nt ok G I w bw c n X (y :: r) F) (hl : X.length + (r.length + 1) < 4096) :
    Calls Try.prog 9 #[.pointer (some ⟨bw, 0, none⟩), (.agg #[.int .u64 x.1, .int .u64 x.2])] w fun e w' => e = .returned (.int .i64 0) ∧ Hid (StT f op nt ok G I w' bw (wrap64 (c + 1)) (n + 1) X ((y :: r) ++ [x]) (FF F w w') ∧ Fr (fun k => F k ∨ G k) w w') := by
  obtain ⟨va, vb, sm, H1⟩ := H.win
  obtain ⟨pa, ca, rfl⟩ := row_form H1.ra
  obtain ⟨pb, cb, rfl⟩ := row_form H1.rb
  obtain ⟨i0, hi, hz0, hz1, hz2⟩ := info_parts inET
  have hlt := lt_heap H1.blk
  have HL : Hid (∀ W, Below w.heap.size w W → Calls Try.prog 17 #[.pointer (some ⟨bw, 0, none⟩)] W fun e w' => e = .returned (.int .i64 ((X.length + (r.length + 1) : Nat) : Int)) ∧ Below W.heap.size W w') := fun W hW =>
    (lenT_any (H1.fr (Fr.of_below (P := fun _ => False) hW) (fun _ _ h => h))).mono (fun e w' h => ⟨h.1, by obtain ⟨q, rfl⟩ := h.2; exact Below.drewN (Below.refl _ _) q⟩)
  have hl1 : ¬ (4096 : Int) ≤ ((X.length + (r.length + 1) : Nat) : Int) := by omega
  obtain ⟨m, hm⟩ : ∃ m, Hid (X.length + (r.length + 1) = m) := ⟨_, rfl⟩
  rw [hm.out] at HL hl1
  go_enter Try.func9, Try.ntmps9
  go_wp2_with fail
  refine (HL.out _ (by go_grown)).mono ?_
  rintro e w1 ⟨rfl, hb1⟩
  have hb0 : Below w.heap.size w w1 := ((Below.refl _ w).alloc (Nat.le_refl _) _).trans (hb1.mono (by simp))
  have H2 : Hid (WinT f w1 bw op nt c X (y :: r) F (.slice pa X.length ca) (.slice pb (r.length + 1) cb) sm) := H1.fr (Fr.of_below (P := fun _ => False) hb0) (fun _ _ h => h)
  have hI1 : Hid (I n w1) := O.stay _ _ _ _ H.st (Fr.of_below (P := fun _ => False) hb0) (fun _ _ h => h)
  have hlt1 := lt_heap H2.out.blk
  have hsz1 := hb0.size
  have hbx : w1.heap[w.heap.size]? = some (.cells #[.int .u64 x.1, .int .u64 x.2] 26 (0, 0)) := (hb1.block _ (by simp)).trans (World.alloc_heap_new w _)
  have x0 : w1.cell? ⟨w.heap.size, 0, none⟩ = some (.int .u64 x.1) := (Lib.cell_of_heap hbx _).trans rfl
  have x1 : w1.cell? ⟨w.heap.size, 1, none⟩ = some (.int .u64 x.2) := (Lib.cell_of_heap hbx _).trans rfl
  have gv : w1.cell? ⟨bw, 5, none⟩ = some (.slice pb (r.length + 1) cb) := (Lib.cell_of_heap H2.out.blk _).trans rfl
  have g6 : w1.cell? ⟨bw, 6, none⟩ = some (.int .u64 sm.1) := (Lib.cell_of_heap H2.out.blk _).trans rfl
  have gf6 : w1.frozen? ⟨bw, 6, none⟩ = false := Lib.frozen_of_heap H2.out.blk _
  have g7 : w1.cell? ⟨bw, 7, none⟩ = some (.int .u64 sm.2) := (Lib.cell_of_heap H2.out.blk _).trans rfl
  have gf7 : w1.frozen? ⟨bw, 7, none⟩ = false := Lib.frozen_of_heap H2.out.blk _
  clear hb1 HL
  have HBX : Hid (_) := hbx
  clear hbx
  have gy : ¬ ((r.length : Int) + 1 = 0) := by omega
  have hsm : Hid (sm = sumL f y r) := H1.sum y r rfl
  have hoks : ok (1 + r.length) sm := by rw [hsm.out]; exact ok_sumL O.okf r y 1 (H.okY y (by simp)) (fun z hz => H.okY z (by simp [hz])) (by omega)
  have HJ : Hid (∀ W, Below w1.heap.size w1 W → Calls Try.prog 29 #[.pointer (some ⟨bw, 0, none⟩), (.agg #[.int .u64 sm.1, .int .u64 sm.2]), (.agg #[.int .u64 x.1, .int .u64 x.2])] W fun e w' => e = .returned (.agg #[.int .u64 (f sm x).1, .int .u64 (f sm x).2]) ∧ Hid (I (n + 1) w' ∧ Fr (fun k => k = bw ∨ G k) W w' ∧
      w'.heap[bw]? = some (.cells #[op, .int .u64 nt.1, .int .u64 nt.2, .int .i64 (wrap64 (c + 1)), (.slice pa X.length ca), (.slice pb (r.length + 1) cb), .int .u64 sm.1, .int .u64 sm.2] 60 (0, 0)))) := fun W hW => joinT_any O sm x hoks hx (by omega) (H2.out.fr (Fr.of_below (P := fun _ => False) hW) (fun _ _ h => h)) (O.stay _ _ _ _ hI1.out (Fr.of_below (P := fun _ => False) hW) (fun _ _ h => h)) H.dis
  go_wp2_with fail
  go_region_with (go_at_call 29; refine (HJ.out _ (by first | exact (Below.refl _ w1).drew | exact Below.refl _ w1)).mono ?_; rintro e w2 ⟨rfl, hJ⟩; have e2 := hJ.out.2.2; have k6 : w2.cell? ⟨bw, 6, none⟩ = some (.int .u64 sm.1) := (Lib.cell_of_heap e2 _).trans rfl; have kf6 : w2.frozen? ⟨bw, 6, none⟩ = false := Lib.frozen_of_heap e2 _; have k7 : w2.cell? ⟨bw, 7, none⟩ = some (.int .u64 sm.2) := (Lib.cell_of_heap e2 _).trans rfl; have kf7 : w2.frozen? ⟨bw, 7, none⟩ = false := Lib.frozen_of_heap e2 _; clear e2)
  all_goals (
    go_upto_region 6 with fail
    refine wp_world ?_
    intro W hW
    have HF1 : Hid (Fr (fun k => k = bw ∨ G k) w1 W) := by rw [hW]; exact ((Fr.of_below (Below.refl _ w1).drew).trans hJ.out.2.1 (fun i e => Or.inl e)).trans (((Fr.refl (fun k => k = bw) w2).setCell (p := ⟨bw, 6, none⟩) (Or.inl rfl) _).setCell (p := ⟨bw, 7, none⟩) (Or.inl rfl) _) (fun i e => Or.inl (Or.inl e))
    have blkW : W.heap[bw]? = some (.cells #[op, .int .u64 nt.1, .int .u64 nt.2, .int .i64 (wrap64 (c + 1)), (.slice pa X.length ca), (.slice pb (r.length + 1) cb), .int .u64 (f sm x).1, .int .u64 (f sm x).2] 60 (0, 0)) := by rw [hW, (set_heap (set_heap hJ.out.2.2 _) _)]; rfl
    have IW : Hid (I (n + 1) W) := by rw [hW]; exact O.stay _ _ _ _ hJ.out.1 (((Fr.refl (fun k => k = bw) w2).setCell (p := ⟨bw, 6, none⟩) (Or.inl rfl) _).setCell (p := ⟨bw, 7, none⟩) (Or.inl rfl) _) (fun k hk e => H.dis bw H1.fw (e ▸ hk))
    have hW0 : Hid (∀ k, F k → ¬ k = bw → ¬ (k = bw ∨ G k)) := fun k hk hn h => h.elim hn (H.dis k hk)
    have raW : Hid (W.ownsRow 0 63 4 (.slice pa X.length ca) X.length (tflT (tls f X).reverse)) := HF1.out.row H2.out.ra (fun k e => hW0.out k (H1.fa k e) (fun h => row_ne H2.out.ra H2.out.blk (by decide) (h ▸ e)))
    have rbW : Hid (W.ownsRow 0 26 2 (.slice pb (r.length + 1) cb) (r.length + 1) (flT (y :: r))) := HF1.out.row H2.out.rb (fun k e => hW0.out k (H1.fb k e) (fun h => row_ne H2.out.rb H2.out.blk (by decide) (h ▸ e)))
    have HFW : Hid (Fr (fun k => F k ∨ G k) w W) := (Fr.of_below hb0).trans HF1.out (fun i h => h.elim (fun e => Or.inl (Or.inl (e ▸ H1.fw))) (fun g => Or.inl (Or.inr g)))
    have hszW : w.heap.size ≤ W.heap.size := HFW.out.size
    have HSUM : Hid (∀ y' r', (y :: r) ++ [x] = y' :: r' → (f sm x) = sumL f y' r') := fun y' r' h => by rw [List.cons_append] at h; injection h with h1 h2; subst h1; subst h2; rw [sumL_snoc, hsm.out]
    have yv : W.cell? ⟨bw, 5, none⟩ = some (.slice pb (r.length + 1) cb) := (Lib.cell_of_heap blkW _).trans rfl
    have bxW : W.heap[w.heap.size]? = some (.cells #[.int .u64 x.1, .int .u64 x.2] 26 (0, 0)) := HF1.out.heap HBX.out (fun h => h.elim (fun e => by omega) (fun g => by have := O.glt _ _ _ H.st g; omega))
    have x0' : W.cell? ⟨w.heap.size, 0, none⟩ = some (.int .u64 x.1) := (Lib.cell_of_heap bxW _).trans rfl
    have x1' : W.cell? ⟨w.heap.size, 1, none⟩ = some (.int .u64 x.2) := (Lib.cell_of_heap bxW _).trans rfl
    clear bxW HBX x0 x1
    have hbw : bw < W.heap.size := lt_heap blkW
    have BW : Hid (_) := blkW
    clear hW blkW gv g6 gf6 g7 gf7 k6 kf6 k7 kf7 hI1 HF1 hb0 hlt1 hsz1 hW0
    go_region_law (refine step_append_at rfl (.tmp 32) (.tmp 34) 37 rfl 0 26 i0 (.agg #[.int .u64 0, .int .u64 0]) 2 16 Try.underlying37 hi hz0 hz1 hz2 rfl (by decide) (.slice pb (r.length + 1) cb) _ _ (by simp [Act.eval]) (World.ownsRow.alloc (show W.drew.ownsRow _ _ _ _ _ _ from rbW.out) _) ⟨W.heap.size, 0, none⟩ 1 1 [.int .u64 x.1, .int .u64 x.2] (by simp [Act.eval]) rfl (by intro j u hj; rw [Addr.add_lit]; (rcases j with _ | _ | j) <;> simp at hj <;> subst hj <;> simp (maxDischargeDepth := 12) [go_sem]) (by intro u hu; simp at hu; rcases hu with rfl | rfl <;> rfl) (by unfold maxLen; omega) (by omega) (Nat.zero_le _) (fun v' w3 h2 h3 h5 => ?_); obtain ⟨pv, cv, rfl, k1, k2, HE⟩ := pushT_end (W := W.drew) H1.ft hszW BW.out raW.out rbW.out H1.fw H1.fa H1.fb (by simpa using hl) HSUM.out h2 h3 (by first | exact h5 | simpa using h5); clear h2 h3 h5)
    all_goals (
      go_wp2
      go_ret
      exact ⟨rfl, pushT_fin O H hx (by simpa using hl) HFW.out.drew (O.stay _ _ _ _ IW.out (Fr.of_below (P := fun _ => False) (Below.refl _ W).drew) (fun _ _ h => h)) HE.out⟩))
end Go.Proofs.Ytondchfhdhllhaa

namespace Go.Proofs.Ytondchfhdhllhaa
open Go.RowKit Go.Shelf
set_option linter.unusedVariables false

/-- A number counted up as the machine does. -/
def cw (c : Int) : Nat → Int
  | 0 => c
  | k + 1 => wrap64 (cw c k + 1)
/-- The numbers below m, the greatest first, k of them. -/
def upto (m k : Nat) : List Nat := (List.range k).map fun i => m - 1 - i
theorem upto_succ (m k : Nat) : upto m (k + 1) = upto m k ++ [m - 1 - k] := by simp [upto, List.range_succ]
theorem upto_len (m k : Nat) : (upto m k).length = k := by simp [upto]
theorem upto_rev {α : Type} (L : List α) (d : α) : (upto L.length L.length).map (fun j => L[j]?.getD d) = L.reverse := by
  apply List.ext_getElem
  · simp [upto]
  · intro i h1 h2
    have hi : i < L.length := by simpa using h2
    simp only [upto, List.map_map, List.getElem_map, List.getElem_range, Function.comp, List.getElem_reverse]
    rw [List.getElem?_eq_getElem (by omega)]
    rfl
theorem keepsFrom_of {B : Nat} {P : Nat → Prop} {W W' : World} (h : Fr P W W') (hp : ∀ k o, B ≤ k → W.heap[k]? = some o → o.isCells = false → ¬ P k) : KeepsFrom B W W' :=
  ⟨h.size, fun k o hk ho hc => h.heap ho (hp k o hk ho hc)⟩
theorem setCells_fr (b : Nat) : ∀ (vs : List Value) (o : Nat) (w : World) (cs : Array Value) (t : TypeId) (fr : Nat × Nat), w.heap[b]? = some (.cells cs t fr) →
    Fr (fun k => k = b) w (w.setCells b o vs) ∧ ∃ cs', (w.setCells b o vs).heap[b]? = some (.cells cs' t fr) ∧ cs'.size = cs.size
  | [], o, w, cs, t, fr, h => ⟨Fr.refl _ _, cs, h, rfl⟩
  | v :: vs, o, w, cs, t, fr, h => by
    have h1 : Fr (fun k => k = b) w (w.setCell ⟨b, o, none⟩ v) := (Fr.refl (fun k => k = b) w).setCell (p := ⟨b, o, none⟩) (Or.inl rfl) v
    obtain ⟨h2, cs', h3, h4⟩ := setCells_fr b vs (o + 1) (w.setCell ⟨b, o, none⟩ v) _ t fr (set_heap h v)
    exact ⟨h1.trans h2 (fun i e => Or.inl e), cs', h3, by rw [h4]; simp⟩
/-- clear of a slice of one's own. -/
theorem run_clear_any {P : Program} (w : World) (t e ty : TypeId) (z : Value) (ht : P.underlying t = some (.slice e)) (hv : ∀ w, (zeroValue e).run P w = .ok z w) (hz1 : ∀ v ∈ z.cells.toList, v.oneCell' = true) (b n c : Nat) (hn : 0 < n) (cur : Array Value) (hb : w.heap[b]? = some (.cells cur e (0, 0))) (hcur : (Builtin.zeroCells z.cells n).size ≤ cur.size) (hzz : ∀ v ∈ (Builtin.zeroCells z.cells n).toList, v ∈ z.cells.toList) :
    (Builtin.clear_ #[t] ty #[.slice (some ⟨b, 0, none⟩) n c]).run P w = .ok (.tuple #[]) (w.setCells b 0 (Builtin.zeroCells z.cells n).toList) := by
  have hst := run_storeCells_cells (P := P) b 0 (Builtin.zeroCells z.cells n).toList 0 w (fun j hj => by
      rw [Lib.cell_of_heap hb]
      rw [Array.getElem?_eq_getElem (by simp at hj; omega)]
      rfl) (fun j hj => Lib.frozen_of_heap hb _) (fun v hv' => hz1 v (hzz v hv'))
  simp only [Nat.add_zero] at hst
  obtain ⟨m, rfl⟩ : ∃ m, n = m + 1 := ⟨n - 1, by omega⟩
  simp [Builtin.clear_, run_underlying ht, hv, hst]
/-- The things at some places, the last one first. -/
def zsL {α : Type} (L : List α) (d : α) (pre : List Nat) : List α := (pre.map (fun j => L[j]?.getD d)).reverse
theorem zsL_snoc {α : Type} (L : List α) (d : α) (pre : List Nat) (j : Nat) : zsL L d (pre ++ [j]) = (L[j]?.getD d) :: zsL L d pre := by simp [zsL]
theorem zsL_len {α : Type} (L : List α) (d : α) (pre : List Nat) : (zsL L d pre).length = pre.length := by simp [zsL]
theorem zsL_all {α : Type} (L : List α) (d : α) : zsL L d (upto L.length L.length) = L := by rw [zsL, upto_rev, List.reverse_reverse]
theorem zsL_mem {α : Type} (L : List α) (d : α) (hd : d ∈ L) (j : Nat) : L[j]?.getD d ∈ L := by
  rcases Nat.lt_or_ge j L.length with h | h
  · rw [List.getElem?_eq_getElem h]; exact List.getElem_mem h
  · rw [List.getElem?_eq_none h]; exact hd
theorem zsL_ok {α : Type} {ok : α → Prop} (L : List α) (d : α) (hd : d ∈ L) (h : ∀ x ∈ L, ok x) (pre : List Nat) : ∀ x ∈ zsL L d pre, ok x := by
  intro x hx
  simp only [zsL, List.mem_reverse, List.mem_map] at hx
  obtain ⟨j, -, rfl⟩ := hx
  exact h _ (zsL_mem L d hd j)
theorem row_cells {w : World} {B e size n k : Nat} {v : Value} {xs : List Value} (h : w.ownsRow B e size v n xs) (hk : v.ownBlock = some k) : ∃ cur, w.heap[k]? = some (.cells cur e (0, 0)) := by
  obtain ⟨-, ⟨rfl, -⟩ | ⟨g, cap, cur', rfl, -, hg, -⟩⟩ := h
  · cases hk
  · injection hk with hk
    have : g = k := hk
    subst this
    exact ⟨_, hg⟩
theorem wpIn_world {F : Fence} {n : Nat} {P : Program} {c : Code} {Q : Exit → Act → World → Prop} {a : Act} {w : World} (h : ∀ W, W = w → c.wpIn F n P Q a W) : c.wpIn F n P Q a w := h w rfl
end Go.Proofs.Ytondchfhdhllhaa

namespace Go.Proofs.Ytondchfhdhllhaa
open Go.RowKit Go.Shelf
set_option linter.unusedVariables false
attribute [local go_sem] Oper.semAt_some

set_option maxHeartbeats 1000000 in
theorem backT_in (n : Nat) (a : Option Addr) (len cap : Nat) (w : World) :
    CallsIn Fence.wide n Try.prog 40 #[.slice a len cap] w fun e w' => e = .returned (.func (.func 42) #[] #[.pointer (some ⟨w.heap.size, 0, none⟩)]) ∧ w' = w.alloc (.cells #[.slice a len cap] 37) := by
  refine callsIn_of_wp Try.func40 rfl trivial ?_ rfl
  simp only [Try.ntmps40, List.size_toArray, List.length_cons, List.length_nil, Nat.reduceAdd, Nat.reduceSub, Array.replicate_succ, Array.replicate_zero, List.push_toArray, List.append_toArray, List.nil_append, List.cons_append]
  gi_wp2
  go_ret
  exact ⟨rfl, rfl⟩

/-- What a round must keep: the slice and its row. -/
def KpT (Bs b : Nat) (W W' : World) : Prop := W'.heap[Bs]? = W.heap[Bs]? ∧ W'.heap[b]? = W.heap[b]?
theorem KpT.t {Bs b : Nat} {X Y Z : World} (h : KpT Bs b X Y) (k : KpT Bs b Y Z) : KpT Bs b X Z := ⟨k.1.trans h.1, k.2.trans h.2⟩
theorem KpT.b {Bs b B : Nat} (h1 : Bs < B) (h2 : b < B) (W : World) (l : Nat) (o o' : Obj) (hl : B ≤ l) (_ : W.heap[l]? = some o) (_ : o.isCells = false) (_ : o.isWalk = false) : KpT Bs b W (W.putObj l o') :=
  ⟨World.putObj_heap_other (by omega), World.putObj_heap_other (by omega)⟩

set_option maxRecDepth 100000 in
set_option maxHeartbeats 4000000 in
theorem bwdT1 (n : Nat) (hn : 1 ≤ n) (l Bs b cap : Nat) (L : List (Int × Int)) (d : Int × Int) (hL : L.length ≤ 8192) (cur : Array Value) (J Jx : List Nat → World → Prop)
    (hcur : ∀ w : World, w.heap[b]? = some (.cells cur 26 (0, 0)) → ∀ j, j < L.length → w.cell? ⟨b, j * 2, none⟩ = some (.int .u64 (L[j]?.getD d).1) ∧ w.cell? ⟨b, j * 2 + 1, none⟩ = some (.int .u64 (L[j]?.getD d).2))
    (hY : ∀ pre x W, J pre W → pre.length < L.length → YieldAt Fence.wide (n - 1) Try.prog l #[.int .i64 (x : Nat), (.agg #[.int .u64 (L[x]?.getD d).1, .int .u64 (L[x]?.getD d).2])] W fun e W' =>
      (e = .returned (.bool true) ∧ J (pre ++ [x]) W' ∧ KpT Bs b W W') ∨ (e = .returned (.bool false) ∧ Jx (pre ++ [x]) W'))
    (W : World) (hBs : W.heap[Bs]? = some (.cells #[.slice (some ⟨b, 0, none⟩) L.length cap] 37 (0, 0))) (hb : W.heap[b]? = some (.cells cur 26 (0, 0))) (h0 : J [] W) :
    CallsIn Fence.wide n Try.prog 42 #[.func (.yield l) #[] #[], .pointer (some ⟨Bs, 0, none⟩)] W fun e W' => (∃ v, e = .returned v) ∧
      ((∃ ys, ys = upto L.length L.length ∧ J ys W') ∨ (∃ pre, True ∧ Jx pre W')) := by
  have HC : Hid (∀ w : World, w.heap[b]? = some (.cells cur 26 (0, 0)) → ∀ j, j < L.length → w.cell? ⟨b, j * 2, none⟩ = some (.int .u64 (L[j]?.getD d).1) ∧ w.cell? ⟨b, j * 2 + 1, none⟩ = some (.int .u64 (L[j]?.getD d).2)) := hcur
  have HYY : Hid (∀ pre x W, J pre W → pre.length < L.length → YieldAt Fence.wide (n - 1) Try.prog l #[.int .i64 (x : Nat), (.agg #[.int .u64 (L[x]?.getD d).1, .int .u64 (L[x]?.getD d).2])] W fun e W' =>
      (e = .returned (.bool true) ∧ J (pre ++ [x]) W' ∧ KpT Bs b W W') ∨ (e = .returned (.bool false) ∧ Jx (pre ++ [x]) W')) := hY
  clear hcur hY
  have yB : W.cell? ⟨Bs, 0, none⟩ = some (.slice (some ⟨b, 0, none⟩) L.length cap) := (Lib.cell_of_heap hBs _).trans rfl
  have H0 : Hid (W.heap[Bs]? = some (.cells #[.slice (some ⟨b, 0, none⟩) L.length cap] 37 (0, 0)) ∧ W.heap[b]? = some (.cells cur 26 (0, 0))) := ⟨hBs, hb⟩
  clear hBs hb
  obtain ⟨m, hm⟩ : ∃ m, Hid (L.length = m) := ⟨_, rfl⟩
  rw [hm.out] at yB hL H0 HC HYY ⊢
  refine callsIn_of_wp Try.func42 rfl trivial ?_ rfl
  simp only [Try.ntmps42, List.size_toArray, List.length_cons, List.length_nil, Nat.reduceAdd, Nat.reduceSub, Array.replicate_succ, Array.replicate_zero, List.push_toArray, List.append_toArray, List.nil_append, List.cons_append]
  gi_wp2
  gi_loopw [3] (fun i wr => (∃ k j' : Nat, k + j' + 1 = m ∧ i = .int .i64 (j' : Nat) ∧ J (upto m k) wr ∧ Hid (wr.heap[Bs]? = some (.cells #[.slice (some ⟨b, 0, none⟩) m cap] 37 (0, 0)) ∧ wr.heap[b]? = some (.cells cur 26 (0, 0)))) ∨ (i = .int .i64 (-1) ∧ J (upto m m) wr))
    (fun i _ => (intOf i + 1).toNat)
  case atStart =>
    cases m with
    | zero => exact Or.inr ⟨by simp, h0⟩
    | succ m' => exact Or.inl ⟨0, m', by omega, by go_num, h0, H0⟩
  case round =>
    rcases hrel with ⟨k, j', hk, rfl, hJs, HK⟩ | ⟨rfl, hJs⟩
    · have hcw : Hid (∀ j, j < m → wr.cell? ⟨b, j * 2, none⟩ = some (.int .u64 (L[j]?.getD d).1) ∧ wr.cell? ⟨b, j * 2 + 1, none⟩ = some (.int .u64 (L[j]?.getD d).2)) := HC.out wr HK.out.2
      have hk' : Hid (k + j' + 1 = m) := hk
      have hj1 : (j' : Int) < m := by omega
      have hj2 : (0 : Int) ≤ (j' : Int) := by omega
      have hj3 : ¬ (j' : Int) < 0 := by omega
      have hjj : j' < m := by omega
      have hkm : k < m := by omega
      clear hk
      have z0 : wr.cell? ⟨b, j' * 2, none⟩ = some (.int .u64 (L[j']?.getD d).1) := (hcw.out j' (by omega)).1
      have z1 : wr.cell? ⟨b, j' * 2 + 1, none⟩ = some (.int .u64 (L[j']?.getD d).2) := (hcw.out j' (by omega)).2
      have yB' : wr.cell? ⟨Bs, 0, none⟩ = some (.slice (some ⟨b, 0, none⟩) m cap) := (Lib.cell_of_heap HK.out.1 _).trans rfl
      obtain ⟨fn, tmps, assign, body, hy, hR⟩ := HYY.out _ j' wr hJs (by rw [upto_len]; omega)
      try dsimp only at hy
      gi_wp2
      refine hR.mono ?_
      rintro e W3 (⟨rfl, hJ3, hk3⟩ | ⟨rfl, hJx3⟩)
      · have HK3 : Hid (W3.heap[Bs]? = some (.cells #[.slice (some ⟨b, 0, none⟩) m cap] 37 (0, 0)) ∧ W3.heap[b]? = some (.cells cur 26 (0, 0))) := ⟨hk3.1.trans HK.out.1, hk3.2.trans HK.out.2⟩
        have hJ4 : J (upto m (k + 1)) W3 := by
          have h := hk'.out
          rw [upto_succ, show m - 1 - k = j' by omega]
          exact hJ3
        gi_wp2
        go_roundw
        case rel =>
          have h := hk'.out
          cases j' with
          | zero => exact Or.inr ⟨by simp, by rw [show m = k + 1 by omega]; rw [show m = k + 1 by omega] at hJ4; exact hJ4⟩
          | succ j'' => exact Or.inl ⟨k + 1, j'', by omega, by go_num, hJ4, HK3⟩
        case measure => (simp [intOf]; try omega)
      · gi_wp2
        refine bodyPost_ret (results_none rfl _ _ _) rfl ?_
        exact ⟨⟨_, rfl⟩, .inr ⟨_, trivial, hJx3⟩⟩
    · gi_wp2
      go_end0
      exact ⟨⟨_, rfl⟩, .inl ⟨_, rfl, hJs⟩⟩

theorem bwdT_stops (n : Nat) (hn : 1 ≤ n) (Bs b cap : Nat) (L : List (Int × Int)) (d : Int × Int) (hL : L.length ≤ 8192) (cur : Array Value)
    (hcur : ∀ w : World, w.heap[b]? = some (.cells cur 26 (0, 0)) → ∀ j, j < L.length → w.cell? ⟨b, j * 2, none⟩ = some (.int .u64 (L[j]?.getD d).1) ∧ w.cell? ⟨b, j * 2 + 1, none⟩ = some (.int .u64 (L[j]?.getD d).2))
    (w : World) (hBs : w.heap[Bs]? = some (.cells #[.slice (some ⟨b, 0, none⟩) L.length cap] 37 (0, 0))) (hb : w.heap[b]? = some (.cells cur 26 (0, 0))) :
    SeqStopsK Fence.wide n Try.prog 42 #[.pointer (some ⟨Bs, 0, none⟩)] (fun x : Nat => #[Value.int .i64 (x : Nat), (.agg #[.int .u64 (L[x]?.getD d).1, .int .u64 (L[x]?.getD d).2])]) (KpT Bs b) (fun ys => ys = upto L.length L.length) (fun _ => True) L.length w := fun l J Jx W hW _ _ hY h0 =>
  bwdT1 n hn l Bs b cap L d hL cur J Jx hcur hY W ((hW.block _ (lt_heap hBs)).trans hBs) ((hW.block _ (lt_heap hb)).trans hb) h0
end Go.Proofs.Ytondchfhdhllhaa

namespace Go.Proofs.Ytondchfhdhllhaa
open Go.RowKit Go.Shelf
set_option linter.unusedVariables false

structure TIT (f : Int × Int → Int × Int → Int × Int) (op : Value) (nt : Int × Int) (G : Nat → Prop) (I : Nat → World → Prop) (w : World) (bw : Nat) (c : Int) (n : Nat) (L : List (Int × Int)) (d : Int × Int) (vb : Value) (sm : Int × Int) (F : Nat → Prop) (b : Nat) (cur : Array Value) (pre : List Nat) (W : World) (va : Value) : Prop where
  win : WinT f W bw op nt (cw c (pre.length - 1)) (zsL L d pre) L (fun k => F k ∨ va.ownBlock = some k) va vb sm
  va : ∀ k, va.ownBlock = some k → F k ∨ w.heap.size ≤ k
  bp : W.heap[w.heap.size]? = some (.cells #[.pointer (some ⟨bw, 0, none⟩)] 22 (0, 0))
  bs : W.heap[w.heap.size + 1]? = some (.cells #[vb] 37 (0, 0))
  bb : W.heap[b]? = some (.cells cur 26 (0, 0))
  st : I (n + (pre.length - 1)) W
  fr : Fr (fun k => F k ∨ G k) w W

theorem TIT.own {f : Int × Int → Int × Int → Int × Int} {op : Value} {nt : Int × Int} {ok : Nat → Int × Int → Prop} {G : Nat → Prop} {I : Nat → World → Prop} {w : World} {bw : Nat} {c : Int} {n : Nat} {L : List (Int × Int)} {d : Int × Int} {vb : Value} {sm : Int × Int} {F : Nat → Prop} {b : Nat} {cur : Array Value} (O : OpT op f ok G I) (hst : I n w) (hF : ∀ k, F k → k < w.heap.size) (hb : b < w.heap.size) {B : Nat} (hB : w.heap.size + 2 ≤ B) :
    OwnFrom B (fun pre W => ∃ va, TIT f op nt G I w bw c n L d vb sm F b cur pre W va) := by
  intro pre W W' row ⟨va, h⟩ hg hr
  have hf : Fr (fun k => row = some k) W W' := (Fr.refl _ _).grown hg (fun k e => Or.inl e)
  have hn : ∀ k, k < B → ¬ row = some k := fun k hk e => by have := (hr k e).1; omega
  have hva : ∀ k, va.ownBlock = some k → ¬ row = some k := fun k e e' => by
    obtain ⟨_, o, ho, hc⟩ := hr k e'
    obtain ⟨cc, hcc⟩ := row_cells h.win.ra e
    rw [hcc] at ho
    cases ho
    cases hc
  exact ⟨va, ⟨h.win.fr hf (fun k hk => hk.elim (fun q => hn k (by have := hF k q; omega)) (hva k)), h.va, hf.heap h.bp (hn _ (by omega)), hf.heap h.bs (hn _ (by omega)), hf.heap h.bb (hn _ (by omega)),
    O.stay _ _ _ _ h.st hf (fun k g => hn k (by have := O.glt _ _ _ hst g; omega)), h.fr.trans hf (fun i e => Or.inr (by have := (hr i e).1; omega))⟩⟩
theorem TIT.below {f : Int × Int → Int × Int → Int × Int} {op : Value} {nt : Int × Int} {ok : Nat → Int × Int → Prop} {G : Nat → Prop} {I : Nat → World → Prop} {w : World} {bw : Nat} {c : Int} {n : Nat} {L : List (Int × Int)} {d : Int × Int} {vb : Value} {sm : Int × Int} {F : Nat → Prop} {b : Nat} {cur : Array Value} {pre : List Nat} {W W' : World} {va : Value} (O : OpT op f ok G I) (h : TIT f op nt G I w bw c n L d vb sm F b cur pre W va) (hb : Below W.heap.size W W') : TIT f op nt G I w bw c n L d vb sm F b cur pre W' va :=
  have hf : Fr (fun _ => False) W W' := Fr.of_below hb
  ⟨h.win.fr hf (fun _ _ h => h), h.va, hf.heap h.bp (fun h => h), hf.heap h.bs (fun h => h), hf.heap h.bb (fun h => h), O.stay _ _ _ _ h.st hf (fun _ _ h => h), h.fr.trans hf (fun _ h => h.elim)⟩

theorem tstepT {f : Int × Int → Int × Int → Int × Int} {op : Value} {nt : Int × Int} {ok : Nat → Int × Int → Prop} {G : Nat → Prop} {I : Nat → World → Prop} {w : World} {bw : Nat} {c : Int} {n : Nat} {L : List (Int × Int)} {d : Int × Int} {vb : Value} {sm : Int × Int} {F : Nat → Prop} {b : Nat} {cur : Array Value} {pre : List Nat} {W V w2 : World} {va v' : Value} {j : Nat} (O : OpT op f ok G I) (hst : I n w) (hF : ∀ k, F k → k < w.heap.size) (hd : ∀ k, F k → ¬ G k) (hfw : F bw) (hfb : ∀ k, vb.ownBlock = some k → F k) (hbf : F b) (h : TIT f op nt G I w bw c n L d vb sm F b cur pre W va) (hV : Fr (fun k => k = bw ∨ G k) W V)
    (blkV : V.heap[bw]? = some (.cells #[op, .int .u64 nt.1, .int .u64 nt.2, .int .i64 (cw c pre.length), va, vb, .int .u64 sm.1, .int .u64 sm.2] 60 (0, 0))) (IV : I (n + pre.length) V) (hpl : pre.length < L.length) (hLl : L.length ≤ 4096)
    (h2 : w2.ownsRow 0 63 4 v' ((zsL L d pre).length + 1) (tflT (tls f (zsL L d pre)).reverse ++ [.int .u64 (L[j]?.getD d).1, .int .u64 (L[j]?.getD d).2, .int .u64 (sumR f (L[j]?.getD d) (zsL L d pre)).1, .int .u64 (sumR f (L[j]?.getD d) (zsL L d pre)).2])) (h3 : (V.alloc (.cells #[.int .u64 (L[j]?.getD d).1, .int .u64 (L[j]?.getD d).2, .int .u64 (sumR f (L[j]?.getD d) (zsL L d pre)).1, .int .u64 (sumR f (L[j]?.getD d) (zsL L d pre)).2] 63)).grownBy w2 va.ownBlock) (h5 : v'.ownBlock = va.ownBlock ∨ v'.ownBlock = some (V.heap.size + 1)) :
    ∃ p c2, v' = .slice p (pre.length + 1) c2 ∧ w2.cell? ⟨bw, 4, none⟩ = some va ∧ w2.frozen? ⟨bw, 4, none⟩ = false ∧ Fr (fun k => k = bw ∨ G k ∨ va.ownBlock = some k) W w2 ∧
      Hid (TIT f op nt G I w bw c n L d vb sm F b cur (pre ++ [j]) (w2.setCell ⟨bw, 4, none⟩ v') v' ∧ Fr (fun k => k = bw ∨ G k ∨ va.ownBlock = some k) W (w2.setCell ⟨bw, 4, none⟩ v')) := by
  have hG : ∀ k, G k → k < w.heap.size := fun k g => O.glt _ _ _ hst g
  obtain ⟨p, c2, hv⟩ := row_form h2
  have hbw : bw < w.heap.size := hF _ hfw
  have hbl : b < w.heap.size := hF _ hbf
  have hne : ∀ k, (F k ∨ w.heap.size ≤ k) → ¬ k = bw → ¬ (k = bw ∨ G k) := fun k hk hn e => e.elim hn (fun g => hk.elim (fun q => hd k q g) (fun q => by have := hG k g; omega))
  have raV := hV.row h.win.ra (fun k e => hne k (h.va k e) (fun q => row_ne h.win.ra h.win.blk (by decide) (q ▸ e)))
  have rbV := hV.row h.win.rb (fun k e => hne k (Or.inl (hfb k e)) (fun q => row_ne h.win.rb h.win.blk (by decide) (q ▸ e)))
  have bpV := hV.heap h.bp (hne _ (Or.inr (Nat.le_refl _)) (by omega))
  have bsV := hV.heap h.bs (hne _ (Or.inr (by omega)) (by omega))
  have hbn : ¬ b = bw := fun q => by have e1 := h.bb; have e2 := h.win.blk; rw [q] at e1; rw [e1] at e2; injection e2 with e2; injection e2 with _ e2; cases e2
  have bbV := hV.heap h.bb (hne _ (Or.inl hbf) hbn)
  have ha1 := (Fr.refl (fun _ => False) V).alloc (.cells #[.int .u64 (L[j]?.getD d).1, .int .u64 (L[j]?.getD d).2, .int .u64 (sumR f (L[j]?.getD d) (zsL L d pre)).1, .int .u64 (sumR f (L[j]?.getD d) (zsL L d pre)).2] 63)
  have blk1 := ha1.heap blkV (fun h => h)
  have rb1 := ha1.row rbV (fun _ _ h => h)
  have ra1 := ha1.row raV (fun _ _ h => h)
  have bp1 := ha1.heap bpV (fun h => h)
  have bs1 := ha1.heap bsV (fun h => h)
  have bb1 := ha1.heap bbV (fun h => h)
  have hg2 : Fr (fun k => va.ownBlock = some k) (V.alloc (.cells #[.int .u64 (L[j]?.getD d).1, .int .u64 (L[j]?.getD d).2, .int .u64 (sumR f (L[j]?.getD d) (zsL L d pre)).1, .int .u64 (sumR f (L[j]?.getD d) (zsL L d pre)).2] 63)) w2 := (Fr.refl _ _).grown h3 (fun k e => Or.inl e)
  have blk2 := hg2.heap blk1 (row_ne ra1 blk1 (by decide))
  have rb2 := hg2.row rb1 (fun k e e' => row_ne2 rb1 ra1 (by decide) k e e')
  have bp2 := hg2.heap bp1 (row_ne ra1 bp1 (by decide))
  have bs2 := hg2.heap bs1 (row_ne ra1 bs1 (by decide))
  have bb2 := hg2.heap bb1 (row_ne ra1 bb1 (by decide))
  have hs3 : Fr (fun k => k = bw) w2 (w2.setCell ⟨bw, 4, none⟩ v') := (Fr.refl (fun k => k = bw) w2).setCell (p := ⟨bw, 4, none⟩) (Or.inl rfl) _
  have ra3 := hs3.row h2 (fun k e e' => row_ne h2 blk2 (by decide) (e' ▸ e))
  have rb3 := hs3.row rb2 (fun k e e' => row_ne rb2 blk2 (by decide) (e' ▸ e))
  have hz1 : V.heap.size + 1 ≤ w2.heap.size := by have := h3.size; simpa using this
  have hz3 := hs3.size
  have hwV : w.heap.size ≤ V.heap.size := Nat.le_trans h.fr.size hV.size
  have F2 : Fr (fun k => k = bw ∨ G k ∨ va.ownBlock = some k) W w2 := ((hV.mono (fun i q => Or.inl (q.elim Or.inl (fun g => Or.inr (Or.inl g))))).trans ha1 (fun _ q => q.elim)).trans hg2 (fun i q => Or.inl (Or.inr (Or.inr q)))
  have F3 : Fr (fun k => k = bw ∨ G k ∨ va.ownBlock = some k) W (w2.setCell ⟨bw, 4, none⟩ v') := F2.trans hs3 (fun i q => Or.inl (Or.inl q))
  have hva' : ∀ k, v'.ownBlock = some k → F k ∨ w.heap.size ≤ k := fun k e => by
    rcases h5 with h5 | h5
    · exact h.va k (by rw [← h5]; exact e)
    · rw [h5] at e; injection e with e; exact Or.inr (by omega)
  have elen : (pre ++ [j]).length - 1 = pre.length := by simp
  refine ⟨p, c2, by rw [hv, zsL_len], (Lib.cell_of_heap blk2 _).trans rfl, Lib.frozen_of_heap blk2 _, F2, ⟨⟨⟨?_, ?_, rb3, h.win.sum, ?_, Or.inl hfw, fun k e => Or.inr e, fun k e => Or.inl (hfb k e), ?_⟩, hva', ?_, ?_, ?_, ?_, ?_⟩, F3⟩⟩
  · rw [elen, set_heap blk2]; rfl
  · rw [zsL_snoc]
    simp only [tls, List.reverse_cons, List.length_cons]
    rw [tflT_snoc]
    exact ra3
  · rw [zsL_len]; simp; omega
  · intro k hk
    rcases hk with hk | hk
    · have := hF k hk; omega
    · exact (World.ownsRow.lt ra3 k hk).2
  · exact hs3.heap bp2 (fun q => by omega)
  · exact hs3.heap bs2 (fun q => by omega)
  · exact hs3.heap bb2 (fun q => hbn q)
  · rw [elen]
    have f1 : Fr (fun k => va.ownBlock = some k ∨ k = bw) V (w2.setCell ⟨bw, 4, none⟩ v') := ((ha1.mono (fun _ q => q.elim)).trans hg2 (fun i q => Or.inl (Or.inl q))).trans hs3 (fun i q => Or.inl (Or.inr q))
    exact O.stay _ _ _ _ IV f1 (fun k g q => q.elim (fun q => (h.va k q).elim (fun q => hd k q g) (fun q => by have := hG k g; omega)) (fun q => hd bw hfw (q ▸ g)))
  · exact h.fr.trans F3 (fun i q => q.elim (fun q => Or.inl (Or.inl (q ▸ hfw))) (fun q => q.elim (fun g => Or.inl (Or.inr g)) (fun q => (h.va i q).elim (fun q => Or.inl (Or.inl q)) Or.inr)))
/-- What a round keeps. -/
theorem tkeepT {f : Int × Int → Int × Int → Int × Int} {op : Value} {nt : Int × Int} {ok : Nat → Int × Int → Prop} {G : Nat → Prop} {I : Nat → World → Prop} {w : World} {bw : Nat} {c : Int} {n : Nat} {L : List (Int × Int)} {d : Int × Int} {vb : Value} {sm : Int × Int} {F : Nat → Prop} {b : Nat} {cur : Array Value} {pre : List Nat} {W W' : World} {va : Value} (O : OpT op f ok G I) (hst : I n w) (hF : ∀ k, F k → k < w.heap.size) (hd : ∀ k, F k → ¬ G k) (hfw : F bw) (hbf : F b) (h : TIT f op nt G I w bw c n L d vb sm F b cur pre W va) (hf : Fr (fun k => k = bw ∨ G k ∨ va.ownBlock = some k) W W') {B : Nat} (hB : w.heap.size ≤ B) :
    KeepsFrom B W W' ∧ KpT (w.heap.size + 1) b W W' := by
  have hG : ∀ k, G k → k < w.heap.size := fun k g => O.glt _ _ _ hst g
  have hbw : bw < w.heap.size := hF _ hfw
  have hbl : b < w.heap.size := hF _ hbf
  refine ⟨keepsFrom_of hf (fun k o hk ho hc e => ?_), ?_, ?_⟩
  · rcases e with e | e | e
    · omega
    · have := hG k e; omega
    · obtain ⟨cc, hcc⟩ := row_cells h.win.ra e
      rw [hcc] at ho
      cases ho
      cases hc
  · refine hf.block _ (lt_heap h.bs) (fun e => ?_)
    rcases e with e | e | e
    · omega
    · have := hG _ e; omega
    · exact row_ne h.win.ra h.bs (by decide) e
  · refine hf.block _ (lt_heap h.bb) (fun e => ?_)
    rcases e with e | e | e
    · have e1 := h.bb; have e2 := h.win.blk; rw [e] at e1; rw [e1] at e2; injection e2 with e2; injection e2 with _ e2; cases e2
    · exact hd b hbf e
    · exact row_ne h.win.ra h.bb (by decide) e
end Go.Proofs.Ytondchfhdhllhaa
