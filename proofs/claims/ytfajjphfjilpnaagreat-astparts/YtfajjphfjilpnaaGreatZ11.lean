/- The law AstParts at any formula and any path. -/
import Derived.Test.YtfajjphfjilpnaaGreatZ05
import Derived.Test.YtfajjphfjilpnaaGreatZ08
import Derived.Test.YtfajjphfjilpnaaGreatZ07
import Derived.Test.YtfajjphfjilpnaaGreatZ02
import Derived.Test.YtfajjphfjilpnaaGreatZ06
import Derived.Deep.QuietTactic
import Derived.Deep.RegionHeld3
import Derived.Test.YtfajjphfjilpnaaGreatZ10

namespace Go.Proofs.YtfajjphfjilpnaaGreat
open Go.RowKit LX Go.Shelf
set_option linter.unusedVariables false

/-- A wiped formula's ten cells; a wiped regex's three. -/
def fzV : List Value := [.int .i64 77, .string ⟨#[]⟩, .int .i64 0, .slice none 0 0, .slice none 0 0, .int .i64 0, .int .i64 0, .bool false, .slice none 0 0, .slice none 0 0]
def rzV : List Value := [.int .i64 77, .slice none 0 0, .slice none 0 0]
/-- Cells written one behind the other. -/
def putCells (w : World) (k : Nat) : Nat → List Value → World
  | _, [] => w
  | o, v :: l => putCells (w.setCell ⟨k, o, none⟩ v) k (o + 1) l
def putA (c : Array Value) : Nat → List Value → Array Value
  | _, [] => c
  | o, v :: l => putA (c.setIfInBounds o v) (o + 1) l
theorem putA_size : ∀ (l : List Value) (c : Array Value) (o : Nat), (putA c o l).size = c.size
  | [], c, o => rfl
  | v :: l, c, o => by rw [putA, putA_size l]; simp
theorem putA_low : ∀ (l : List Value) (c : Array Value) (o m : Nat), m < o → (putA c o l)[m]? = c[m]?
  | [], c, o, m, _ => rfl
  | v :: l, c, o, m, h => by
    rw [putA, putA_low l _ _ _ (by omega), Array.getElem?_setIfInBounds_ne (by omega)]
theorem putA_high : ∀ (l : List Value) (c : Array Value) (o m : Nat), o + l.length ≤ m → (putA c o l)[m]? = c[m]?
  | [], c, o, m, _ => rfl
  | v :: l, c, o, m, h => by
    rw [List.length_cons] at h
    rw [putA, putA_high l _ _ _ (by omega), Array.getElem?_setIfInBounds_ne (by omega)]
theorem putA_in : ∀ (l : List Value) (c : Array Value) (o i : Nat), i < l.length → o + l.length ≤ c.size → (putA c o l)[o + i]? = l[i]?
  | [], c, o, i, h, _ => by simp at h
  | v :: l, c, o, 0, h, hs => by
    rw [List.length_cons] at hs
    rw [putA, putA_low l _ _ _ (by omega), Nat.add_zero, Array.getElem?_setIfInBounds_self_of_lt (by omega)]
    rfl
  | v :: l, c, o, i + 1, h, hs => by
    rw [List.length_cons] at h hs
    rw [putA, show o + (i + 1) = o + 1 + i by omega, putA_in l _ (o + 1) i (by omega) (by simp; omega)]
    simp
theorem put_heap : ∀ (l : List Value) (w : World) (k o : Nat) (c : Array Value) (T : Nat), w.heap[k]? = some (.cells c T (0, 0)) → (putCells w k o l).heap[k]? = some (.cells (putA c o l) T (0, 0))
  | [], w, k, o, c, T, h => h
  | v :: l, w, k, o, c, T, h => put_heap l _ k (o + 1) _ T (set_heapA h)
theorem put_other : ∀ (l : List Value) (w : World) (k o k' : Nat), k' ≠ k → (putCells w k o l).heap[k']? = w.heap[k']?
  | [], w, k, o, k', h => rfl
  | v :: l, w, k, o, k', h => (put_other l _ k (o + 1) k' h).trans (Below.heap_setCell _ _ _ _ h)
theorem put_fr : ∀ (l : List Value) (P : Nat → Prop) (a w : World) (k o : Nat), Fr P a w → P k → Fr P a (putCells w k o l)
  | [], P, a, w, k, o, h, hk => h
  | v :: l, P, a, w, k, o, h, hk => put_fr l P a _ k (o + 1) (h.setCell (Or.inl hk) v) hk
/-- What was there from B on, written over. -/
structure Spt (B : Nat) (w0 w : World) : Prop where
  fr : Fr (fun k => B ≤ k ∧ k < w0.heap.size) w0 w
  row : ∀ (k : Nat) (cur : Array Value) (T : Nat), B ≤ k → w0.heap[k]? = some (.cells cur T (0, 0)) → ∃ cur' : Array Value, w.heap[k]? = some (.cells cur' T (0, 0)) ∧ cur'.size = cur.size ∧ (T = 29 → ∀ j, (∀ i, i < 10 → cur'[j * 10 + i]? = cur[j * 10 + i]?) ∨ (∀ i, i < 10 → cur'[j * 10 + i]? = fzV[i]?)) ∧ (T = 76 → ∀ j, (∀ i, i < 3 → cur'[j * 3 + i]? = cur[j * 3 + i]?) ∨ (∀ i, i < 3 → cur'[j * 3 + i]? = rzV[i]?))
theorem Spt.refl (B : Nat) (w : World) : Spt B w w := ⟨Fr.refl _ _, fun k cur T _ h => ⟨cur, h, rfl, fun _ j => Or.inl fun _ _ => rfl, fun _ j => Or.inl fun _ _ => rfl⟩⟩
/-- New blocks don't matter. -/
theorem Spt.new {B : Nat} {w0 w w' : World} (h : Spt B w0 w) (hb : Below w.heap.size w w') : Spt B w0 w' :=
  ⟨h.fr.trans (Fr.of_below hb) (Q := fun _ => False) (fun i h => h.elim), fun k cur T hB h0 => by
    obtain ⟨c, h1, h2⟩ := h.row k cur T hB h0
    exact ⟨c, (hb.block k (lt_heap h1)).trans h1, h2⟩⟩
/-- Cells of another kind of row. -/
theorem Spt.put1 {B : Nat} {w0 w : World} (h : Spt B w0 w) {k o T : Nat} {c0 : Array Value} {l : List Value} (h0 : w0.heap[k]? = some (.cells c0 T (0, 0))) (hB : B ≤ k) (hF : T ≠ 29) (hR : T ≠ 76) : Spt B w0 (putCells w k o l) := by
  refine ⟨put_fr l _ _ _ k o h.fr ⟨hB, lt_heap h0⟩, fun k' cur T' hB' h0' => ?_⟩
  obtain ⟨c, h1, h2, h3, h4⟩ := h.row k' cur T' hB' h0'
  by_cases e : k' = k
  · subst e
    rw [h0] at h0'
    injection h0' with h0'
    injection h0' with e1 e2
    subst e2
    exact ⟨_, put_heap l _ _ o c T h1, by rw [putA_size, h2], fun e => absurd e hF, fun e => absurd e hR⟩
  · exact ⟨c, (put_other l _ _ _ _ e).trans h1, h2, h3, h4⟩
/-- A formula wiped. -/
theorem Spt.putF {B : Nat} {w0 w : World} (h : Spt B w0 w) {k j : Nat} {c0 : Array Value} (h0 : w0.heap[k]? = some (.cells c0 29 (0, 0))) (hB : B ≤ k) (hj : j * 10 + 10 ≤ c0.size) : Spt B w0 (putCells w k (j * 10) fzV) := by
  refine ⟨put_fr fzV _ _ _ k _ h.fr ⟨hB, lt_heap h0⟩, fun k' cur T' hB' h0' => ?_⟩
  obtain ⟨c, h1, h2, h3, h4⟩ := h.row k' cur T' hB' h0'
  by_cases e : k' = k
  · subst e
    rw [h0] at h0'
    injection h0' with h0'
    injection h0' with e1 e2
    subst e1 e2
    refine ⟨_, put_heap fzV _ _ _ c _ h1, by rw [putA_size, h2], fun e j' => ?_, fun e => absurd e (by decide)⟩
    have hl : fzV.length = 10 := rfl
    by_cases ej : j' = j
    · subst ej
      exact Or.inr fun i hi => putA_in fzV c _ i (by omega) (by rw [h2]; omega)
    · have hs : ∀ i, i < 10 → (putA c (j * 10) fzV)[j' * 10 + i]? = c[j' * 10 + i]? := fun i hi => by
        by_cases hlt : j' < j
        · exact putA_low fzV c _ _ (by omega)
        · exact putA_high fzV c _ _ (by omega)
      rcases h3 rfl j' with g | g
      · exact Or.inl fun i hi => (hs i hi).trans (g i hi)
      · exact Or.inr fun i hi => (hs i hi).trans (g i hi)
  · exact ⟨c, (put_other fzV _ _ _ _ e).trans h1, h2, h3, h4⟩
theorem Spt.putR {B : Nat} {w0 w : World} (h : Spt B w0 w) {k j : Nat} {c0 : Array Value} (h0 : w0.heap[k]? = some (.cells c0 76 (0, 0))) (hB : B ≤ k) (hj : j * 3 + 3 ≤ c0.size) : Spt B w0 (putCells w k (j * 3) rzV) := by
  refine ⟨put_fr rzV _ _ _ k _ h.fr ⟨hB, lt_heap h0⟩, fun k' cur T' hB' h0' => ?_⟩
  obtain ⟨c, h1, h2, h3, h4⟩ := h.row k' cur T' hB' h0'
  by_cases e : k' = k
  · subst e
    rw [h0] at h0'
    injection h0' with h0'
    injection h0' with e1 e2
    subst e1 e2
    refine ⟨_, put_heap rzV _ _ _ c _ h1, by rw [putA_size, h2], fun e => absurd e (by decide), fun e j' => ?_⟩
    have hl : rzV.length = 3 := rfl
    by_cases ej : j' = j
    · subst ej
      exact Or.inr fun i hi => putA_in rzV c _ i (by omega) (by rw [h2]; omega)
    · have hs : ∀ i, i < 3 → (putA c (j * 3) rzV)[j' * 3 + i]? = c[j' * 3 + i]? := fun i hi => by
        by_cases hlt : j' < j
        · exact putA_low rzV c _ _ (by omega)
        · exact putA_high rzV c _ _ (by omega)
      rcases h4 rfl j' with g | g
      · exact Or.inl fun i hi => (hs i hi).trans (g i hi)
      · exact Or.inr fun i hi => (hs i hi).trans (g i hi)
  · exact ⟨c, (put_other rzV _ _ _ _ e).trans h1, h2, h3, h4⟩
/-- A row of one's own: nothing, or a block. -/
theorem rowS_form {w : World} {e size n B : Nat} {v : Value} {xs : List Value} (h : w.ownsRow 0 e size v n xs) (pl : ∀ q, v.ownBlock = some q → B ≤ q) : ∃ p c, v = .slice p n c ∧ n ≤ c ∧ ∀ i, i < n → ∃ g cur, p = some ⟨g, 0, none⟩ ∧ B ≤ g ∧ w.heap[g]? = some (.cells cur e (0, 0)) ∧ n * size ≤ cur.size ∧ ∀ m, m < n * size → cur[m]? = xs[m]? := by
  obtain ⟨hl, ⟨e1, e2⟩ | ⟨g, cap, cur, rfl, -, hg, hn, -, hs, ht⟩⟩ := h
  · exact ⟨none, 0, by rw [e1, e2], by omega, fun i hi => by omega⟩
  · refine ⟨_, cap, rfl, hn, fun i hi => ⟨g, cur, rfl, pl g rfl, hg, ?_, fun m hm => ?_⟩⟩
    · rw [hs]; exact Nat.mul_le_mul_right _ hn
    · rw [← ht, List.getElem?_take, if_pos hm, Array.getElem?_toList]
end Go.Proofs.YtfajjphfjilpnaaGreat

namespace Go.Proofs.YtfajjphfjilpnaaGreat
open Go.RowKit LX Go.Shelf
set_option linter.unusedVariables false

/-- What spoil leaves behind it. -/
def SpOut (B : Nat) (w0 w : World) (e : Ending) (w' : World) : Prop := (∃ v, e = .returned v) ∧ Hid (Spt B w0 w' ∧ Fr (fun k => B ≤ k ∧ k < w0.heap.size) w w')
set_option maxRecDepth 100000 in
set_option maxHeartbeats 8000000 in
theorem spoil_no (B : Nat) (w0 w : World) (h : Spt B w0 w) : Calls Tryz.prog 19 #[.agg #[.int .i64 77, .string ⟨#[]⟩, .int .i64 0, .slice none 0 0, .slice none 0 0, .int .i64 0, .int .i64 0, .bool false, .slice none 0 0, .slice none 0 0]] w (SpOut B w0 w) := by
  have H : Hid (Spt B w0 w) := h
  clear h
  obtain ⟨w1, ew1⟩ : ∃ W, W = w.alloc (.cells #[.int .i64 77, .string ⟨#[]⟩, .int .i64 0, .slice none 0 0, .slice none 0 0, .int .i64 0, .int .i64 0, .bool false, .slice none 0 0, .slice none 0 0] 29) := ⟨_, rfl⟩
  have X1 : Hid (w1.heap[w.heap.size]? = some (.cells #[.int .i64 77, .string ⟨#[]⟩, .int .i64 0, .slice none 0 0, .slice none 0 0, .int .i64 0, .int .i64 0, .bool false, .slice none 0 0, .slice none 0 0] 29 (0, 0))) := by rw [ew1]; exact heap_allocA w _
  have H1 : Hid (Spt B w0 w1 ∧ Fr (fun k => B ≤ k ∧ k < w0.heap.size) w w1) := by rw [ew1]; exact ⟨H.out.new ((Below.refl _ _).alloc (Nat.le_refl _) _), Fr.of_below ((Below.refl _ _).alloc (Nat.le_refl _) _)⟩
  have e3 : w1.cell? ⟨w.heap.size, 3, none⟩ = some (.slice none 0 0) := by rw [Lib.cell_of_heap X1.out]; rfl
  have e4 : w1.cell? ⟨w.heap.size, 4, none⟩ = some (.slice none 0 0) := by rw [Lib.cell_of_heap X1.out]; rfl
  have e8 : w1.cell? ⟨w.heap.size, 8, none⟩ = some (.slice none 0 0) := by rw [Lib.cell_of_heap X1.out]; rfl
  have e9 : w1.cell? ⟨w.heap.size, 9, none⟩ = some (.slice none 0 0) := by rw [Lib.cell_of_heap X1.out]; rfl
  go_enter Tryz.func19, Tryz.ntmps19
  go_upto_region 1 with fail
  rw [← ew1]
  clear ew1 X1 H
  go_wp2
  go_loopw [2] (fun v wr => v = .int .i64 0 ∧ wr = w1) (fun _ _ => 0)
  case atStart => exact ⟨rfl, rfl⟩
  case round =>
    obtain ⟨rfl, rfl⟩ := hrel
    go_wp2
    go_loopw [3] (fun v wx => v = .int .i64 0 ∧ wx = wr) (fun _ _ => 0)
    case atStart => exact ⟨rfl, rfl⟩
    case round =>
      obtain ⟨rfl, rfl⟩ := hrel
      go_wp2
      go_loopw [4] (fun v wx => v = .int .i64 0 ∧ wx = wr) (fun _ _ => 0)
      case atStart => exact ⟨rfl, rfl⟩
      case round =>
        obtain ⟨rfl, rfl⟩ := hrel
        go_wp2
        go_loopw [6] (fun v wx => v = .int .i64 0 ∧ wx = wr) (fun _ _ => 0)
        case atStart => exact ⟨rfl, rfl⟩
        case round =>
          obtain ⟨rfl, rfl⟩ := hrel
          go_wp2
          go_end0
          exact ⟨⟨_, rfl⟩, H1.out⟩
end Go.Proofs.YtfajjphfjilpnaaGreat

namespace Go.Proofs.YtfajjphfjilpnaaGreat
open Go.RowKit LX Go.Shelf
set_option linter.unusedVariables false

set_option maxRecDepth 100000 in
set_option maxHeartbeats 8000000 in
theorem spoil_any (B : Nat) (w0 : World) : ∀ (m : Nat) (f : Fm) (y : FQ) (w : World), SizeOf.sizeOf f ≤ m → QOwn (fun b => B ≤ b) w0 (f, y) → Spt B w0 w → Calls Tryz.prog 19 #[.agg #[.int .i64 f.k, .string f.nm, .int .i64 f.op, y.v, y.t, .int .i64 f.lo, .int .i64 f.hi, .bool f.opn, y.s, y.r]] w (SpOut B w0 w) := by
  intro m
  induction m with
  | zero => intro f y w hm; cases f; simp at hm
  | succ m ih =>
    intro f y w hm hQ hS
    obtain ⟨uv, ut, us, ur⟩ := y
    obtain ⟨h1, h2, h3, h4⟩ := hQ
    dsimp only at h1 h2 h3 h4 ⊢
    obtain ⟨pv, cv, rfl, hcv, HV0⟩ := rowS_form (B := B) h1.1 h1.2.2
    have hlv := h1.2.1
    obtain ⟨pst, est, hlt0, -, rowt, plt, -⟩ := h2
    obtain ⟨pt, ct, rfl, hct, HT0⟩ := rowS_form (B := B) rowt plt
    obtain ⟨pss, ess, hls, rows, pls, sv, stt, ss, sr⟩ := h3
    obtain ⟨ps, cs, rfl, hcs, HF0⟩ := rowS_form (B := B) rows pls
    obtain ⟨psr, esr, hlr, rowr, plr, rt, rs⟩ := h4
    obtain ⟨pr, cr, rfl, hcr, HR0⟩ := rowS_form (B := B) rowr plr
    have HM : Hid (SizeOf.sizeOf f ≤ m + 1) := hm
    have HSL : Hid (SizeOf.sizeOf f.subs < SizeOf.sizeOf f) := f.subs_lt
    have IH : Hid (_) := ih
    have HES : Hid (pss.map Prod.fst = f.subs) := ess
    have HER : Hid (psr.map Prod.fst = f.rgx) := esr
    have HQS : Hid (∀ x ∈ pss, QOwn (fun b => B ≤ b) w0 x) := fun x hx => ⟨sv x hx, stt x hx, ss x hx, sr x hx⟩
    have HRT : Hid (∀ x ∈ psr, FmsOwn (fun b => B ≤ b) w0 x.2.1 x.1.test) := rt
    obtain ⟨nv, env⟩ : ∃ n : Nat, Hid (f.vars.length = n) := ⟨_, rfl⟩
    obtain ⟨nt, ent⟩ : ∃ n : Nat, Hid (f.terms.length = n) := ⟨_, rfl⟩
    obtain ⟨ns, ens⟩ : ∃ n : Nat, Hid (f.subs.length = n) := ⟨_, rfl⟩
    obtain ⟨nr, enr⟩ : ∃ n : Nat, Hid (f.rgx.length = n) := ⟨_, rfl⟩
    rw [env.out] at hcv HV0 hlv ⊢
    rw [ent.out] at hct HT0 hlt0 ⊢
    rw [ens.out] at hcs HF0 hls ⊢
    rw [enr.out] at hcr HR0 hlr ⊢
    have HV : Hid (∀ i, i < nv → ∃ g cur, pv = some ⟨g, 0, none⟩ ∧ B ≤ g ∧ w0.heap[g]? = some (.cells cur 9 (0, 0)) ∧ nv * 1 ≤ cur.size ∧ ∀ m, m < nv * 1 → cur[m]? = (f.vars.map Value.string)[m]?) := HV0
    have HT : Hid (∀ i, i < nt → ∃ g cur, pt = some ⟨g, 0, none⟩ ∧ B ≤ g ∧ w0.heap[g]? = some (.cells cur 39 (0, 0)) ∧ nt * 7 ≤ cur.size ∧ ∀ m, m < nt * 7 → cur[m]? = (flatTm pst)[m]?) := HT0
    have HF : Hid (∀ i, i < ns → ∃ g cur, ps = some ⟨g, 0, none⟩ ∧ B ≤ g ∧ w0.heap[g]? = some (.cells cur 29 (0, 0)) ∧ ns * 10 ≤ cur.size ∧ ∀ m, m < ns * 10 → cur[m]? = (flatF pss)[m]?) := HF0
    have HR : Hid (∀ i, i < nr → ∃ g cur, pr = some ⟨g, 0, none⟩ ∧ B ≤ g ∧ w0.heap[g]? = some (.cells cur 76 (0, 0)) ∧ nr * 3 ≤ cur.size ∧ ∀ m, m < nr * 3 → cur[m]? = (flatR psr)[m]?) := HR0
    clear h1 HV0 HT0 HF0 HR0 rowt plt rows pls rowr plr sv stt ss sr rt rs est ess esr hm ih
    generalize f.lo = lo at *
    generalize f.hi = fhi at *
    generalize f.nm = nm at *
    generalize f.opn = o at *
    generalize f.op = op at *
    generalize f.k = fk at *
    have hw0 : w0.heap.size ≤ w.heap.size := hS.fr.size
    obtain ⟨w1, ew1⟩ : ∃ W, W = w.alloc (.cells #[.int .i64 fk, .string nm, .int .i64 op, .slice pv nv cv, .slice pt nt ct, .int .i64 lo, .int .i64 fhi, .bool o, .slice ps ns cs, .slice pr nr cr] 29) := ⟨_, rfl⟩
    have Xw1 : Hid (w1.heap[w.heap.size]? = some (.cells #[.int .i64 fk, .string nm, .int .i64 op, .slice pv nv cv, .slice pt nt ct, .int .i64 lo, .int .i64 fhi, .bool o, .slice ps ns cs, .slice pr nr cr] 29 (0, 0))) := by rw [ew1]; exact heap_allocA w _
    have Gw1 : Hid (Fr (fun k => B ≤ k ∧ k < w0.heap.size) w w1) := by rw [ew1]; exact Fr.of_below ((Below.refl _ _).alloc (Nat.le_refl _) _)
    have Sw1 : Hid (Spt B w0 w1 ∧ Fr (fun k => B ≤ k ∧ k < w0.heap.size) w1 w1) := by rw [ew1]; exact ⟨hS.new ((Below.refl _ _).alloc (Nat.le_refl _) _), Fr.refl _ _⟩
    clear hS
    go_enter Tryz.func19, Tryz.ntmps19
    go_upto_region 1 with fail
    rw [← ew1]
    clear ew1
    go_wp2
    go_loopw [2] (fun v wr => ∃ k : Nat, k ≤ nv ∧ v = .int .i64 k ∧ Hid (Spt B w0 wr ∧ Fr (fun k => B ≤ k ∧ k < w0.heap.size) w1 wr)) (fun v _ => nv - (intOf v).toNat)
    case atStart => exact ⟨0, Nat.zero_le _, rfl, Sw1⟩
    case round =>
      obtain ⟨k, hk, rfl, hS⟩ := hrel
      have Br : Hid (_) := hS.out.2.heap Xw1.out (fun h => by omega)
      have r6 : wr.cell? ⟨w.heap.size, 3, none⟩ = some (.slice pv nv cv) := by rw [Lib.cell_of_heap Br.out]; rfl
      by_cases hlt : k < nv
      case neg =>
        have c2 : ¬ (k : Int) < nv := by omega
        obtain ⟨w2, ew⟩ : ∃ W : World, W = wr := ⟨_, rfl⟩
        subst ew
        have Sw2 : Hid (Spt B w0 w2 ∧ Fr (fun k => B ≤ k ∧ k < w0.heap.size) w2 w2) := ⟨hS.out.1, Fr.refl _ _⟩
        have Xw2 : Hid (_) := Br.out
        have Gw2 : Hid (Fr (fun k => B ≤ k ∧ k < w0.heap.size) w w2) := Gw1.out.trans hS.out.2 (fun i h => Or.inl h)
        clear hS Br
        go_wp2
        go_loopw [3] (fun v wr => ∃ k : Nat, k ≤ nt ∧ v = .int .i64 k ∧ Hid (Spt B w0 wr ∧ Fr (fun k => B ≤ k ∧ k < w0.heap.size) w2 wr)) (fun v _ => nt - (intOf v).toNat)
        case atStart => exact ⟨0, Nat.zero_le _, rfl, Sw2⟩
        case round =>
          obtain ⟨k, hk, rfl, hS⟩ := hrel
          have Br : Hid (_) := hS.out.2.heap Xw2.out (fun h => by omega)
          have r6 : wr.cell? ⟨w.heap.size, 4, none⟩ = some (.slice pt nt ct) := by rw [Lib.cell_of_heap Br.out]; rfl
          by_cases hlt : k < nt
          case neg =>
            have c2 : ¬ (k : Int) < nt := by omega
            obtain ⟨w3, ew⟩ : ∃ W : World, W = wr := ⟨_, rfl⟩
            subst ew
            have Sw3 : Hid (Spt B w0 w3 ∧ Fr (fun k => B ≤ k ∧ k < w0.heap.size) w3 w3) := ⟨hS.out.1, Fr.refl _ _⟩
            have Xw3 : Hid (_) := Br.out
            have Gw3 : Hid (Fr (fun k => B ≤ k ∧ k < w0.heap.size) w w3) := Gw2.out.trans hS.out.2 (fun i h => Or.inl h)
            clear hS Br
            go_wp2
            go_loopw [4] (fun v wr => ∃ k : Nat, k ≤ nr ∧ v = .int .i64 k ∧ Hid (Spt B w0 wr ∧ Fr (fun k => B ≤ k ∧ k < w0.heap.size) w3 wr)) (fun v _ => nr - (intOf v).toNat)
            case atStart => exact ⟨0, Nat.zero_le _, rfl, Sw3⟩
            case round =>
              obtain ⟨k, hk, rfl, hS⟩ := hrel
              have Br : Hid (_) := hS.out.2.heap Xw3.out (fun h => by omega)
              have r6 : wr.cell? ⟨w.heap.size, 9, none⟩ = some (.slice pr nr cr) := by rw [Lib.cell_of_heap Br.out]; rfl
              by_cases hlt : k < nr
              case neg =>
                have c2 : ¬ (k : Int) < nr := by omega
                obtain ⟨w4, ew⟩ : ∃ W : World, W = wr := ⟨_, rfl⟩
                subst ew
                have Sw4 : Hid (Spt B w0 w4 ∧ Fr (fun k => B ≤ k ∧ k < w0.heap.size) w4 w4) := ⟨hS.out.1, Fr.refl _ _⟩
                have Xw4 : Hid (_) := Br.out
                have Gw4 : Hid (Fr (fun k => B ≤ k ∧ k < w0.heap.size) w w4) := Gw3.out.trans hS.out.2 (fun i h => Or.inl h)
                clear hS Br
                go_wp2
                go_loopw [6] (fun v wr => ∃ k : Nat, k ≤ ns ∧ v = .int .i64 k ∧ Hid (Spt B w0 wr ∧ Fr (fun k => B ≤ k ∧ k < w0.heap.size) w4 wr)) (fun v _ => ns - (intOf v).toNat)
                case atStart => exact ⟨0, Nat.zero_le _, rfl, Sw4⟩
                case round =>
                  obtain ⟨k, hk, rfl, hS⟩ := hrel
                  have Br : Hid (_) := hS.out.2.heap Xw4.out (fun h => by omega)
                  have r6 : wr.cell? ⟨w.heap.size, 8, none⟩ = some (.slice ps ns cs) := by rw [Lib.cell_of_heap Br.out]; rfl
                  by_cases hlt : k < ns
                  case neg =>
                    have c2 : ¬ (k : Int) < ns := by omega
                    have HE : Hid (Spt B w0 wr ∧ Fr (fun k => B ≤ k ∧ k < w0.heap.size) w wr) := ⟨hS.out.1, Gw4.out.trans hS.out.2 (fun i h => Or.inl h)⟩
                    go_wp2
                    go_end0
                    exact ⟨⟨_, rfl⟩, HE.out⟩
                  have hlt' : (k : Int) < ns := by omega
                  have k0 : (0 : Int) ≤ k := by omega
                  obtain ⟨g, cur, rfl, hg, h0, hsz, hxs⟩ := HF.out k hlt
                  obtain ⟨c, hc, hcs, hcF, hcR⟩ := hS.out.1.row g cur _ hg h0
                  have kb : k * 10 + 10 ≤ cur.size := by have : (k + 1) * 10 ≤ ns * 10 := Nat.mul_le_mul_right _ hlt; omega
                  obtain ⟨z0, z1, z2, pz3, nz3, cz3, pz4, nz4, cz4, z5, z6, z7, pz8, nz8, cz8, pz9, nz9, cz9, hcel, hcal⟩ : ∃ (z0 : Int) (z1 : ByteArray) (z2 : Int) (pz3 : Option Addr) (nz3 cz3 : Nat) (pz4 : Option Addr) (nz4 cz4 : Nat) (z5 z6 : Int) (z7 : Bool) (pz8 : Option Addr) (nz8 cz8 : Nat) (pz9 : Option Addr) (nz9 cz9 : Nat), (∀ i, i < 10 → c[k * 10 + i]? = [Value.int .i64 z0, .string z1, .int .i64 z2, .slice pz3 nz3 cz3, .slice pz4 nz4 cz4, .int .i64 z5, .int .i64 z6, .bool z7, .slice pz8 nz8 cz8, .slice pz9 nz9 cz9][i]?) ∧ Calls Tryz.prog 19 #[.agg #[.int .i64 z0, .string z1, .int .i64 z2, .slice pz3 nz3 cz3, .slice pz4 nz4 cz4, .int .i64 z5, .int .i64 z6, .bool z7, .slice pz8 nz8 cz8, .slice pz9 nz9 cz9]] wr (SpOut B w0 wr) := by
                    rcases hcF rfl k with hh | hh
                    · have kx : k < pss.length := by have h1 := HES.out; have h2 := ens.out; have := congrArg List.length h1; simp at this; omega
                      have hq := HQS.out pss[k] (List.getElem_mem kx)
                      have hmem : pss[k].1 ∈ f.subs := by rw [← HES.out]; exact List.mem_map.2 ⟨_, List.getElem_mem kx, rfl⟩
                      have hc2 := IH.out pss[k].1 pss[k].2 wr (by have a := List.sizeOf_lt_of_mem hmem; have b := HSL.out; have d := HM.out; omega) hq hS.out.1
                      have hall : ∀ i, i < 10 → c[k * 10 + i]? = (fcs pss[k])[i]? := fun i hi => by rw [hh i hi, hxs (k * 10 + i) (by omega), flatF_get pss k i kx hi]
                      obtain ⟨-, q1, d1, e3, -⟩ := hq.at.1
                      obtain ⟨q2, d2, e4, -⟩ := hq.at.2.1.form
                      obtain ⟨q3, d3, e8, -⟩ := hq.at.2.2.1.form
                      obtain ⟨q4, d4, e9, -⟩ := hq.at.2.2.2.form
                      refine ⟨pss[k].1.k, pss[k].1.nm, pss[k].1.op, q1, pss[k].1.vars.length, d1, q2, pss[k].1.terms.length, d2, pss[k].1.lo, pss[k].1.hi, pss[k].1.opn, q3, pss[k].1.subs.length, d3, q4, pss[k].1.rgx.length, d4, fun i hi => ?_, ?_⟩
                      · rw [hall i hi, ← e3, ← e4, ← e8, ← e9]; rfl
                      · rw [← e3, ← e4, ← e8, ← e9]; exact hc2
                    · exact ⟨77, ⟨#[]⟩, 0, none, 0, 0, none, 0, 0, 0, 0, false, none, 0, 0, none, 0, 0, hh, spoil_no B w0 wr hS.out.1⟩
                  have HCAL : Hid (Calls Tryz.prog 19 #[.agg #[.int .i64 z0, .string z1, .int .i64 z2, .slice pz3 nz3 cz3, .slice pz4 nz4 cz4, .int .i64 z5, .int .i64 z6, .bool z7, .slice pz8 nz8 cz8, .slice pz9 nz9 cz9]] wr (SpOut B w0 wr)) := hcal
                  have a0 : wr.cell? ⟨g, k * 10, none⟩ = some (.int .i64 z0) := by rw [Lib.cell_of_heap hc]; exact hcel 0 (by omega)
                  have a1 : wr.cell? ⟨g, k * 10 + 1, none⟩ = some (.string z1) := by rw [Lib.cell_of_heap hc]; exact hcel 1 (by omega)
                  have a2 : wr.cell? ⟨g, k * 10 + 2, none⟩ = some (.int .i64 z2) := by rw [Lib.cell_of_heap hc]; exact hcel 2 (by omega)
                  have a3 : wr.cell? ⟨g, k * 10 + 3, none⟩ = some (.slice pz3 nz3 cz3) := by rw [Lib.cell_of_heap hc]; exact hcel 3 (by omega)
                  have a4 : wr.cell? ⟨g, k * 10 + 4, none⟩ = some (.slice pz4 nz4 cz4) := by rw [Lib.cell_of_heap hc]; exact hcel 4 (by omega)
                  have a5 : wr.cell? ⟨g, k * 10 + 5, none⟩ = some (.int .i64 z5) := by rw [Lib.cell_of_heap hc]; exact hcel 5 (by omega)
                  have a6 : wr.cell? ⟨g, k * 10 + 6, none⟩ = some (.int .i64 z6) := by rw [Lib.cell_of_heap hc]; exact hcel 6 (by omega)
                  have a7 : wr.cell? ⟨g, k * 10 + 7, none⟩ = some (.bool z7) := by rw [Lib.cell_of_heap hc]; exact hcel 7 (by omega)
                  have a8 : wr.cell? ⟨g, k * 10 + 8, none⟩ = some (.slice pz8 nz8 cz8) := by rw [Lib.cell_of_heap hc]; exact hcel 8 (by omega)
                  have a9 : wr.cell? ⟨g, k * 10 + 9, none⟩ = some (.slice pz9 nz9 cz9) := by rw [Lib.cell_of_heap hc]; exact hcel 9 (by omega)
                  clear hc hcs hcF hcR hxs hsz hcel hcal
                  go_wp2_with fail
                  refine HCAL.out.mono ?_
                  rintro e w5 ⟨⟨v5, rfl⟩, h5⟩
                  have hS5 : Hid (Spt B w0 w5 ∧ Fr (fun k => B ≤ k ∧ k < w0.heap.size) w4 w5) := ⟨h5.out.1, hS.out.2.trans h5.out.2 (fun i h => Or.inl h)⟩
                  have B5 : Hid (_) := hS5.out.2.heap Xw4.out (fun h => by omega)
                  clear h5 HCAL hS Br r6 a0 a1 a2 a3 a4 a5 a6 a7 a8 a9
                  have r6 : w5.cell? ⟨w.heap.size, 8, none⟩ = some (.slice (some ⟨g, 0, none⟩) ns cs) := by rw [Lib.cell_of_heap B5.out]; rfl
                  obtain ⟨c, hc, hcs, hcF, hcR⟩ := hS5.out.1.row g cur _ hg h0
                  have Hc : Hid (w5.heap[g]? = some (.cells c 29 (0, 0))) := hc
                  have kb2 : k * 10 + 10 ≤ c.size := by omega
                  obtain ⟨xq0, q0⟩ : ∃ x, w5.cell? ⟨g, k * 10, none⟩ = some x := ⟨c[k * 10]'(by omega), by rw [Lib.cell_of_heap Hc.out]; exact Array.getElem?_eq_getElem _⟩
                  have fq0 : w5.frozen? ⟨g, k * 10, none⟩ = false := Lib.frozen_of_heap Hc.out _
                  obtain ⟨xq1, q1⟩ : ∃ x, w5.cell? ⟨g, k * 10 + 1, none⟩ = some x := ⟨c[k * 10 + 1]'(by omega), by rw [Lib.cell_of_heap Hc.out]; exact Array.getElem?_eq_getElem _⟩
                  have fq1 : w5.frozen? ⟨g, k * 10 + 1, none⟩ = false := Lib.frozen_of_heap Hc.out _
                  obtain ⟨xq2, q2⟩ : ∃ x, w5.cell? ⟨g, k * 10 + 2, none⟩ = some x := ⟨c[k * 10 + 2]'(by omega), by rw [Lib.cell_of_heap Hc.out]; exact Array.getElem?_eq_getElem _⟩
                  have fq2 : w5.frozen? ⟨g, k * 10 + 2, none⟩ = false := Lib.frozen_of_heap Hc.out _
                  obtain ⟨xq3, q3⟩ : ∃ x, w5.cell? ⟨g, k * 10 + 3, none⟩ = some x := ⟨c[k * 10 + 3]'(by omega), by rw [Lib.cell_of_heap Hc.out]; exact Array.getElem?_eq_getElem _⟩
                  have fq3 : w5.frozen? ⟨g, k * 10 + 3, none⟩ = false := Lib.frozen_of_heap Hc.out _
                  obtain ⟨xq4, q4⟩ : ∃ x, w5.cell? ⟨g, k * 10 + 4, none⟩ = some x := ⟨c[k * 10 + 4]'(by omega), by rw [Lib.cell_of_heap Hc.out]; exact Array.getElem?_eq_getElem _⟩
                  have fq4 : w5.frozen? ⟨g, k * 10 + 4, none⟩ = false := Lib.frozen_of_heap Hc.out _
                  obtain ⟨xq5, q5⟩ : ∃ x, w5.cell? ⟨g, k * 10 + 5, none⟩ = some x := ⟨c[k * 10 + 5]'(by omega), by rw [Lib.cell_of_heap Hc.out]; exact Array.getElem?_eq_getElem _⟩
                  have fq5 : w5.frozen? ⟨g, k * 10 + 5, none⟩ = false := Lib.frozen_of_heap Hc.out _
                  obtain ⟨xq6, q6⟩ : ∃ x, w5.cell? ⟨g, k * 10 + 6, none⟩ = some x := ⟨c[k * 10 + 6]'(by omega), by rw [Lib.cell_of_heap Hc.out]; exact Array.getElem?_eq_getElem _⟩
                  have fq6 : w5.frozen? ⟨g, k * 10 + 6, none⟩ = false := Lib.frozen_of_heap Hc.out _
                  obtain ⟨xq7, q7⟩ : ∃ x, w5.cell? ⟨g, k * 10 + 7, none⟩ = some x := ⟨c[k * 10 + 7]'(by omega), by rw [Lib.cell_of_heap Hc.out]; exact Array.getElem?_eq_getElem _⟩
                  have fq7 : w5.frozen? ⟨g, k * 10 + 7, none⟩ = false := Lib.frozen_of_heap Hc.out _
                  obtain ⟨xq8, q8⟩ : ∃ x, w5.cell? ⟨g, k * 10 + 8, none⟩ = some x := ⟨c[k * 10 + 8]'(by omega), by rw [Lib.cell_of_heap Hc.out]; exact Array.getElem?_eq_getElem _⟩
                  have fq8 : w5.frozen? ⟨g, k * 10 + 8, none⟩ = false := Lib.frozen_of_heap Hc.out _
                  obtain ⟨xq9, q9⟩ : ∃ x, w5.cell? ⟨g, k * 10 + 9, none⟩ = some x := ⟨c[k * 10 + 9]'(by omega), by rw [Lib.cell_of_heap Hc.out]; exact Array.getElem?_eq_getElem _⟩
                  have fq9 : w5.frozen? ⟨g, k * 10 + 9, none⟩ = false := Lib.frozen_of_heap Hc.out _
                  have HN : Hid (Spt B w0 (putCells w5 g (k * 10) [.int .i64 77, .string ⟨#[]⟩, .int .i64 0, .slice none 0 0, .slice none 0 0, .int .i64 0, .int .i64 0, .bool false, .slice none 0 0, .slice none 0 0]) ∧ Fr (fun k => B ≤ k ∧ k < w0.heap.size) w4 (putCells w5 g (k * 10) [.int .i64 77, .string ⟨#[]⟩, .int .i64 0, .slice none 0 0, .slice none 0 0, .int .i64 0, .int .i64 0, .bool false, .slice none 0 0, .slice none 0 0])) := by
                    have h1 := hS5.out
                    exact ⟨h1.1.putF h0 hg (by omega), put_fr _ _ _ _ _ _ h1.2 ⟨hg, lt_heap h0⟩⟩
                  clear hc hcs hcF hcR Hc hS5 kb kb2 h0
                  go_wp2
                  exact ⟨⟨k + 1, by omega, by go_num, HN⟩, by simp [intOf]; omega⟩
              have hlt' : (k : Int) < nr := by omega
              have k0 : (0 : Int) ≤ k := by omega
              obtain ⟨g, cur, rfl, hg, h0, hsz, hxs⟩ := HR.out k hlt
              obtain ⟨c, hc, hcs, hcF, hcR⟩ := hS.out.1.row g cur _ hg h0
              have kb : k * 3 + 3 ≤ cur.size := by have : (k + 1) * 3 ≤ nr * 3 := Nat.mul_le_mul_right _ hlt; omega
              obtain ⟨p1, n1, c1, hC1, hn1, hcc1, hX1⟩ : ∃ (p1 : Option Addr) (n1 c1 : Nat), c[k * 3 + 1]? = some (.slice p1 n1 c1) ∧ n1 ≤ 9223372036854775807 ∧ n1 ≤ c1 ∧ ∀ i, i < n1 → ∃ g cur, p1 = some ⟨g, 0, none⟩ ∧ B ≤ g ∧ w0.heap[g]? = some (.cells cur 29 (0, 0)) ∧ n1 * 10 ≤ cur.size := by
                rcases hcR rfl k with hh | hh
                · have kx : k < psr.length := by have h1 := HER.out; have h2 := enr.out; have := congrArg List.length h1; simp at this; omega
                  have h1 := hh 1 (by omega)
                  rw [hxs (k * 3 + 1) (by omega), flatR_get psr k 1 kx (by omega)] at h1
                  have h2 := HRT.out psr[k] (List.getElem_mem kx)
                  obtain ⟨pz, ez, hlz, rowz, plz, -, -, -, -⟩ := h2
                  obtain ⟨p1, c1, e1, hcz, hz⟩ := rowS_form (B := B) rowz plz
                  refine ⟨p1, _, c1, ?_, hlz, hcz, fun i hi => ?_⟩
                  · rw [h1, ← e1]; rfl
                  · obtain ⟨g, cur, x1, x2, x3, x4, -⟩ := hz i hi
                    exact ⟨g, cur, x1, x2, x3, x4⟩
                · exact ⟨none, 0, 0, hh 1 (by omega), by omega, by omega, fun i hi => by omega⟩
              have HC1 : Hid (wr.cell? ⟨g, k * 3 + 1, none⟩ = some (.slice p1 n1 c1)) := by rw [Lib.cell_of_heap hc]; exact hC1
              have HX1 : Hid (∀ i, i < n1 → ∃ g cur, p1 = some ⟨g, 0, none⟩ ∧ B ≤ g ∧ w0.heap[g]? = some (.cells cur 29 (0, 0)) ∧ n1 * 10 ≤ cur.size) := hX1
              clear hc hcs hcF hcR hxs hsz hC1 hX1
              go_wp2
              go_loopw [5] (fun v wx => ∃ k2 : Nat, k2 ≤ n1 ∧ v = .int .i64 k2 ∧ Hid (Spt B w0 wx ∧ Fr (fun k => B ≤ k ∧ k < w0.heap.size) w3 wx) ∧ Hid (wx.cell? ⟨g, k * 3 + 1, none⟩ = some (.slice p1 n1 c1))) (fun v _ => n1 - (intOf v).toNat)
              case atStart => exact ⟨0, Nat.zero_le _, rfl, hS, HC1⟩
              case round =>
                clear Br r6
                obtain ⟨k2, hk2, rfl, hS2, hC2⟩ := hrel
                have Br : Hid (_) := hS2.out.2.heap Xw3.out (fun h => by omega)
                have r6 : wr.cell? ⟨w.heap.size, 9, none⟩ = some (.slice (some ⟨g, 0, none⟩) nr cr) := by rw [Lib.cell_of_heap Br.out]; rfl
                have q1 : wr.cell? ⟨g, k * 3 + 1, none⟩ = some (.slice p1 n1 c1) := hC2.out
                by_cases hlt2 : k2 < n1
                case neg =>
                  have c3 : ¬ (k2 : Int) < n1 := by omega
                  obtain ⟨c, hc, hcs, hcF, hcR⟩ := hS2.out.1.row g cur _ hg h0
                  have Hc : Hid (wr.heap[g]? = some (.cells c 76 (0, 0))) := hc
                  have kb2 : k * 3 + 3 ≤ c.size := by omega
                  obtain ⟨xr0, q0⟩ : ∃ x, wr.cell? ⟨g, k * 3, none⟩ = some x := ⟨c[k * 3]'(by omega), by rw [Lib.cell_of_heap Hc.out]; exact Array.getElem?_eq_getElem _⟩
                  have fq0 : wr.frozen? ⟨g, k * 3, none⟩ = false := Lib.frozen_of_heap Hc.out _
                  have fq1 : wr.frozen? ⟨g, k * 3 + 1, none⟩ = false := Lib.frozen_of_heap Hc.out _
                  obtain ⟨xr2, q2⟩ : ∃ x, wr.cell? ⟨g, k * 3 + 2, none⟩ = some x := ⟨c[k * 3 + 2]'(by omega), by rw [Lib.cell_of_heap Hc.out]; exact Array.getElem?_eq_getElem _⟩
                  have fq2 : wr.frozen? ⟨g, k * 3 + 2, none⟩ = false := Lib.frozen_of_heap Hc.out _
                  have HN : Hid (Spt B w0 (putCells wr g (k * 3) [.int .i64 77, .slice none 0 0, .slice none 0 0]) ∧ Fr (fun k => B ≤ k ∧ k < w0.heap.size) w3 (putCells wr g (k * 3) [.int .i64 77, .slice none 0 0, .slice none 0 0])) := by
                    have h1 := hS2.out
                    exact ⟨h1.1.putR h0 hg (by omega), put_fr _ _ _ _ _ _ h1.2 ⟨hg, lt_heap h0⟩⟩
                  clear hc hcs hcF hcR Hc hS2 kb2 h0 hC2 hS HC1 HX1
                  go_wp2
                  exact ⟨⟨k + 1, by omega, by go_num, HN⟩, by simp [intOf]; omega⟩
                have hlt3 : (k2 : Int) < n1 := by omega
                have k20 : (0 : Int) ≤ k2 := by omega
                obtain ⟨g2, cur2, rfl, hg2, h02, hsz2⟩ := HX1.out k2 hlt2
                obtain ⟨c, hc, hcs, hcF, hcR⟩ := hS2.out.1.row g2 cur2 _ hg2 h02
                have Hc : Hid (wr.heap[g2]? = some (.cells c 29 (0, 0))) := hc
                have kb3 : k2 * 10 + 10 ≤ cur2.size := by have : (k2 + 1) * 10 ≤ n1 * 10 := Nat.mul_le_mul_right _ hlt2; omega
                have kb4 : k2 * 10 + 10 ≤ c.size := by omega
                obtain ⟨xp0, p0⟩ : ∃ x, wr.cell? ⟨g2, k2 * 10, none⟩ = some x := ⟨c[k2 * 10]'(by omega), by rw [Lib.cell_of_heap Hc.out]; exact Array.getElem?_eq_getElem _⟩
                have fp0 : wr.frozen? ⟨g2, k2 * 10, none⟩ = false := Lib.frozen_of_heap Hc.out _
                obtain ⟨xp1, pp1⟩ : ∃ x, wr.cell? ⟨g2, k2 * 10 + 1, none⟩ = some x := ⟨c[k2 * 10 + 1]'(by omega), by rw [Lib.cell_of_heap Hc.out]; exact Array.getElem?_eq_getElem _⟩
                have fp1 : wr.frozen? ⟨g2, k2 * 10 + 1, none⟩ = false := Lib.frozen_of_heap Hc.out _
                obtain ⟨xp2, p2⟩ : ∃ x, wr.cell? ⟨g2, k2 * 10 + 2, none⟩ = some x := ⟨c[k2 * 10 + 2]'(by omega), by rw [Lib.cell_of_heap Hc.out]; exact Array.getElem?_eq_getElem _⟩
                have fp2 : wr.frozen? ⟨g2, k2 * 10 + 2, none⟩ = false := Lib.frozen_of_heap Hc.out _
                obtain ⟨xp3, p3⟩ : ∃ x, wr.cell? ⟨g2, k2 * 10 + 3, none⟩ = some x := ⟨c[k2 * 10 + 3]'(by omega), by rw [Lib.cell_of_heap Hc.out]; exact Array.getElem?_eq_getElem _⟩
                have fp3 : wr.frozen? ⟨g2, k2 * 10 + 3, none⟩ = false := Lib.frozen_of_heap Hc.out _
                obtain ⟨xp4, p4⟩ : ∃ x, wr.cell? ⟨g2, k2 * 10 + 4, none⟩ = some x := ⟨c[k2 * 10 + 4]'(by omega), by rw [Lib.cell_of_heap Hc.out]; exact Array.getElem?_eq_getElem _⟩
                have fp4 : wr.frozen? ⟨g2, k2 * 10 + 4, none⟩ = false := Lib.frozen_of_heap Hc.out _
                obtain ⟨xp5, p5⟩ : ∃ x, wr.cell? ⟨g2, k2 * 10 + 5, none⟩ = some x := ⟨c[k2 * 10 + 5]'(by omega), by rw [Lib.cell_of_heap Hc.out]; exact Array.getElem?_eq_getElem _⟩
                have fp5 : wr.frozen? ⟨g2, k2 * 10 + 5, none⟩ = false := Lib.frozen_of_heap Hc.out _
                obtain ⟨xp6, p6⟩ : ∃ x, wr.cell? ⟨g2, k2 * 10 + 6, none⟩ = some x := ⟨c[k2 * 10 + 6]'(by omega), by rw [Lib.cell_of_heap Hc.out]; exact Array.getElem?_eq_getElem _⟩
                have fp6 : wr.frozen? ⟨g2, k2 * 10 + 6, none⟩ = false := Lib.frozen_of_heap Hc.out _
                obtain ⟨xp7, p7⟩ : ∃ x, wr.cell? ⟨g2, k2 * 10 + 7, none⟩ = some x := ⟨c[k2 * 10 + 7]'(by omega), by rw [Lib.cell_of_heap Hc.out]; exact Array.getElem?_eq_getElem _⟩
                have fp7 : wr.frozen? ⟨g2, k2 * 10 + 7, none⟩ = false := Lib.frozen_of_heap Hc.out _
                obtain ⟨xp8, p8⟩ : ∃ x, wr.cell? ⟨g2, k2 * 10 + 8, none⟩ = some x := ⟨c[k2 * 10 + 8]'(by omega), by rw [Lib.cell_of_heap Hc.out]; exact Array.getElem?_eq_getElem _⟩
                have fp8 : wr.frozen? ⟨g2, k2 * 10 + 8, none⟩ = false := Lib.frozen_of_heap Hc.out _
                obtain ⟨xp9, p9⟩ : ∃ x, wr.cell? ⟨g2, k2 * 10 + 9, none⟩ = some x := ⟨c[k2 * 10 + 9]'(by omega), by rw [Lib.cell_of_heap Hc.out]; exact Array.getElem?_eq_getElem _⟩
                have fp9 : wr.frozen? ⟨g2, k2 * 10 + 9, none⟩ = false := Lib.frozen_of_heap Hc.out _
                have hgg : g ≠ g2 := fun e => by
                  subst e
                  rw [h0] at h02
                  injection h02 with h02
                  injection h02 with _ h02
                  exact absurd h02 (by decide)
                have HN : Hid (Spt B w0 (putCells wr g2 (k2 * 10) [.int .i64 77, .string ⟨#[]⟩, .int .i64 0, .slice none 0 0, .slice none 0 0, .int .i64 0, .int .i64 0, .bool false, .slice none 0 0, .slice none 0 0]) ∧ Fr (fun k => B ≤ k ∧ k < w0.heap.size) w3 (putCells wr g2 (k2 * 10) [.int .i64 77, .string ⟨#[]⟩, .int .i64 0, .slice none 0 0, .slice none 0 0, .int .i64 0, .int .i64 0, .bool false, .slice none 0 0, .slice none 0 0])) := by
                  have h1 := hS2.out
                  exact ⟨h1.1.putF h02 hg2 (by omega), put_fr _ _ _ _ _ _ h1.2 ⟨hg2, lt_heap h02⟩⟩
                have HN2 : Hid ((putCells wr g2 (k2 * 10) [.int .i64 77, .string ⟨#[]⟩, .int .i64 0, .slice none 0 0, .slice none 0 0, .int .i64 0, .int .i64 0, .bool false, .slice none 0 0, .slice none 0 0]).cell? ⟨g, k * 3 + 1, none⟩ = some (.slice (some ⟨g2, 0, none⟩) n1 c1)) := (World.cell?_of_block (put_other _ _ _ _ g hgg)).trans hC2.out
                clear hc hcs hcF hcR hsz2 Hc hS2 kb3 kb4 h02 hC2 hS HC1 HX1 h0
                go_wp2
                exact ⟨⟨k2 + 1, by omega, by go_num, HN, HN2⟩, by simp [intOf]; omega⟩
          have hlt' : (k : Int) < nt := by omega
          have k0 : (0 : Int) ≤ k := by omega
          obtain ⟨g, cur, rfl, hg, h0, hsz, hxs⟩ := HT.out k hlt
          obtain ⟨c, hc, hcs, hcF, hcR⟩ := hS.out.1.row g cur _ hg h0
          have Hc : Hid (wr.heap[g]? = some (.cells c 39 (0, 0))) := hc
          have kb : k * 7 + 7 ≤ cur.size := by have : (k + 1) * 7 ≤ nt * 7 := Nat.mul_le_mul_right _ hlt; omega
          have kb2 : k * 7 + 7 ≤ c.size := by omega
          obtain ⟨xq0, q0⟩ : ∃ x, wr.cell? ⟨g, k * 7, none⟩ = some x := ⟨c[k * 7]'(by omega), by rw [Lib.cell_of_heap Hc.out]; exact Array.getElem?_eq_getElem _⟩
          have fq0 : wr.frozen? ⟨g, k * 7, none⟩ = false := Lib.frozen_of_heap Hc.out _
          obtain ⟨xq1, q1⟩ : ∃ x, wr.cell? ⟨g, k * 7 + 1, none⟩ = some x := ⟨c[k * 7 + 1]'(by omega), by rw [Lib.cell_of_heap Hc.out]; exact Array.getElem?_eq_getElem _⟩
          have fq1 : wr.frozen? ⟨g, k * 7 + 1, none⟩ = false := Lib.frozen_of_heap Hc.out _
          obtain ⟨xq2, q2⟩ : ∃ x, wr.cell? ⟨g, k * 7 + 2, none⟩ = some x := ⟨c[k * 7 + 2]'(by omega), by rw [Lib.cell_of_heap Hc.out]; exact Array.getElem?_eq_getElem _⟩
          have fq2 : wr.frozen? ⟨g, k * 7 + 2, none⟩ = false := Lib.frozen_of_heap Hc.out _
          obtain ⟨xq3, q3⟩ : ∃ x, wr.cell? ⟨g, k * 7 + 3, none⟩ = some x := ⟨c[k * 7 + 3]'(by omega), by rw [Lib.cell_of_heap Hc.out]; exact Array.getElem?_eq_getElem _⟩
          have fq3 : wr.frozen? ⟨g, k * 7 + 3, none⟩ = false := Lib.frozen_of_heap Hc.out _
          obtain ⟨xq4, q4⟩ : ∃ x, wr.cell? ⟨g, k * 7 + 4, none⟩ = some x := ⟨c[k * 7 + 4]'(by omega), by rw [Lib.cell_of_heap Hc.out]; exact Array.getElem?_eq_getElem _⟩
          have fq4 : wr.frozen? ⟨g, k * 7 + 4, none⟩ = false := Lib.frozen_of_heap Hc.out _
          obtain ⟨xq5, q5⟩ : ∃ x, wr.cell? ⟨g, k * 7 + 5, none⟩ = some x := ⟨c[k * 7 + 5]'(by omega), by rw [Lib.cell_of_heap Hc.out]; exact Array.getElem?_eq_getElem _⟩
          have fq5 : wr.frozen? ⟨g, k * 7 + 5, none⟩ = false := Lib.frozen_of_heap Hc.out _
          obtain ⟨xq6, q6⟩ : ∃ x, wr.cell? ⟨g, k * 7 + 6, none⟩ = some x := ⟨c[k * 7 + 6]'(by omega), by rw [Lib.cell_of_heap Hc.out]; exact Array.getElem?_eq_getElem _⟩
          have fq6 : wr.frozen? ⟨g, k * 7 + 6, none⟩ = false := Lib.frozen_of_heap Hc.out _
          have HN : Hid (Spt B w0 (putCells wr g (k * 7) [.int .i64 77, .string ⟨#[]⟩, .int .i64 0, .int .i64 0, .int .i64 0, .string ⟨#[]⟩, .slice none 0 0]) ∧ Fr (fun k => B ≤ k ∧ k < w0.heap.size) w2 (putCells wr g (k * 7) [.int .i64 77, .string ⟨#[]⟩, .int .i64 0, .int .i64 0, .int .i64 0, .string ⟨#[]⟩, .slice none 0 0])) := by
            have h1 := hS.out
            exact ⟨h1.1.put1 h0 hg (by decide) (by decide), put_fr _ _ _ _ _ _ h1.2 ⟨hg, lt_heap h0⟩⟩
          clear hc hcs hcF hcR hxs hsz Hc hS kb kb2 h0
          go_wp2
          exact ⟨⟨k + 1, by omega, by go_num, HN⟩, by simp [intOf]; omega⟩
      have hlt' : (k : Int) < nv := by omega
      have k0 : (0 : Int) ≤ k := by omega
      obtain ⟨g, cur, rfl, hg, h0, hsz, hxs⟩ := HV.out k hlt
      obtain ⟨c, hc, hcs, hcF, hcR⟩ := hS.out.1.row g cur _ hg h0
      have Hc : Hid (wr.heap[g]? = some (.cells c 9 (0, 0))) := hc
      have kb : k * 1 + 1 ≤ cur.size := by have : (k + 1) * 1 ≤ nv * 1 := Nat.mul_le_mul_right _ hlt; omega
      have kb2 : k * 1 + 1 ≤ c.size := by omega
      obtain ⟨xq0, q0⟩ : ∃ x, wr.cell? ⟨g, k, none⟩ = some x := ⟨c[k]'(by omega), by rw [Lib.cell_of_heap Hc.out]; exact Array.getElem?_eq_getElem _⟩
      have fq0 : wr.frozen? ⟨g, k, none⟩ = false := Lib.frozen_of_heap Hc.out _
      have HN : Hid (Spt B w0 (putCells wr g (k) [.string ⟨#[64]⟩]) ∧ Fr (fun k => B ≤ k ∧ k < w0.heap.size) w1 (putCells wr g (k) [.string ⟨#[64]⟩])) := by
        have h1 := hS.out
        exact ⟨h1.1.put1 h0 hg (by decide) (by decide), put_fr _ _ _ _ _ _ h1.2 ⟨hg, lt_heap h0⟩⟩
      clear hc hcs hcF hcR hxs hsz Hc hS kb kb2 h0
      go_wp2
      exact ⟨⟨k + 1, by omega, by go_num, HN⟩, by simp [intOf]; omega⟩
end Go.Proofs.YtfajjphfjilpnaaGreat

namespace Go.Proofs.YtfajjphfjilpnaaGreat
open Go.RowKit LX Go.Shelf
set_option linter.unusedVariables false

theorem bytes_eq {x y : ByteArray} : (x.toList == y.toList) = decide (x = y) := by
  rw [ByteArray.toList_eq, ByteArray.toList_eq]
  by_cases h : x = y
  · subst h; simp
  · rw [decide_eq_false h]
    have : x.data.toList ≠ y.data.toList := fun e => h (by
      obtain ⟨⟨a⟩⟩ := x
      obtain ⟨⟨b⟩⟩ := y
      simp at e
      subst e
      rfl)
    simpa using this
theorem keepc7 {W0 W : World} {b b' o o' : Nat} {u0 u1 u2 u3 u4 u5 u6 v0 v1 v2 v3 v4 v5 v6 : Value} (h : Below W0.heap.size W0 W) (hx : b < W0.heap.size) (hy : b' < W0.heap.size) (hs : W0.cell? ⟨b, o, none⟩ = some u0 ∧ W0.cell? ⟨b, o + 1, none⟩ = some u1 ∧ W0.cell? ⟨b, o + 2, none⟩ = some u2 ∧ W0.cell? ⟨b, o + 3, none⟩ = some u3 ∧ W0.cell? ⟨b, o + 4, none⟩ = some u4 ∧ W0.cell? ⟨b, o + 5, none⟩ = some u5 ∧ W0.cell? ⟨b, o + 6, none⟩ = some u6 ∧ W0.cell? ⟨b', o', none⟩ = some v0 ∧ W0.cell? ⟨b', o' + 1, none⟩ = some v1 ∧ W0.cell? ⟨b', o' + 2, none⟩ = some v2 ∧ W0.cell? ⟨b', o' + 3, none⟩ = some v3 ∧ W0.cell? ⟨b', o' + 4, none⟩ = some v4 ∧ W0.cell? ⟨b', o' + 5, none⟩ = some v5 ∧ W0.cell? ⟨b', o' + 6, none⟩ = some v6) : W.cell? ⟨b, o, none⟩ = some u0 ∧ W.cell? ⟨b, o + 1, none⟩ = some u1 ∧ W.cell? ⟨b, o + 2, none⟩ = some u2 ∧ W.cell? ⟨b, o + 3, none⟩ = some u3 ∧ W.cell? ⟨b, o + 4, none⟩ = some u4 ∧ W.cell? ⟨b, o + 5, none⟩ = some u5 ∧ W.cell? ⟨b, o + 6, none⟩ = some u6 ∧ W.cell? ⟨b', o', none⟩ = some v0 ∧ W.cell? ⟨b', o' + 1, none⟩ = some v1 ∧ W.cell? ⟨b', o' + 2, none⟩ = some v2 ∧ W.cell? ⟨b', o' + 3, none⟩ = some v3 ∧ W.cell? ⟨b', o' + 4, none⟩ = some v4 ∧ W.cell? ⟨b', o' + 5, none⟩ = some v5 ∧ W.cell? ⟨b', o' + 6, none⟩ = some v6 := by
  obtain ⟨a0, a1, a2, a3, a4, a5, a6, a7, a8, a9, a10, a11, a12, a13⟩ := hs
  exact ⟨bclL h a0 hx, bclL h a1 hx, bclL h a2 hx, bclL h a3 hx, bclL h a4 hx, bclL h a5 hx, bclL h a6 hx, bclL h a7 hy, bclL h a8 hy, bclL h a9 hy, bclL h a10 hy, bclL h a11 hy, bclL h a12 hy, bclL h a13 hy⟩
theorem keepc10 {W0 W : World} {b b' o o' : Nat} {u0 u1 u2 u3 u4 u5 u6 u7 u8 u9 v0 v1 v2 v3 v4 v5 v6 v7 v8 v9 : Value} (h : Below W0.heap.size W0 W) (hx : b < W0.heap.size) (hy : b' < W0.heap.size) (hs : W0.cell? ⟨b, o, none⟩ = some u0 ∧ W0.cell? ⟨b, o + 1, none⟩ = some u1 ∧ W0.cell? ⟨b, o + 2, none⟩ = some u2 ∧ W0.cell? ⟨b, o + 3, none⟩ = some u3 ∧ W0.cell? ⟨b, o + 4, none⟩ = some u4 ∧ W0.cell? ⟨b, o + 5, none⟩ = some u5 ∧ W0.cell? ⟨b, o + 6, none⟩ = some u6 ∧ W0.cell? ⟨b, o + 7, none⟩ = some u7 ∧ W0.cell? ⟨b, o + 8, none⟩ = some u8 ∧ W0.cell? ⟨b, o + 9, none⟩ = some u9 ∧ W0.cell? ⟨b', o', none⟩ = some v0 ∧ W0.cell? ⟨b', o' + 1, none⟩ = some v1 ∧ W0.cell? ⟨b', o' + 2, none⟩ = some v2 ∧ W0.cell? ⟨b', o' + 3, none⟩ = some v3 ∧ W0.cell? ⟨b', o' + 4, none⟩ = some v4 ∧ W0.cell? ⟨b', o' + 5, none⟩ = some v5 ∧ W0.cell? ⟨b', o' + 6, none⟩ = some v6 ∧ W0.cell? ⟨b', o' + 7, none⟩ = some v7 ∧ W0.cell? ⟨b', o' + 8, none⟩ = some v8 ∧ W0.cell? ⟨b', o' + 9, none⟩ = some v9) : W.cell? ⟨b, o, none⟩ = some u0 ∧ W.cell? ⟨b, o + 1, none⟩ = some u1 ∧ W.cell? ⟨b, o + 2, none⟩ = some u2 ∧ W.cell? ⟨b, o + 3, none⟩ = some u3 ∧ W.cell? ⟨b, o + 4, none⟩ = some u4 ∧ W.cell? ⟨b, o + 5, none⟩ = some u5 ∧ W.cell? ⟨b, o + 6, none⟩ = some u6 ∧ W.cell? ⟨b, o + 7, none⟩ = some u7 ∧ W.cell? ⟨b, o + 8, none⟩ = some u8 ∧ W.cell? ⟨b, o + 9, none⟩ = some u9 ∧ W.cell? ⟨b', o', none⟩ = some v0 ∧ W.cell? ⟨b', o' + 1, none⟩ = some v1 ∧ W.cell? ⟨b', o' + 2, none⟩ = some v2 ∧ W.cell? ⟨b', o' + 3, none⟩ = some v3 ∧ W.cell? ⟨b', o' + 4, none⟩ = some v4 ∧ W.cell? ⟨b', o' + 5, none⟩ = some v5 ∧ W.cell? ⟨b', o' + 6, none⟩ = some v6 ∧ W.cell? ⟨b', o' + 7, none⟩ = some v7 ∧ W.cell? ⟨b', o' + 8, none⟩ = some v8 ∧ W.cell? ⟨b', o' + 9, none⟩ = some v9 := by
  obtain ⟨a0, a1, a2, a3, a4, a5, a6, a7, a8, a9, a10, a11, a12, a13, a14, a15, a16, a17, a18, a19⟩ := hs
  exact ⟨bclL h a0 hx, bclL h a1 hx, bclL h a2 hx, bclL h a3 hx, bclL h a4 hx, bclL h a5 hx, bclL h a6 hx, bclL h a7 hx, bclL h a8 hx, bclL h a9 hx, bclL h a10 hy, bclL h a11 hy, bclL h a12 hy, bclL h a13 hy, bclL h a14 hy, bclL h a15 hy, bclL h a16 hy, bclL h a17 hy, bclL h a18 hy, bclL h a19 hy⟩
/-- Name by name. -/
def nmS : List ByteArray → List ByteArray → Bool
  | [], [] => true
  | [], _ :: _ => false
  | _ :: _, [] => false
  | x :: l, y :: m => (x.toList == y.toList) && nmS l m
theorem nmS_eq : ∀ xs ys : List ByteArray, nmS xs ys = decide (xs = ys)
  | [], [] => rfl
  | [], _ :: _ => rfl
  | _ :: _, [] => rfl
  | x :: l, y :: m => by
    rw [nmS, bytes_eq, nmS_eq l m]
    by_cases h1 : x = y <;> by_cases h2 : l = m <;> simp [h1, h2]
theorem nmS_len {xs ys : List ByteArray} (h : xs.length ≠ ys.length) : nmS xs ys = false := by
  rw [nmS_eq]
  exact decide_eq_false (fun e => h (by rw [e]))

set_option maxRecDepth 100000 in
set_option maxHeartbeats 4000000 in
theorem rnms_any (A B : Value) (xs ys : List ByteArray) (w : World) (hA : NmsAt w A xs) (hB : NmsAt w B ys) : Calls Tryz.prog 32 #[A, B] w fun e w' => e = .returned (.bool (decide (xs = ys))) ∧ Below w.heap.size w w' := by
  rw [← nmS_eq]
  obtain ⟨p, c, rfl, lx, hc, HX0⟩ := hA.form
  obtain ⟨p', c', rfl, ly, hc', HY0⟩ := hB.form
  by_cases hl : xs.length = ys.length
  case neg =>
    have h2 : ((xs.length : Int) == ys.length) = false := by simp; omega
    have HS : Hid (nmS xs ys = false) := nmS_len hl
    clear HX0 HY0 hA hB
    generalize xs.length = n at *
    generalize ys.length = m at *
    go_enter Tryz.func32, Tryz.ntmps32
    go_wp2
    go_ret
    exact ⟨ret_bool HS.out.symm, by go_grown⟩
  have HX : Hid (∀ i (hi : i < xs.length), ∃ b off, p = some ⟨b, off, none⟩ ∧ b < w.heap.size ∧ w.cell? ⟨b, off + i, none⟩ = some (.string xs[i])) := HX0
  have HY : Hid (∀ i (hi : i < ys.length), ∃ b off, p' = some ⟨b, off, none⟩ ∧ b < w.heap.size ∧ w.cell? ⟨b, off + i, none⟩ = some (.string ys[i])) := HY0
  obtain ⟨n, en⟩ : ∃ n : Nat, Hid (xs.length = n) := ⟨_, rfl⟩
  have em : Hid (ys.length = n) := hl.symm.trans en.out
  rw [en.out] at lx hc ⊢
  rw [em.out] at hc' ⊢
  clear HX0 HY0 hA hB ly hl
  go_enter Tryz.func32, Tryz.ntmps32
  go_wp2
  go_loopw [5] (fun i wr => ∃ k : Nat, k ≤ n ∧ i = .int .i64 k ∧ Hid (nmS xs ys = nmS (xs.drop k) (ys.drop k)) ∧ Below w.heap.size w wr) (fun i _ => n - (intOf i).toNat)
  case atStart => exact ⟨0, Nat.zero_le _, rfl, (show nmS xs ys = nmS (xs.drop 0) (ys.drop 0) by simp), Below.refl _ _⟩
  case round =>
    obtain ⟨k, hk, rfl, hr, hB⟩ := hrel
    by_cases hlt : k < n
    case neg =>
      have c2 : ¬ (k : Int) < n := by omega
      have hr3 : Hid (nmS xs ys = true) := by
        have h := hr.out
        rw [List.drop_eq_nil_of_le (by have := en.out; omega), List.drop_eq_nil_of_le (by have := em.out; omega)] at h
        exact h
      go_wp2
      go_ret
      exact ⟨ret_bool hr3.out.symm, hB⟩
    have hlt' : (k : Int) < n := by omega
    have kx : k < xs.length := by have := en.out; omega
    have ky : k < ys.length := by have := em.out; omega
    obtain ⟨b, off, rfl, hb, a0⟩ := HX.out k kx
    obtain ⟨b', off', rfl, hb', b0⟩ := HY.out k ky
    have a1 := (hB.cell (p := ⟨b, off + k, none⟩) hb).trans a0
    have b1 := (hB.cell (p := ⟨b', off' + k, none⟩) hb').trans b0
    have hr2 : Hid (nmS xs ys = ((xs[k].toList == ys[k].toList) && nmS (xs.drop (k + 1)) (ys.drop (k + 1)))) := by
      have h := hr.out
      rw [List.drop_eq_getElem_cons kx, List.drop_eq_getElem_cons ky, nmS] at h
      exact h
    clear a0 b0 hr
    generalize xs[k] = X at *
    generalize ys[k] = Y at *
    by_cases he : (X.toList == Y.toList) = true
    · have hne : (!X.toList == Y.toList) = false := by simp [he]
      have hr3 : Hid (nmS xs ys = nmS (xs.drop (k + 1)) (ys.drop (k + 1))) := by have h := hr2.out; rw [he, Bool.true_and] at h; exact h
      clear hr2
      go_upto_region 6 with fail
      go_quiet (fail)
      go_wp2
      exact ⟨⟨k + 1, by omega, by go_num, hr3, bdrewA _ hB⟩, by simp [intOf]; omega⟩
    · have he' : (X.toList == Y.toList) = false := by simpa using he
      have hne : (!X.toList == Y.toList) = true := by simp [he']
      have hr3 : Hid (nmS xs ys = false) := by have h := hr2.out; rw [he', Bool.false_and] at h; exact h
      clear hr2 he
      go_upto_region 6 with fail
      go_quiet (fail)
      go_wp2
      go_ret
      exact ⟨ret_bool hr3.out.symm, bdrewA _ hB⟩

set_option maxRecDepth 100000 in
set_option maxHeartbeats 8000000 in
theorem rsamet_step (x y : Tm) (u v : Value) (w : World) (hu : TmsAt w u x.subs) (hv : TmsAt w v y.subs) (IH : ∀ W : World, Below w.heap.size w W → Calls Tryz.prog 33 #[u, v] W fun e w' => e = .returned (.bool (sameTs x.subs y.subs)) ∧ Below W.heap.size W w') :
    Calls Tryz.prog 60 #[.agg #[.int .i64 x.k, .string x.nm, .int .i64 x.v.k, .int .i64 x.v.n, .int .i64 x.v.d, .string x.v.s, u], .agg #[.int .i64 y.k, .string y.nm, .int .i64 y.v.k, .int .i64 y.v.n, .int .i64 y.v.d, .string y.v.s, v]] w fun e w' => e = .returned (.bool (sameT x y)) ∧ Below w.heap.size w w' := by
  have cV : Hid (∀ W : World, Calls Tryz.prog 84 #[.agg #[.int .i64 x.v.k, .int .i64 x.v.n, .int .i64 x.v.d, .string x.v.s], .agg #[.int .i64 y.v.k, .int .i64 y.v.n, .int .i64 y.v.d, .string y.v.s]] W fun e w' => e = .returned (.bool (x.v.same y.v)) ∧ Below W.heap.size W w') := fun W => rsame_any x.v.k x.v.n x.v.d x.v.s y.v.k y.v.n y.v.d y.v.s W
  have cI : Hid (∀ W : World, Below w.heap.size w W → Calls Tryz.prog 33 #[u, v] W fun e w' => e = .returned (.bool (sameTs x.subs y.subs)) ∧ Below W.heap.size W w') := IH
  have hE : Hid (sameT x y = ((x.k == y.k) && ((x.nm.toList == y.nm.toList) && (x.v.same y.v && sameTs x.subs y.subs)))) := sameT_eq x y
  obtain ⟨pu, cu, rfl, -⟩ := hu.form
  obtain ⟨pv, cv, rfl, -⟩ := hv.form
  clear hu hv IH
  generalize sameT x y = R at *
  generalize sameTs x.subs y.subs = D at *
  generalize x.v.same y.v = C at *
  generalize x.k = xg_k at *
  generalize y.k = yg_k at *
  generalize x.nm = xg_nm at *
  generalize y.nm = yg_nm at *
  generalize x.v.k = xg_vk at *
  generalize y.v.k = yg_vk at *
  generalize x.v.n = xg_vn at *
  generalize y.v.n = yg_vn at *
  generalize x.v.d = xg_vd at *
  generalize y.v.d = yg_vd at *
  generalize x.v.s = xg_vs at *
  generalize y.v.s = yg_vs at *
  generalize x.subs.length = xg_subslength at *
  generalize y.subs.length = yg_subslength at *
  go_enter Tryz.func60, Tryz.ntmps60
  go_wp2_with fail
  refine (cV.out _).mono ?_
  rintro e w1 ⟨rfl, hw1⟩
  obtain ⟨hB1, hn1⟩ := bgX (n := w.heap.size) (W0 := w) (by go_grown) (by go_size) hw1
  have e0 : w1.cell? ⟨w.heap.size, 0, none⟩ = some (.int .i64 xg_k) := (hw1.cell (p := ⟨w.heap.size, 0, none⟩) (by first | (simp; done) | (simp; omega))).trans (by simp [go_sem])
  have e1 : w1.cell? ⟨w.heap.size, 1, none⟩ = some (.string xg_nm) := (hw1.cell (p := ⟨w.heap.size, 1, none⟩) (by first | (simp; done) | (simp; omega))).trans (by simp [go_sem])
  have e6 : w1.cell? ⟨w.heap.size, 6, none⟩ = some (.slice pu xg_subslength cu) := (hw1.cell (p := ⟨w.heap.size, 6, none⟩) (by first | (simp; done) | (simp; omega))).trans (by simp [go_sem])
  have g0 : w1.cell? ⟨w.heap.size + 1, 0, none⟩ = some (.int .i64 yg_k) := (hw1.cell (p := ⟨w.heap.size + 1, 0, none⟩) (by first | (simp; done) | (simp; omega))).trans (by simp [go_sem])
  have g1 : w1.cell? ⟨w.heap.size + 1, 1, none⟩ = some (.string yg_nm) := (hw1.cell (p := ⟨w.heap.size + 1, 1, none⟩) (by first | (simp; done) | (simp; omega))).trans (by simp [go_sem])
  have g6 : w1.cell? ⟨w.heap.size + 1, 6, none⟩ = some (.slice pv yg_subslength cv) := (hw1.cell (p := ⟨w.heap.size + 1, 6, none⟩) (by first | (simp; done) | (simp; omega))).trans (by simp [go_sem])
  clear hw1 cV
  by_cases h1 : (xg_k == yg_k) = true
  case neg =>
    have h1' : (xg_k == yg_k) = false := by simpa using h1
    have hR : Hid (R = false) := by have h := hE.out; rw [h1'] at h; simp at h; exact h
    clear h1
    go_wp2
    go_ret
    exact ⟨ret_bool hR.out.symm, hB1⟩
  by_cases h2 : (xg_nm.toList == yg_nm.toList) = true
  case neg =>
    have h2' : (xg_nm.toList == yg_nm.toList) = false := by simpa using h2
    have hR : Hid (R = false) := by have h := hE.out; rw [h2'] at h; simp at h; exact h
    clear h2
    go_wp2
    go_ret
    exact ⟨ret_bool hR.out.symm, hB1⟩
  cases C with
  | false =>
    have hR : Hid (R = false) := by have h := hE.out; simp at h; exact h
    go_wp2
    go_ret
    exact ⟨ret_bool hR.out.symm, hB1⟩
  | true =>
    have hR : Hid (R = D) := by have h := hE.out; rw [h1, h2] at h; simp at h; exact h
    go_wp2_with fail
    refine (cI.out _ hB1).mono ?_
    rintro e w2 ⟨rfl, hw2⟩
    have hB2 : Below w.heap.size w w2 := hB1.trans (hw2.mono hn1)
    clear hw2 cI e0 e1 e6 g0 g1 g6
    cases D with
    | false =>
      go_wp2
      go_ret
      exact ⟨ret_bool hR.out.symm, hB2⟩
    | true =>
      go_wp2
      go_ret
      exact ⟨ret_bool hR.out.symm, hB2⟩

set_option maxRecDepth 100000 in
set_option maxHeartbeats 8000000 in
theorem rsameTs_step (A B : Value) (xs ys : List Tm) (w : World) (hA : TmsAt w A xs) (hB : TmsAt w B ys) (HC : ∀ i (hi : i < xs.length) (hi' : i < ys.length) (u u' : Value) (W : World), TmsAt w u xs[i].subs → TmsAt w u' ys[i].subs → Below w.heap.size w W → Calls Tryz.prog 60 #[.agg #[.int .i64 xs[i].k, .string xs[i].nm, .int .i64 xs[i].v.k, .int .i64 xs[i].v.n, .int .i64 xs[i].v.d, .string xs[i].v.s, u], .agg #[.int .i64 ys[i].k, .string ys[i].nm, .int .i64 ys[i].v.k, .int .i64 ys[i].v.n, .int .i64 ys[i].v.d, .string ys[i].v.s, u']] W fun e w' => e = .returned (.bool (sameT xs[i] ys[i])) ∧ Below W.heap.size W w') :
    Calls Tryz.prog 33 #[A, B] w fun e w' => e = .returned (.bool (sameTs xs ys)) ∧ Below w.heap.size w w' := by
  obtain ⟨p, c, rfl, lx, hc, HX0⟩ := hA.form
  obtain ⟨p', c', rfl, ly, hc', HY0⟩ := hB.form
  by_cases hl : xs.length = ys.length
  case neg =>
    have h2 : ((xs.length : Int) == ys.length) = false := by simp; omega
    have HS : Hid (sameTs xs ys = false) := sameTs_len hl
    clear HX0 HY0 hA hB HC
    generalize xs.length = n at *
    generalize ys.length = m at *
    go_enter Tryz.func33, Tryz.ntmps33
    go_wp2
    go_ret
    exact ⟨ret_bool HS.out.symm, by go_grown⟩
  have HX : Hid (∀ i (hi : i < xs.length), ∃ b off u, p = some ⟨b, off, none⟩ ∧ b < w.heap.size ∧ TmC w b (off + i * 7) xs[i] u ∧ TmsAt w u xs[i].subs ∧ xs[i].v.Fits) := HX0
  have HY : Hid (∀ i (hi : i < ys.length), ∃ b off u, p' = some ⟨b, off, none⟩ ∧ b < w.heap.size ∧ TmC w b (off + i * 7) ys[i] u ∧ TmsAt w u ys[i].subs ∧ ys[i].v.Fits) := HY0
  have HCC : Hid (∀ i (hi : i < xs.length) (hi' : i < ys.length) (u u' : Value) (W : World), TmsAt w u xs[i].subs → TmsAt w u' ys[i].subs → Below w.heap.size w W → Calls Tryz.prog 60 #[.agg #[.int .i64 xs[i].k, .string xs[i].nm, .int .i64 xs[i].v.k, .int .i64 xs[i].v.n, .int .i64 xs[i].v.d, .string xs[i].v.s, u], .agg #[.int .i64 ys[i].k, .string ys[i].nm, .int .i64 ys[i].v.k, .int .i64 ys[i].v.n, .int .i64 ys[i].v.d, .string ys[i].v.s, u']] W fun e w' => e = .returned (.bool (sameT xs[i] ys[i])) ∧ Below W.heap.size W w') := HC
  obtain ⟨n, en⟩ : ∃ n : Nat, Hid (xs.length = n) := ⟨_, rfl⟩
  have em : Hid (ys.length = n) := hl.symm.trans en.out
  rw [en.out] at lx hc ⊢
  rw [em.out] at hc' ⊢
  clear hA hB hl ly HX0 HY0 HC
  go_enter Tryz.func33, Tryz.ntmps33
  go_wp2
  go_loopw [5] (fun i wr => ∃ k : Nat, k ≤ n ∧ i = .int .i64 k ∧ Hid (sameTs xs ys = sameTs (xs.drop k) (ys.drop k)) ∧ Below w.heap.size w wr) (fun i _ => n - (intOf i).toNat)
  case atStart => exact ⟨0, Nat.zero_le _, rfl, (show sameTs xs ys = sameTs (xs.drop 0) (ys.drop 0) by simp), Below.refl _ _⟩
  case round =>
    obtain ⟨k, hk, rfl, hr, hB⟩ := hrel
    have hsz := hB.size
    by_cases hlt : k < n
    case neg =>
      have c2 : ¬ (k : Int) < n := by omega
      have hr3 : Hid (sameTs xs ys = true) := by
        have h := hr.out
        rw [List.drop_eq_nil_of_le (by have := en.out; omega), List.drop_eq_nil_of_le (by have := em.out; omega), sameTs_nil] at h
        exact h
      go_wp2
      go_ret
      exact ⟨ret_bool hr3.out.symm, hB⟩
    have hlt' : (k : Int) < n := by omega
    have kx : k < xs.length := by have := en.out; omega
    have ky : k < ys.length := by have := em.out; omega
    obtain ⟨b, off, u, rfl, hb, TC, TS, TF⟩ := HX.out k kx
    obtain ⟨b', off', u', rfl, hb', TC', TS', TF'⟩ := HY.out k ky
    obtain ⟨a0, a1, a2, a3, a4, a5, a6⟩ := TC.below hB hb
    obtain ⟨b0, b1, b2, b3, b4, b5, b6⟩ := TC'.below hB hb'
    have hbr : b < wr.heap.size := Nat.lt_of_lt_of_le hb hsz
    have hbr' : b' < wr.heap.size := Nat.lt_of_lt_of_le hb' hsz
    have hr2 : Hid (sameTs xs ys = (sameT xs[k] ys[k] && sameTs (xs.drop (k + 1)) (ys.drop (k + 1)))) := by
      have h := hr.out
      rw [List.drop_eq_getElem_cons kx, List.drop_eq_getElem_cons ky, sameTs_cons] at h
      exact h
    have cCT : Hid (∀ W : World, Below w.heap.size w W → Calls Tryz.prog 60 #[.agg #[.int .i64 xs[k].k, .string xs[k].nm, .int .i64 xs[k].v.k, .int .i64 xs[k].v.n, .int .i64 xs[k].v.d, .string xs[k].v.s, u], .agg #[.int .i64 ys[k].k, .string ys[k].nm, .int .i64 ys[k].v.k, .int .i64 ys[k].v.n, .int .i64 ys[k].v.d, .string ys[k].v.s, u']] W fun e w' => e = .returned (.bool (sameT xs[k] ys[k])) ∧ Below W.heap.size W w') := fun W hW => HCC.out k kx ky u u' W TS TS' hW
    clear hr TC TC'
    obtain ⟨pu, cu, rfl, -⟩ := TS.form
    obtain ⟨pu', cu', rfl, -⟩ := TS'.form
    clear TS TF TS' TF'
    generalize sameT xs[k] ys[k] = C at *
    generalize xs[k].k = xg_k at *
    generalize ys[k].k = yg_k at *
    generalize xs[k].nm = xg_nm at *
    generalize ys[k].nm = yg_nm at *
    generalize xs[k].v.k = xg_vk at *
    generalize ys[k].v.k = yg_vk at *
    generalize xs[k].v.n = xg_vn at *
    generalize ys[k].v.n = yg_vn at *
    generalize xs[k].v.d = xg_vd at *
    generalize ys[k].v.d = yg_vd at *
    generalize xs[k].v.s = xg_vs at *
    generalize ys[k].v.s = yg_vs at *
    generalize xs[k].subs.length = xg_subslength at *
    generalize ys[k].subs.length = yg_subslength at *
    go_upto_region 6 with fail
    have HS : Hid (wr.cell? ⟨b, off + k * 7, none⟩ = some (.int .i64 xg_k) ∧ wr.cell? ⟨b, off + k * 7 + 1, none⟩ = some (.string xg_nm) ∧ wr.cell? ⟨b, off + k * 7 + 2, none⟩ = some (.int .i64 xg_vk) ∧ wr.cell? ⟨b, off + k * 7 + 3, none⟩ = some (.int .i64 xg_vn) ∧ wr.cell? ⟨b, off + k * 7 + 4, none⟩ = some (.int .i64 xg_vd) ∧ wr.cell? ⟨b, off + k * 7 + 5, none⟩ = some (.string xg_vs) ∧ wr.cell? ⟨b, off + k * 7 + 6, none⟩ = some (.slice pu xg_subslength cu) ∧ wr.cell? ⟨b', off' + k * 7, none⟩ = some (.int .i64 yg_k) ∧ wr.cell? ⟨b', off' + k * 7 + 1, none⟩ = some (.string yg_nm) ∧ wr.cell? ⟨b', off' + k * 7 + 2, none⟩ = some (.int .i64 yg_vk) ∧ wr.cell? ⟨b', off' + k * 7 + 3, none⟩ = some (.int .i64 yg_vn) ∧ wr.cell? ⟨b', off' + k * 7 + 4, none⟩ = some (.int .i64 yg_vd) ∧ wr.cell? ⟨b', off' + k * 7 + 5, none⟩ = some (.string yg_vs) ∧ wr.cell? ⟨b', off' + k * 7 + 6, none⟩ = some (.slice pu' yg_subslength cu')) := ⟨a0, a1, a2, a3, a4, a5, a6, b0, b1, b2, b3, b4, b5, b6⟩
    go_region_held3 (fun W => W.cell? ⟨b, off + k * 7, none⟩ = some (.int .i64 xg_k) ∧ W.cell? ⟨b, off + k * 7 + 1, none⟩ = some (.string xg_nm) ∧ W.cell? ⟨b, off + k * 7 + 2, none⟩ = some (.int .i64 xg_vk) ∧ W.cell? ⟨b, off + k * 7 + 3, none⟩ = some (.int .i64 xg_vn) ∧ W.cell? ⟨b, off + k * 7 + 4, none⟩ = some (.int .i64 xg_vd) ∧ W.cell? ⟨b, off + k * 7 + 5, none⟩ = some (.string xg_vs) ∧ W.cell? ⟨b, off + k * 7 + 6, none⟩ = some (.slice pu xg_subslength cu) ∧ W.cell? ⟨b', off' + k * 7, none⟩ = some (.int .i64 yg_k) ∧ W.cell? ⟨b', off' + k * 7 + 1, none⟩ = some (.string yg_nm) ∧ W.cell? ⟨b', off' + k * 7 + 2, none⟩ = some (.int .i64 yg_vk) ∧ W.cell? ⟨b', off' + k * 7 + 3, none⟩ = some (.int .i64 yg_vn) ∧ W.cell? ⟨b', off' + k * 7 + 4, none⟩ = some (.int .i64 yg_vd) ∧ W.cell? ⟨b', off' + k * 7 + 5, none⟩ = some (.string yg_vs) ∧ W.cell? ⟨b', off' + k * 7 + 6, none⟩ = some (.slice pu' yg_subslength cu'))
      (exact keepc7 (by go_grown) hbr hbr' HS.out)
      (first
        | (go_at_call 60; refine (cCT.out _ (hB.trans (by go_grown))).mono ?_; rintro e v1 ⟨rfl, hb1⟩; obtain ⟨hX1, hn1⟩ := bgX (n := wr.heap.size) (W0 := wr) (by go_grown) (by go_size) hb1; clear hb1))
    have hB2 : Hid (Below w.heap.size w v1) := hB.trans (hX1.mono hsz)
    clear a0 a1 a2 a3 a4 a5 a6 b0 b1 b2 b3 b4 b5 b6 cCT hX1 hn1
    cases C with
    | true =>
      have hr3 : Hid (sameTs xs ys = sameTs (xs.drop (k + 1)) (ys.drop (k + 1))) := by have := hr2.out; rwa [Bool.true_and] at this
      go_wp2
      exact ⟨⟨k + 1, by omega, by go_num, hr3, hB2.out⟩, by simp [intOf]; omega⟩
    | false =>
      have hr3 : Hid (sameTs xs ys = false) := by have := hr2.out; rwa [Bool.false_and] at this
      go_wp2
      go_ret
      exact ⟨ret_bool hr3.out.symm, hB2.out⟩

theorem rsame_tms : ∀ (m : Nat) (xs ys : List Tm) (A B : Value) (w : World), SizeOf.sizeOf xs ≤ m → TmsAt w A xs → TmsAt w B ys → Calls Tryz.prog 33 #[A, B] w fun e w' => e = .returned (.bool (sameTs xs ys)) ∧ Below w.heap.size w w' := by
  intro m
  induction m with
  | zero => intro xs ys A B w hm; cases xs <;> simp at hm
  | succ m ih =>
    intro xs ys A B w hm hA hB
    exact rsameTs_step A B xs ys w hA hB fun i hi hi' u u' W h1 h2 hW => rsamet_step xs[i] ys[i] u u' W (h1.bel hW) (h2.bel hW) fun W' hW' => ih _ _ _ _ W' (by have := mem_lt i hi; have := Tm.subs_lt xs[i]; omega) ((h1.bel hW).bel hW') ((h2.bel hW).bel hW')

end Go.Proofs.YtfajjphfjilpnaaGreat

namespace Go.Proofs.YtfajjphfjilpnaaGreat
open Go.RowKit LX Go.Shelf
set_option linter.unusedVariables false

set_option maxRecDepth 100000 in
set_option maxHeartbeats 8000000 in
theorem rsameFs_step (A B : Value) (xs ys : List Fm) (w : World) (hA : FmsAt w A xs) (hB : FmsAt w B ys) (HC : ∀ i (hi : i < xs.length) (hi' : i < ys.length) (q q' : FQ) (W : World), QAt w (xs[i], q) → QAt w (ys[i], q') → Below w.heap.size w W → Calls Tryz.prog 10 #[.agg #[.int .i64 xs[i].k, .string xs[i].nm, .int .i64 xs[i].op, q.v, q.t, .int .i64 xs[i].lo, .int .i64 xs[i].hi, .bool xs[i].opn, q.s, q.r], .agg #[.int .i64 ys[i].k, .string ys[i].nm, .int .i64 ys[i].op, q'.v, q'.t, .int .i64 ys[i].lo, .int .i64 ys[i].hi, .bool ys[i].opn, q'.s, q'.r]] W fun e w' => e = .returned (.bool (sameF xs[i] ys[i])) ∧ Below W.heap.size W w') :
    Calls Tryz.prog 35 #[A, B] w fun e w' => e = .returned (.bool (sameFs xs ys)) ∧ Below w.heap.size w w' := by
  obtain ⟨p, c, rfl, lx, hc, HX0⟩ := hA.form
  obtain ⟨p', c', rfl, ly, hc', HY0⟩ := hB.form
  by_cases hl : xs.length = ys.length
  case neg =>
    have h2 : ((xs.length : Int) == ys.length) = false := by simp; omega
    have HS : Hid (sameFs xs ys = false) := sameFs_len hl
    clear HX0 HY0 hA hB HC
    generalize xs.length = n at *
    generalize ys.length = m at *
    go_enter Tryz.func35, Tryz.ntmps35
    go_wp2
    go_ret
    exact ⟨ret_bool HS.out.symm, by go_grown⟩
  have HX : Hid (∀ i (hi : i < xs.length), ∃ b off uv ut us ur, p = some ⟨b, off, none⟩ ∧ b < w.heap.size ∧ FmC w b (off + i * 10) xs[i] uv ut us ur ∧ NmsAt w uv xs[i].vars ∧ TmsAt w ut xs[i].terms ∧ FmsAt w us xs[i].subs ∧ RxsAt w ur xs[i].rgx) := HX0
  have HY : Hid (∀ i (hi : i < ys.length), ∃ b off uv ut us ur, p' = some ⟨b, off, none⟩ ∧ b < w.heap.size ∧ FmC w b (off + i * 10) ys[i] uv ut us ur ∧ NmsAt w uv ys[i].vars ∧ TmsAt w ut ys[i].terms ∧ FmsAt w us ys[i].subs ∧ RxsAt w ur ys[i].rgx) := HY0
  have HCC : Hid (∀ i (hi : i < xs.length) (hi' : i < ys.length) (q q' : FQ) (W : World), QAt w (xs[i], q) → QAt w (ys[i], q') → Below w.heap.size w W → Calls Tryz.prog 10 #[.agg #[.int .i64 xs[i].k, .string xs[i].nm, .int .i64 xs[i].op, q.v, q.t, .int .i64 xs[i].lo, .int .i64 xs[i].hi, .bool xs[i].opn, q.s, q.r], .agg #[.int .i64 ys[i].k, .string ys[i].nm, .int .i64 ys[i].op, q'.v, q'.t, .int .i64 ys[i].lo, .int .i64 ys[i].hi, .bool ys[i].opn, q'.s, q'.r]] W fun e w' => e = .returned (.bool (sameF xs[i] ys[i])) ∧ Below W.heap.size W w') := HC
  obtain ⟨n, en⟩ : ∃ n : Nat, Hid (xs.length = n) := ⟨_, rfl⟩
  have em : Hid (ys.length = n) := hl.symm.trans en.out
  rw [en.out] at lx hc ⊢
  rw [em.out] at hc' ⊢
  clear hA hB hl ly HX0 HY0 HC
  go_enter Tryz.func35, Tryz.ntmps35
  go_wp2
  go_loopw [5] (fun i wr => ∃ k : Nat, k ≤ n ∧ i = .int .i64 k ∧ Hid (sameFs xs ys = sameFs (xs.drop k) (ys.drop k)) ∧ Below w.heap.size w wr) (fun i _ => n - (intOf i).toNat)
  case atStart => exact ⟨0, Nat.zero_le _, rfl, (show sameFs xs ys = sameFs (xs.drop 0) (ys.drop 0) by simp), Below.refl _ _⟩
  case round =>
    obtain ⟨k, hk, rfl, hr, hB⟩ := hrel
    have hsz := hB.size
    by_cases hlt : k < n
    case neg =>
      have c2 : ¬ (k : Int) < n := by omega
      have hr3 : Hid (sameFs xs ys = true) := by
        have h := hr.out
        rw [List.drop_eq_nil_of_le (by have := en.out; omega), List.drop_eq_nil_of_le (by have := em.out; omega), sameFs_nil] at h
        exact h
      go_wp2
      go_ret
      exact ⟨ret_bool hr3.out.symm, hB⟩
    have hlt' : (k : Int) < n := by omega
    have kx : k < xs.length := by have := en.out; omega
    have ky : k < ys.length := by have := em.out; omega
    obtain ⟨b, off, uv, ut, us, ur, rfl, hb, TC, FV, FT, FS, FR⟩ := HX.out k kx
    obtain ⟨b', off', uv', ut', us', ur', rfl, hb', TC', FV', FT', FS', FR'⟩ := HY.out k ky
    obtain ⟨a0, a1, a2, a3, a4, a5, a6, a7, a8, a9⟩ := TC.below hB hb
    obtain ⟨b0, b1, b2, b3, b4, b5, b6, b7, b8, b9⟩ := TC'.below hB hb'
    have hbr : b < wr.heap.size := Nat.lt_of_lt_of_le hb hsz
    have hbr' : b' < wr.heap.size := Nat.lt_of_lt_of_le hb' hsz
    have hr2 : Hid (sameFs xs ys = (sameF xs[k] ys[k] && sameFs (xs.drop (k + 1)) (ys.drop (k + 1)))) := by
      have h := hr.out
      rw [List.drop_eq_getElem_cons kx, List.drop_eq_getElem_cons ky, sameFs_cons] at h
      exact h
    have cCT : Hid (∀ W : World, Below w.heap.size w W → Calls Tryz.prog 10 #[.agg #[.int .i64 xs[k].k, .string xs[k].nm, .int .i64 xs[k].op, uv, ut, .int .i64 xs[k].lo, .int .i64 xs[k].hi, .bool xs[k].opn, us, ur], .agg #[.int .i64 ys[k].k, .string ys[k].nm, .int .i64 ys[k].op, uv', ut', .int .i64 ys[k].lo, .int .i64 ys[k].hi, .bool ys[k].opn, us', ur']] W fun e w' => e = .returned (.bool (sameF xs[k] ys[k])) ∧ Below W.heap.size W w') := fun W hW => HCC.out k kx ky ⟨uv, ut, us, ur⟩ ⟨uv', ut', us', ur'⟩ W ⟨FV, FT, FS, FR⟩ ⟨FV', FT', FS', FR'⟩ hW
    clear hr TC TC'
    obtain ⟨-, pv, cv, rfl, -⟩ := FV
    obtain ⟨pt, ct, rfl, -⟩ := FT.form
    obtain ⟨ps, cs, rfl, -⟩ := FS.form
    obtain ⟨pr, cr, rfl, -⟩ := FR.form
    obtain ⟨-, pv', cv', rfl, -⟩ := FV'
    obtain ⟨pt', ct', rfl, -⟩ := FT'.form
    obtain ⟨ps', cs', rfl, -⟩ := FS'.form
    obtain ⟨pr', cr', rfl, -⟩ := FR'.form
    clear FT FS FR FT' FS' FR'
    generalize sameF xs[k] ys[k] = C at *
    generalize xs[k].k = xg_k at *
    generalize ys[k].k = yg_k at *
    generalize xs[k].nm = xg_nm at *
    generalize ys[k].nm = yg_nm at *
    generalize xs[k].op = xg_op at *
    generalize ys[k].op = yg_op at *
    generalize xs[k].lo = xg_lo at *
    generalize ys[k].lo = yg_lo at *
    generalize xs[k].hi = xg_hi at *
    generalize ys[k].hi = yg_hi at *
    generalize xs[k].opn = xg_opn at *
    generalize ys[k].opn = yg_opn at *
    generalize xs[k].vars.length = xg_varslength at *
    generalize ys[k].vars.length = yg_varslength at *
    generalize xs[k].terms.length = xg_termslength at *
    generalize ys[k].terms.length = yg_termslength at *
    generalize xs[k].subs.length = xg_subslength at *
    generalize ys[k].subs.length = yg_subslength at *
    generalize xs[k].rgx.length = xg_rgxlength at *
    generalize ys[k].rgx.length = yg_rgxlength at *
    go_upto_region 6 with fail
    have HS : Hid (wr.cell? ⟨b, off + k * 10, none⟩ = some (.int .i64 xg_k) ∧ wr.cell? ⟨b, off + k * 10 + 1, none⟩ = some (.string xg_nm) ∧ wr.cell? ⟨b, off + k * 10 + 2, none⟩ = some (.int .i64 xg_op) ∧ wr.cell? ⟨b, off + k * 10 + 3, none⟩ = some (.slice pv xg_varslength cv) ∧ wr.cell? ⟨b, off + k * 10 + 4, none⟩ = some (.slice pt xg_termslength ct) ∧ wr.cell? ⟨b, off + k * 10 + 5, none⟩ = some (.int .i64 xg_lo) ∧ wr.cell? ⟨b, off + k * 10 + 6, none⟩ = some (.int .i64 xg_hi) ∧ wr.cell? ⟨b, off + k * 10 + 7, none⟩ = some (.bool xg_opn) ∧ wr.cell? ⟨b, off + k * 10 + 8, none⟩ = some (.slice ps xg_subslength cs) ∧ wr.cell? ⟨b, off + k * 10 + 9, none⟩ = some (.slice pr xg_rgxlength cr) ∧ wr.cell? ⟨b', off' + k * 10, none⟩ = some (.int .i64 yg_k) ∧ wr.cell? ⟨b', off' + k * 10 + 1, none⟩ = some (.string yg_nm) ∧ wr.cell? ⟨b', off' + k * 10 + 2, none⟩ = some (.int .i64 yg_op) ∧ wr.cell? ⟨b', off' + k * 10 + 3, none⟩ = some (.slice pv' yg_varslength cv') ∧ wr.cell? ⟨b', off' + k * 10 + 4, none⟩ = some (.slice pt' yg_termslength ct') ∧ wr.cell? ⟨b', off' + k * 10 + 5, none⟩ = some (.int .i64 yg_lo) ∧ wr.cell? ⟨b', off' + k * 10 + 6, none⟩ = some (.int .i64 yg_hi) ∧ wr.cell? ⟨b', off' + k * 10 + 7, none⟩ = some (.bool yg_opn) ∧ wr.cell? ⟨b', off' + k * 10 + 8, none⟩ = some (.slice ps' yg_subslength cs') ∧ wr.cell? ⟨b', off' + k * 10 + 9, none⟩ = some (.slice pr' yg_rgxlength cr')) := ⟨a0, a1, a2, a3, a4, a5, a6, a7, a8, a9, b0, b1, b2, b3, b4, b5, b6, b7, b8, b9⟩
    go_region_held3 (fun W => W.cell? ⟨b, off + k * 10, none⟩ = some (.int .i64 xg_k) ∧ W.cell? ⟨b, off + k * 10 + 1, none⟩ = some (.string xg_nm) ∧ W.cell? ⟨b, off + k * 10 + 2, none⟩ = some (.int .i64 xg_op) ∧ W.cell? ⟨b, off + k * 10 + 3, none⟩ = some (.slice pv xg_varslength cv) ∧ W.cell? ⟨b, off + k * 10 + 4, none⟩ = some (.slice pt xg_termslength ct) ∧ W.cell? ⟨b, off + k * 10 + 5, none⟩ = some (.int .i64 xg_lo) ∧ W.cell? ⟨b, off + k * 10 + 6, none⟩ = some (.int .i64 xg_hi) ∧ W.cell? ⟨b, off + k * 10 + 7, none⟩ = some (.bool xg_opn) ∧ W.cell? ⟨b, off + k * 10 + 8, none⟩ = some (.slice ps xg_subslength cs) ∧ W.cell? ⟨b, off + k * 10 + 9, none⟩ = some (.slice pr xg_rgxlength cr) ∧ W.cell? ⟨b', off' + k * 10, none⟩ = some (.int .i64 yg_k) ∧ W.cell? ⟨b', off' + k * 10 + 1, none⟩ = some (.string yg_nm) ∧ W.cell? ⟨b', off' + k * 10 + 2, none⟩ = some (.int .i64 yg_op) ∧ W.cell? ⟨b', off' + k * 10 + 3, none⟩ = some (.slice pv' yg_varslength cv') ∧ W.cell? ⟨b', off' + k * 10 + 4, none⟩ = some (.slice pt' yg_termslength ct') ∧ W.cell? ⟨b', off' + k * 10 + 5, none⟩ = some (.int .i64 yg_lo) ∧ W.cell? ⟨b', off' + k * 10 + 6, none⟩ = some (.int .i64 yg_hi) ∧ W.cell? ⟨b', off' + k * 10 + 7, none⟩ = some (.bool yg_opn) ∧ W.cell? ⟨b', off' + k * 10 + 8, none⟩ = some (.slice ps' yg_subslength cs') ∧ W.cell? ⟨b', off' + k * 10 + 9, none⟩ = some (.slice pr' yg_rgxlength cr'))
      (exact keepc10 (by go_grown) hbr hbr' HS.out)
      (first
        | (go_at_call 10; refine (cCT.out _ (hB.trans (by go_grown))).mono ?_; rintro e v1 ⟨rfl, hb1⟩; obtain ⟨hX1, hn1⟩ := bgX (n := wr.heap.size) (W0 := wr) (by go_grown) (by go_size) hb1; clear hb1))
    have hB2 : Hid (Below w.heap.size w v1) := hB.trans (hX1.mono hsz)
    clear a0 a1 a2 a3 a4 a5 a6 a7 a8 a9 b0 b1 b2 b3 b4 b5 b6 b7 b8 b9 cCT hX1 hn1
    cases C with
    | true =>
      have hr3 : Hid (sameFs xs ys = sameFs (xs.drop (k + 1)) (ys.drop (k + 1))) := by have := hr2.out; rwa [Bool.true_and] at this
      go_wp2
      exact ⟨⟨k + 1, by omega, by go_num, hr3, hB2.out⟩, by simp [intOf]; omega⟩
    | false =>
      have hr3 : Hid (sameFs xs ys = false) := by have := hr2.out; rwa [Bool.false_and] at this
      go_wp2
      go_ret
      exact ⟨ret_bool hr3.out.symm, hB2.out⟩

theorem keepR {W0 W : World} {a a' : Addr} {u v : Value} (h : Below W0.heap.size W0 W) (hx : a.block < W0.heap.size) (hy : a'.block < W0.heap.size) (hs : W0.cell? a = some u ∧ W0.cell? a' = some v) : W.cell? a = some u ∧ W.cell? a' = some v := ⟨bclL h hs.1 hx, bclL h hs.2 hy⟩
set_option maxRecDepth 100000 in
set_option maxHeartbeats 8000000 in
theorem rsameRs_step (A B : Value) (xs ys : List Rx) (w : World) (hA : RxsAt w A xs) (hB : RxsAt w B ys) (HF : ∀ i (hi : i < xs.length) (hi' : i < ys.length) (u u' : Value) (W : World), FmsAt w u xs[i].test → FmsAt w u' ys[i].test → Below w.heap.size w W → Calls Tryz.prog 35 #[u, u'] W fun e w' => e = .returned (.bool (sameFs xs[i].test ys[i].test)) ∧ Below W.heap.size W w') (HR : ∀ i (hi : i < xs.length) (hi' : i < ys.length) (u u' : Value) (W : World), RxsAt w u xs[i].subs → RxsAt w u' ys[i].subs → Below w.heap.size w W → Calls Tryz.prog 34 #[u, u'] W fun e w' => e = .returned (.bool (sameRs xs[i].subs ys[i].subs)) ∧ Below W.heap.size W w') :
    Calls Tryz.prog 34 #[A, B] w fun e w' => e = .returned (.bool (sameRs xs ys)) ∧ Below w.heap.size w w' := by
  obtain ⟨p, c, rfl, lx, hc, HX0⟩ := hA.form
  obtain ⟨p', c', rfl, ly, hc', HY0⟩ := hB.form
  by_cases hl : xs.length = ys.length
  case neg =>
    have h2 : ((xs.length : Int) == ys.length) = false := by simp; omega
    have HS : Hid (sameRs xs ys = false) := sameRs_len hl
    clear HX0 HY0 hA hB HF HR
    generalize xs.length = n at *
    generalize ys.length = m at *
    go_enter Tryz.func34, Tryz.ntmps34
    go_wp2
    go_ret
    exact ⟨ret_bool HS.out.symm, by go_grown⟩
  have HX : Hid (∀ i (hi : i < xs.length), ∃ b off ut us, p = some ⟨b, off, none⟩ ∧ b < w.heap.size ∧ RxC w b (off + i * 3) xs[i] ut us ∧ FmsAt w ut xs[i].test ∧ RxsAt w us xs[i].subs) := HX0
  have HY : Hid (∀ i (hi : i < ys.length), ∃ b off ut us, p' = some ⟨b, off, none⟩ ∧ b < w.heap.size ∧ RxC w b (off + i * 3) ys[i] ut us ∧ FmsAt w ut ys[i].test ∧ RxsAt w us ys[i].subs) := HY0
  have HFF : Hid (∀ i (hi : i < xs.length) (hi' : i < ys.length) (u u' : Value) (W : World), FmsAt w u xs[i].test → FmsAt w u' ys[i].test → Below w.heap.size w W → Calls Tryz.prog 35 #[u, u'] W fun e w' => e = .returned (.bool (sameFs xs[i].test ys[i].test)) ∧ Below W.heap.size W w') := HF
  have HRR : Hid (∀ i (hi : i < xs.length) (hi' : i < ys.length) (u u' : Value) (W : World), RxsAt w u xs[i].subs → RxsAt w u' ys[i].subs → Below w.heap.size w W → Calls Tryz.prog 34 #[u, u'] W fun e w' => e = .returned (.bool (sameRs xs[i].subs ys[i].subs)) ∧ Below W.heap.size W w') := HR
  obtain ⟨n, en⟩ : ∃ n : Nat, Hid (xs.length = n) := ⟨_, rfl⟩
  have em : Hid (ys.length = n) := hl.symm.trans en.out
  rw [en.out] at lx hc ⊢
  rw [em.out] at hc' ⊢
  clear hA hB hl ly HX0 HY0 HF HR
  go_enter Tryz.func34, Tryz.ntmps34
  go_wp2
  go_loopw [5] (fun i wr => ∃ k : Nat, k ≤ n ∧ i = .int .i64 k ∧ Hid (sameRs xs ys = sameRs (xs.drop k) (ys.drop k)) ∧ Below w.heap.size w wr) (fun i _ => n - (intOf i).toNat)
  case atStart => exact ⟨0, Nat.zero_le _, rfl, (show sameRs xs ys = sameRs (xs.drop 0) (ys.drop 0) by simp), Below.refl _ _⟩
  case round =>
    obtain ⟨k, hk, rfl, hr, hB⟩ := hrel
    have hsz := hB.size
    by_cases hlt : k < n
    case neg =>
      have c2 : ¬ (k : Int) < n := by omega
      have hr3 : Hid (sameRs xs ys = true) := by
        have h := hr.out
        rw [List.drop_eq_nil_of_le (by have := en.out; omega), List.drop_eq_nil_of_le (by have := em.out; omega), sameRs_nil] at h
        exact h
      go_wp2
      go_ret
      exact ⟨ret_bool hr3.out.symm, hB⟩
    have hlt' : (k : Int) < n := by omega
    have kx : k < xs.length := by have := en.out; omega
    have ky : k < ys.length := by have := em.out; omega
    obtain ⟨b, off, ut, us, rfl, hb, TC, TT, TS⟩ := HX.out k kx
    obtain ⟨b', off', ut', us', rfl, hb', TC', TT', TS'⟩ := HY.out k ky
    obtain ⟨a0, a1, a2⟩ := TC.below hB hb
    obtain ⟨b0, b1, b2⟩ := TC'.below hB hb'
    have hbr : b < wr.heap.size := Nat.lt_of_lt_of_le hb hsz
    have hbr' : b' < wr.heap.size := Nat.lt_of_lt_of_le hb' hsz
    have hr2 : Hid (sameRs xs ys = (((xs[k].k == ys[k].k) && (sameFs xs[k].test ys[k].test && sameRs xs[k].subs ys[k].subs)) && sameRs (xs.drop (k + 1)) (ys.drop (k + 1)))) := by
      have h := hr.out
      rw [List.drop_eq_getElem_cons kx, List.drop_eq_getElem_cons ky, sameRs_cons, sameR_eq] at h
      exact h
    have cF : Hid (∀ W : World, Below w.heap.size w W → Calls Tryz.prog 35 #[ut, ut'] W fun e w' => e = .returned (.bool (sameFs xs[k].test ys[k].test)) ∧ Below W.heap.size W w') := fun W hW => HFF.out k kx ky ut ut' W TT TT' hW
    have cR : Hid (∀ W : World, Below w.heap.size w W → Calls Tryz.prog 34 #[us, us'] W fun e w' => e = .returned (.bool (sameRs xs[k].subs ys[k].subs)) ∧ Below W.heap.size W w') := fun W hW => HRR.out k kx ky us us' W TS TS' hW
    clear hr TC TC'
    obtain ⟨pt, ct, rfl, -⟩ := TT.form
    obtain ⟨ps, cs, rfl, -⟩ := TS.form
    obtain ⟨pt', ct', rfl, -⟩ := TT'.form
    obtain ⟨ps', cs', rfl, -⟩ := TS'.form
    clear TT TS TT' TS'
    generalize sameFs xs[k].test ys[k].test = C at *
    generalize sameRs xs[k].subs ys[k].subs = D at *
    generalize xs[k].k = xk at *
    generalize ys[k].k = yk at *
    generalize xs[k].test.length = nt at *
    generalize ys[k].test.length = nt' at *
    generalize xs[k].subs.length = ns at *
    generalize ys[k].subs.length = ns' at *
    go_upto_region 6 with fail
    have HS : Hid (wr.cell? ⟨b, off + k * 3 + 1, none⟩ = some (.slice pt nt ct) ∧ wr.cell? ⟨b', off' + k * 3 + 1, none⟩ = some (.slice pt' nt' ct')) := ⟨a1, b1⟩
    go_region_held3 (fun W => W.cell? ⟨b, off + k * 3 + 1, none⟩ = some (.slice pt nt ct) ∧ W.cell? ⟨b', off' + k * 3 + 1, none⟩ = some (.slice pt' nt' ct'))
      (exact keepR (by go_grown) hbr hbr' HS.out)
      (first
        | (go_at_call 35; refine (cF.out _ (hB.trans (by go_grown))).mono ?_; rintro e v1 ⟨rfl, hv1⟩; obtain ⟨hX1, hn1⟩ := bgX (n := wr.heap.size) (W0 := wr) (by go_grown) (by go_size) hv1; clear hv1))
    have hB1 : Below w.heap.size w v1 := hB.trans (hX1.mono hsz)
    have hsz1 := hB1.size
    have a0' : v1.cell? ⟨b, off + k * 3, none⟩ = some (.int .i64 xk) := bclL hX1 a0 hbr
    have b0' : v1.cell? ⟨b', off' + k * 3, none⟩ = some (.int .i64 yk) := bclL hX1 b0 hbr'
    have a2' : v1.cell? ⟨b, off + k * 3 + 2, none⟩ = some (.slice ps ns cs) := bclL hX1 a2 hbr
    have b2' : v1.cell? ⟨b', off' + k * 3 + 2, none⟩ = some (.slice ps' ns' cs') := bclL hX1 b2 hbr'
    have hb1 : b < v1.heap.size := by omega
    have hb1' : b' < v1.heap.size := by omega
    clear a0 a1 a2 b0 b1 b2 HS hX1 cF hB
    go_upto_region 7 with fail
    have HS : Hid (v1.cell? ⟨b, off + k * 3 + 2, none⟩ = some (.slice ps ns cs) ∧ v1.cell? ⟨b', off' + k * 3 + 2, none⟩ = some (.slice ps' ns' cs')) := ⟨a2', b2'⟩
    go_region_held3 (fun W => W.cell? ⟨b, off + k * 3 + 2, none⟩ = some (.slice ps ns cs) ∧ W.cell? ⟨b', off' + k * 3 + 2, none⟩ = some (.slice ps' ns' cs'))
      (exact keepR (by go_grown) hb1 hb1' HS.out)
      (first
        | (go_at_call 34; refine (cR.out _ (hB1.trans (by go_grown))).mono ?_; rintro e v2 ⟨rfl, hv2⟩; obtain ⟨hX2, hn2⟩ := bgX (n := v1.heap.size) (W0 := v1) (by go_grown) (by go_size) hv2; clear hv2))
    have hB2 : Below w.heap.size w v2 := hB1.trans (hX2.mono hsz1)
    have a0 : v2.cell? ⟨b, off + k * 3, none⟩ = some (.int .i64 xk) := bclL hX2 a0' hb1
    have b0 : v2.cell? ⟨b', off' + k * 3, none⟩ = some (.int .i64 yk) := bclL hX2 b0' hb1'
    clear a0' b0' a2' b2' HS hX2 cR hB1
    go_upto_region 8 with fail
    by_cases hk1 : (xk == yk) = true
    case neg =>
      have hk1' : (xk == yk) = false := by simpa using hk1
      have hne : (xk != yk) = true := by simp [bne, hk1']
      have hr3 : Hid (sameRs xs ys = false) := by have h := hr2.out; rw [hk1'] at h; simp at h; exact h
      clear hk1 hr2
      go_quiet (fail)
      go_wp2
      go_ret
      exact ⟨ret_bool hr3.out.symm, bdrewA _ hB2⟩
    have hne : (xk != yk) = false := by simp [bne, hk1]
    cases C with
    | false =>
      have hr3 : Hid (sameRs xs ys = false) := by have h := hr2.out; simp at h; exact h
      clear hr2
      go_quiet (fail)
      go_wp2
      go_ret
      exact ⟨ret_bool hr3.out.symm, bdrewA _ hB2⟩
    | true =>
      cases D with
      | false =>
        have hr3 : Hid (sameRs xs ys = false) := by have h := hr2.out; simp at h; exact h
        clear hr2
        go_quiet (fail)
        go_wp2
        go_ret
        exact ⟨ret_bool hr3.out.symm, bdrewA _ hB2⟩
      | true =>
        have hr3 : Hid (sameRs xs ys = sameRs (xs.drop (k + 1)) (ys.drop (k + 1))) := by have h := hr2.out; rw [hk1] at h; simp only [Bool.true_and] at h; exact h
        clear hr2
        go_quiet (fail)
        go_wp2
        exact ⟨⟨k + 1, by omega, by go_num, hr3, bdrewA _ hB2⟩, by simp [intOf]; omega⟩

set_option maxRecDepth 100000 in
set_option maxHeartbeats 8000000 in
theorem rsamef_step (x y : Fm) (q q' : FQ) (w : World) (hq : QAt w (x, q)) (hq' : QAt w (y, q')) (IF : ∀ W : World, Below w.heap.size w W → Calls Tryz.prog 35 #[q.s, q'.s] W fun e w' => e = .returned (.bool (sameFs x.subs y.subs)) ∧ Below W.heap.size W w') (IR : ∀ W : World, Below w.heap.size w W → Calls Tryz.prog 34 #[q.r, q'.r] W fun e w' => e = .returned (.bool (sameRs x.rgx y.rgx)) ∧ Below W.heap.size W w') :
    Calls Tryz.prog 10 #[.agg #[.int .i64 x.k, .string x.nm, .int .i64 x.op, q.v, q.t, .int .i64 x.lo, .int .i64 x.hi, .bool x.opn, q.s, q.r], .agg #[.int .i64 y.k, .string y.nm, .int .i64 y.op, q'.v, q'.t, .int .i64 y.lo, .int .i64 y.hi, .bool y.opn, q'.s, q'.r]] w fun e w' => e = .returned (.bool (sameF x y)) ∧ Below w.heap.size w w' := by
  have cV : Hid (∀ W : World, Below w.heap.size w W → Calls Tryz.prog 32 #[q.v, q'.v] W fun e w' => e = .returned (.bool (decide (x.vars = y.vars))) ∧ Below W.heap.size W w') := fun W hW => rnms_any _ _ _ _ W (hq.1.below hW) (hq'.1.below hW)
  have cT : Hid (∀ W : World, Below w.heap.size w W → Calls Tryz.prog 33 #[q.t, q'.t] W fun e w' => e = .returned (.bool (sameTs x.terms y.terms)) ∧ Below W.heap.size W w') := fun W hW => rsame_tms _ _ _ _ _ W (Nat.le_refl _) (hq.2.1.bel hW) (hq'.2.1.bel hW)
  have cR : Hid (∀ W : World, Below w.heap.size w W → Calls Tryz.prog 34 #[q.r, q'.r] W fun e w' => e = .returned (.bool (sameRs x.rgx y.rgx)) ∧ Below W.heap.size W w') := IR
  have cF : Hid (∀ W : World, Below w.heap.size w W → Calls Tryz.prog 35 #[q.s, q'.s] W fun e w' => e = .returned (.bool (sameFs x.subs y.subs)) ∧ Below W.heap.size W w') := IF
  have hE : Hid (sameF x y = ((x.k == y.k) && ((x.nm.toList == y.nm.toList) && ((x.op == y.op) && (((x.lo == y.lo) && ((x.hi == y.hi) && (x.opn == y.opn))) && (decide (x.vars = y.vars) && (sameTs x.terms y.terms && (sameRs x.rgx y.rgx && sameFs x.subs y.subs)))))))) := sameF_eq x y
  obtain ⟨uv, ut, us, ur⟩ := q
  obtain ⟨uv', ut', us', ur'⟩ := q'
  obtain ⟨h1, h2, h3, h4⟩ := hq
  obtain ⟨h1', h2', h3', h4'⟩ := hq'
  dsimp only at h1 h2 h3 h4 h1' h2' h3' h4' cV cT cR cF ⊢
  obtain ⟨-, pv, cv, rfl, -⟩ := h1
  obtain ⟨pt, ct, rfl, -⟩ := h2.form
  obtain ⟨ps, cs, rfl, -⟩ := h3.form
  obtain ⟨pr, cr, rfl, -⟩ := h4.form
  obtain ⟨-, pv', cv', rfl, -⟩ := h1'
  obtain ⟨pt', ct', rfl, -⟩ := h2'.form
  obtain ⟨ps', cs', rfl, -⟩ := h3'.form
  obtain ⟨pr', cr', rfl, -⟩ := h4'.form
  clear h2 h3 h4 h2' h3' h4' IF IR
  generalize sameF x y = R at *
  generalize sameFs x.subs y.subs = C4 at *
  generalize sameRs x.rgx y.rgx = C3 at *
  generalize sameTs x.terms y.terms = C2 at *
  generalize decide (x.vars = y.vars) = C1 at *
  generalize x.vars.length = nv at *
  generalize y.vars.length = nv' at *
  generalize x.terms.length = nt at *
  generalize y.terms.length = nt' at *
  generalize x.subs.length = ns at *
  generalize y.subs.length = ns' at *
  generalize x.rgx.length = nr at *
  generalize y.rgx.length = nr' at *
  generalize x.lo = lo at *
  generalize y.lo = lo' at *
  generalize x.hi = hi at *
  generalize y.hi = hi' at *
  generalize x.nm = nm at *
  generalize y.nm = nm' at *
  generalize x.opn = o at *
  generalize y.opn = o' at *
  generalize x.op = op at *
  generalize y.op = op' at *
  generalize x.k = k at *
  generalize y.k = k' at *
  by_cases h1 : (k == k') = true
  case neg =>
    have hf : (k == k') = false := by simpa using h1
    have hR : Hid (R = false) := by have h := hE.out; rw [hf] at h; simp at h; exact h
    have hne : (k != k') = true := by simp [bne, hf]
    clear h1
    go_enter Tryz.func10, Tryz.ntmps10
    go_wp2
    all_goals (go_ret; exact ⟨ret_bool hR.out.symm, by go_grown⟩)
  have n1 : (k != k') = false := by simp [bne, h1]
  by_cases h2 : (nm.toList == nm'.toList) = true
  case neg =>
    have hf : (nm.toList == nm'.toList) = false := by simpa using h2
    have hR : Hid (R = false) := by have h := hE.out; rw [hf] at h; simp at h; exact h
    have hne : (!nm.toList == nm'.toList) = true := by simp [hf]
    clear h2
    go_enter Tryz.func10, Tryz.ntmps10
    go_wp2
    all_goals (go_ret; exact ⟨ret_bool hR.out.symm, by go_grown⟩)
  have n2 : (!nm.toList == nm'.toList) = false := by simp [h2]
  by_cases h3 : (op == op') = true
  case neg =>
    have hf : (op == op') = false := by simpa using h3
    have hR : Hid (R = false) := by have h := hE.out; rw [hf] at h; simp at h; exact h
    have hne : (op != op') = true := by simp [bne, hf]
    clear h3
    go_enter Tryz.func10, Tryz.ntmps10
    go_wp2
    all_goals (go_ret; exact ⟨ret_bool hR.out.symm, by go_grown⟩)
  have n3 : (op != op') = false := by simp [bne, h3]
  by_cases h4l : lo = lo'
  case neg =>
    have hf : (lo == lo') = false := by simpa using h4l
    have hR : Hid (R = false) := by have h := hE.out; rw [hf] at h; simp at h; exact h
    go_enter Tryz.func10, Tryz.ntmps10
    go_wp2
    all_goals (go_ret; exact ⟨ret_bool hR.out.symm, by go_grown⟩)
  subst h4l
  by_cases h4h : hi = hi'
  case neg =>
    have hf : (hi == hi') = false := by simpa using h4h
    have hR : Hid (R = false) := by have h := hE.out; rw [hf] at h; simp at h; exact h
    go_enter Tryz.func10, Tryz.ntmps10
    go_wp2
    all_goals (go_ret; exact ⟨ret_bool hR.out.symm, by go_grown⟩)
  subst h4h
  by_cases h4o : o = o'
  case neg =>
    have hf : (o == o') = false := by simpa using h4o
    have hR : Hid (R = false) := by have h := hE.out; rw [hf] at h; simp at h; exact h
    go_enter Tryz.func10, Tryz.ntmps10
    go_wp2
    all_goals (go_ret; exact ⟨ret_bool hR.out.symm, by go_grown⟩)
  subst h4o
  have hR0 : Hid (R = (C1 && (C2 && (C3 && C4)))) := by have h := hE.out; rw [h1, h2, h3] at h; simp only [beq_self_eq_true, Bool.true_and] at h; exact h
  clear hE
  go_enter Tryz.func10, Tryz.ntmps10
  go_wp2_with fail
  refine (cV.out _ (by go_grown)).mono ?_
  rintro e w1 ⟨rfl, hw1⟩
  obtain ⟨hB1, hn1⟩ := bgX (n := w.heap.size) (W0 := w) (by go_grown) (by go_size) hw1
  have hz1 : w.heap.size + 1 < w1.heap.size := by have := hw1.size; simp at this; omega
  have e4 : w1.cell? ⟨w.heap.size, 4, none⟩ = some (.slice pt nt ct) := (hw1.cell (p := ⟨w.heap.size, 4, none⟩) (by first | (simp; done) | (simp; omega))).trans (by simp [go_sem])
  have g4 : w1.cell? ⟨w.heap.size + 1, 4, none⟩ = some (.slice pt' nt' ct') := (hw1.cell (p := ⟨w.heap.size + 1, 4, none⟩) (by first | (simp; done) | (simp; omega))).trans (by simp [go_sem])
  have e9 : w1.cell? ⟨w.heap.size, 9, none⟩ = some (.slice pr nr cr) := (hw1.cell (p := ⟨w.heap.size, 9, none⟩) (by first | (simp; done) | (simp; omega))).trans (by simp [go_sem])
  have g9 : w1.cell? ⟨w.heap.size + 1, 9, none⟩ = some (.slice pr' nr' cr') := (hw1.cell (p := ⟨w.heap.size + 1, 9, none⟩) (by first | (simp; done) | (simp; omega))).trans (by simp [go_sem])
  have e8 : w1.cell? ⟨w.heap.size, 8, none⟩ = some (.slice ps ns cs) := (hw1.cell (p := ⟨w.heap.size, 8, none⟩) (by first | (simp; done) | (simp; omega))).trans (by simp [go_sem])
  have g8 : w1.cell? ⟨w.heap.size + 1, 8, none⟩ = some (.slice ps' ns' cs') := (hw1.cell (p := ⟨w.heap.size + 1, 8, none⟩) (by first | (simp; done) | (simp; omega))).trans (by simp [go_sem])
  clear hw1 cV
  go_wp2_with fail
  refine (cT.out _ hB1).mono ?_
  rintro e w2 ⟨rfl, hw2⟩
  have hB2 : Below w.heap.size w w2 := hB1.trans (hw2.mono hn1)
  have hn2 : w.heap.size ≤ w2.heap.size := hB2.size
  have hz2 : w.heap.size + 1 < w2.heap.size := Nat.lt_of_lt_of_le hz1 hw2.size
  have e9 : w2.cell? ⟨w.heap.size, 9, none⟩ = some (.slice pr nr cr) := (hw2.cell (p := ⟨w.heap.size, 9, none⟩) (by show w.heap.size < _; omega)).trans (e9)
  have g9 : w2.cell? ⟨w.heap.size + 1, 9, none⟩ = some (.slice pr' nr' cr') := (hw2.cell (p := ⟨w.heap.size + 1, 9, none⟩) (by show w.heap.size + 1 < _; omega)).trans (g9)
  have e8 : w2.cell? ⟨w.heap.size, 8, none⟩ = some (.slice ps ns cs) := (hw2.cell (p := ⟨w.heap.size, 8, none⟩) (by show w.heap.size < _; omega)).trans (e8)
  have g8 : w2.cell? ⟨w.heap.size + 1, 8, none⟩ = some (.slice ps' ns' cs') := (hw2.cell (p := ⟨w.heap.size + 1, 8, none⟩) (by show w.heap.size + 1 < _; omega)).trans (g8)
  clear hw2 cT
  go_wp2_with fail
  refine (cR.out _ hB2).mono ?_
  rintro e w3 ⟨rfl, hw3⟩
  have hB3 : Below w.heap.size w w3 := hB2.trans (hw3.mono hn2)
  have hn3 : w.heap.size ≤ w3.heap.size := hB3.size
  have hz3 : w.heap.size + 1 < w3.heap.size := Nat.lt_of_lt_of_le hz2 hw3.size
  have e8 : w3.cell? ⟨w.heap.size, 8, none⟩ = some (.slice ps ns cs) := (hw3.cell (p := ⟨w.heap.size, 8, none⟩) (by show w.heap.size < _; omega)).trans (e8)
  have g8 : w3.cell? ⟨w.heap.size + 1, 8, none⟩ = some (.slice ps' ns' cs') := (hw3.cell (p := ⟨w.heap.size + 1, 8, none⟩) (by show w.heap.size + 1 < _; omega)).trans (g8)
  clear hw3 cR e4 g4 e9 g9
  cases C1 with
  | false =>
    have hR : Hid (R = false) := by have h := hR0.out; simp at h; exact h
    go_wp2
    go_ret
    exact ⟨ret_bool hR.out.symm, hB3⟩
  | true =>
  cases C2 with
  | false =>
    have hR : Hid (R = false) := by have h := hR0.out; simp at h; exact h
    go_wp2
    go_ret
    exact ⟨ret_bool hR.out.symm, hB3⟩
  | true =>
  cases C3 with
  | false =>
    have hR : Hid (R = false) := by have h := hR0.out; simp at h; exact h
    go_wp2
    go_ret
    exact ⟨ret_bool hR.out.symm, hB3⟩
  | true =>
    have hR : Hid (R = C4) := by have h := hR0.out; simp at h; exact h
    go_wp2_with fail
    refine (cF.out _ hB3).mono ?_
    rintro e w4 ⟨rfl, hw4⟩
    have hB4 : Below w.heap.size w w4 := hB3.trans (hw4.mono hn3)
    clear hw4 cF e8 g8
    cases C4 with
    | false =>
      go_wp2
      go_ret
      exact ⟨ret_bool hR.out.symm, hB4⟩
    | true =>
      go_wp2
      go_ret
      exact ⟨ret_bool hR.out.symm, hB4⟩

theorem both_rsame : ∀ m : Nat, (∀ (xs ys : List Fm) (A B : Value) (w : World), SizeOf.sizeOf xs ≤ m → FmsAt w A xs → FmsAt w B ys → Calls Tryz.prog 35 #[A, B] w fun e w' => e = .returned (.bool (sameFs xs ys)) ∧ Below w.heap.size w w') ∧ (∀ (xs ys : List Rx) (A B : Value) (w : World), SizeOf.sizeOf xs ≤ m → RxsAt w A xs → RxsAt w B ys → Calls Tryz.prog 34 #[A, B] w fun e w' => e = .returned (.bool (sameRs xs ys)) ∧ Below w.heap.size w w') := by
  intro m
  induction m with
  | zero => exact ⟨fun xs ys A B w hm => by cases xs <;> simp at hm, fun xs ys A B w hm => by cases xs <;> simp at hm⟩
  | succ m ih =>
    refine ⟨fun xs ys A B w hm hA hB => rsameFs_step A B xs ys w hA hB fun i hi hi' q q' W h1 h2 hW => ?_, fun xs ys A B w hm hA hB => rsameRs_step A B xs ys w hA hB (fun i hi hi' u u' W h1 h2 hW => ?_) (fun i hi hi' u u' W h1 h2 hW => ?_)⟩
    · have s := mem_lt i hi
      have k1 := h1.below hW
      have k2 := h2.below hW
      exact rsamef_step xs[i] ys[i] q q' W k1 k2 (fun W' hW' => ih.1 _ _ _ _ W' (by have := Fm.subs_lt xs[i]; omega) (k1.2.2.1.bel hW') (k2.2.2.1.bel hW')) (fun W' hW' => ih.2 _ _ _ _ W' (by have := Fm.rgx_lt xs[i]; omega) (k1.2.2.2.bel hW') (k2.2.2.2.bel hW'))
    · have s := mem_lt i hi
      exact ih.1 _ _ _ _ W (by have := Rx.test_lt xs[i]; omega) (h1.bel hW) (h2.bel hW)
    · have s := mem_lt i hi
      exact ih.2 _ _ _ _ W (by have := Rx.subs_lt xs[i]; omega) (h1.bel hW) (h2.bel hW)
/-- The document's Same, at any two formulas. -/
theorem rsame_fm (x y : Fm) (q q' : FQ) (w : World) (hq : QAt w (x, q)) (hq' : QAt w (y, q')) :
    Calls Tryz.prog 10 #[.agg #[.int .i64 x.k, .string x.nm, .int .i64 x.op, q.v, q.t, .int .i64 x.lo, .int .i64 x.hi, .bool x.opn, q.s, q.r], .agg #[.int .i64 y.k, .string y.nm, .int .i64 y.op, q'.v, q'.t, .int .i64 y.lo, .int .i64 y.hi, .bool y.opn, q'.s, q'.r]] w fun e w' => e = .returned (.bool (sameF x y)) ∧ Below w.heap.size w w' :=
  rsamef_step x y q q' w hq hq' (fun W hW => (both_rsame _).1 _ _ _ _ W (Nat.le_refl _) (hq.2.2.1.bel hW) (hq'.2.2.1.bel hW)) (fun W hW => (both_rsame _).2 _ _ _ _ W (Nat.le_refl _) (hq.2.2.2.bel hW) (hq'.2.2.2.bel hW))

end Go.Proofs.YtfajjphfjilpnaaGreat

namespace Go.Proofs.YtfajjphfjilpnaaGreat
open Go.RowKit LX Go.Shelf
set_option linter.unusedVariables false

theorem beqI (a b : Int) : (a == b) = (b == a) := by
  rw [Bool.eq_iff_iff, beq_iff_eq, beq_iff_eq]
  exact eq_comm
theorem beqL (a b : List UInt8) : (a == b) = (b == a) := by
  rw [Bool.eq_iff_iff, beq_iff_eq, beq_iff_eq]
  exact eq_comm
theorem beqB (a b : Bool) : (a == b) = (b == a) := by cases a <;> cases b <;> rfl
theorem same_val_comm (x y : Val) : x.same y = y.same x := by
  unfold Val.same sameB
  rw [beqI x.k, beqI x.n, beqI x.d, beqL x.s.toList]
theorem same_val_refl (x : Val) : x.same x = true := by
  unfold Val.same sameB
  simp
theorem tms_sym : ∀ (m : Nat) (xs ys : List Tm), SizeOf.sizeOf xs ≤ m → sameTs xs ys = sameTs ys xs ∧ sameTs xs xs = true := by
  intro m
  induction m with
  | zero => intro xs ys hm; cases xs <;> simp at hm
  | succ m ih =>
    intro xs ys hm
    cases xs with
    | nil => cases ys with
      | nil => exact ⟨rfl, sameTs_nil⟩
      | cons y ys => exact ⟨by rw [sameTs_len (by simp), sameTs_len (by simp)], sameTs_nil⟩
    | cons x xs =>
      have s1 : SizeOf.sizeOf xs ≤ m := by simp at hm; omega
      have s2 : SizeOf.sizeOf x.subs ≤ m := by have := Tm.subs_lt x; simp at hm; omega
      refine ⟨?_, ?_⟩
      · cases ys with
        | nil => rw [sameTs_len (by simp), sameTs_len (by simp)]
        | cons y ys =>
          rw [sameTs_cons, sameTs_cons, sameT_eq, sameT_eq, (ih xs ys s1).1, (ih x.subs y.subs s2).1, same_val_comm, beqI x.k, beqL x.nm.toList]
      · rw [sameTs_cons, sameT_eq, (ih xs xs s1).2, (ih x.subs x.subs s2).2, same_val_refl]
        simp
theorem both_sym : ∀ m : Nat, (∀ xs ys : List Fm, SizeOf.sizeOf xs ≤ m → sameFs xs ys = sameFs ys xs ∧ sameFs xs xs = true) ∧ (∀ xs ys : List Rx, SizeOf.sizeOf xs ≤ m → sameRs xs ys = sameRs ys xs ∧ sameRs xs xs = true) := by
  intro m
  induction m with
  | zero => exact ⟨fun xs ys hm => by cases xs <;> simp at hm, fun xs ys hm => by cases xs <;> simp at hm⟩
  | succ m ih =>
    constructor
    · intro xs ys hm
      cases xs with
      | nil => cases ys with
        | nil => exact ⟨rfl, sameFs_nil⟩
        | cons y ys => exact ⟨by rw [sameFs_len (by simp), sameFs_len (by simp)], sameFs_nil⟩
      | cons x xs =>
        have s1 : SizeOf.sizeOf xs ≤ m := by simp at hm; omega
        have s2 : SizeOf.sizeOf x.subs ≤ m := by have := Fm.subs_lt x; simp at hm; omega
        have s3 : SizeOf.sizeOf x.rgx ≤ m := by have := Fm.rgx_lt x; simp at hm; omega
        refine ⟨?_, ?_⟩
        · cases ys with
          | nil => rw [sameFs_len (by simp), sameFs_len (by simp)]
          | cons y ys =>
            rw [sameFs_cons, sameFs_cons, sameF_eq, sameF_eq, (ih.1 xs ys s1).1, (ih.1 x.subs y.subs s2).1, (ih.2 x.rgx y.rgx s3).1, (tms_sym _ x.terms y.terms (Nat.le_refl _)).1, beqI x.k, beqL x.nm.toList, beqI x.op, beqI x.lo, beqI x.hi, beqB x.opn]
            rw [show decide (x.vars = y.vars) = decide (y.vars = x.vars) by rw [decide_eq_decide]; exact eq_comm]
        · rw [sameFs_cons, sameF_eq, (ih.1 xs xs s1).2, (ih.1 x.subs x.subs s2).2, (ih.2 x.rgx x.rgx s3).2, (tms_sym _ x.terms x.terms (Nat.le_refl _)).2]
          simp
    · intro xs ys hm
      cases xs with
      | nil => cases ys with
        | nil => exact ⟨rfl, sameRs_nil⟩
        | cons y ys => exact ⟨by rw [sameRs_len (by simp), sameRs_len (by simp)], sameRs_nil⟩
      | cons x xs =>
        have s1 : SizeOf.sizeOf xs ≤ m := by simp at hm; omega
        have s2 : SizeOf.sizeOf x.subs ≤ m := by have := Rx.subs_lt x; simp at hm; omega
        have s3 : SizeOf.sizeOf x.test ≤ m := by have := Rx.test_lt x; simp at hm; omega
        refine ⟨?_, ?_⟩
        · cases ys with
          | nil => rw [sameRs_len (by simp), sameRs_len (by simp)]
          | cons y ys => rw [sameRs_cons, sameRs_cons, sameR_eq, sameR_eq, (ih.2 xs ys s1).1, (ih.2 x.subs y.subs s2).1, (ih.1 x.test y.test s3).1, beqI x.k]
        · rw [sameRs_cons, sameR_eq, (ih.2 xs xs s1).2, (ih.2 x.subs x.subs s2).2, (ih.1 x.test x.test s3).2]
          simp
theorem sameF_refl (x : Fm) : sameF x x = true := by
  rw [sameF_eq, ((both_sym _).1 x.subs x.subs (Nat.le_refl _)).2, ((both_sym _).2 x.rgx x.rgx (Nat.le_refl _)).2, (tms_sym _ x.terms x.terms (Nat.le_refl _)).2]
  simp

end Go.Proofs.YtfajjphfjilpnaaGreat

namespace Go.Proofs.YtfajjphfjilpnaaGreat
open Go.RowKit LX Go.Shelf
set_option linter.unusedVariables false

/-- What Part tells: the formula, the error. -/
def pG (f : Fm) (ns : List Int) : Fm := if chkF f = 0 then (partP f ns).getD fm0 else fm0
def pE (f : Fm) (ns : List Int) : Int := if chkF f = 0 then (if (partP f ns).isSome then 0 else 5) else chkF f
theorem partP_lg : ∀ (ns : List Int) (f g : Fm), partP f ns = some g → lgF f → lgF g
  | [], f, g, h, hl => by rw [partP] at h; injection h with h; subst h; exact hl
  | n :: l, f, g, h, hl => by
    by_cases h0 : n < 0
    · rw [partP_neg h0] at h; cases h
    · by_cases h1 : ((ptsF f).length : Int) ≤ n
      · rw [partP_far h0 h1] at h; cases h
      · obtain ⟨j, rfl⟩ : ∃ j : Nat, n = j := ⟨n.toNat, by omega⟩
        have jx : j < (ptsF f).length := by omega
        rw [partP_in jx] at h
        exact partP_lg l _ g h (lgFs_get _ j jx (pts_lg hl))
theorem lg_fm0 : lgF fm0 := by
  rw [lgF_eq]
  refine ⟨by decide, ⟨by decide, fun s hs => by cases hs⟩, ⟨by decide, ?_⟩, ⟨by decide, ?_⟩, ⟨by decide, ?_⟩⟩
  · show lgTs []; rw [lgTs]; trivial
  · show lgFs []; rw [lgFs]; trivial
  · show lgRs []; rw [lgRs]; trivial
theorem pG_lg (f : Fm) (ns : List Int) : lgF (pG f ns) := by
  unfold pG
  by_cases h : chkF f = 0
  · rw [if_pos h]
    cases hp : partP f ns with
    | none => exact lg_fm0
    | some g => exact partP_lg ns f g hp (chk_lg h)
  · rw [if_neg h]; exact lg_fm0
theorem own_fm0 (P : Nat → Prop) (w : World) : QOwn P w (fm0, fq0) := by
  have e : ∀ q, (Value.slice none 0 0).ownBlock = some q → P q := fun q hq => by cases hq
  exact ⟨⟨⟨rfl, Or.inl ⟨rfl, rfl⟩⟩, by decide, e⟩, .mk [] rfl (by decide) (fun x hx => by cases hx) ⟨rfl, Or.inl ⟨rfl, rfl⟩⟩ e (fun x hx => by cases hx), .mk [] rfl (by decide) ⟨rfl, Or.inl ⟨rfl, rfl⟩⟩ e (fun x hx => by cases hx) (fun x hx => by cases hx) (fun x hx => by cases hx) (fun x hx => by cases hx), .mk [] rfl (by decide) ⟨rfl, Or.inl ⟨rfl, rfl⟩⟩ e (fun x hx => by cases hx) (fun x hx => by cases hx)⟩
theorem part_all {w w' : World} {f : Fm} {ns : List Int} {r : Ending} (h : PartOut w f ns r w') : Below w.heap.size w w' ∧ ∃ z : FQ, r = .returned (.tuple #[.agg #[.int .i64 (pG f ns).k, .string (pG f ns).nm, .int .i64 (pG f ns).op, z.v, z.t, .int .i64 (pG f ns).lo, .int .i64 (pG f ns).hi, .bool (pG f ns).opn, z.s, z.r], .int .i64 (pE f ns)]) ∧ QOwn (fun b => w.heap.size ≤ b) w' (pG f ns, z) := by
  obtain ⟨hb, ⟨h1, h2⟩ | ⟨h1, h2, h3⟩ | ⟨h1, g, q, h2, h3, h4⟩⟩ := h
  · have e1 : pG f ns = fm0 := if_neg h1
    have e2 : pE f ns = chkF f := if_neg h1
    rw [e1, e2]
    exact ⟨hb, fq0, h2, own_fm0 _ _⟩
  · have e1 : pG f ns = fm0 := by unfold pG; rw [if_pos h1, h2]; rfl
    have e2 : pE f ns = 5 := by unfold pE; rw [if_pos h1, h2]; rfl
    rw [e1, e2]
    exact ⟨hb, fq0, h3, own_fm0 _ _⟩
  · have e1 : pG f ns = g := by unfold pG; rw [if_pos h1, h2]; rfl
    have e2 : pE f ns = 0 := by unfold pE; rw [if_pos h1, h2]; rfl
    rw [e1, e2]
    exact ⟨hb, q, h3, h4⟩
theorem rpart_all {wB w w' : World} {f : Fm} {ns : List Int} {r : Ending} (h : RPartOut wB w f ns r w') : Below w.heap.size w w' ∧ ∃ z : FQ, r = .returned (.tuple #[.agg #[.int .i64 (pG f ns).k, .string (pG f ns).nm, .int .i64 (pG f ns).op, z.v, z.t, .int .i64 (pG f ns).lo, .int .i64 (pG f ns).hi, .bool (pG f ns).opn, z.s, z.r], .int .i64 (pE f ns)]) ∧ QAt wB (pG f ns, z) := by
  obtain ⟨hb, ⟨h1, h2⟩ | ⟨h1, h2, h3⟩ | ⟨h1, g, q, h2, h3, h4⟩⟩ := h
  · have e1 : pG f ns = fm0 := if_neg h1
    have e2 : pE f ns = chkF f := if_neg h1
    rw [e1, e2]
    exact ⟨hb, fq0, h2, (own_fm0 (fun _ => True) wB).at⟩
  · have e1 : pG f ns = fm0 := by unfold pG; rw [if_pos h1, h2]; rfl
    have e2 : pE f ns = 5 := by unfold pE; rw [if_pos h1, h2]; rfl
    rw [e1, e2]
    exact ⟨hb, fq0, h3, (own_fm0 (fun _ => True) wB).at⟩
  · have e1 : pG f ns = g := by unfold pG; rw [if_pos h1, h2]; rfl
    have e2 : pE f ns = 0 := by unfold pE; rw [if_pos h1, h2]; rfl
    rw [e1, e2]
    exact ⟨hb, q, h3, h4⟩
theorem PthAt.belowP {w w' : World} {v : Value} {ns : List Int} (h : PthAt w v ns) (hb : Below w.heap.size w w') : PthAt w' v ns := by
  obtain ⟨h1, p, c, e, h2, h3⟩ := h
  refine ⟨h1, p, c, e, h2, fun i hi => ?_⟩
  obtain ⟨b, off, x1, x2, x3⟩ := h3 i hi
  exact ⟨b, off, x1, Nat.lt_of_lt_of_le x2 hb.size, (hb.cell (p := ⟨b, off + i, none⟩) x2).trans x3⟩
set_option maxRecDepth 100000 in
set_option maxHeartbeats 8000000 in
theorem aparts_any (f : Fm) (y : FQ) (V : Value) (ns : List Int) (w : World) (hQ : QAt w (f, y)) (hP : PthAt w V ns) : Calls Tryz.prog 5 #[.agg #[.int .i64 f.k, .string f.nm, .int .i64 f.op, y.v, y.t, .int .i64 f.lo, .int .i64 f.hi, .bool f.opn, y.s, y.r], V] w fun e w' => e = .returned (.bool true) ∧ Below w.heap.size w w' := by
  have c1 : Hid (∀ W : World, Below w.heap.size w W → Calls Tryz.prog 17 #[.agg #[.int .i64 f.k, .string f.nm, .int .i64 f.op, y.v, y.t, .int .i64 f.lo, .int .i64 f.hi, .bool f.opn, y.s, y.r], V] W fun r w' => Below W.heap.size W w' ∧ ∃ z : FQ, r = .returned (.tuple #[.agg #[.int .i64 (pG f ns).k, .string (pG f ns).nm, .int .i64 (pG f ns).op, z.v, z.t, .int .i64 (pG f ns).lo, .int .i64 (pG f ns).hi, .bool (pG f ns).opn, z.s, z.r], .int .i64 (pE f ns)]) ∧ QOwn (fun b => W.heap.size ≤ b) w' (pG f ns, z)) := fun W hW => (part_fm2 f y W (hQ.below hW) V ns (hP.belowP hW)).mono fun r w' h => part_all h
  have c2 : Hid (∀ W : World, Below w.heap.size w W → Calls Tryz.prog 18 #[.agg #[.int .i64 f.k, .string f.nm, .int .i64 f.op, y.v, y.t, .int .i64 f.lo, .int .i64 f.hi, .bool f.opn, y.s, y.r], V] W fun r w' => Below W.heap.size W w' ∧ ∃ z : FQ, r = .returned (.tuple #[.agg #[.int .i64 (pG f ns).k, .string (pG f ns).nm, .int .i64 (pG f ns).op, z.v, z.t, .int .i64 (pG f ns).lo, .int .i64 (pG f ns).hi, .bool (pG f ns).opn, z.s, z.r], .int .i64 (pE f ns)]) ∧ QAt w (pG f ns, z)) := fun W hW => (rpart_fm w f y W hW hQ V ns (hP.belowP hW)).mono fun r w' h => rpart_all h
  have c3 : Hid (∀ (W : World) (z : FQ), QAt W (pG f ns, z) → Calls Tryz.prog 7 #[.agg #[.int .i64 (pG f ns).k, .string (pG f ns).nm, .int .i64 (pG f ns).op, z.v, z.t, .int .i64 (pG f ns).lo, .int .i64 (pG f ns).hi, .bool (pG f ns).opn, z.s, z.r]] W (ClF W (pG f ns))) := fun W z hz => clone_fm _ z W hz (pG_lg f ns)
  have c4 : Hid (∀ (W : World) (z z' : FQ), QAt W (pG f ns, z) → QAt W (pG f ns, z') → Calls Tryz.prog 10 #[.agg #[.int .i64 (pG f ns).k, .string (pG f ns).nm, .int .i64 (pG f ns).op, z.v, z.t, .int .i64 (pG f ns).lo, .int .i64 (pG f ns).hi, .bool (pG f ns).opn, z.s, z.r], .agg #[.int .i64 (pG f ns).k, .string (pG f ns).nm, .int .i64 (pG f ns).op, z'.v, z'.t, .int .i64 (pG f ns).lo, .int .i64 (pG f ns).hi, .bool (pG f ns).opn, z'.s, z'.r]] W fun e w' => e = .returned (.bool true) ∧ Below W.heap.size W w') := fun W z z' h1 h2 => by
    have h := rsame_fm (pG f ns) (pG f ns) z z' W h1 h2
    rw [sameF_refl] at h
    exact h
  have c5 : Hid (∀ (B : Nat) (w1 W : World) (z : FQ), QOwn (fun b => B ≤ b) w1 (pG f ns, z) → Spt B w1 W → Calls Tryz.prog 19 #[.agg #[.int .i64 (pG f ns).k, .string (pG f ns).nm, .int .i64 (pG f ns).op, z.v, z.t, .int .i64 (pG f ns).lo, .int .i64 (pG f ns).hi, .bool (pG f ns).opn, z.s, z.r]] W (SpOut B w1 W)) := fun B w1 W z h1 h2 => spoil_any B w1 _ _ z W (Nat.le_refl _) h1 h2
  obtain ⟨pp, np, cp, rfl⟩ : ∃ p n c, V = .slice p n c := by obtain ⟨-, p, c, e, -⟩ := hP; exact ⟨p, _, c, e⟩
  clear hP
  generalize pE f ns = E at *
  generalize pG f ns = G at *
  obtain ⟨uv, ut, us, ur⟩ := y
  obtain ⟨h1, h2, h3, h4⟩ := hQ
  dsimp only at h1 h2 h3 h4 c1 c2 ⊢
  obtain ⟨-, pv, cv, rfl, -, -⟩ := h1
  obtain ⟨pt, ct, rfl, -⟩ := h2.form
  obtain ⟨ps, cs, rfl, -⟩ := h3.form
  obtain ⟨pr, cr, rfl, -⟩ := h4.form
  clear h2 h3 h4
  generalize f.vars.length = nv at *
  generalize f.terms.length = nt at *
  generalize f.subs.length = ns at *
  generalize f.rgx.length = nr at *
  generalize f.lo = lo at *
  generalize f.hi = fhi at *
  generalize f.nm = nm at *
  generalize f.opn = o at *
  generalize f.op = op at *
  generalize f.k = fk at *
  go_enter Tryz.func5, Tryz.ntmps5
  go_wp2_with fail
  refine (c1.out _ ((Below.refl _ _).alloc (Nat.le_refl _) _)).mono ?_
  rintro e w1 ⟨hb1, z1, rfl, q1⟩
  have X1 : Hid (w1.heap[w.heap.size]? = some (.cells #[.int .i64 fk, .string nm, .int .i64 op, .slice pv nv cv, .slice pt nt ct, .int .i64 lo, .int .i64 fhi, .bool o, .slice ps ns cs, .slice pr nr cr] 29 (0, 0))) := (hb1.block w.heap.size (by simp)).trans (heap_allocA w _)
  have B1 : Below w.heap.size w w1 := ((Below.refl _ _).alloc (Nat.le_refl _) _).trans (hb1.mono (by simp))
  have Q1 : Hid (QOwn (fun b => w.heap.size + 1 ≤ b) w1 (G, z1)) := by have h := q1; simp only [World.size_alloc] at h; exact h
  clear hb1 q1 c1
  obtain ⟨uv, ut, us, ur⟩ := z1
  obtain ⟨k1, k2, k3, k4⟩ := Q1.out.at
  dsimp only at k1 k2 k3 k4
  obtain ⟨-, qv, dv, rfl, -⟩ := k1
  obtain ⟨qt, dt, rfl, -⟩ := k2.form
  obtain ⟨qs, ds, rfl, -⟩ := k3.form
  obtain ⟨qr, dr, rfl, -⟩ := k4.form
  clear k2 k3 k4
  go_upto_region 2 with fail
  refine wp_world ?_
  intro w2 hW2
  have K2 : Below w1.heap.size w1 w2 := by rw [hW2]; go_grown
  have N1 : Hid (w2.heap[w1.heap.size]? = some (.cells #[.int .i64 G.k, .string G.nm, .int .i64 G.op, .slice qv G.vars.length dv, .slice qt G.terms.length dt, .int .i64 G.lo, .int .i64 G.hi, .bool G.opn, .slice qs G.subs.length ds, .slice qr G.rgx.length dr] 29 (0, 0))) := by rw [hW2]; exact heap_allocA w1 _
  have X2 : Hid (_) := blkB X1.out K2
  have B2 : Below w.heap.size w w2 := B1.trans (K2.mono B1.size)
  clear hW2 X1
  have e0 : w2.cell? ⟨w.heap.size, 0, none⟩ = some (.int .i64 fk) := by rw [Lib.cell_of_heap X2.out]; rfl
  have e1 : w2.cell? ⟨w.heap.size, 1, none⟩ = some (.string nm) := by rw [Lib.cell_of_heap X2.out]; rfl
  have e2 : w2.cell? ⟨w.heap.size, 2, none⟩ = some (.int .i64 op) := by rw [Lib.cell_of_heap X2.out]; rfl
  have e3 : w2.cell? ⟨w.heap.size, 3, none⟩ = some (.slice pv nv cv) := by rw [Lib.cell_of_heap X2.out]; rfl
  have e4 : w2.cell? ⟨w.heap.size, 4, none⟩ = some (.slice pt nt ct) := by rw [Lib.cell_of_heap X2.out]; rfl
  have e5 : w2.cell? ⟨w.heap.size, 5, none⟩ = some (.int .i64 lo) := by rw [Lib.cell_of_heap X2.out]; rfl
  have e6 : w2.cell? ⟨w.heap.size, 6, none⟩ = some (.int .i64 fhi) := by rw [Lib.cell_of_heap X2.out]; rfl
  have e7 : w2.cell? ⟨w.heap.size, 7, none⟩ = some (.bool o) := by rw [Lib.cell_of_heap X2.out]; rfl
  have e8 : w2.cell? ⟨w.heap.size, 8, none⟩ = some (.slice ps ns cs) := by rw [Lib.cell_of_heap X2.out]; rfl
  have e9 : w2.cell? ⟨w.heap.size, 9, none⟩ = some (.slice pr nr cr) := by rw [Lib.cell_of_heap X2.out]; rfl
  go_wp2_with fail
  refine (c2.out _ B2).mono ?_
  rintro e w3 ⟨hb3, z3, rfl, q3⟩
  have Q3 : Hid (QAt w (G, z3)) := q3
  have N13 : Hid (_) := blkB N1.out hb3
  have B3 : Below w.heap.size w w3 := B2.trans (hb3.mono B2.size)
  have K3 : Below w1.heap.size w1 w3 := K2.trans (hb3.mono K2.size)
  clear hb3 q3 c2 X2 N1 B2 K2 e0 e1 e2 e3 e4 e5 e6 e7 e8 e9
  obtain ⟨uv, ut, us, ur⟩ := z3
  obtain ⟨k1, k2, k3, k4⟩ := Q3.out
  dsimp only at k1 k2 k3 k4
  obtain ⟨-, mv, lv, rfl, -⟩ := k1
  obtain ⟨mt, lt, rfl, -⟩ := k2.form
  obtain ⟨ms, ls, rfl, -⟩ := k3.form
  obtain ⟨mr, lr, rfl, -⟩ := k4.form
  clear k2 k3 k4
  go_upto_region 3 with fail
  refine wp_world ?_
  intro w4 hW4
  have L4 : Below w3.heap.size w3 w4 := by rw [hW4]; go_grown
  have N2 : Hid (w4.heap[w3.heap.size]? = some (.cells #[.int .i64 G.k, .string G.nm, .int .i64 G.op, .slice mv G.vars.length lv, .slice mt G.terms.length lt, .int .i64 G.lo, .int .i64 G.hi, .bool G.opn, .slice ms G.subs.length ls, .slice mr G.rgx.length lr] 29 (0, 0))) := by rw [hW4]; exact heap_allocA w3 _
  have N14 : Hid (_) := blkB N13.out L4
  have B4 : Below w.heap.size w w4 := B3.trans (L4.mono B3.size)
  have K4 : Below w1.heap.size w1 w4 := K3.trans (L4.mono K3.size)
  have s34 : w1.heap.size ≤ w3.heap.size := K3.size
  clear hW4 N13
  generalize hn2 : w3.heap.size = n2 at *
  have h0 : w4.cell? ⟨n2, 0, none⟩ = some (.int .i64 G.k) := by rw [Lib.cell_of_heap N2.out]; rfl
  have h1 : w4.cell? ⟨n2, 1, none⟩ = some (.string G.nm) := by rw [Lib.cell_of_heap N2.out]; rfl
  have h2 : w4.cell? ⟨n2, 2, none⟩ = some (.int .i64 G.op) := by rw [Lib.cell_of_heap N2.out]; rfl
  have h3 : w4.cell? ⟨n2, 3, none⟩ = some (.slice mv G.vars.length lv) := by rw [Lib.cell_of_heap N2.out]; rfl
  have h4 : w4.cell? ⟨n2, 4, none⟩ = some (.slice mt G.terms.length lt) := by rw [Lib.cell_of_heap N2.out]; rfl
  have h5 : w4.cell? ⟨n2, 5, none⟩ = some (.int .i64 G.lo) := by rw [Lib.cell_of_heap N2.out]; rfl
  have h6 : w4.cell? ⟨n2, 6, none⟩ = some (.int .i64 G.hi) := by rw [Lib.cell_of_heap N2.out]; rfl
  have h7 : w4.cell? ⟨n2, 7, none⟩ = some (.bool G.opn) := by rw [Lib.cell_of_heap N2.out]; rfl
  have h8 : w4.cell? ⟨n2, 8, none⟩ = some (.slice ms G.subs.length ls) := by rw [Lib.cell_of_heap N2.out]; rfl
  have h9 : w4.cell? ⟨n2, 9, none⟩ = some (.slice mr G.rgx.length lr) := by rw [Lib.cell_of_heap N2.out]; rfl
  have C3 : Hid (_) := c3.out w4 (⟨.slice mv G.vars.length lv, .slice mt G.terms.length lt, .slice ms G.subs.length ls, .slice mr G.rgx.length lr⟩ : FQ) (QAt.below Q3.out B4)
  have C3' : Hid (Calls Tryz.prog 7 #[.agg #[.int .i64 G.k, .string G.nm, .int .i64 G.op, .slice mv G.vars.length lv, .slice mt G.terms.length lt, .int .i64 G.lo, .int .i64 G.hi, .bool G.opn, .slice ms G.subs.length ls, .slice mr G.rgx.length lr]] w4 (ClF w4 G)) := C3.out
  clear C3 c3 B3 K3 L4
  go_wp2_with fail
  refine C3'.out.mono ?_
  rintro e w5 ⟨z5, rfl, q5, hb5⟩
  have Q5 : Hid (QAt w5 (G, z5)) := q5.at
  have N15 : Hid (_) := blkB N14.out hb5
  have N25 : Hid (_) := blkB N2.out hb5
  have B5 : Below w.heap.size w w5 := B4.trans (hb5.mono B4.size)
  have K5 : Below w1.heap.size w1 w5 := K4.trans (hb5.mono K4.size)
  have s45 : w4.heap.size ≤ w5.heap.size := hb5.size
  have P5 : Hid (QOwn (fun b => w4.heap.size ≤ b) w5 (G, z5)) := q5
  have s24 : n2 < w4.heap.size := blkL N2.out
  clear hb5 q5 N14 N2 B4 K4 C3' h0 h1 h2 h3 h4 h5 h6 h7 h8 h9
  obtain ⟨uv, ut, us, ur⟩ := z5
  obtain ⟨k1, k2, k3, k4⟩ := Q5.out
  dsimp only at k1 k2 k3 k4
  obtain ⟨-, rv, sv, rfl, -⟩ := k1
  obtain ⟨rt, st, rfl, -⟩ := k2.form
  obtain ⟨rs, ss, rfl, -⟩ := k3.form
  obtain ⟨rr, sr, rfl, -⟩ := k4.form
  clear k2 k3 k4
  go_upto_region 4 with fail
  refine wp_world ?_
  intro w6 hW6
  have L6 : Below w5.heap.size w5 w6 := by rw [hW6]; go_grown
  have N3 : Hid (w6.heap[w5.heap.size]? = some (.cells #[.int .i64 G.k, .string G.nm, .int .i64 G.op, .slice rv G.vars.length sv, .slice rt G.terms.length st, .int .i64 G.lo, .int .i64 G.hi, .bool G.opn, .slice rs G.subs.length ss, .slice rr G.rgx.length sr] 29 (0, 0))) := by rw [hW6]; exact heap_allocA w5 _
  have N16 : Hid (_) := blkB N15.out L6
  have N26 : Hid (_) := blkB N25.out L6
  have B6 : Below w.heap.size w w6 := B5.trans (L6.mono B5.size)
  have K6 : Below w1.heap.size w1 w6 := K5.trans (L6.mono K5.size)
  have P6 : Hid (QOwn (fun b => w4.heap.size ≤ b) w6 (G, (⟨.slice rv G.vars.length sv, .slice rt G.terms.length st, .slice rs G.subs.length ss, .slice rr G.rgx.length sr⟩ : FQ))) := P5.out.keep (fun k _ hk => L6.block k hk)
  have s56 : w5.heap.size < w6.heap.size := blkL N3.out
  clear hW6 N15 N25 B5 K5 P5 Q5 L6
  generalize hn1 : w1.heap.size = n1 at *
  generalize hn3 : w5.heap.size = n3 at *
  have h0 : w6.cell? ⟨n1, 0, none⟩ = some (.int .i64 G.k) := by rw [Lib.cell_of_heap N16.out]; rfl
  have h1 : w6.cell? ⟨n1, 1, none⟩ = some (.string G.nm) := by rw [Lib.cell_of_heap N16.out]; rfl
  have h2 : w6.cell? ⟨n1, 2, none⟩ = some (.int .i64 G.op) := by rw [Lib.cell_of_heap N16.out]; rfl
  have h3 : w6.cell? ⟨n1, 3, none⟩ = some (.slice qv G.vars.length dv) := by rw [Lib.cell_of_heap N16.out]; rfl
  have h4 : w6.cell? ⟨n1, 4, none⟩ = some (.slice qt G.terms.length dt) := by rw [Lib.cell_of_heap N16.out]; rfl
  have h5 : w6.cell? ⟨n1, 5, none⟩ = some (.int .i64 G.lo) := by rw [Lib.cell_of_heap N16.out]; rfl
  have h6 : w6.cell? ⟨n1, 6, none⟩ = some (.int .i64 G.hi) := by rw [Lib.cell_of_heap N16.out]; rfl
  have h7 : w6.cell? ⟨n1, 7, none⟩ = some (.bool G.opn) := by rw [Lib.cell_of_heap N16.out]; rfl
  have h8 : w6.cell? ⟨n1, 8, none⟩ = some (.slice qs G.subs.length ds) := by rw [Lib.cell_of_heap N16.out]; rfl
  have h9 : w6.cell? ⟨n1, 9, none⟩ = some (.slice qr G.rgx.length dr) := by rw [Lib.cell_of_heap N16.out]; rfl
  have g0 : w6.cell? ⟨n2, 0, none⟩ = some (.int .i64 G.k) := by rw [Lib.cell_of_heap N26.out]; rfl
  have g1 : w6.cell? ⟨n2, 1, none⟩ = some (.string G.nm) := by rw [Lib.cell_of_heap N26.out]; rfl
  have g2 : w6.cell? ⟨n2, 2, none⟩ = some (.int .i64 G.op) := by rw [Lib.cell_of_heap N26.out]; rfl
  have g3 : w6.cell? ⟨n2, 3, none⟩ = some (.slice mv G.vars.length lv) := by rw [Lib.cell_of_heap N26.out]; rfl
  have g4 : w6.cell? ⟨n2, 4, none⟩ = some (.slice mt G.terms.length lt) := by rw [Lib.cell_of_heap N26.out]; rfl
  have g5 : w6.cell? ⟨n2, 5, none⟩ = some (.int .i64 G.lo) := by rw [Lib.cell_of_heap N26.out]; rfl
  have g6 : w6.cell? ⟨n2, 6, none⟩ = some (.int .i64 G.hi) := by rw [Lib.cell_of_heap N26.out]; rfl
  have g7 : w6.cell? ⟨n2, 7, none⟩ = some (.bool G.opn) := by rw [Lib.cell_of_heap N26.out]; rfl
  have g8 : w6.cell? ⟨n2, 8, none⟩ = some (.slice ms G.subs.length ls) := by rw [Lib.cell_of_heap N26.out]; rfl
  have g9 : w6.cell? ⟨n2, 9, none⟩ = some (.slice mr G.rgx.length lr) := by rw [Lib.cell_of_heap N26.out]; rfl
  have C4 : Hid (Calls Tryz.prog 10 #[.agg #[.int .i64 G.k, .string G.nm, .int .i64 G.op, .slice qv G.vars.length dv, .slice qt G.terms.length dt, .int .i64 G.lo, .int .i64 G.hi, .bool G.opn, .slice qs G.subs.length ds, .slice qr G.rgx.length dr], .agg #[.int .i64 G.k, .string G.nm, .int .i64 G.op, .slice mv G.vars.length lv, .slice mt G.terms.length lt, .int .i64 G.lo, .int .i64 G.hi, .bool G.opn, .slice ms G.subs.length ls, .slice mr G.rgx.length lr]] w6 fun e w' => e = .returned (.bool true) ∧ Below w6.heap.size w6 w') := c4.out w6 (⟨.slice qv G.vars.length dv, .slice qt G.terms.length dt, .slice qs G.subs.length ds, .slice qr G.rgx.length dr⟩ : FQ) (⟨.slice mv G.vars.length lv, .slice mt G.terms.length lt, .slice ms G.subs.length ls, .slice mr G.rgx.length lr⟩ : FQ) (QAt.below (w := w1) Q1.out.at (by rw [hn1]; exact K6)) (QAt.below Q3.out B6)
  go_wp2_with fail
  refine C4.out.mono ?_
  rintro e w7 ⟨rfl, hb7⟩
  have N17 : Hid (_) := blkB N16.out hb7
  have N27 : Hid (_) := blkB N26.out hb7
  have N37 : Hid (_) := blkB N3.out hb7
  have B7 : Below w.heap.size w w7 := B6.trans (hb7.mono B6.size)
  have K7 : Below n1 w1 w7 := K6.trans (hb7.mono (by rw [← hn1]; exact (show w1.heap.size ≤ _ from by rw [hn1]; exact K6.size |> fun h => by rw [hn1] at h; exact h)))
  have P7 : Hid (QOwn (fun b => w4.heap.size ≤ b) w7 (G, (⟨.slice rv G.vars.length sv, .slice rt G.terms.length st, .slice rs G.subs.length ss, .slice rr G.rgx.length sr⟩ : FQ))) := P6.out.keep (fun k _ hk => hb7.block k hk)
  have s67 : w6.heap.size ≤ w7.heap.size := hb7.size
  clear hb7 N16 N26 N3 B6 K6 P6 C4 h0 h1 h2 h3 h4 h5 h6 h7 h8 h9 g0 g1 g2 g3 g4 g5 g6 g7 g8 g9
  have i0 : w7.cell? ⟨n1, 0, none⟩ = some (.int .i64 G.k) := by rw [Lib.cell_of_heap N17.out]; rfl
  have i1 : w7.cell? ⟨n1, 1, none⟩ = some (.string G.nm) := by rw [Lib.cell_of_heap N17.out]; rfl
  have i2 : w7.cell? ⟨n1, 2, none⟩ = some (.int .i64 G.op) := by rw [Lib.cell_of_heap N17.out]; rfl
  have i3 : w7.cell? ⟨n1, 3, none⟩ = some (.slice qv G.vars.length dv) := by rw [Lib.cell_of_heap N17.out]; rfl
  have i4 : w7.cell? ⟨n1, 4, none⟩ = some (.slice qt G.terms.length dt) := by rw [Lib.cell_of_heap N17.out]; rfl
  have i5 : w7.cell? ⟨n1, 5, none⟩ = some (.int .i64 G.lo) := by rw [Lib.cell_of_heap N17.out]; rfl
  have i6 : w7.cell? ⟨n1, 6, none⟩ = some (.int .i64 G.hi) := by rw [Lib.cell_of_heap N17.out]; rfl
  have i7 : w7.cell? ⟨n1, 7, none⟩ = some (.bool G.opn) := by rw [Lib.cell_of_heap N17.out]; rfl
  have i8 : w7.cell? ⟨n1, 8, none⟩ = some (.slice qs G.subs.length ds) := by rw [Lib.cell_of_heap N17.out]; rfl
  have i9 : w7.cell? ⟨n1, 9, none⟩ = some (.slice qr G.rgx.length dr) := by rw [Lib.cell_of_heap N17.out]; rfl
  have S7 : Spt (w.heap.size + 1) w1 w7 := (Spt.refl _ w1).new (by rw [hn1]; exact K7)
  have C5 : Hid (Calls Tryz.prog 19 #[.agg #[.int .i64 G.k, .string G.nm, .int .i64 G.op, .slice qv G.vars.length dv, .slice qt G.terms.length dt, .int .i64 G.lo, .int .i64 G.hi, .bool G.opn, .slice qs G.subs.length ds, .slice qr G.rgx.length dr]] w7 (SpOut (w.heap.size + 1) w1 w7)) := c5.out (w.heap.size + 1) w1 w7 (⟨.slice qv G.vars.length dv, .slice qt G.terms.length dt, .slice qs G.subs.length ds, .slice qr G.rgx.length dr⟩ : FQ) Q1.out S7
  clear S7 K7
  go_wp2_with fail
  refine C5.out.mono ?_
  rintro e w8 ⟨⟨v8, rfl⟩, h8⟩
  have F8 : Hid (Fr (fun k => w.heap.size + 1 ≤ k ∧ k < w1.heap.size) w7 w8) := h8.out.2
  have N28 : Hid (_) := F8.out.heap N27.out (fun h => by omega)
  have N38 : Hid (_) := F8.out.heap N37.out (fun h => by omega)
  have B8 : Below w.heap.size w w8 := B7.trans (F8.out.below B7.size (fun k h => by omega))
  have P8 : Hid (QOwn (fun b => w4.heap.size ≤ b) w8 (G, (⟨.slice rv G.vars.length sv, .slice rt G.terms.length st, .slice rs G.subs.length ss, .slice rr G.rgx.length sr⟩ : FQ))) := P7.out.keep (fun k hk hlt => F8.out.block k hlt (fun h => by omega))
  clear h8 N17 N27 N37 F8 P7 C5 Q1 c5 i0 i1 i2 i3 i4 i5 i6 i7 i8 i9
  have h0 : w8.cell? ⟨n2, 0, none⟩ = some (.int .i64 G.k) := by rw [Lib.cell_of_heap N28.out]; rfl
  have h1 : w8.cell? ⟨n2, 1, none⟩ = some (.string G.nm) := by rw [Lib.cell_of_heap N28.out]; rfl
  have h2 : w8.cell? ⟨n2, 2, none⟩ = some (.int .i64 G.op) := by rw [Lib.cell_of_heap N28.out]; rfl
  have h3 : w8.cell? ⟨n2, 3, none⟩ = some (.slice mv G.vars.length lv) := by rw [Lib.cell_of_heap N28.out]; rfl
  have h4 : w8.cell? ⟨n2, 4, none⟩ = some (.slice mt G.terms.length lt) := by rw [Lib.cell_of_heap N28.out]; rfl
  have h5 : w8.cell? ⟨n2, 5, none⟩ = some (.int .i64 G.lo) := by rw [Lib.cell_of_heap N28.out]; rfl
  have h6 : w8.cell? ⟨n2, 6, none⟩ = some (.int .i64 G.hi) := by rw [Lib.cell_of_heap N28.out]; rfl
  have h7 : w8.cell? ⟨n2, 7, none⟩ = some (.bool G.opn) := by rw [Lib.cell_of_heap N28.out]; rfl
  have h8 : w8.cell? ⟨n2, 8, none⟩ = some (.slice ms G.subs.length ls) := by rw [Lib.cell_of_heap N28.out]; rfl
  have h9 : w8.cell? ⟨n2, 9, none⟩ = some (.slice mr G.rgx.length lr) := by rw [Lib.cell_of_heap N28.out]; rfl
  have g0 : w8.cell? ⟨n3, 0, none⟩ = some (.int .i64 G.k) := by rw [Lib.cell_of_heap N38.out]; rfl
  have g1 : w8.cell? ⟨n3, 1, none⟩ = some (.string G.nm) := by rw [Lib.cell_of_heap N38.out]; rfl
  have g2 : w8.cell? ⟨n3, 2, none⟩ = some (.int .i64 G.op) := by rw [Lib.cell_of_heap N38.out]; rfl
  have g3 : w8.cell? ⟨n3, 3, none⟩ = some (.slice rv G.vars.length sv) := by rw [Lib.cell_of_heap N38.out]; rfl
  have g4 : w8.cell? ⟨n3, 4, none⟩ = some (.slice rt G.terms.length st) := by rw [Lib.cell_of_heap N38.out]; rfl
  have g5 : w8.cell? ⟨n3, 5, none⟩ = some (.int .i64 G.lo) := by rw [Lib.cell_of_heap N38.out]; rfl
  have g6 : w8.cell? ⟨n3, 6, none⟩ = some (.int .i64 G.hi) := by rw [Lib.cell_of_heap N38.out]; rfl
  have g7 : w8.cell? ⟨n3, 7, none⟩ = some (.bool G.opn) := by rw [Lib.cell_of_heap N38.out]; rfl
  have g8 : w8.cell? ⟨n3, 8, none⟩ = some (.slice rs G.subs.length ss) := by rw [Lib.cell_of_heap N38.out]; rfl
  have g9 : w8.cell? ⟨n3, 9, none⟩ = some (.slice rr G.rgx.length sr) := by rw [Lib.cell_of_heap N38.out]; rfl
  have C6 : Hid (Calls Tryz.prog 10 #[.agg #[.int .i64 G.k, .string G.nm, .int .i64 G.op, .slice mv G.vars.length lv, .slice mt G.terms.length lt, .int .i64 G.lo, .int .i64 G.hi, .bool G.opn, .slice ms G.subs.length ls, .slice mr G.rgx.length lr], .agg #[.int .i64 G.k, .string G.nm, .int .i64 G.op, .slice rv G.vars.length sv, .slice rt G.terms.length st, .int .i64 G.lo, .int .i64 G.hi, .bool G.opn, .slice rs G.subs.length ss, .slice rr G.rgx.length sr]] w8 fun e w' => e = .returned (.bool true) ∧ Below w8.heap.size w8 w') := c4.out w8 (⟨.slice mv G.vars.length lv, .slice mt G.terms.length lt, .slice ms G.subs.length ls, .slice mr G.rgx.length lr⟩ : FQ) (⟨.slice rv G.vars.length sv, .slice rt G.terms.length st, .slice rs G.subs.length ss, .slice rr G.rgx.length sr⟩ : FQ) (QAt.below Q3.out B8) P8.out.at
  go_wp2_with fail
  refine C6.out.mono ?_
  rintro e w9 ⟨rfl, hb9⟩
  have B9 : Below w.heap.size w w9 := B8.trans (hb9.mono B8.size)
  clear hb9 C6 N28 N38 P8 c4 h0 h1 h2 h3 h4 h5 h6 h7 h8 h9 g0 g1 g2 g3 g4 g5 g6 g7 g8 g9
  go_wp2_with fail
  refine (live06_any _).mono ?_
  rintro e w10 ⟨rfl, hb10⟩
  have B10 : Below w.heap.size w w10 := B9.trans (hb10.mono B9.size)
  clear hb10
  go_wp2
  go_ret
  exact ⟨rfl, B10⟩
end Go.Proofs.YtfajjphfjilpnaaGreat
