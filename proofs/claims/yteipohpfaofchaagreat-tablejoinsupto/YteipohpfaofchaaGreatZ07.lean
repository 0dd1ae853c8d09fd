/- The document's side: are two tables the same; is a row one of a table's? -/
import Derived.Test.YteipohpfaofchaaGreatZ06

namespace Go.Proofs.YteipohpfaofchaaGreat
open Go.RowKit Go.Shelf Go.Sort
set_option linter.unusedVariables false

/-- The rows that nothing fits. -/
def antiR (cs ds : List Nat) (rs qs : List (List Val)) : List (List Val) := rs.filter fun r => !(qs.any fun q => rowS (picks r cs) (picks q ds))
open Classical in
theorem antiOf_eq {w : World} {us : List Value} {rs qs : List (List Val)} {cs ds : List Nat} (h : RowsOf w us qs) (hcs : ∀ r ∈ rs, ∀ c ∈ cs, c < r.length) (hds : ∀ r ∈ qs, ∀ c ∈ ds, c < r.length) (hl : cs.length = ds.length) : antiOf (grp w ds us) cs rs = antiR cs ds rs qs := by
  unfold antiOf antiR
  refine List.filter_congr fun r hr => ?_
  rw [← map_rw h, Bool.eq_iff_iff, List.isEmpty_iff, Bool.not_eq_true', ← Bool.not_eq_true, List.any_eq_true]
  unfold grp
  rw [List.filter_eq_nil_iff]
  constructor
  · rintro hno ⟨q, hq, he⟩
    obtain ⟨u, hu, rfl⟩ := List.mem_map.1 hq
    refine hno u hu ?_
    rw [decide_eq_true_eq, rowS_iff.1 he]
  · intro hno u hu he
    rw [decide_eq_true_eq] at he
    have hq : rwOf w u ∈ qs := by rw [← map_rw h]; exact List.mem_map_of_mem hu
    have hlen : (picks (rwOf w u) ds).length = (picks r cs).length := by rw [picks_len (hds _ hq), picks_len (hcs r hr), hl]
    exact hno ⟨_, List.mem_map_of_mem hu, rowS_iff.2 (padK_inj hlen he).symm⟩
def antiL (vs vs' : List ByteArray) (rs qs : List (List Val)) : List (List Val) := antiR ((bothL vs' 0 vs).map (·.1)) ((bothL vs' 0 vs).map (·.2)) rs qs
theorem without_any2 {Va Ra Vb Rb : Value} {vs vs' : List ByteArray} {us us' : List Value} {rs qs : List (List Val)} {w : World} (hTa : TabAt w Va Ra vs us rs) (hTb : TabAt w Vb Rb vs' us' qs) (okA : OkT vs rs) (okB : OkT vs' qs) :
    Calls Tryz.prog 58 #[.agg #[Va, Ra], .agg #[Vb, Rb]] w fun e w' => ∃ t, e = .returned t ∧ OwnT w.heap.size t vs (antiL vs vs' rs qs) w' ∧ Below w.heap.size w w' := by
  have h := without_any hTa hTb okA okB
  rw [antiOf_eq hTb.rows (fun r hr c hc => by rw [(okA.rows r hr).1]; exact both_cs.1 c hc) (fun r hr c hc => by rw [(okB.rows r hr).1]; exact both_cs.2.1 c hc) both_cs.2.2] at h
  exact h

set_option maxRecDepth 100000 in
set_option maxHeartbeats 8000000 in
theorem anti_any {Va Ra Vb Rb : Value} {vs vs' : List ByteArray} {us us' : List Value} {rs qs : List (List Val)} {w : World} (ha : TabAt w Va Ra vs us rs) (hb : TabAt w Vb Rb vs' us' qs) :
    Calls Tryz.prog 29 #[.agg #[Va, Ra], .agg #[Vb, Rb]] w fun e w' => ∃ t, e = .returned (.tuple #[t, .int .i64 (bothE vs rs vs' qs)]) ∧ (bothE vs rs vs' qs = 0 → OwnT w.heap.size t vs (antiL vs vs' rs qs) w') ∧ (bothE vs rs vs' qs ≠ 0 → t = .agg #[.slice none 0 0, .slice none 0 0]) ∧ Below w.heap.size w w' := by
  have HA : Hid (TabAt w Va Ra vs us rs) := ha
  have HB : Hid (TabAt w Vb Rb vs' us' qs) := hb
  have cE : Hid (∀ W, Below w.heap.size w W → Calls Tryz.prog 59 #[.agg #[Va, Ra], .agg #[Vb, Rb]] W fun e w' => e = .returned (.int .i64 (bothE vs rs vs' qs)) ∧ Below W.heap.size W w') := fun W hW => cboth2_any (ha.below hW) (hb.below hW)
  obtain ⟨p1, k1, p2, k2, rfl, rfl⟩ := ha.forms
  obtain ⟨p3, k3, p4, k4, rfl, rfl⟩ := hb.forms
  obtain ⟨E, eE⟩ : ∃ E, Hid (bothE vs rs vs' qs = E) := ⟨_, rfl⟩
  obtain ⟨n1, en1⟩ : ∃ n, Hid (vs.length = n) := ⟨_, rfl⟩
  obtain ⟨n2, en2⟩ : ∃ n, Hid (us.length = n) := ⟨_, rfl⟩
  obtain ⟨n3, en3⟩ : ∃ n, Hid (vs'.length = n) := ⟨_, rfl⟩
  obtain ⟨n4, en4⟩ : ∃ n, Hid (us'.length = n) := ⟨_, rfl⟩
  rw [eE.out] at cE ⊢
  rw [en1.out] at HA cE ⊢
  rw [en2.out] at HA cE ⊢
  rw [en3.out] at HB cE ⊢
  rw [en4.out] at HB cE ⊢
  clear ha hb
  go_enter Tryz.func29, Tryz.ntmps29
  go_upto_region 1 with fail
  refine wp_world ?_
  intro W0 hW0
  have bx0 : Hid (Box3 W0 w.heap.size (.slice p1 n1 k1) (.slice p2 n2 k2) (.slice p3 n3 k3) (.slice p4 n4 k4)) := by rw [hW0]; exact Box3.made _ _ _ _ _
  have K0 : Below w.heap.size w W0 := by rw [hW0]; go_grown
  have z0 : W0.heap.size = w.heap.size + 3 := by rw [hW0]; simp
  clear hW0
  have A0 := cell_of_heap bx0.out.a 0 rfl
  have A1 := cell_of_heap bx0.out.a 1 rfl
  have B0 := cell_of_heap bx0.out.b 0 rfl
  have B1 := cell_of_heap bx0.out.b 1 rfl
  go_wp2_with fail
  refine (cE.out W0 K0).mono ?_
  rintro e w1 ⟨rfl, hb1⟩
  have bx1 : Hid (Box3 w1 w.heap.size (.slice p1 n1 k1) (.slice p2 n2 k2) (.slice p3 n3 k3) (.slice p4 n4 k4)) := bx0.out.below hb1
  have K1 : Below w.heap.size w w1 := K0.trans (hb1.mono K0.size)
  have z1 : w.heap.size + 3 ≤ w1.heap.size := by have := hb1.size; omega
  clear A0 A1 B0 B1 bx0 K0 hb1 z0
  have HSET : Hid (∀ W, Below w.heap.size w W → ∀ x y, Below w.heap.size w ((W.setCell ⟨w.heap.size + 2, 0, none⟩ x).setCell ⟨w.heap.size + 2, 1, none⟩ y)) := fun W h x y => by
    have b2 := h.grown (grownBy_setCell W (w.heap.size + 2) 0 x) h.size (fun q hq => by injection hq with hq; omega)
    exact b2.grown (grownBy_setCell _ (w.heap.size + 2) 1 y) b2.size (fun q hq => by injection hq with hq; omega)
  by_cases hE : E = 0
  · have HE : Hid (E = 0) := hE
    have okA : OkT vs rs := tabChk_ok (bothE_ok (eE.out.trans hE)).1 HA.out.fits
    have okB : OkT vs' qs := tabChk_ok (bothE_ok (eE.out.trans hE)).2 HB.out.fits
    have cW : Hid (Calls Tryz.prog 58 #[.agg #[.slice p1 n1 k1, .slice p2 n2 k2], .agg #[.slice p3 n3 k3, .slice p4 n4 k4]] w1 fun e w' => ∃ t, e = .returned t ∧ OwnT w1.heap.size t vs (antiL vs vs' rs qs) w' ∧ Below w1.heap.size w1 w') := without_any2 (HA.out.below K1) (HB.out.below K1) okA okB
    have A0 := cell_of_heap bx1.out.a 0 rfl
    have A1 := cell_of_heap bx1.out.a 1 rfl
    have B0 := cell_of_heap bx1.out.b 0 rfl
    have B1 := cell_of_heap bx1.out.b 1 rfl
    clear okA okB cE
    go_wp2_with fail
    refine cW.out.mono ?_
    rintro e w6 ⟨t, rfl, ht, hb6⟩
    have bx6 := bx1.out.below hb6
    have K6 : Below w.heap.size w w6 := K1.trans (hb6.mono K1.size)
    have ht2 := ht
    obtain ⟨ta, tb, zt, rfl, t1, t2, t3⟩ := ht2
    obtain ⟨pta, nta, cta, rfl⟩ := slice_of t1
    obtain ⟨ptb, ntb, ctb, rfl⟩ := slice_of t2
    have HT : Hid (OwnT w1.heap.size (.agg #[.slice pta nta cta, .slice ptb ntb ctb]) vs (antiL vs vs' rs qs) w6) := ht
    have r0 := cell_of_heap bx6.r 0 rfl
    have r1 := cell_of_heap bx6.r 1 rfl
    have f0 := frozen_of_heap bx6.r 0
    have f1 := frozen_of_heap bx6.r 1
    have x0 : (w6.setCell ⟨w.heap.size + 2, 0, none⟩ (.slice pta nta cta)).cell? ⟨w.heap.size + 2, 0, none⟩ = some (.slice pta nta cta) := set_same r0
    have x1 : ((w6.setCell ⟨w.heap.size + 2, 0, none⟩ (.slice pta nta cta)).setCell ⟨w.heap.size + 2, 1, none⟩ (.slice ptb ntb ctb)).cell? ⟨w.heap.size + 2, 1, none⟩ = some (.slice ptb ntb ctb) := set_same ((set_other (by simp)).trans r1)
    clear A0 A1 B0 B1 cW t1 t2 t3 ht hb6 bx6 hE
    go_wp2
    (try simp only [Exit.inBlock, Exit.then])
    refine bodyPost_ret (by simp [results, Tryz.results29, go_sem, x0, x1]; try rfl) rfl ?_
    exact ⟨_, by rw [HE.out], fun _ => ((HT.out.set (by omega)).set (by omega)).base (by omega), fun h => absurd HE.out h, HSET.out _ K6 _ _⟩
  · have hE2 : (E == 0) = false := by simpa using hE
    have r0 := cell_of_heap bx1.out.r 0 rfl
    have r1 := cell_of_heap bx1.out.r 1 rfl
    have f0 := frozen_of_heap bx1.out.r 0
    have f1 := frozen_of_heap bx1.out.r 1
    have x0 : (w1.setCell ⟨w.heap.size + 2, 0, none⟩ (.slice none 0 0)).cell? ⟨w.heap.size + 2, 0, none⟩ = some (.slice none 0 0) := set_same r0
    have x1 : ((w1.setCell ⟨w.heap.size + 2, 0, none⟩ (.slice none 0 0)).setCell ⟨w.heap.size + 2, 1, none⟩ (.slice none 0 0)).cell? ⟨w.heap.size + 2, 1, none⟩ = some (.slice none 0 0) := set_same ((set_other (by simp)).trans r1)
    go_wp2
    (try simp only [Exit.inBlock, Exit.then])
    refine bodyPost_ret (by simp [results, Tryz.results29, go_sem, x0, x1]; try rfl) rfl ?_
    exact ⟨_, rfl, fun h => absurd h hE, fun _ => rfl, HSET.out _ K1 _ _⟩

end Go.Proofs.YteipohpfaofchaaGreat

namespace Go.Proofs.YteipohpfaofchaaGreat
open Go.RowKit Go.Shelf Go.Sort
set_option linter.unusedVariables false

end Go.Proofs.YteipohpfaofchaaGreat

namespace Go.Proofs.YteipohpfaofchaaGreat
open Go.RowKit Go.Shelf Go.Sort
set_option linter.unusedVariables false

/-- Rows that rise and may be, in the columns' own order, are what is made of them. -/
theorem picks_self {α : Type} (r : List α) : picks r (List.range r.length) = r := by
  unfold picks
  induction r with
  | nil => rfl
  | cons x r ih =>
    rw [List.length_cons, List.range_succ_eq_map, List.filterMap_cons]
    simp only [List.getElem?_cons_zero, List.filterMap_map]
    refine congrArg (x :: ·) ?_
    exact ih
end Go.Proofs.YteipohpfaofchaaGreat

namespace Go.Proofs.YteipohpfaofchaaGreat
open Go.RowKit Go.Shelf
set_option linter.unusedVariables false

end Go.Proofs.YteipohpfaofchaaGreat

namespace Go.Proofs.YteipohpfaofchaaGreat
open Go.RowKit Go.Shelf Go.Sort
set_option linter.unusedVariables false

/-- Rows that a slice holds, each where it lies, each one that may be. -/
structure RowsX (w : World) (A : Value) (us0 : List Value) (xs : List (List Val)) : Prop where
  vals : ValsAt w A us0
  rows : RowsOf w us0 xs
  ok : ∀ r ∈ xs, okR r ∧ r.length ≤ 8
  cap : ∀ p n c, A = .slice p n c → n ≤ c
theorem RowsOf.app {w : World} {a b : List Value} {x y : List (List Val)} (h : RowsOf w a x) (g : RowsOf w b y) : RowsOf w (a ++ b) (x ++ y) := by
  refine ⟨by rw [List.length_append, List.length_append, h.1, g.1], fun i h1 h2 => ?_⟩
  by_cases hi : i < a.length
  · rw [List.getElem_append_left hi, List.getElem_append_left (by have := h.1; omega)]
    exact h.2 i hi (by have := h.1; omega)
  · rw [List.length_append] at h1 h2
    have := h.1
    rw [List.getElem_append_right (by omega), List.getElem_append_right (by omega)]
    have e : i - a.length = i - x.length := by omega
    have := g.2 (i - x.length) (by omega) (by omega)
    simpa only [e] using this
theorem RowsOf.slices {w : World} {a : List Value} {x : List (List Val)} (h : RowsOf w a x) : ∀ u ∈ a, ∃ p n c, u = .slice p n c := fun u hu => by
  obtain ⟨i, hi, rfl⟩ := List.getElem_of_mem hu
  obtain ⟨p, c, e⟩ := (h.2 i hi (by have := h.1; omega)).form
  exact ⟨_, _, _, e⟩
theorem RowsX.nil {w : World} {A : Value} {us0 : List Value} (h : RowsX w A us0 []) : us0 = [] := List.eq_nil_of_length_eq_zero h.rows.1
theorem RowsX.cons {w : World} {A : Value} {us0 : List Value} {r : List Val} {xs : List (List Val)} (h : RowsX w A us0 (r :: xs)) : ∃ b off c u us1, A = .slice (some ⟨b, off, none⟩) (xs.length + 1) c ∧ us0 = u :: us1 ∧ b < w.heap.size ∧ xs.length + 1 ≤ c ∧ w.cell? ⟨b, off, none⟩ = some u ∧ RowAt w u r ∧ okR r ∧ r.length ≤ 8 ∧
    RowsX w (.slice (some ⟨b, off + 1, none⟩) xs.length (c - 1)) us1 xs ∧ (c = 1 → RowsX w (.slice (some ⟨b, off, none⟩) xs.length (c - 1)) us1 xs) := by
  obtain ⟨h1, h2, h3, h4⟩ := h
  have hl := h2.1
  cases us0 with
  | nil => cases hl
  | cons u us1 =>
    simp only [List.length_cons, Nat.add_right_cancel_iff] at hl
    rcases h1 with ⟨c, -, e⟩ | ⟨b, off, c, rfl, g1, g2⟩
    · cases e
    · have hc := h4 _ _ _ rfl
      have hb : b < w.heap.size := by
        rcases g1 with g1 | g1
        · cases g1
        · exact g1
      have hrow : RowAt w u r := h2.2 0 (by simp) (by simp)
      have hrows : RowsOf w us1 xs := ⟨hl, fun i a c => by have := h2.2 (i + 1) (by simpa using a) (by simpa using c); simpa using this⟩
      obtain ⟨o1, o2⟩ := h3 r (List.mem_cons_self ..)
      have hok : ∀ r ∈ xs, okR r ∧ r.length ≤ 8 := fun x hx => h3 x (List.mem_cons_of_mem _ hx)
      simp only [List.length_cons] at hc
      rw [List.length_cons, hl]
      refine ⟨b, off, c, u, us1, rfl, rfl, hb, by omega, by have := g2 0 (by simp); simpa using this, hrow, o1, o2, ⟨Or.inr ⟨b, off + 1, c - 1, by rw [hl], Or.inr hb, fun i a => ?_⟩, hrows, hok, fun p n c' e => by injection e with _ e1 e2; omega⟩, fun hc1 => ?_⟩
      · have := g2 (i + 1) (by simpa using a)
        rw [show off + (i + 1) = off + 1 + i by omega] at this
        simpa using this
      · have e0 : xs.length = 0 := by omega
        have ex : xs = [] := List.eq_nil_of_length_eq_zero e0
        subst ex
        have ea : us1 = [] := List.eq_nil_of_length_eq_zero hl
        subst ea
        exact ⟨Or.inr ⟨b, off, c - 1, rfl, Or.inl rfl, fun i a => absurd a (Nat.not_lt_zero _)⟩, hrows, hok, fun p n c' e => by injection e with _ e1 e2; omega⟩

end Go.Proofs.YteipohpfaofchaaGreat

namespace Go.Proofs.YteipohpfaofchaaGreat
open Go.RowKit Go.Shelf Go.Sort
set_option linter.unusedVariables false

theorem RowsX.below {w w' : World} {A : Value} {us0 : List Value} {xs : List (List Val)} (h : RowsX w A us0 xs) (hb : Below w.heap.size w w') : RowsX w' A us0 xs := ⟨h.vals.below hb, h.rows.below hb, h.ok, h.cap⟩

end Go.Proofs.YteipohpfaofchaaGreat

namespace Go.Proofs.YteipohpfaofchaaGreat
open Go.RowKit Go.Shelf Go.Sort
set_option linter.unusedVariables false

set_option maxRecDepth 100000 in
theorem hasf_any (U Y : Value) (xs ys : List Val) (B : Nat) (w : World) (hB : B < w.heap.size) (hc : w.cell? ⟨B, 0, none⟩ = some Y) (hU : RowAt w U xs) (hY : RowAt w Y ys) (lx : xs.length ≤ 9223372036854775807) (ly : ys.length ≤ 9223372036854775807) :
    Calls Tryz.prog 53 #[U, .pointer (some ⟨B, 0, none⟩)] w fun e w' => e = .returned (.bool (rowS ys xs)) ∧ Below w.heap.size w w' := by
  have ct : Hid (Calls Tryz.prog 51 #[Y, U] w fun e w' => e = .returned (.bool (rowS ys xs)) ∧ Below w.heap.size w w') := samerow_any Y U ys xs w hY hU ly lx
  obtain ⟨p, c, rfl⟩ := hU.form
  obtain ⟨p', c', rfl⟩ := hY.form
  generalize xs.length = n at *
  generalize ys.length = m at *
  generalize rowS ys xs = E at *
  clear hU hY
  go_enter Tryz.func53, Tryz.ntmps53
  go_wp2_with fail
  refine ct.out.mono ?_
  rintro e w1 ⟨rfl, hb⟩
  clear ct hc
  go_wp2
  go_ret
  exact ⟨rfl, hb⟩

def anyS (ys : List Val) (rs : List (List Val)) : Bool := rs.any fun r => rowS ys r

set_option maxRecDepth 100000 in
set_option maxHeartbeats 2000000 in
theorem idxf_any (A Y : Value) (rs : List (List Val)) (ys : List Val) (B : Nat) (w : World) (hB : B < w.heap.size) (hc : w.cell? ⟨B, 0, none⟩ = some Y) (hA : TabRows w A rs) (hY : RowAt w Y ys) (lr : rs.length ≤ 9223372036854775807) (ls : ∀ r ∈ rs, r.length ≤ 9223372036854775807) (ly : ys.length ≤ 9223372036854775807) :
    Calls Tryz.prog 90 #[A, .func (.func 53) #[] #[.pointer (some ⟨B, 0, none⟩)]] w fun e w' => ∃ i : Int, e = .returned (.int .i64 i) ∧ decide (0 ≤ i) = anyS ys rs ∧ Below w.heap.size w w' := by
  have eg : ∀ args w, (callFunc 53 args).run Tryz.prog w = .ok (.enter 53 args) w := enters_of Tryz.func53 (by kernel_rfl) rfl
  obtain ⟨p, c, rfl, HX0⟩ := hA.form
  have HX : Hid (∀ k (hk : k < rs.length), ∃ b off u, p = some ⟨b, off, none⟩ ∧ b < w.heap.size ∧ w.cell? ⟨b, off + k, none⟩ = some u ∧ RowAt w u rs[k]) := HX0
  have HY : Hid (RowAt w Y ys) := hY
  have HC : Hid (w.cell? ⟨B, 0, none⟩ = some Y) := hc
  have SX : Hid (∀ r ∈ rs, r.length ≤ 9223372036854775807) := ls
  obtain ⟨n, en⟩ : ∃ n : Nat, Hid (rs.length = n) := ⟨_, rfl⟩
  rw [en.out] at lr ⊢
  clear hA hY HX0 hc ls
  go_enter Tryz.func90, Tryz.ntmps90
  go_wp2
  go_loopw [8] (fun i wr => ∃ k : Nat, k ≤ n ∧ i = .int .i64 k ∧ Hid (anyS ys rs = anyS ys (rs.drop k)) ∧ Below w.heap.size w wr) (fun i _ => n - (intOf i).toNat)
  case atStart => exact ⟨0, Nat.zero_le _, rfl, (show anyS ys rs = anyS ys (rs.drop 0) by simp), Below.refl _ _⟩
  case round =>
    obtain ⟨k, hk, rfl, hr, hBw⟩ := hrel
    by_cases hlt : k < n
    · have kx : k < rs.length := by have := en.out; omega
      obtain ⟨b, off, U, rfl, hb, r0, r1⟩ := HX.out k kx
      have a0 := (hBw.cell (p := ⟨b, off + k, none⟩) hb).trans r0
      have hr2 : Hid (anyS ys rs = (rowS ys rs[k] || anyS ys (rs.drop (k + 1)))) := by
        have h := hr.out
        rw [List.drop_eq_getElem_cons kx] at h
        exact h
      have ct : Hid (Calls Tryz.prog 53 #[U, .pointer (some ⟨B, 0, none⟩)] wr fun e w' => e = .returned (.bool (rowS ys rs[k])) ∧ Below wr.heap.size wr w') := hasf_any U Y _ ys B wr (Nat.lt_of_lt_of_le hB hBw.size) ((hBw.cell (p := ⟨B, 0, none⟩) hB).trans HC.out) (r1.below hBw) (HY.out.below hBw) (SX.out _ (List.getElem_mem kx)) ly
      obtain ⟨pu, cu, rfl⟩ := r1.form
      clear r0 hr r1
      generalize rs[k] = X at a0 hr2 ct
      generalize rowS ys X = C at hr2 ct
      generalize X.length = nx at a0 ct
      go_wp2_with fail
      refine ct.out.mono ?_
      rintro e w1 ⟨rfl, hw1⟩
      have hB2 : Below w.heap.size w w1 := hBw.trans (hw1.mono hBw.size)
      clear a0 ct hw1
      cases C with
      | true =>
        have hr3 : Hid (anyS ys rs = true) := by have := hr2.out; rwa [Bool.true_or] at this
        go_wp2
        go_ret
        exact ⟨k, rfl, by rw [hr3.out]; simp, hB2⟩
      | false =>
        have hr3 : Hid (anyS ys rs = anyS ys (rs.drop (k + 1))) := by have := hr2.out; rwa [Bool.false_or] at this
        go_wp2
        exact ⟨⟨k + 1, by omega, by go_num, hr3, hB2⟩, by simp [intOf]; omega⟩
    · have c2 : ¬ (k : Int) < n := by omega
      have hr3 : Hid (anyS ys rs = false) := by
        have h := hr.out
        rw [List.drop_eq_nil_of_le (by have := en.out; omega)] at h
        exact h
      go_wp2
      go_ret
      exact ⟨-1, rfl, by rw [hr3.out]; decide, hBw⟩

set_option maxRecDepth 100000 in
theorem contf_any (A Y : Value) (rs : List (List Val)) (ys : List Val) (B : Nat) (w : World) (hB : B < w.heap.size) (hc : w.cell? ⟨B, 0, none⟩ = some Y) (hA : TabRows w A rs) (hY : RowAt w Y ys) (lr : rs.length ≤ 9223372036854775807) (ls : ∀ r ∈ rs, r.length ≤ 9223372036854775807) (ly : ys.length ≤ 9223372036854775807) :
    Calls Tryz.prog 52 #[A, .func (.func 53) #[] #[.pointer (some ⟨B, 0, none⟩)]] w fun e w' => e = .returned (.bool (anyS ys rs)) ∧ Below w.heap.size w w' := by
  have ct : Hid (Calls Tryz.prog 90 #[A, .func (.func 53) #[] #[.pointer (some ⟨B, 0, none⟩)]] w fun e w' => ∃ i : Int, e = .returned (.int .i64 i) ∧ decide (0 ≤ i) = anyS ys rs ∧ Below w.heap.size w w') := idxf_any A Y rs ys B w hB hc hA hY lr ls ly
  obtain ⟨p, c, rfl, -⟩ := hA.form
  clear hA hY hc
  generalize rs.length = n at *
  go_enter Tryz.func52, Tryz.ntmps52
  go_wp2_with fail
  refine ct.out.mono ?_
  rintro e w1 ⟨i, rfl, hi, hb⟩
  have HI : Hid (decide (0 ≤ i) = anyS ys rs) := hi
  clear ct hi
  go_wp2
  go_ret
  exact ⟨ret_bool HI.out, hb⟩

set_option maxRecDepth 100000 in
set_option maxHeartbeats 1000000 in
theorem tabhas_any (V R Y : Value) (p : Option Addr) (n c : Nat) (hV : V = .slice p n c) (rs : List (List Val)) (ys : List Val) (w : World) (hA : TabRows w R rs) (hY : RowAt w Y ys) (lr : rs.length ≤ 9223372036854775807) (ls : ∀ r ∈ rs, r.length ≤ 9223372036854775807) (ly : ys.length ≤ 9223372036854775807) :
    Calls Tryz.prog 21 #[.agg #[V, R], Y] w fun e w' => e = .returned (.bool (anyS ys rs)) ∧ Below w.heap.size w w' := by
  subst hV
  have ct : Hid (∀ W B, Below w.heap.size w W → B < W.heap.size → W.cell? ⟨B, 0, none⟩ = some Y → Calls Tryz.prog 52 #[R, .func (.func 53) #[] #[.pointer (some ⟨B, 0, none⟩)]] W fun e w' => e = .returned (.bool (anyS ys rs)) ∧ Below W.heap.size W w') := fun W B hW h1 h2 => contf_any R Y rs ys B W h1 h2 (hA.below hW) (hY.below hW) lr ls ly
  obtain ⟨p1, c1, rfl, -⟩ := hA.form
  obtain ⟨p2, c2, rfl⟩ := hY.form
  clear hA hY ls
  generalize rs.length = n1 at *
  generalize ys.length = n2 at *
  generalize anyS ys rs = E at *
  go_enter Tryz.func21, Tryz.ntmps21
  go_wp2_with fail
  refine (ct.out _ _ (by go_grown) (by simp) (by simp (maxDischargeDepth := 12) [go_sem])).mono ?_
  rintro e w1 ⟨rfl, hb⟩
  obtain ⟨hw1, -⟩ := bg0 (n := w.heap.size) (W0 := w) (by go_grown) (by go_size) hb
  clear ct hb
  go_wp2
  go_ret
  exact ⟨rfl, hw1⟩

set_option maxRecDepth 100000 in
set_option maxHeartbeats 1000000 in
theorem true_any (w : World) : Calls Tryz.prog 34 #[] w fun e w' => ∃ t, e = .returned t ∧ OwnT w.heap.size t [] [[]] w' ∧ Below w.heap.size w w' := by
  go_enter Tryz.func34, Tryz.ntmps34
  go_wp2
  (try simp only [Exit.inBlock, Exit.then])
  refine bodyPost_ret (by simp (maxDischargeDepth := 12) [results, Tryz.results34, go_sem]; try rfl) rfl ?_
  refine ⟨_, rfl, ⟨_, _, [.slice (some ⟨w.heap.size + 1, 0, none⟩) 0 0], rfl, World.ownsRow_nil _ _ _ _, ?_, ⟨rfl, fun i h1 h2 => ?_⟩⟩, by go_grown⟩
  · have h := World.ownsRow_lit (base := w.heap.size) (e := 37) (size := 1) ((w.alloc (.cells #[.slice none 0 0, .slice (some ⟨w.heap.size + 1 + 1, 0, none⟩) 1 1] 25)).alloc (.cells #[] 47)) #[.slice (some ⟨w.heap.size + 1, 0, none⟩) 0 0] 1 (by simp; omega) (by unfold maxLen; omega) rfl
    simpa using h
  · obtain rfl : i = 0 := by simp at h1; omega
    have h := World.ownsRow_lit (base := w.heap.size) (e := 47) (size := 4) (w.alloc (.cells #[.slice none 0 0, .slice (some ⟨w.heap.size + 1 + 1, 0, none⟩) 1 1] 25)) #[] 0 (by simp) (by unfold maxLen; omega) rfl
    have h2 := World.ownsRow.alloc h (.cells #[.slice (some ⟨w.heap.size + 1, 0, none⟩) 0 0] 37)
    simpa [OwnV, flat] using h2

end Go.Proofs.YteipohpfaofchaaGreat

namespace Go.Proofs.YteipohpfaofchaaGreat
open Go.RowKit Go.Shelf Go.Sort
set_option linter.unusedVariables false

set_option maxRecDepth 100000 in
set_option maxHeartbeats 2000000 in
theorem dsame_short (V U : Value) (vs us : List ByteArray) (p p' : Option Addr) (n c n' c' : Nat) (hn : n ≠ n' ∨ (n = 0 ∧ n' = 0)) (w : World) (hV : StrsAt w V vs) (hU : StrsAt w U us) (lv : vs.length ≤ 9223372036854775807) (lu : us.length ≤ 9223372036854775807) (ln : n ≤ 9223372036854775807) (ln' : n' ≤ 9223372036854775807) :
    Calls Tryz.prog 14 #[.agg #[V, .slice p n c], .agg #[U, .slice p' n' c']] w fun e w' => e = .returned (.bool (decide (vs = us) && decide (n = n'))) ∧ Below w.heap.size w w' := by
  obtain ⟨L, eL⟩ : ∃ L : Bool, Hid (decide (vs = us) = L) := ⟨_, rfl⟩
  have ct : Hid (∀ W : World, Below w.heap.size w W → Calls Tryz.prog 41 #[V, U] W fun e w' => e = .returned (.bool L) ∧ Below W.heap.size W w') := fun W hB => by
    have h := svars_any V U vs us W (hV.below hB) (hU.below hB) lv lu
    rw [eL.out] at h
    exact h
  rw [eL.out]
  obtain ⟨p1, k1, rfl⟩ := hV.form
  obtain ⟨p2, k2, rfl⟩ := hU.form
  generalize vs.length = m1 at *
  generalize us.length = m2 at *
  clear hV hU eL
  go_enter Tryz.func14, Tryz.ntmps14
  go_wp2_with fail
  refine (ct.out _ (by go_grown)).mono ?_
  rintro e w1 ⟨rfl, hb1⟩
  have b0 : w1.cell? ⟨w.heap.size, 1, none⟩ = some (.slice p n c) := (hb1.cell (p := ⟨w.heap.size, 1, none⟩) (by simp; omega)).trans (by simp (maxDischargeDepth := 8) [go_sem])
  have b1 : w1.cell? ⟨w.heap.size + 1, 1, none⟩ = some (.slice p' n' c') := (hb1.cell (p := ⟨w.heap.size + 1, 1, none⟩) (by simp)).trans (by simp (maxDischargeDepth := 8) [go_sem])
  have hB1 : Below w.heap.size w w1 := by
    obtain ⟨hw1, -⟩ := bg0 (n := w.heap.size) (W0 := w) (by go_grown) (by go_size) hb1
    exact hw1
  have hs0 : w.heap.size < w1.heap.size := by have := hb1.size; simp at this; omega
  clear hb1 ct
  cases L with
  | false =>
    go_wp2
    go_ret
    exact ⟨ret_bool (by simp), hB1⟩
  | true =>
    rcases hn with hn | ⟨rfl, rfl⟩
    · have h2 : ((n : Int) == n') = false := by simp; omega
      have HN : Hid (decide (n = n') = false) := by show _ = _; simpa using hn
      clear hn
      go_wp2
      go_ret
      exact ⟨ret_bool (by rw [HN.out]; rfl), hB1⟩
    · go_wp2
      go_loopw [6] (fun i wr => i = .int .i64 0 ∧ Below w1.heap.size w1 wr) (fun _ _ => 0)
      case atStart => exact ⟨rfl, Below.refl _ _⟩
      case round =>
        obtain ⟨rfl, hB⟩ := hrel
        have c0 : wr.cell? ⟨w.heap.size, 1, none⟩ = some (.slice p 0 c) := (hB.cell (p := ⟨w.heap.size, 1, none⟩) hs0).trans b0
        go_wp2
        go_ret
        exact ⟨ret_bool (by simp), hB1.trans (hB.mono hB1.size)⟩

/-- The document's Same at any two tables. -/
theorem dsame_any {V R U Q : Value} {vs us : List ByteArray} {xs ys : List (List Val)} {w : World} (hV : StrsAt w V vs) (hU : StrsAt w U us) (hA : TabRows w R xs) (hB : TabRows w Q ys) (lv : vs.length ≤ 9223372036854775807) (lu : us.length ≤ 9223372036854775807)
    (fx : ∀ r ∈ xs, ∀ v ∈ r, v.Fits) (fy : ∀ r ∈ ys, ∀ v ∈ r, v.Fits) (lx : ∀ r ∈ xs, r.length ≤ 9223372036854775807) (ln : xs.length ≤ 9223372036854775807) (ln' : ys.length ≤ 9223372036854775807) :
    Calls Tryz.prog 14 #[.agg #[V, R], .agg #[U, Q]] w fun e w' => e = .returned (.bool (decide (vs = us) && rowsS xs ys)) ∧ Below w.heap.size w w' := by
  obtain ⟨p, c, rfl, h1⟩ := hA
  obtain ⟨p', c', rfl, h2⟩ := hB
  by_cases hl : xs.length = ys.length
  · by_cases h0 : xs = []
    · subst h0
      have e0 : ys = [] := List.eq_nil_of_length_eq_zero (by simpa using hl.symm)
      subst e0
      have h := dsame_short V U vs us p p' 0 c 0 c' (Or.inr ⟨rfl, rfl⟩) w hV hU lv lu (by omega) (by omega)
      exact h
    · rcases h1 with h1 | ⟨b, off, rfl, hb, hr⟩
      · exact absurd h1 h0
      · rcases h2 with h2 | ⟨b', off', rfl, hb', hr'⟩
        · subst h2
          exact absurd (List.eq_nil_of_length_eq_zero (by simpa using hl)) h0
        · exact tsame_core V U vs us b off c b' off' c' xs ys w hV hU lv lu fx fy lx hb hb' hr hr' ln hl
  · have h := dsame_short V U vs us p p' xs.length c ys.length c' (Or.inl hl) w hV hU lv lu ln ln'
    rw [rowsS_len hl]
    rwa [show decide (xs.length = ys.length) = false by simpa using hl] at h

end Go.Proofs.YteipohpfaofchaaGreat
