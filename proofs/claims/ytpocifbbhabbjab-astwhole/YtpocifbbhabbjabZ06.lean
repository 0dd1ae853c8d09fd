/- The law AstWhole at any formula. -/
import Derived.Test.YtpocifbbhabbjabZ05

namespace Go.Proofs.Ytpocifbbhabbjab
open Go.RowKit LX Go.Shelf
set_option linter.unusedVariables false

theorem has_own {B : Nat} {v : Value} {M : List ByteArray} {W : World} {x : ByteArray} (h : OwnN B v M W) (hl : M.length ≤ 1000000) (hx : x ∈ M) : Calls Try.prog 18 #[v, .string x] W fun e w' => e = .returned (.bool true) ∧ w' = W := by
  obtain ⟨p, c, rfl, -, h0 | ⟨g, rfl, -, hg, hc⟩⟩ := h.cap
  · subst h0; cases hx
  have hS : StrAt W (.slice (some ⟨g, 0, none⟩) M.length c) (bts M) := ⟨g, c, by simp [bts], hg, fun i hi => by
    rw [hc i (by simpa [bts] using hi)]
    simp [bts]⟩
  have hc2 : (bts M).contains x.data.toList = true := List.contains_iff_mem.2 (List.mem_map.2 ⟨x, hx, rfl⟩)
  refine (rhas_any _ (bts M) x W hS (by simpa [bts] using hl)).mono fun e w' ⟨h1, h2⟩ => ⟨?_, h2⟩
  rw [h1, hc2]
theorem keepz {W0 W : World} {X Y : Nat} {u0 u1 u2 u3 u4 u5 u6 u7 u8 u9 v0 v1 v2 v3 v4 v5 v6 v7 v8 v9 : Value} (h : Below W0.heap.size W0 W) (hx : X < W0.heap.size) (hy : Y < W0.heap.size) (hs : W0.cell? ⟨X, 0, none⟩ = some u0 ∧ W0.cell? ⟨X, 1, none⟩ = some u1 ∧ W0.cell? ⟨X, 2, none⟩ = some u2 ∧ W0.cell? ⟨X, 3, none⟩ = some u3 ∧ W0.cell? ⟨X, 4, none⟩ = some u4 ∧ W0.cell? ⟨X, 5, none⟩ = some u5 ∧ W0.cell? ⟨X, 6, none⟩ = some u6 ∧ W0.cell? ⟨X, 7, none⟩ = some u7 ∧ W0.cell? ⟨X, 8, none⟩ = some u8 ∧ W0.cell? ⟨X, 9, none⟩ = some u9 ∧ W0.cell? ⟨Y, 0, none⟩ = some v0 ∧ W0.cell? ⟨Y, 1, none⟩ = some v1 ∧ W0.cell? ⟨Y, 2, none⟩ = some v2 ∧ W0.cell? ⟨Y, 3, none⟩ = some v3 ∧ W0.cell? ⟨Y, 4, none⟩ = some v4 ∧ W0.cell? ⟨Y, 5, none⟩ = some v5 ∧ W0.cell? ⟨Y, 6, none⟩ = some v6 ∧ W0.cell? ⟨Y, 7, none⟩ = some v7 ∧ W0.cell? ⟨Y, 8, none⟩ = some v8 ∧ W0.cell? ⟨Y, 9, none⟩ = some v9) : W.cell? ⟨X, 0, none⟩ = some u0 ∧ W.cell? ⟨X, 1, none⟩ = some u1 ∧ W.cell? ⟨X, 2, none⟩ = some u2 ∧ W.cell? ⟨X, 3, none⟩ = some u3 ∧ W.cell? ⟨X, 4, none⟩ = some u4 ∧ W.cell? ⟨X, 5, none⟩ = some u5 ∧ W.cell? ⟨X, 6, none⟩ = some u6 ∧ W.cell? ⟨X, 7, none⟩ = some u7 ∧ W.cell? ⟨X, 8, none⟩ = some u8 ∧ W.cell? ⟨X, 9, none⟩ = some u9 ∧ W.cell? ⟨Y, 0, none⟩ = some v0 ∧ W.cell? ⟨Y, 1, none⟩ = some v1 ∧ W.cell? ⟨Y, 2, none⟩ = some v2 ∧ W.cell? ⟨Y, 3, none⟩ = some v3 ∧ W.cell? ⟨Y, 4, none⟩ = some v4 ∧ W.cell? ⟨Y, 5, none⟩ = some v5 ∧ W.cell? ⟨Y, 6, none⟩ = some v6 ∧ W.cell? ⟨Y, 7, none⟩ = some v7 ∧ W.cell? ⟨Y, 8, none⟩ = some v8 ∧ W.cell? ⟨Y, 9, none⟩ = some v9 := by
  obtain ⟨a0, a1, a2, a3, a4, a5, a6, a7, a8, a9, a10, a11, a12, a13, a14, a15, a16, a17, a18, a19⟩ := hs
  exact ⟨bclL h a0 hx, bclL h a1 hx, bclL h a2 hx, bclL h a3 hx, bclL h a4 hx, bclL h a5 hx, bclL h a6 hx, bclL h a7 hx, bclL h a8 hx, bclL h a9 hx, bclL h a10 hy, bclL h a11 hy, bclL h a12 hy, bclL h a13 hy, bclL h a14 hy, bclL h a15 hy, bclL h a16 hy, bclL h a17 hy, bclL h a18 hy, bclL h a19 hy⟩
theorem wfFs_take {l : List Fm} (i : Nat) (h : wfFs l) : wfFs (l.take i) := by
  have h' : wfFs (l.take i ++ l.drop i) := by rw [List.take_append_drop]; exact h
  rw [wfFs_append] at h'
  exact h'.1
theorem wfTs_get (a : List Tm) (i : Nat) (h : i < a.length) (k : wfTs a) : wfT a[i] := by
  induction a generalizing i with
  | nil => simp at h
  | cons x l ih =>
    rw [wfTs_cons] at k
    rcases i with _ | i
    · exact k.1
    · exact ih i (by simpa using h) k.2
theorem nodTs_get (a : List Tm) (i : Nat) (h : i < a.length) : nodT a[i] ≤ nodTs a := by
  induction a generalizing i with
  | nil => simp at h
  | cons x l ih =>
    rw [nodTs_cons]
    rcases i with _ | i
    · simp
    · have := ih i (by simpa using h)
      rw [List.getElem_cons_succ]
      omega
theorem nodTs_append (a b : List Tm) : nodTs (a ++ b) = nodTs a + nodTs b := by
  induction a with
  | nil => rw [List.nil_append, nodTs_nil]; omega
  | cons x l ih => rw [List.cons_append, nodTs_cons, nodTs_cons, ih]; omega
theorem nodTs_take_le (ts : List Tm) (i : Nat) : nodTs (ts.take i) ≤ nodTs ts := by
  conv => rhs; rw [← List.take_append_drop i ts, nodTs_append]
  omega
theorem var_small {f : Fm} : ∀ s ∈ varF f, s.size ≤ 281474976710656 := by
  intro s hs
  unfold varF at hs
  by_cases h : chkF f = 0
  · rw [if_pos h] at hs
    have := nameB_size ((fre_up _ f (Nat.le_refl _) (chk_good h).1).2.2 s hs)
    omega
  · rw [if_neg h] at hs; cases hs
theorem partP_one (f : Fm) (i : Nat) : partP f [(i : Int)] = (ptsF f)[i]? := by
  by_cases h : i < (ptsF f).length
  · rw [partP_in h, partP, List.getElem?_eq_getElem h]
  · rw [partP_far (by omega) (by omega), List.getElem?_eq_none (by omega)]
/-- The variables of a formula's terms, term by term. -/
def tvU (ts : List Tm) : List ByteArray := ts.flatMap fun t => uniN [tvs t]
theorem tvU_len (ts : List Tm) : (tvU ts).length ≤ (tvss ts).length := by
  unfold tvU
  induction ts with
  | nil => simp
  | cons t l ih =>
    rw [List.flatMap_cons, List.length_append, tvss_cons, List.length_append]
    have := uniN_len [tvs t]
    simp at this
    omega
theorem tvU_mem {ts : List Tm} {x : ByteArray} (h : x ∈ tvss ts) : x ∈ tvU ts := by
  obtain ⟨i, hi, h⟩ := tvss_mem h
  exact List.mem_flatMap.2 ⟨_, List.getElem_mem hi, ((uni_up _).2 x).2 (by simpa using h)⟩
/-- The free variables of formulas, one by one. -/
def frU (fs : List Fm) : List ByteArray := fs.flatMap fun g => (fre g).1
theorem frU_len {fs : List Fm} (h : wfFs fs) : (frU fs).length ≤ 9 * nodFs fs := by
  unfold frU
  rw [List.flatMap_def]
  exact sum_len (fun g hg => by
    obtain ⟨i, hi, rfl⟩ := List.getElem_of_mem hg
    exact fre_len _ _ (Nat.le_refl _) (wfFs_get _ i hi h))
theorem nodFs_take (fs : List Fm) (i : Nat) (h : i < fs.length) : nodFs (fs.take (i + 1)) = nodFs (fs.take i) + nodF fs[i] := by
  rw [List.take_succ_eq_append_getElem h, nodFs_append, nodFs_cons, nodFs_nil]
  omega
theorem nodFs_take_le (fs : List Fm) (i : Nat) : nodFs (fs.take i) ≤ nodFs fs := by
  conv => rhs; rw [← List.take_append_drop i fs, nodFs_append]
  omega

set_option maxRecDepth 100000 in
set_option maxHeartbeats 16000000 in
theorem awhole_any (f : Fm) (q : FQ) (w : World) (hq : QAt w (f, q)) : Calls Try.prog 5 #[.agg #[.int .i64 f.k, .string f.nm, .int .i64 f.op, q.v, q.t, .int .i64 f.lo, .int .i64 f.hi, .bool f.opn, q.s, q.r]] w fun e w' => e = .returned (.bool true) ∧ Below w.heap.size w w' := by
  obtain ⟨i0, hi0, hz0, hz1, hz2⟩ := info_parts inStA
  have cK : Hid (∀ W : World, Below w.heap.size w W → Calls Try.prog 10 #[.agg #[.int .i64 f.k, .string f.nm, .int .i64 f.op, q.v, q.t, .int .i64 f.lo, .int .i64 f.hi, .bool f.opn, q.s, q.r]] W fun e w' => e = .returned (.int .i64 (chkF f)) ∧ Below W.heap.size W w') := fun W hW => check_fm f q W (hq.below hW)
  have cN : Hid (∀ W : World, Below w.heap.size w W → Calls Try.prog 13 #[.agg #[.int .i64 f.k, .string f.nm, .int .i64 f.op, q.v, q.t, .int .i64 f.lo, .int .i64 f.hi, .bool f.opn, q.s, q.r]] W fun e w' => e = .returned (.int .i64 (sizF f).1) ∧ Below W.heap.size W w') := fun W hW => nodes_fm f q W (hq.below hW)
  have cD : Hid (∀ W : World, Below w.heap.size w W → Calls Try.prog 15 #[.agg #[.int .i64 f.k, .string f.nm, .int .i64 f.op, q.v, q.t, .int .i64 f.lo, .int .i64 f.hi, .bool f.opn, q.s, q.r]] W fun e w' => e = .returned (.int .i64 (sizF f).2) ∧ Below W.heap.size W w') := fun W hW => depth_fm f q W (hq.below hW)
  have cF : Hid (∀ W : World, Below w.heap.size w W → Calls Try.prog 12 #[.agg #[.int .i64 f.k, .string f.nm, .int .i64 f.op, q.v, q.t, .int .i64 f.lo, .int .i64 f.hi, .bool f.opn, q.s, q.r]] W fun e w' => ∃ p c, e = .returned (.slice p (varF f).length c) ∧ OwnN W.heap.size (.slice p (varF f).length c) (varF f) w' ∧ Below W.heap.size W w') := fun W hW => (free_fm f q W (hq.below hW) var_small).mono fun e w' ⟨v, h1, h2, h3⟩ => by
    obtain ⟨p, c, rfl, -⟩ := h2.cap
    exact ⟨p, c, h1, h2, h3⟩
  have cP : Hid (∀ (W : World) (bp i : Nat), Below w.heap.size w W → bp < W.heap.size → W.cell? ⟨bp, 0, none⟩ = some (.int .i64 (i : Int)) → chkF f = 0 → Calls Try.prog 17 #[.agg #[.int .i64 f.k, .string f.nm, .int .i64 f.op, q.v, q.t, .int .i64 f.lo, .int .i64 f.hi, .bool f.opn, q.s, q.r], .slice (some ⟨bp, 0, none⟩) 1 1] W fun e w' => Below W.heap.size W w' ∧ (((ptsF f).length ≤ i ∧ e = .returned (.tuple #[.agg #[.int .i64 0, .string ⟨#[]⟩, .int .i64 0, .slice none 0 0, .slice none 0 0, .int .i64 0, .int .i64 0, .bool false, .slice none 0 0, .slice none 0 0], .int .i64 5])) ∨ ∃ (h : i < (ptsF f).length), ∃ r : FQ, e = .returned (.tuple #[.agg #[.int .i64 (ptsF f)[i].k, .string (ptsF f)[i].nm, .int .i64 (ptsF f)[i].op, r.v, r.t, .int .i64 (ptsF f)[i].lo, .int .i64 (ptsF f)[i].hi, .bool (ptsF f)[i].opn, r.s, r.r], .int .i64 0]) ∧ QAt w' ((ptsF f)[i], r))) := fun W bp i hW hb hc hk => (part_fm f q W (hq.below hW) _ [(i : Int)] (pth_one hb hc) (chk_lg hk)).mono fun e w' ⟨h1, h2⟩ => by
    refine ⟨h1, ?_⟩
    rw [partP_one] at h2
    rcases h2 with ⟨h3, -⟩ | ⟨-, h3, h4⟩ | ⟨-, g, r, h3, h4, h5⟩
    · exact absurd hk h3
    · exact Or.inl ⟨by simpa using h3, h4⟩
    · obtain ⟨hi, rfl⟩ := List.getElem?_eq_some_iff.1 h3
      exact Or.inr ⟨hi, r, h4, h5.at⟩
  have HQ : Hid (QAt w (f, q)) := hq
  obtain ⟨uv, ut, us, ur⟩ := q
  obtain ⟨h1, h2, h3, h4⟩ := hq
  dsimp only at h1 h2 h3 h4 cK cN cD cF cP ⊢
  obtain ⟨-, pv, cv, rfl, -⟩ := h1
  obtain ⟨pt, ct, rfl, ltt, hct, HX0⟩ := h2.form
  have HX : Hid (∀ i (hi : i < f.terms.length), ∃ b off u, pt = some ⟨b, off, none⟩ ∧ b < w.heap.size ∧ TmC w b (off + i * 7) f.terms[i] u ∧ TmsAt w u f.terms[i].subs ∧ f.terms[i].v.Fits) := HX0
  obtain ⟨ps, cs, rfl, -⟩ := h3.form
  obtain ⟨pr, cr, rfl, -⟩ := h4.form
  clear h2 h3 h4 HX0
  obtain ⟨nv, env⟩ : ∃ n : Nat, Hid (f.vars.length = n) := ⟨_, rfl⟩
  obtain ⟨nt, ent⟩ : ∃ n : Nat, Hid (f.terms.length = n) := ⟨_, rfl⟩
  obtain ⟨ns, ens⟩ : ∃ n : Nat, Hid (f.subs.length = n) := ⟨_, rfl⟩
  obtain ⟨nr, enr⟩ : ∃ n : Nat, Hid (f.rgx.length = n) := ⟨_, rfl⟩
  rw [ent.out] at ltt hct
  rw [env.out, ent.out, ens.out, enr.out] at cK cN cD cF cP ⊢
  have hk19 : Hid (f.k = f.k) := rfl
  generalize hfk : f.k = k at cK cN cD cF cP ⊢
  have Hfk : Hid (f.k = k) := hfk
  clear hfk hk19
  generalize f.nm = nm at cK cN cD cF cP ⊢
  generalize f.op = op at cK cN cD cF cP ⊢
  generalize f.lo = lo at cK cN cD cF cP ⊢
  generalize f.hi = hi at cK cN cD cF cP ⊢
  generalize f.opn = o at cK cN cD cF cP ⊢
  go_enter Try.func5, Try.ntmps5
  go_wp2_with fail
  refine (cK.out _ (by go_grown)).mono ?_
  rintro r w1 ⟨rfl, hb1⟩
  have hB1 : Below w.heap.size w w1 := Below.trans (by go_grown) (hb1.mono (by simp))
  have HX1 : Hid (w1.heap[w.heap.size]? = some (.cells #[.int .i64 k, .string nm, .int .i64 op, .slice pv nv cv, .slice pt nt ct, .int .i64 lo, .int .i64 hi, .bool o, .slice ps ns cs, .slice pr nr cr] 29 (0, 0))) := (hb1.block w.heap.size (by simp)).trans (heap_allocA w _)
  have hs1 : w.heap.size < w1.heap.size := blk_lt HX1.out
  clear hb1 cK
  by_cases hE : chkF f = 0
  case neg =>
    have hE' : (chkF f != 0) = true := by simp [hE]
    have z1 : sizF f = (0, 0) := if_neg hE
    have z2 : varF f = [] := if_neg hE
    rw [z1] at cN cD
    rw [z2] at cF
    clear hE cP
    generalize chkF f = CK at *
    have e0 : w1.cell? ⟨w.heap.size, 0, none⟩ = some (.int .i64 k) := by rw [Lib.cell_of_heap HX1.out]; rfl
    have e1 : w1.cell? ⟨w.heap.size, 1, none⟩ = some (.string nm) := by rw [Lib.cell_of_heap HX1.out]; rfl
    have e2 : w1.cell? ⟨w.heap.size, 2, none⟩ = some (.int .i64 op) := by rw [Lib.cell_of_heap HX1.out]; rfl
    have e3 : w1.cell? ⟨w.heap.size, 3, none⟩ = some (.slice pv nv cv) := by rw [Lib.cell_of_heap HX1.out]; rfl
    have e4 : w1.cell? ⟨w.heap.size, 4, none⟩ = some (.slice pt nt ct) := by rw [Lib.cell_of_heap HX1.out]; rfl
    have e5 : w1.cell? ⟨w.heap.size, 5, none⟩ = some (.int .i64 lo) := by rw [Lib.cell_of_heap HX1.out]; rfl
    have e6 : w1.cell? ⟨w.heap.size, 6, none⟩ = some (.int .i64 hi) := by rw [Lib.cell_of_heap HX1.out]; rfl
    have e7 : w1.cell? ⟨w.heap.size, 7, none⟩ = some (.bool o) := by rw [Lib.cell_of_heap HX1.out]; rfl
    have e8 : w1.cell? ⟨w.heap.size, 8, none⟩ = some (.slice ps ns cs) := by rw [Lib.cell_of_heap HX1.out]; rfl
    have e9 : w1.cell? ⟨w.heap.size, 9, none⟩ = some (.slice pr nr cr) := by rw [Lib.cell_of_heap HX1.out]; rfl
    go_wp2_with fail
    refine (live06_any _).mono ?_
    rintro r w2 ⟨rfl, hb2⟩
    have hB2 : Below w.heap.size w w2 := hB1.trans (hb2.mono hB1.size)
    have HX2 : Hid (w2.heap[w.heap.size]? = some (.cells #[.int .i64 k, .string nm, .int .i64 op, .slice pv nv cv, .slice pt nt ct, .int .i64 lo, .int .i64 hi, .bool o, .slice ps ns cs, .slice pr nr cr] 29 (0, 0))) := blk_bel HX1.out hb2
    clear hb2 HX1 e0 e1 e2 e3 e4 e5 e6 e7 e8 e9
    have e0 : w2.cell? ⟨w.heap.size, 0, none⟩ = some (.int .i64 k) := by rw [Lib.cell_of_heap HX2.out]; rfl
    have e1 : w2.cell? ⟨w.heap.size, 1, none⟩ = some (.string nm) := by rw [Lib.cell_of_heap HX2.out]; rfl
    have e2 : w2.cell? ⟨w.heap.size, 2, none⟩ = some (.int .i64 op) := by rw [Lib.cell_of_heap HX2.out]; rfl
    have e3 : w2.cell? ⟨w.heap.size, 3, none⟩ = some (.slice pv nv cv) := by rw [Lib.cell_of_heap HX2.out]; rfl
    have e4 : w2.cell? ⟨w.heap.size, 4, none⟩ = some (.slice pt nt ct) := by rw [Lib.cell_of_heap HX2.out]; rfl
    have e5 : w2.cell? ⟨w.heap.size, 5, none⟩ = some (.int .i64 lo) := by rw [Lib.cell_of_heap HX2.out]; rfl
    have e6 : w2.cell? ⟨w.heap.size, 6, none⟩ = some (.int .i64 hi) := by rw [Lib.cell_of_heap HX2.out]; rfl
    have e7 : w2.cell? ⟨w.heap.size, 7, none⟩ = some (.bool o) := by rw [Lib.cell_of_heap HX2.out]; rfl
    have e8 : w2.cell? ⟨w.heap.size, 8, none⟩ = some (.slice ps ns cs) := by rw [Lib.cell_of_heap HX2.out]; rfl
    have e9 : w2.cell? ⟨w.heap.size, 9, none⟩ = some (.slice pr nr cr) := by rw [Lib.cell_of_heap HX2.out]; rfl
    go_wp2_with fail
    refine (cN.out _ hB2).mono ?_
    rintro r w3 ⟨rfl, hb3⟩
    have hB3 : Below w.heap.size w w3 := hB2.trans (hb3.mono hB2.size)
    have HX3 : Hid (w3.heap[w.heap.size]? = some (.cells #[.int .i64 k, .string nm, .int .i64 op, .slice pv nv cv, .slice pt nt ct, .int .i64 lo, .int .i64 hi, .bool o, .slice ps ns cs, .slice pr nr cr] 29 (0, 0))) := blk_bel HX2.out hb3
    clear hb3 HX2 e0 e1 e2 e3 e4 e5 e6 e7 e8 e9
    have e0 : w3.cell? ⟨w.heap.size, 0, none⟩ = some (.int .i64 k) := by rw [Lib.cell_of_heap HX3.out]; rfl
    have e1 : w3.cell? ⟨w.heap.size, 1, none⟩ = some (.string nm) := by rw [Lib.cell_of_heap HX3.out]; rfl
    have e2 : w3.cell? ⟨w.heap.size, 2, none⟩ = some (.int .i64 op) := by rw [Lib.cell_of_heap HX3.out]; rfl
    have e3 : w3.cell? ⟨w.heap.size, 3, none⟩ = some (.slice pv nv cv) := by rw [Lib.cell_of_heap HX3.out]; rfl
    have e4 : w3.cell? ⟨w.heap.size, 4, none⟩ = some (.slice pt nt ct) := by rw [Lib.cell_of_heap HX3.out]; rfl
    have e5 : w3.cell? ⟨w.heap.size, 5, none⟩ = some (.int .i64 lo) := by rw [Lib.cell_of_heap HX3.out]; rfl
    have e6 : w3.cell? ⟨w.heap.size, 6, none⟩ = some (.int .i64 hi) := by rw [Lib.cell_of_heap HX3.out]; rfl
    have e7 : w3.cell? ⟨w.heap.size, 7, none⟩ = some (.bool o) := by rw [Lib.cell_of_heap HX3.out]; rfl
    have e8 : w3.cell? ⟨w.heap.size, 8, none⟩ = some (.slice ps ns cs) := by rw [Lib.cell_of_heap HX3.out]; rfl
    have e9 : w3.cell? ⟨w.heap.size, 9, none⟩ = some (.slice pr nr cr) := by rw [Lib.cell_of_heap HX3.out]; rfl
    go_wp2_with fail
    refine (cD.out _ hB3).mono ?_
    rintro r w4 ⟨rfl, hb4⟩
    have hB4 : Below w.heap.size w w4 := hB3.trans (hb4.mono hB3.size)
    have HX4 : Hid (w4.heap[w.heap.size]? = some (.cells #[.int .i64 k, .string nm, .int .i64 op, .slice pv nv cv, .slice pt nt ct, .int .i64 lo, .int .i64 hi, .bool o, .slice ps ns cs, .slice pr nr cr] 29 (0, 0))) := blk_bel HX3.out hb4
    clear hb4 HX3 e0 e1 e2 e3 e4 e5 e6 e7 e8 e9
    have e0 : w4.cell? ⟨w.heap.size, 0, none⟩ = some (.int .i64 k) := by rw [Lib.cell_of_heap HX4.out]; rfl
    have e1 : w4.cell? ⟨w.heap.size, 1, none⟩ = some (.string nm) := by rw [Lib.cell_of_heap HX4.out]; rfl
    have e2 : w4.cell? ⟨w.heap.size, 2, none⟩ = some (.int .i64 op) := by rw [Lib.cell_of_heap HX4.out]; rfl
    have e3 : w4.cell? ⟨w.heap.size, 3, none⟩ = some (.slice pv nv cv) := by rw [Lib.cell_of_heap HX4.out]; rfl
    have e4 : w4.cell? ⟨w.heap.size, 4, none⟩ = some (.slice pt nt ct) := by rw [Lib.cell_of_heap HX4.out]; rfl
    have e5 : w4.cell? ⟨w.heap.size, 5, none⟩ = some (.int .i64 lo) := by rw [Lib.cell_of_heap HX4.out]; rfl
    have e6 : w4.cell? ⟨w.heap.size, 6, none⟩ = some (.int .i64 hi) := by rw [Lib.cell_of_heap HX4.out]; rfl
    have e7 : w4.cell? ⟨w.heap.size, 7, none⟩ = some (.bool o) := by rw [Lib.cell_of_heap HX4.out]; rfl
    have e8 : w4.cell? ⟨w.heap.size, 8, none⟩ = some (.slice ps ns cs) := by rw [Lib.cell_of_heap HX4.out]; rfl
    have e9 : w4.cell? ⟨w.heap.size, 9, none⟩ = some (.slice pr nr cr) := by rw [Lib.cell_of_heap HX4.out]; rfl
    go_wp2_with fail
    refine (cF.out _ hB4).mono ?_
    rintro r w5 ⟨p5, c5, rfl, -, hb5⟩
    have hB5 : Below w.heap.size w w5 := hB4.trans (hb5.mono hB4.size)
    clear hb5 HX4 e0 e1 e2 e3 e4 e5 e6 e7 e8 e9
    go_wp2
    go_ret
    exact ⟨rfl, hB5⟩
  have HE : Hid (chkF f = 0) := hE
  obtain ⟨W1, W2, W3, W4⟩ := (chk_iff f).1 hE
  have hsz : Hid (sizF f = ((nodF f : Int), (depF f : Int))) := siz_of hE
  have hvr : Hid (varF f = (fre f).1) := if_pos hE
  rw [hsz.out] at cN cD
  rw [hvr.out] at cF
  rw [hE]
  have HWF : Hid (wfF f) := W1
  have hwt : Hid (wfTs f.terms) := by rw [wfF_eq] at W1; exact W1.2.1
  have hnt : nodTs f.terms ≤ 256 := by rw [nodF_eq] at W2; omega
  have hpn : nodFs (ptsF f) < nodF f := pts_nod f
  have hpw : Hid (wfFs (ptsF f)) := pts_ok W1
  clear hE W1 hsz hvr
  go_wp2
  go_loopw [4, 5] (fun v4 v wr => ∃ (i : Nat) (M : List ByteArray), i ≤ nt ∧ v = .int .i64 i ∧ M.length ≤ 256 ∧ Hid (M = tvU (f.terms.take i)) ∧ Hid (OwnN (w.heap.size + 1) v4 M wr) ∧ Hid (wr.heap[w.heap.size]? = some (.cells #[.int .i64 k, .string nm, .int .i64 op, .slice pv nv cv, .slice pt nt ct, .int .i64 lo, .int .i64 hi, .bool o, .slice ps ns cs, .slice pr nr cr] 29 (0, 0))) ∧ Below w.heap.size w wr) (fun _ v _ => nt - (intOf v).toNat)
  case atStart => exact ⟨0, [], Nat.zero_le _, rfl, by simp, (show _ = _ by simp [tvU]), OwnN.nil _ _, HX1, hB1⟩
  case round =>
    obtain ⟨i, M, hk, rfl, hM, hMe, hO, hX, hB⟩ := hrel
    have hsr : w.heap.size < wr.heap.size := blk_lt hX.out
    have HK : Hid (∀ q, u4.ownBlock = some q → w.heap.size + 1 ≤ q) := fun q hq => (World.ownsRow.lt hO.out q hq).1
    have e4 : wr.cell? ⟨w.heap.size, 4, none⟩ = some (.slice pt nt ct) := by rw [Lib.cell_of_heap hX.out]; rfl
    by_cases hlt : i < nt
    case pos =>
      have hlt' : (i : Int) < nt := by omega
      have kx : i < f.terms.length := by have := ent.out; omega
      obtain ⟨b, off, u, rfl, hb, TC, TS, TF⟩ := HX.out i kx
      obtain ⟨a0, a1, a2, a3, a4, a5, a6⟩ := TC.below hB hb
      have hbr : b < wr.heap.size := by omega
      have hwi : wfT f.terms[i] := wfTs_get _ i kx hwt.out
      have hni : (tvs f.terms[i]).length ≤ 256 := by
        have h1 := tvss_nod _ [f.terms[i]] (Nat.le_refl _)
        have h2 := nodTs_get f.terms i kx
        rw [tvss_cons, tvss_nil, List.append_nil, nodTs_cons, nodTs_nil] at h1
        omega
      have cT : Hid (∀ W : World, Below w.heap.size w W → Calls Try.prog 16 #[.agg #[.int .i64 f.terms[i].k, .string f.terms[i].nm, .int .i64 f.terms[i].v.k, .int .i64 f.terms[i].v.n, .int .i64 f.terms[i].v.d, .string f.terms[i].v.s, u]] W fun e w' => ∃ v, e = .returned v ∧ OwnN W.heap.size v (uniN [tvs f.terms[i]]) w' ∧ Below W.heap.size W w') := fun W hW => tvars_any f.terms[i] u W (TS.bel hW) TF (by omega) (fun s hs => by
        have h1 := ((uni_up _).2 s).1 hs
        have h2 := tvss_names _ [f.terms[i]] (Nat.le_refl _) (by rw [wfTs_cons, wfTs_nil]; exact ⟨hwi, trivial⟩) s (by rw [tvss_cons, tvss_nil, List.append_nil]; simpa using h1)
        have := nameB_size h2
        omega)
      have hM2 : Hid (M ++ uniN [tvs f.terms[i]] = tvU (f.terms.take (i + 1))) := by
        have h := hMe.out
        unfold Hid
        rw [List.take_succ_eq_append_getElem kx, h]
        unfold tvU
        rw [List.flatMap_append]
        simp
      have hM3 : (tvU (f.terms.take (i + 1))).length ≤ 256 := by
        have h1 := tvU_len (f.terms.take (i + 1))
        have h2 := tvss_nod _ (f.terms.take (i + 1)) (Nat.le_refl _)
        have h3 := nodTs_take_le f.terms (i + 1)
        omega
      rw [← hM2.out, List.length_append] at hM3
      obtain ⟨pu, cu, rfl, -⟩ := TS.form
      clear TC TS TF hwi hni hMe
      generalize uniN [tvs f.terms[i]] = U at *
      generalize f.terms[i].k = tk at *
      generalize f.terms[i].nm = tn at *
      generalize f.terms[i].v.k = vk at *
      generalize f.terms[i].v.n = vn at *
      generalize f.terms[i].v.d = vd at *
      generalize f.terms[i].v.s = vs at *
      generalize f.terms[i].subs.length = nu at *
      go_wp2_with fail
      refine (cT.out _ hB).mono ?_
      rintro r w2 ⟨v2, rfl, hU, hb2⟩
      have hB2 : Below w.heap.size w w2 := hB.trans (hb2.mono hB.size)
      have hX2 : Hid (w2.heap[w.heap.size]? = some (.cells #[.int .i64 k, .string nm, .int .i64 op, .slice pv nv cv, .slice (some ⟨b, off, none⟩) nt ct, .int .i64 lo, .int .i64 hi, .bool o, .slice ps ns cs, .slice pr nr cr] 29 (0, 0))) := blk_bel hX.out hb2
      have hs2 : w.heap.size < w2.heap.size := blk_lt hX2.out
      have HU : Hid (SrcA w2 1 v2 U.length (U.map Value.string)) := srcA_nms (hU.nms (by omega))
      have hO2 : Hid (OwnN (w.heap.size + 1) u4 M w2) := hO.out.bel hb2
      have HK2 : Hid (∀ q, u4.ownBlock = some q → q < w2.heap.size) := fun q hq => own_lt hO2.out hq
      clear hU hb2 hO hX a0 a1 a2 a3 a4 a5 a6 e4 cT
      go_wp2_with (at_builtin; refine wpList_append_srcA rfl _ _ 22 rfl (w.heap.size + 1) 9 i0 (.string ByteArray.empty) 1 16 Try.underlying22 hi0 hz0 hz1 hz2 rfl (by decide) _ _ _ rfl hO2.out _ U.length (U.map Value.string) rfl HU.out ?cc2 ?cc3 ?cc4 ?cc5 ?_)
      case cc2 => (intro u hu; obtain ⟨y, -, rfl⟩ := List.mem_map.1 hu; rfl)
      case cc3 => unfold maxLen; omega
      case cc4 => omega
      case cc5 => omega
      intro v' w3 h2 h3 _
      have O3 : Hid (OwnN (w.heap.size + 1) v' (M ++ U) w3) := by
        show w3.ownsRow _ _ _ _ _ _
        rw [List.length_append, List.map_append]
        exact h2
      have B3 : Below w.heap.size w w3 := Below.grown hB2 h3 (by omega) (fun q hq => by have := HK.out q hq; omega)
      have X3 : Hid (w3.heap[w.heap.size]? = some (.cells #[.int .i64 k, .string nm, .int .i64 op, .slice pv nv cv, .slice (some ⟨b, off, none⟩) nt ct, .int .i64 lo, .int .i64 hi, .bool o, .slice ps ns cs, .slice pr nr cr] 29 (0, 0))) := (h3.block w.heap.size hs2 (fun h => by have := HK.out _ h.symm; omega)).trans hX2.out
      clear h2 h3 HK HK2 hO2 HU hX2
      go_wp2
      exact ⟨⟨i + 1, M ++ U, by omega, by go_num, by rw [List.length_append]; omega, hM2, O3, X3, B3⟩, by simp [intOf]; omega⟩
    have c2 : ¬ (i : Int) < nt := by omega
    have hMe2 : Hid (M = tvU f.terms) := by
      have h := hMe.out
      rw [List.take_of_length_le (by have := ent.out; omega)] at h
      exact h
    clear hMe HX1 hB1 hs1
    have hnp : (ptsF f).length ≤ 255 := by have := nodFs_len (ptsF f); omega
    obtain ⟨np, enp⟩ : ∃ n : Nat, Hid ((ptsF f).length = n) := ⟨_, rfl⟩
    rw [enp.out] at hnp
    go_wp2
    go_loopw [3, 4, 6] (fun v3 v4 v wr => ∃ (i : Nat) (M' : List ByteArray) (nn : Nat), i ≤ np ∧ v = .int .i64 i ∧ v3 = .int .i64 (nn : Int) ∧ nn ≤ 256 ∧ M'.length ≤ 3000 ∧ Hid (nn = nodFs ((ptsF f).take i)) ∧ Hid (M' = M ++ frU ((ptsF f).take i)) ∧ Hid (OwnN (w.heap.size + 1) v4 M' wr) ∧ Hid (wr.heap[w.heap.size]? = some (.cells #[.int .i64 k, .string nm, .int .i64 op, .slice pv nv cv, .slice pt nt ct, .int .i64 lo, .int .i64 hi, .bool o, .slice ps ns cs, .slice pr nr cr] 29 (0, 0))) ∧ Below w.heap.size w wr) (fun _ _ v _ => 300 - (intOf v).toNat)
    case atStart => exact ⟨0, M, 0, Nat.zero_le _, rfl, rfl, by omega, by omega, (show _ = _ by simp [nodFs_nil]), (show _ = _ by simp [frU]), hO, hX, hB⟩
    case round =>
      clear hX hO HK e4 hsr hB
      obtain ⟨i, M', nn, hk, rfl, rfl, hnn, hM', hne, hMe, hO, hX, hB⟩ := hrel
      have hsr : w.heap.size < wr.heap.size := blk_lt hX.out
      have HK : Hid (∀ q, u4.ownBlock = some q → w.heap.size + 1 ≤ q) := fun q hq => (World.ownsRow.lt hO.out q hq).1
      have hle : (i : Int) ≤ 256 := by omega
      have e0 : wr.cell? ⟨w.heap.size, 0, none⟩ = some (.int .i64 k) := by rw [Lib.cell_of_heap hX.out]; rfl
      have e1 : wr.cell? ⟨w.heap.size, 1, none⟩ = some (.string nm) := by rw [Lib.cell_of_heap hX.out]; rfl
      have e2 : wr.cell? ⟨w.heap.size, 2, none⟩ = some (.int .i64 op) := by rw [Lib.cell_of_heap hX.out]; rfl
      have e3 : wr.cell? ⟨w.heap.size, 3, none⟩ = some (.slice pv nv cv) := by rw [Lib.cell_of_heap hX.out]; rfl
      have e4 : wr.cell? ⟨w.heap.size, 4, none⟩ = some (.slice pt nt ct) := by rw [Lib.cell_of_heap hX.out]; rfl
      have e5 : wr.cell? ⟨w.heap.size, 5, none⟩ = some (.int .i64 lo) := by rw [Lib.cell_of_heap hX.out]; rfl
      have e6 : wr.cell? ⟨w.heap.size, 6, none⟩ = some (.int .i64 hi) := by rw [Lib.cell_of_heap hX.out]; rfl
      have e7 : wr.cell? ⟨w.heap.size, 7, none⟩ = some (.bool o) := by rw [Lib.cell_of_heap hX.out]; rfl
      have e8 : wr.cell? ⟨w.heap.size, 8, none⟩ = some (.slice ps ns cs) := by rw [Lib.cell_of_heap hX.out]; rfl
      have e9 : wr.cell? ⟨w.heap.size, 9, none⟩ = some (.slice pr nr cr) := by rw [Lib.cell_of_heap hX.out]; rfl
      go_wp2_with fail
      refine (cP.out _ wr.heap.size i (hB.alloc (by omega) _) (by simp) (by simp [go_sem]) HE.out).mono ?_
      rintro r w2 ⟨hb2, hpo⟩
      have hB2 : Below w.heap.size w w2 := (hB.alloc (by omega) _).trans (hb2.mono (by simp; omega))
      have hX2 : Hid (w2.heap[w.heap.size]? = some (.cells #[.int .i64 k, .string nm, .int .i64 op, .slice pv nv cv, .slice pt nt ct, .int .i64 lo, .int .i64 hi, .bool o, .slice ps ns cs, .slice pr nr cr] 29 (0, 0))) := (hb2.block w.heap.size (by simp; omega)).trans ((Below.heap_alloc _ _ _ hsr).trans hX.out)
      have hO2 : Hid (OwnN (w.heap.size + 1) u4 M' w2) := own_belA (World.ownsRow.alloc hO.out _) hb2
      have hs2 : w.heap.size < w2.heap.size := blk_lt hX2.out
      clear hb2 hX hO e0 e1 e2 e3 e4 e5 e6 e7 e8 e9
      rcases hpo with ⟨hge, rfl⟩ | ⟨hin, r, rfl, hG⟩
      case inl =>
        have hfull : Hid (M' = M ++ frU (ptsF f)) := by
          have h := hMe.out
          rw [List.take_of_length_le (by omega)] at h
          exact h
        have hnfull : Hid (nn = nodFs (ptsF f)) := by
          have h := hne.out
          rw [List.take_of_length_le (by omega)] at h
          exact h
        clear hMe hne cP
        have hlt9 : nodFs (ptsF f) < nodF f := hpn
        rw [← hnfull.out] at hlt9
        obtain ⟨fN, efN⟩ : ∃ n : Nat, Hid (nodF f = n) := ⟨_, rfl⟩
        rw [efN.out] at hlt9
        have cN' := cN
        rw [efN.out] at cN'
        have hlt8 : ¬ fN ≤ nn := by omega
        have hlt7 : ¬ (fN : Int) ≤ nn := by omega
        have e0 : w2.cell? ⟨w.heap.size, 0, none⟩ = some (.int .i64 k) := by rw [Lib.cell_of_heap hX2.out]; rfl
        have e1 : w2.cell? ⟨w.heap.size, 1, none⟩ = some (.string nm) := by rw [Lib.cell_of_heap hX2.out]; rfl
        have e2 : w2.cell? ⟨w.heap.size, 2, none⟩ = some (.int .i64 op) := by rw [Lib.cell_of_heap hX2.out]; rfl
        have e3 : w2.cell? ⟨w.heap.size, 3, none⟩ = some (.slice pv nv cv) := by rw [Lib.cell_of_heap hX2.out]; rfl
        have e4 : w2.cell? ⟨w.heap.size, 4, none⟩ = some (.slice pt nt ct) := by rw [Lib.cell_of_heap hX2.out]; rfl
        have e5 : w2.cell? ⟨w.heap.size, 5, none⟩ = some (.int .i64 lo) := by rw [Lib.cell_of_heap hX2.out]; rfl
        have e6 : w2.cell? ⟨w.heap.size, 6, none⟩ = some (.int .i64 hi) := by rw [Lib.cell_of_heap hX2.out]; rfl
        have e7 : w2.cell? ⟨w.heap.size, 7, none⟩ = some (.bool o) := by rw [Lib.cell_of_heap hX2.out]; rfl
        have e8 : w2.cell? ⟨w.heap.size, 8, none⟩ = some (.slice ps ns cs) := by rw [Lib.cell_of_heap hX2.out]; rfl
        have e9 : w2.cell? ⟨w.heap.size, 9, none⟩ = some (.slice pr nr cr) := by rw [Lib.cell_of_heap hX2.out]; rfl
        go_wp2_with fail
        refine (cN'.out _ (hB2.alloc (by omega) _)).mono ?_
        rintro r w3 ⟨rfl, hb3⟩
        obtain ⟨B3, n3⟩ := bgX (n := w2.heap.size) (W0 := w2) (by go_grown) (by go_size) hb3
        have hB3 : Below w.heap.size w w3 := hB2.trans (B3.mono hB2.size)
        have hX3 : Hid (w3.heap[w.heap.size]? = some (.cells #[.int .i64 k, .string nm, .int .i64 op, .slice pv nv cv, .slice pt nt ct, .int .i64 lo, .int .i64 hi, .bool o, .slice ps ns cs, .slice pr nr cr] 29 (0, 0))) := blk_bel hX2.out B3
        have hO3 : Hid (OwnN (w.heap.size + 1) u4 M' w3) := hO2.out.bel B3
        clear hb3 B3 n3 hX2 hO2 e0 e1 e2 e3 e4 e5 e6 e7 e8 e9
        have e0 : w3.cell? ⟨w.heap.size, 0, none⟩ = some (.int .i64 k) := by rw [Lib.cell_of_heap hX3.out]; rfl
        have e1 : w3.cell? ⟨w.heap.size, 1, none⟩ = some (.string nm) := by rw [Lib.cell_of_heap hX3.out]; rfl
        have e2 : w3.cell? ⟨w.heap.size, 2, none⟩ = some (.int .i64 op) := by rw [Lib.cell_of_heap hX3.out]; rfl
        have e3 : w3.cell? ⟨w.heap.size, 3, none⟩ = some (.slice pv nv cv) := by rw [Lib.cell_of_heap hX3.out]; rfl
        have e4 : w3.cell? ⟨w.heap.size, 4, none⟩ = some (.slice pt nt ct) := by rw [Lib.cell_of_heap hX3.out]; rfl
        have e5 : w3.cell? ⟨w.heap.size, 5, none⟩ = some (.int .i64 lo) := by rw [Lib.cell_of_heap hX3.out]; rfl
        have e6 : w3.cell? ⟨w.heap.size, 6, none⟩ = some (.int .i64 hi) := by rw [Lib.cell_of_heap hX3.out]; rfl
        have e7 : w3.cell? ⟨w.heap.size, 7, none⟩ = some (.bool o) := by rw [Lib.cell_of_heap hX3.out]; rfl
        have e8 : w3.cell? ⟨w.heap.size, 8, none⟩ = some (.slice ps ns cs) := by rw [Lib.cell_of_heap hX3.out]; rfl
        have e9 : w3.cell? ⟨w.heap.size, 9, none⟩ = some (.slice pr nr cr) := by rw [Lib.cell_of_heap hX3.out]; rfl
        go_wp2_with fail
        refine (cF.out _ hB3).mono ?_
        rintro r w4 ⟨pf, cf, rfl, hOf, hb4⟩
        have hB4 : Below w.heap.size w w4 := hB3.trans (hb4.mono hB3.size)
        have hX4 : Hid (w4.heap[w.heap.size]? = some (.cells #[.int .i64 k, .string nm, .int .i64 op, .slice pv nv cv, .slice pt nt ct, .int .i64 lo, .int .i64 hi, .bool o, .slice ps ns cs, .slice pr nr cr] 29 (0, 0))) := blk_bel hX3.out hb4
        have hO4 : Hid (OwnN (w.heap.size + 1) u4 M' w4) := hO3.out.bel hb4
        have hlf : (fre f).1.length ≤ 3000 := by have := fre_len _ f (Nat.le_refl _) HWF.out; omega
        have hNf : Hid (NmsAt w4 (.slice pf (fre f).1.length cf) (fre f).1) := hOf.nms (by omega)
        have hup := fre_up _ f (Nat.le_refl _) HWF.out
        have hR : Hid (Rises (fre f).1) := hup.1
        have hmem : Hid (k ≠ 19 → ∀ x ∈ (fre f).1, x ∈ M') := fun hk x hx => by
          rw [hfull.out, hMe2.out]
          rcases hup.2.1 (by rw [Hfk.out]; exact hk) x hx with h | ⟨j, hj, h⟩
          · exact List.mem_append_left _ (tvU_mem h)
          · exact List.mem_append_right _ (List.mem_flatMap.2 ⟨_, List.getElem_mem hj, h⟩)
        clear hb4 hX3 hO3 hOf hup cN cN' cD cF e0 e1 e2 e3 e4 e5 e6 e7 e8 e9
        generalize (fre f).1 = FV at *
        obtain ⟨nf, enf⟩ : ∃ n : Nat, Hid (FV.length = n) := ⟨_, rfl⟩
        rw [enf.out] at hlf ⊢
        go_wp2
        go_loopw [12] (fun v wr => ∃ (i : Nat), i ≤ nf ∧ v = .int .i64 i ∧ Hid (OwnN (w.heap.size + 1) u4 M' wr) ∧ Hid (NmsAt wr (.slice pf FV.length cf) FV) ∧ Hid (wr.heap[w.heap.size]? = some (.cells #[.int .i64 k, .string nm, .int .i64 op, .slice pv nv cv, .slice pt nt ct, .int .i64 lo, .int .i64 hi, .bool o, .slice ps ns cs, .slice pr nr cr] 29 (0, 0))) ∧ Below w.heap.size w wr) (fun v _ => nf - (intOf v).toNat)
        case atStart => exact ⟨0, Nat.zero_le _, rfl, hO4, hNf, hX4, hB4⟩
        case round =>
          clear hO4 hNf hX4 hB4
          obtain ⟨i, hix, rfl, hO, hN, hX, hB⟩ := hrel
          by_cases hlt : i < nf
          case neg =>
            have c2 : ¬ (i : Int) < nf := by omega
            go_wp2_with fail
            refine (live06_any _).mono ?_
            rintro r w5 ⟨rfl, hb5⟩
            have hB5 : Below w.heap.size w w5 := hB.trans (hb5.mono hB.size)
            go_wp2
            go_ret
            exact ⟨rfl, hB5⟩
          have hlt' : (i : Int) < nf := by omega
          have kx : i < FV.length := by have := enf.out; omega
          obtain ⟨p', c', ee, -, -, HXf⟩ := hN.out.form
          injection ee with ee1 ee2 ee3
          subst ee1 ee3
          obtain ⟨b, off, rfl, hb, a1⟩ := HXf i kx
          have a0 : Hid (∀ j (hj : j < FV.length), wr.cell? ⟨b, off + j, none⟩ = some (.string FV[j])) := fun j hj => by
            obtain ⟨b2, off2, e2, -, h2⟩ := HXf j hj
            injection e2 with e2
            injection e2 with q1 q2
            subst q1 q2
            exact h2
          have e0 : wr.cell? ⟨w.heap.size, 0, none⟩ = some (.int .i64 k) := by rw [Lib.cell_of_heap hX.out]; rfl
          have cH : Hid (k ≠ 19 → ∀ W : World, OwnN (w.heap.size + 1) u4 M' W → Calls Try.prog 18 #[u4, .string FV[i]] W fun e w' => e = .returned (.bool true) ∧ w' = W) := fun hk W hW => has_own hW (by omega) (hmem.out hk _ (List.getElem_mem kx))
          have hi' : ¬ (i : Int) < 0 := by omega
          have hX0 : Hid (wr.cell? ⟨b, off + i, none⟩ = some (.string FV[i])) := a1
          have hup1 : Hid (∀ j (hj : j + 1 = i), Op.bytesLess (FV[j]'(by omega)).toList FV[i].toList = true) := fun j hj => by
            rw [bytesLess_eq, ByteArray.toList_eq, ByteArray.toList_eq]
            exact decide_eq_true (List.pairwise_iff_getElem.1 hR.out j i (by omega) kx (by omega))
          have fin : Hid (∀ nq : Nat, Hid (OwnN (w.heap.size + 1) u4 M' (wr.drewN nq)) ∧ Hid (NmsAt (wr.drewN nq) (.slice (some ⟨b, off, none⟩) FV.length cf) FV) ∧ Hid ((wr.drewN nq).heap[w.heap.size]? = some (.cells #[.int .i64 k, .string nm, .int .i64 op, .slice pv nv cv, .slice pt nt ct, .int .i64 lo, .int .i64 hi, .bool o, .slice ps ns cs, .slice pr nr cr] 29 (0, 0))) ∧ Below w.heap.size w (wr.drewN nq)) := fun nq => ⟨hO.out.bel (bdrewA _ (Below.refl _ _)), hN.out.below (bdrewA _ (Below.refl _ _)), blk_bel hX.out (bdrewA _ (Below.refl _ _)), bdrewA _ hB⟩
          clear hO hN hX hB HXf
          by_cases hk19 : k = 19
          · have hk' : (k != 19) = false := by simp [hk19]
            clear cH
            rcases Nat.eq_zero_or_pos i with h0 | h0
            · have g0 : ¬ (0 : Int) < i := by omega
              have g1 : ¬ 0 < i := by omega
              clear h0 hup1 a0 hk19
              go_upto_region 27 with fail
              go_quiet (fail)
              obtain ⟨f1, f2, f3, f4⟩ := fin.out nq
              go_wp2
              exact ⟨⟨i + 1, by omega, by go_num, f1, f2, f3, f4⟩, by simp [intOf]; omega⟩
            · obtain ⟨j, ej⟩ : ∃ j, j + 1 = i := ⟨i - 1, by omega⟩
              have a2 := a0.out j (by omega)
              have hL := hup1.out j ej
              have g0 : (0 : Int) < i := by omega
              have ej' : (i : Int) - 1 = j := by omega
              have jl : (j : Int) < nf := by omega
              clear hup1 a0 hk19
              generalize FV[j]'(by omega) = Y at a2 hL
              generalize FV[i] = X at a1 hL
              go_upto_region 27 with fail
              go_quiet (fail)
              obtain ⟨f1, f2, f3, f4⟩ := fin.out nq
              go_wp2
              exact ⟨⟨i + 1, by omega, by go_num, f1, f2, f3, f4⟩, by simp [intOf]; omega⟩
          · have hk' : (k != 19) = true := by simp [hk19]
            have cH1 : Hid (∀ m : Nat, Calls Try.prog 18 #[u4, .string FV[i]] (wr.drewN m) fun e w' => e = .returned (.bool true) ∧ w' = wr.drewN m) := fun m => cH.out hk19 _ (fin.out m).1.out
            rcases Nat.eq_zero_or_pos i with h0 | h0
            · have g0 : ¬ (0 : Int) < i := by omega
              have g1 : ¬ 0 < i := by omega
              clear h0 hup1 a0 hk19 cH
              generalize FV[i] = X at a1 cH1
              go_upto_region 27 with fail
              go_quiet (first | (go_at_call 18; exact Calls.quiet_of_same (cH1.out _)))
              obtain ⟨f1, f2, f3, f4⟩ := fin.out nq
              go_wp2
              exact ⟨⟨i + 1, by omega, by go_num, f1, f2, f3, f4⟩, by simp [intOf]; omega⟩
            · obtain ⟨j, ej⟩ : ∃ j, j + 1 = i := ⟨i - 1, by omega⟩
              have a2 := a0.out j (by omega)
              have hL := hup1.out j ej
              have g0 : (0 : Int) < i := by omega
              have ej' : (i : Int) - 1 = j := by omega
              have jl : (j : Int) < nf := by omega
              clear hup1 a0 hk19 cH
              generalize FV[j]'(by omega) = Y at a2 hL
              generalize FV[i] = X at a1 hL cH1
              go_upto_region 27 with fail
              go_quiet (first | (go_at_call 18; exact Calls.quiet_of_same (cH1.out _)))
              obtain ⟨f1, f2, f3, f4⟩ := fin.out nq
              go_wp2
              exact ⟨⟨i + 1, by omega, by go_num, f1, f2, f3, f4⟩, by simp [intOf]; omega⟩
      have hi2 : i < np := by have := enp.out; omega
      obtain ⟨gc, gd, gn⟩ := part_chk HE.out hin
      obtain ⟨qv, dv, qt, dt, qs, ds, qr, dr, rfl⟩ := qat_forms hG
      have sg := siz_of gc
      have vg : varF (ptsF f)[i] = (fre (ptsF f)[i]).1 := if_pos gc
      have gw := wfFs_get _ i hin hpw.out
      have cKg : Hid (∀ W : World, Below w2.heap.size w2 W → Calls Try.prog 10 #[.agg #[.int .i64 (ptsF f)[i].k, .string (ptsF f)[i].nm, .int .i64 (ptsF f)[i].op, .slice qv (ptsF f)[i].vars.length dv, .slice qt (ptsF f)[i].terms.length dt, .int .i64 (ptsF f)[i].lo, .int .i64 (ptsF f)[i].hi, .bool (ptsF f)[i].opn, .slice qs (ptsF f)[i].subs.length ds, .slice qr (ptsF f)[i].rgx.length dr]] W fun e w' => e = .returned (.int .i64 0) ∧ Below W.heap.size W w') := fun W hW => (check_fm (ptsF f)[i] ⟨.slice qv (ptsF f)[i].vars.length dv, .slice qt (ptsF f)[i].terms.length dt, .slice qs (ptsF f)[i].subs.length ds, .slice qr (ptsF f)[i].rgx.length dr⟩ W (hG.below hW)).mono fun e w' ⟨h1, h2⟩ => ⟨by rw [h1, gc], h2⟩
      have cDg : Hid (∀ W : World, Below w2.heap.size w2 W → Calls Try.prog 15 #[.agg #[.int .i64 (ptsF f)[i].k, .string (ptsF f)[i].nm, .int .i64 (ptsF f)[i].op, .slice qv (ptsF f)[i].vars.length dv, .slice qt (ptsF f)[i].terms.length dt, .int .i64 (ptsF f)[i].lo, .int .i64 (ptsF f)[i].hi, .bool (ptsF f)[i].opn, .slice qs (ptsF f)[i].subs.length ds, .slice qr (ptsF f)[i].rgx.length dr]] W fun e w' => e = .returned (.int .i64 (depF (ptsF f)[i] : Int)) ∧ Below W.heap.size W w') := fun W hW => (depth_fm (ptsF f)[i] ⟨.slice qv (ptsF f)[i].vars.length dv, .slice qt (ptsF f)[i].terms.length dt, .slice qs (ptsF f)[i].subs.length ds, .slice qr (ptsF f)[i].rgx.length dr⟩ W (hG.below hW)).mono fun e w' ⟨h1, h2⟩ => ⟨by rw [h1, sg], h2⟩
      have cNg : Hid (∀ W : World, Below w2.heap.size w2 W → Calls Try.prog 13 #[.agg #[.int .i64 (ptsF f)[i].k, .string (ptsF f)[i].nm, .int .i64 (ptsF f)[i].op, .slice qv (ptsF f)[i].vars.length dv, .slice qt (ptsF f)[i].terms.length dt, .int .i64 (ptsF f)[i].lo, .int .i64 (ptsF f)[i].hi, .bool (ptsF f)[i].opn, .slice qs (ptsF f)[i].subs.length ds, .slice qr (ptsF f)[i].rgx.length dr]] W fun e w' => e = .returned (.int .i64 (nodF (ptsF f)[i] : Int)) ∧ Below W.heap.size W w') := fun W hW => (nodes_fm (ptsF f)[i] ⟨.slice qv (ptsF f)[i].vars.length dv, .slice qt (ptsF f)[i].terms.length dt, .slice qs (ptsF f)[i].subs.length ds, .slice qr (ptsF f)[i].rgx.length dr⟩ W (hG.below hW)).mono fun e w' ⟨h1, h2⟩ => ⟨by rw [h1, sg], h2⟩
      have cFg : Hid (∀ W : World, Below w2.heap.size w2 W → Calls Try.prog 12 #[.agg #[.int .i64 (ptsF f)[i].k, .string (ptsF f)[i].nm, .int .i64 (ptsF f)[i].op, .slice qv (ptsF f)[i].vars.length dv, .slice qt (ptsF f)[i].terms.length dt, .int .i64 (ptsF f)[i].lo, .int .i64 (ptsF f)[i].hi, .bool (ptsF f)[i].opn, .slice qs (ptsF f)[i].subs.length ds, .slice qr (ptsF f)[i].rgx.length dr]] W fun e w' => ∃ v, e = .returned v ∧ OwnN W.heap.size v (fre (ptsF f)[i]).1 w' ∧ Below W.heap.size W w') := fun W hW => by
        have h := free_fm (ptsF f)[i] ⟨.slice qv (ptsF f)[i].vars.length dv, .slice qt (ptsF f)[i].terms.length dt, .slice qs (ptsF f)[i].subs.length ds, .slice qr (ptsF f)[i].rgx.length dr⟩ W (hG.below hW) var_small
        rw [vg] at h
        exact h
      have cPg : Hid (∀ W : World, Below w2.heap.size w2 W → Calls Try.prog 17 #[.agg #[.int .i64 (ptsF f)[i].k, .string (ptsF f)[i].nm, .int .i64 (ptsF f)[i].op, .slice qv (ptsF f)[i].vars.length dv, .slice qt (ptsF f)[i].terms.length dt, .int .i64 (ptsF f)[i].lo, .int .i64 (ptsF f)[i].hi, .bool (ptsF f)[i].opn, .slice qs (ptsF f)[i].subs.length ds, .slice qr (ptsF f)[i].rgx.length dr], .slice none 0 0] W fun e w' => ∃ rv tv rt tt rs ts rr tr, e = .returned (.tuple #[.agg #[.int .i64 (ptsF f)[i].k, .string (ptsF f)[i].nm, .int .i64 (ptsF f)[i].op, .slice rv (ptsF f)[i].vars.length tv, .slice rt (ptsF f)[i].terms.length tt, .int .i64 (ptsF f)[i].lo, .int .i64 (ptsF f)[i].hi, .bool (ptsF f)[i].opn, .slice rs (ptsF f)[i].subs.length ts, .slice rr (ptsF f)[i].rgx.length tr], .int .i64 0]) ∧ QAt w' ((ptsF f)[i], ⟨.slice rv (ptsF f)[i].vars.length tv, .slice rt (ptsF f)[i].terms.length tt, .slice rs (ptsF f)[i].subs.length ts, .slice rr (ptsF f)[i].rgx.length tr⟩) ∧ Below W.heap.size W w') := fun W hW => (part_fm (ptsF f)[i] ⟨.slice qv (ptsF f)[i].vars.length dv, .slice qt (ptsF f)[i].terms.length dt, .slice qs (ptsF f)[i].subs.length ds, .slice qr (ptsF f)[i].rgx.length dr⟩ W (hG.below hW) (.slice none 0 0) [] ⟨by simp, none, 0, rfl, by simp, fun j hj => by simp at hj⟩ (chk_lg gc)).mono fun e w' ⟨h1, h2⟩ => by
        rcases h2 with ⟨h3, -⟩ | ⟨-, h3, -⟩ | ⟨-, g', r', h3, h4, h5⟩
        · exact absurd gc h3
        · rw [partP] at h3; cases h3
        · rw [partP] at h3
          injection h3 with h3
          subst h3
          obtain ⟨rv, tv, rt, tt, rs, ts, rr, tr, rfl⟩ := qat_forms h5.at
          exact ⟨rv, tv, rt, tt, rs, ts, rr, tr, h4, h5.at, h1⟩
      have cSg : Hid (∀ (W : World) (rv : Option Addr) (tv : Nat) (rt : Option Addr) (tt : Nat) (rs : Option Addr) (ts : Nat) (rr : Option Addr) (tr : Nat), Below w2.heap.size w2 W → QAt W ((ptsF f)[i], ⟨.slice rv (ptsF f)[i].vars.length tv, .slice rt (ptsF f)[i].terms.length tt, .slice rs (ptsF f)[i].subs.length ts, .slice rr (ptsF f)[i].rgx.length tr⟩) → Calls Try.prog 8 #[.agg #[.int .i64 (ptsF f)[i].k, .string (ptsF f)[i].nm, .int .i64 (ptsF f)[i].op, .slice rv (ptsF f)[i].vars.length tv, .slice rt (ptsF f)[i].terms.length tt, .int .i64 (ptsF f)[i].lo, .int .i64 (ptsF f)[i].hi, .bool (ptsF f)[i].opn, .slice rs (ptsF f)[i].subs.length ts, .slice rr (ptsF f)[i].rgx.length tr], .agg #[.int .i64 (ptsF f)[i].k, .string (ptsF f)[i].nm, .int .i64 (ptsF f)[i].op, .slice qv (ptsF f)[i].vars.length dv, .slice qt (ptsF f)[i].terms.length dt, .int .i64 (ptsF f)[i].lo, .int .i64 (ptsF f)[i].hi, .bool (ptsF f)[i].opn, .slice qs (ptsF f)[i].subs.length ds, .slice qr (ptsF f)[i].rgx.length dr]] W fun e w' => e = .returned (.bool true) ∧ Below W.heap.size W w') := fun W rv tv rt tt rs ts rr tr hW h => (same_fm (ptsF f)[i] (ptsF f)[i] ⟨.slice rv (ptsF f)[i].vars.length tv, .slice rt (ptsF f)[i].terms.length tt, .slice rs (ptsF f)[i].subs.length ts, .slice rr (ptsF f)[i].rgx.length tr⟩ ⟨.slice qv (ptsF f)[i].vars.length dv, .slice qt (ptsF f)[i].terms.length dt, .slice qs (ptsF f)[i].subs.length ds, .slice qr (ptsF f)[i].rgx.length dr⟩ W h (hG.below hW)).mono fun e w' ⟨h1, h2⟩ => ⟨by rw [h1, sameF_refl], h2⟩
      have hdd : (depF (ptsF f)[i] : Int) < depF f := by omega
      have hn1 : 1 ≤ nodF (ptsF f)[i] := by rw [nodF_eq]; omega
      have hne2 : Hid (nn + nodF (ptsF f)[i] = nodFs ((ptsF f).take (i + 1))) := by
        have h := hne.out
        unfold Hid
        rw [nodFs_take _ _ hin, h]
      have hle2 : nn + nodF (ptsF f)[i] ≤ 256 := by have h := hne2.out; have := nodFs_take_le (ptsF f) (i + 1); omega
      have hMe2 : Hid (M' ++ (fre (ptsF f)[i]).1 = M ++ frU ((ptsF f).take (i + 1))) := by
        have h := hMe.out
        unfold Hid
        rw [List.take_succ_eq_append_getElem hin, h]
        unfold frU
        rw [List.flatMap_append]
        simp
      have hM2 : (M' ++ (fre (ptsF f)[i]).1).length ≤ 3000 := by
        rw [hMe2.out, List.length_append]
        have h1 := frU_len (fs := (ptsF f).take (i + 1)) (wfFs_take _ hpw.out)
        have h2 := nodFs_take_le (ptsF f) (i + 1)
        omega
      rw [List.length_append] at hM2
      clear hG gc gd gn sg vg gw hne hMe cP
      generalize (fre (ptsF f)[i]).1 = GF at *
      generalize nodF (ptsF f)[i] = gN at *
      generalize depF (ptsF f)[i] = gD at *
      obtain ⟨fD, efD⟩ : ∃ n : Nat, Hid (depF f = n) := ⟨_, rfl⟩
      rw [efD.out] at hdd
      have cD' := cD
      rw [efD.out] at cD'
      generalize (ptsF f)[i].k = gk at *
      generalize (ptsF f)[i].nm = gnm at *
      generalize (ptsF f)[i].op = gop at *
      generalize (ptsF f)[i].lo = glo at *
      generalize (ptsF f)[i].hi = ghi at *
      generalize (ptsF f)[i].opn = go_ at *
      generalize (ptsF f)[i].vars.length = gv at *
      generalize (ptsF f)[i].terms.length = gt at *
      generalize (ptsF f)[i].subs.length = gs at *
      generalize (ptsF f)[i].rgx.length = gr at *
      have hdd' : ¬ (fD : Int) ≤ gD := by omega
      have hn1' : ¬ (gN : Int) < 1 := by omega
      have hddN : ¬ fD ≤ gD := by omega
      have hddM : gD < fD := by omega
      have hgn0 : ¬ gN = 0 := by omega
      have hgnN : ¬ gN < 1 := by omega
      have hgnP : 0 < gN := by omega
      go_upto_region 14 with fail
      refine wpL_world ?_
      intro W0 hW0
      have kA : Below w2.heap.size w2 W0 := by rw [hW0]; go_grown
      have hGB : Hid (W0.heap[w2.heap.size]? = some (.cells #[.int .i64 gk, .string gnm, .int .i64 gop, .slice qv gv dv, .slice qt gt dt, .int .i64 glo, .int .i64 ghi, .bool go_, .slice qs gs ds, .slice qr gr dr] 29 (0, 0))) := by rw [hW0]; exact heap_allocA w2 _
      have hFB : Hid (W0.heap[w.heap.size]? = some (.cells #[.int .i64 k, .string nm, .int .i64 op, .slice pv nv cv, .slice pt nt ct, .int .i64 lo, .int .i64 hi, .bool o, .slice ps ns cs, .slice pr nr cr] 29 (0, 0))) := blk_bel hX2.out kA
      have x1 : w.heap.size < W0.heap.size := blk_lt hFB.out
      have x2 : w2.heap.size < W0.heap.size := blk_lt hGB.out
      clear hW0
      have HS : Hid (W0.cell? ⟨w.heap.size, 0, none⟩ = some (.int .i64 k) ∧ W0.cell? ⟨w.heap.size, 1, none⟩ = some (.string nm) ∧ W0.cell? ⟨w.heap.size, 2, none⟩ = some (.int .i64 op) ∧ W0.cell? ⟨w.heap.size, 3, none⟩ = some (.slice pv nv cv) ∧ W0.cell? ⟨w.heap.size, 4, none⟩ = some (.slice pt nt ct) ∧ W0.cell? ⟨w.heap.size, 5, none⟩ = some (.int .i64 lo) ∧ W0.cell? ⟨w.heap.size, 6, none⟩ = some (.int .i64 hi) ∧ W0.cell? ⟨w.heap.size, 7, none⟩ = some (.bool o) ∧ W0.cell? ⟨w.heap.size, 8, none⟩ = some (.slice ps ns cs) ∧ W0.cell? ⟨w.heap.size, 9, none⟩ = some (.slice pr nr cr) ∧ W0.cell? ⟨w2.heap.size, 0, none⟩ = some (.int .i64 gk) ∧ W0.cell? ⟨w2.heap.size, 1, none⟩ = some (.string gnm) ∧ W0.cell? ⟨w2.heap.size, 2, none⟩ = some (.int .i64 gop) ∧ W0.cell? ⟨w2.heap.size, 3, none⟩ = some (.slice qv gv dv) ∧ W0.cell? ⟨w2.heap.size, 4, none⟩ = some (.slice qt gt dt) ∧ W0.cell? ⟨w2.heap.size, 5, none⟩ = some (.int .i64 glo) ∧ W0.cell? ⟨w2.heap.size, 6, none⟩ = some (.int .i64 ghi) ∧ W0.cell? ⟨w2.heap.size, 7, none⟩ = some (.bool go_) ∧ W0.cell? ⟨w2.heap.size, 8, none⟩ = some (.slice qs gs ds) ∧ W0.cell? ⟨w2.heap.size, 9, none⟩ = some (.slice qr gr dr)) := ⟨by rw [Lib.cell_of_heap hFB.out]; rfl, by rw [Lib.cell_of_heap hFB.out]; rfl, by rw [Lib.cell_of_heap hFB.out]; rfl, by rw [Lib.cell_of_heap hFB.out]; rfl, by rw [Lib.cell_of_heap hFB.out]; rfl, by rw [Lib.cell_of_heap hFB.out]; rfl, by rw [Lib.cell_of_heap hFB.out]; rfl, by rw [Lib.cell_of_heap hFB.out]; rfl, by rw [Lib.cell_of_heap hFB.out]; rfl, by rw [Lib.cell_of_heap hFB.out]; rfl, by rw [Lib.cell_of_heap hGB.out]; rfl, by rw [Lib.cell_of_heap hGB.out]; rfl, by rw [Lib.cell_of_heap hGB.out]; rfl, by rw [Lib.cell_of_heap hGB.out]; rfl, by rw [Lib.cell_of_heap hGB.out]; rfl, by rw [Lib.cell_of_heap hGB.out]; rfl, by rw [Lib.cell_of_heap hGB.out]; rfl, by rw [Lib.cell_of_heap hGB.out]; rfl, by rw [Lib.cell_of_heap hGB.out]; rfl, by rw [Lib.cell_of_heap hGB.out]; rfl⟩
      have K0 : Below w.heap.size w W0 := hB2.trans (kA.mono hB2.size)
      have dKg : Hid (∀ W : World, Below W0.heap.size W0 W → Calls Try.prog 10 #[.agg #[.int .i64 gk, .string gnm, .int .i64 gop, .slice qv gv dv, .slice qt gt dt, .int .i64 glo, .int .i64 ghi, .bool go_, .slice qs gs ds, .slice qr gr dr]] W fun e w' => e = .returned (.int .i64 0) ∧ Below W.heap.size W w') := fun W hW => cKg.out W (kA.trans (hW.mono kA.size))
      have dDg : Hid (∀ W : World, Below W0.heap.size W0 W → Calls Try.prog 15 #[.agg #[.int .i64 gk, .string gnm, .int .i64 gop, .slice qv gv dv, .slice qt gt dt, .int .i64 glo, .int .i64 ghi, .bool go_, .slice qs gs ds, .slice qr gr dr]] W fun e w' => e = .returned (.int .i64 (gD : Int)) ∧ Below W.heap.size W w') := fun W hW => cDg.out W (kA.trans (hW.mono kA.size))
      have dNg : Hid (∀ W : World, Below W0.heap.size W0 W → Calls Try.prog 13 #[.agg #[.int .i64 gk, .string gnm, .int .i64 gop, .slice qv gv dv, .slice qt gt dt, .int .i64 glo, .int .i64 ghi, .bool go_, .slice qs gs ds, .slice qr gr dr]] W fun e w' => e = .returned (.int .i64 (gN : Int)) ∧ Below W.heap.size W w') := fun W hW => cNg.out W (kA.trans (hW.mono kA.size))
      have dD : Hid (∀ W : World, Below W0.heap.size W0 W → Calls Try.prog 15 #[.agg #[.int .i64 k, .string nm, .int .i64 op, .slice pv nv cv, .slice pt nt ct, .int .i64 lo, .int .i64 hi, .bool o, .slice ps ns cs, .slice pr nr cr]] W fun e w' => e = .returned (.int .i64 (fD : Int)) ∧ Below W.heap.size W w') := fun W hW => cD'.out W (K0.trans (hW.mono K0.size))
      go_region_held3 (fun W => W.cell? ⟨w.heap.size, 0, none⟩ = some (.int .i64 k) ∧ W.cell? ⟨w.heap.size, 1, none⟩ = some (.string nm) ∧ W.cell? ⟨w.heap.size, 2, none⟩ = some (.int .i64 op) ∧ W.cell? ⟨w.heap.size, 3, none⟩ = some (.slice pv nv cv) ∧ W.cell? ⟨w.heap.size, 4, none⟩ = some (.slice pt nt ct) ∧ W.cell? ⟨w.heap.size, 5, none⟩ = some (.int .i64 lo) ∧ W.cell? ⟨w.heap.size, 6, none⟩ = some (.int .i64 hi) ∧ W.cell? ⟨w.heap.size, 7, none⟩ = some (.bool o) ∧ W.cell? ⟨w.heap.size, 8, none⟩ = some (.slice ps ns cs) ∧ W.cell? ⟨w.heap.size, 9, none⟩ = some (.slice pr nr cr) ∧ W.cell? ⟨w2.heap.size, 0, none⟩ = some (.int .i64 gk) ∧ W.cell? ⟨w2.heap.size, 1, none⟩ = some (.string gnm) ∧ W.cell? ⟨w2.heap.size, 2, none⟩ = some (.int .i64 gop) ∧ W.cell? ⟨w2.heap.size, 3, none⟩ = some (.slice qv gv dv) ∧ W.cell? ⟨w2.heap.size, 4, none⟩ = some (.slice qt gt dt) ∧ W.cell? ⟨w2.heap.size, 5, none⟩ = some (.int .i64 glo) ∧ W.cell? ⟨w2.heap.size, 6, none⟩ = some (.int .i64 ghi) ∧ W.cell? ⟨w2.heap.size, 7, none⟩ = some (.bool go_) ∧ W.cell? ⟨w2.heap.size, 8, none⟩ = some (.slice qs gs ds) ∧ W.cell? ⟨w2.heap.size, 9, none⟩ = some (.slice qr gr dr)) (exact keepz (by go_grown) x1 x2 HS.out)
        (first
          | (go_at_call 10; refine (dKg.out _ (by go_grown)).mono ?_; rintro e v1 ⟨rfl, hv1⟩; obtain ⟨hX1, hn1⟩ := bgX (n := W0.heap.size) (W0 := W0) (by go_grown) (by go_size) hv1)
          | (go_at_call_of 15 (Value.string gnm); refine (dDg.out _ (by go_grown)).mono ?_; rintro e v2 ⟨rfl, hv2⟩; obtain ⟨hX2, hn2⟩ := bgX (n := W0.heap.size) (W0 := W0) (by go_grown) (by go_size) hv2)
          | (go_at_call_of 15 (Value.string nm); refine (dD.out _ (by go_grown)).mono ?_; rintro e v3 ⟨rfl, hv3⟩; obtain ⟨hX3, hn3⟩ := bgX (n := W0.heap.size) (W0 := W0) (by go_grown) (by go_size) hv3)
          | (go_at_call 13; refine (dNg.out _ (by go_grown)).mono ?_; rintro e v4 ⟨rfl, hv4⟩; obtain ⟨hX4, hn4⟩ := bgX (n := W0.heap.size) (W0 := W0) (by go_grown) (by go_size) hv4))
      have K4 : Below w.heap.size w v4 := K0.trans (hX4.mono K0.size)
      have kA4 : Below w2.heap.size w2 v4 := kA.trans (hX4.mono kA.size)
      have HF4 : Hid (v4.heap[w.heap.size]? = some (.cells #[.int .i64 k, .string nm, .int .i64 op, .slice pv nv cv, .slice pt nt ct, .int .i64 lo, .int .i64 hi, .bool o, .slice ps ns cs, .slice pr nr cr] 29 (0, 0))) := blk_bel hFB.out hX4
      have HG4 : Hid (v4.heap[w2.heap.size]? = some (.cells #[.int .i64 gk, .string gnm, .int .i64 gop, .slice qv gv dv, .slice qt gt dt, .int .i64 glo, .int .i64 ghi, .bool go_, .slice qs gs ds, .slice qr gr dr] 29 (0, 0))) := blk_bel hGB.out hX4
      have O4 : Hid (OwnN (w.heap.size + 1) u4 M' v4) := hO2.out.bel kA4
      clear HS hFB hGB hO2 hX2 dKg dDg dNg dD hX4 kA K0
      have g0 : v4.cell? ⟨w2.heap.size, 0, none⟩ = some (.int .i64 gk) := by rw [Lib.cell_of_heap HG4.out]; rfl
      have g1 : v4.cell? ⟨w2.heap.size, 1, none⟩ = some (.string gnm) := by rw [Lib.cell_of_heap HG4.out]; rfl
      have g2 : v4.cell? ⟨w2.heap.size, 2, none⟩ = some (.int .i64 gop) := by rw [Lib.cell_of_heap HG4.out]; rfl
      have g3 : v4.cell? ⟨w2.heap.size, 3, none⟩ = some (.slice qv gv dv) := by rw [Lib.cell_of_heap HG4.out]; rfl
      have g4 : v4.cell? ⟨w2.heap.size, 4, none⟩ = some (.slice qt gt dt) := by rw [Lib.cell_of_heap HG4.out]; rfl
      have g5 : v4.cell? ⟨w2.heap.size, 5, none⟩ = some (.int .i64 glo) := by rw [Lib.cell_of_heap HG4.out]; rfl
      have g6 : v4.cell? ⟨w2.heap.size, 6, none⟩ = some (.int .i64 ghi) := by rw [Lib.cell_of_heap HG4.out]; rfl
      have g7 : v4.cell? ⟨w2.heap.size, 7, none⟩ = some (.bool go_) := by rw [Lib.cell_of_heap HG4.out]; rfl
      have g8 : v4.cell? ⟨w2.heap.size, 8, none⟩ = some (.slice qs gs ds) := by rw [Lib.cell_of_heap HG4.out]; rfl
      have g9 : v4.cell? ⟨w2.heap.size, 9, none⟩ = some (.slice qr gr dr) := by rw [Lib.cell_of_heap HG4.out]; rfl
      go_wp2_with fail
      refine (cPg.out _ kA4).mono ?_
      rintro r w5 ⟨rv, tv, rt, tt, rs, ts, rr, tr, rfl, hG5, hb5⟩
      have K5 : Below w.heap.size w w5 := K4.trans (hb5.mono K4.size)
      have kA5 : Below w2.heap.size w2 w5 := kA4.trans (hb5.mono kA4.size)
      have HF5 : Hid (w5.heap[w.heap.size]? = some (.cells #[.int .i64 k, .string nm, .int .i64 op, .slice pv nv cv, .slice pt nt ct, .int .i64 lo, .int .i64 hi, .bool o, .slice ps ns cs, .slice pr nr cr] 29 (0, 0))) := blk_bel HF4.out hb5
      have HG5 : Hid (w5.heap[w2.heap.size]? = some (.cells #[.int .i64 gk, .string gnm, .int .i64 gop, .slice qv gv dv, .slice qt gt dt, .int .i64 glo, .int .i64 ghi, .bool go_, .slice qs gs ds, .slice qr gr dr] 29 (0, 0))) := blk_bel HG4.out hb5
      have O5 : Hid (OwnN (w.heap.size + 1) u4 M' w5) := O4.out.bel hb5
      have hg5 : w2.heap.size < w5.heap.size := blk_lt HG5.out
      have HQ5 : Hid (QAt w5 ((ptsF f)[i], ⟨.slice rv gv tv, .slice rt gt tt, .slice rs gs ts, .slice rr gr tr⟩)) := hG5
      clear hb5 HF4 HG4 O4 hG5 cPg g0 g1 g2 g3 g4 g5 g6 g7 g8 g9
      have g0 : w5.cell? ⟨w2.heap.size, 0, none⟩ = some (.int .i64 gk) := by rw [Lib.cell_of_heap HG5.out]; rfl
      have g1 : w5.cell? ⟨w2.heap.size, 1, none⟩ = some (.string gnm) := by rw [Lib.cell_of_heap HG5.out]; rfl
      have g2 : w5.cell? ⟨w2.heap.size, 2, none⟩ = some (.int .i64 gop) := by rw [Lib.cell_of_heap HG5.out]; rfl
      have g3 : w5.cell? ⟨w2.heap.size, 3, none⟩ = some (.slice qv gv dv) := by rw [Lib.cell_of_heap HG5.out]; rfl
      have g4 : w5.cell? ⟨w2.heap.size, 4, none⟩ = some (.slice qt gt dt) := by rw [Lib.cell_of_heap HG5.out]; rfl
      have g5 : w5.cell? ⟨w2.heap.size, 5, none⟩ = some (.int .i64 glo) := by rw [Lib.cell_of_heap HG5.out]; rfl
      have g6 : w5.cell? ⟨w2.heap.size, 6, none⟩ = some (.int .i64 ghi) := by rw [Lib.cell_of_heap HG5.out]; rfl
      have g7 : w5.cell? ⟨w2.heap.size, 7, none⟩ = some (.bool go_) := by rw [Lib.cell_of_heap HG5.out]; rfl
      have g8 : w5.cell? ⟨w2.heap.size, 8, none⟩ = some (.slice qs gs ds) := by rw [Lib.cell_of_heap HG5.out]; rfl
      have g9 : w5.cell? ⟨w2.heap.size, 9, none⟩ = some (.slice qr gr dr) := by rw [Lib.cell_of_heap HG5.out]; rfl
      go_wp2_with fail
      refine (cSg.out _ rv tv rt tt rs ts rr tr (kA5.trans (Below.mono (B := w5.heap.size) (by go_grown) kA5.size)) (HQ5.out.below (by go_grown))).mono ?_
      rintro r w6 ⟨rfl, hb6⟩
      obtain ⟨B6, n6⟩ := bgX (n := w5.heap.size) (W0 := w5) (by go_grown) (by go_size) hb6
      have K6 : Below w.heap.size w w6 := K5.trans (B6.mono K5.size)
      have kA6 : Below w2.heap.size w2 w6 := kA5.trans (B6.mono kA5.size)
      have HF6 : Hid (w6.heap[w.heap.size]? = some (.cells #[.int .i64 k, .string nm, .int .i64 op, .slice pv nv cv, .slice pt nt ct, .int .i64 lo, .int .i64 hi, .bool o, .slice ps ns cs, .slice pr nr cr] 29 (0, 0))) := blk_bel HF5.out B6
      have HG6 : Hid (w6.heap[w2.heap.size]? = some (.cells #[.int .i64 gk, .string gnm, .int .i64 gop, .slice qv gv dv, .slice qt gt dt, .int .i64 glo, .int .i64 ghi, .bool go_, .slice qs gs ds, .slice qr gr dr] 29 (0, 0))) := blk_bel HG5.out B6
      have O6 : Hid (OwnN (w.heap.size + 1) u4 M' w6) := O5.out.bel B6
      clear hb6 HF5 HG5 O5 HQ5 cSg B6 n6 g0 g1 g2 g3 g4 g5 g6 g7 g8 g9
      have g0 : w6.cell? ⟨w2.heap.size, 0, none⟩ = some (.int .i64 gk) := by rw [Lib.cell_of_heap HG6.out]; rfl
      have g1 : w6.cell? ⟨w2.heap.size, 1, none⟩ = some (.string gnm) := by rw [Lib.cell_of_heap HG6.out]; rfl
      have g2 : w6.cell? ⟨w2.heap.size, 2, none⟩ = some (.int .i64 gop) := by rw [Lib.cell_of_heap HG6.out]; rfl
      have g3 : w6.cell? ⟨w2.heap.size, 3, none⟩ = some (.slice qv gv dv) := by rw [Lib.cell_of_heap HG6.out]; rfl
      have g4 : w6.cell? ⟨w2.heap.size, 4, none⟩ = some (.slice qt gt dt) := by rw [Lib.cell_of_heap HG6.out]; rfl
      have g5 : w6.cell? ⟨w2.heap.size, 5, none⟩ = some (.int .i64 glo) := by rw [Lib.cell_of_heap HG6.out]; rfl
      have g6 : w6.cell? ⟨w2.heap.size, 6, none⟩ = some (.int .i64 ghi) := by rw [Lib.cell_of_heap HG6.out]; rfl
      have g7 : w6.cell? ⟨w2.heap.size, 7, none⟩ = some (.bool go_) := by rw [Lib.cell_of_heap HG6.out]; rfl
      have g8 : w6.cell? ⟨w2.heap.size, 8, none⟩ = some (.slice qs gs ds) := by rw [Lib.cell_of_heap HG6.out]; rfl
      have g9 : w6.cell? ⟨w2.heap.size, 9, none⟩ = some (.slice qr gr dr) := by rw [Lib.cell_of_heap HG6.out]; rfl
      go_wp2_with fail
      refine (cNg.out _ kA6).mono ?_
      rintro r w7 ⟨rfl, hb7⟩
      have K7 : Below w.heap.size w w7 := K6.trans (hb7.mono K6.size)
      have kA7 : Below w2.heap.size w2 w7 := kA6.trans (hb7.mono kA6.size)
      have HF7 : Hid (w7.heap[w.heap.size]? = some (.cells #[.int .i64 k, .string nm, .int .i64 op, .slice pv nv cv, .slice pt nt ct, .int .i64 lo, .int .i64 hi, .bool o, .slice ps ns cs, .slice pr nr cr] 29 (0, 0))) := blk_bel HF6.out hb7
      have HG7 : Hid (w7.heap[w2.heap.size]? = some (.cells #[.int .i64 gk, .string gnm, .int .i64 gop, .slice qv gv dv, .slice qt gt dt, .int .i64 glo, .int .i64 ghi, .bool go_, .slice qs gs ds, .slice qr gr dr] 29 (0, 0))) := blk_bel HG6.out hb7
      have O7 : Hid (OwnN (w.heap.size + 1) u4 M' w7) := O6.out.bel hb7
      clear hb7 HF6 HG6 O6 cNg g0 g1 g2 g3 g4 g5 g6 g7 g8 g9
      have g0 : w7.cell? ⟨w2.heap.size, 0, none⟩ = some (.int .i64 gk) := by rw [Lib.cell_of_heap HG7.out]; rfl
      have g1 : w7.cell? ⟨w2.heap.size, 1, none⟩ = some (.string gnm) := by rw [Lib.cell_of_heap HG7.out]; rfl
      have g2 : w7.cell? ⟨w2.heap.size, 2, none⟩ = some (.int .i64 gop) := by rw [Lib.cell_of_heap HG7.out]; rfl
      have g3 : w7.cell? ⟨w2.heap.size, 3, none⟩ = some (.slice qv gv dv) := by rw [Lib.cell_of_heap HG7.out]; rfl
      have g4 : w7.cell? ⟨w2.heap.size, 4, none⟩ = some (.slice qt gt dt) := by rw [Lib.cell_of_heap HG7.out]; rfl
      have g5 : w7.cell? ⟨w2.heap.size, 5, none⟩ = some (.int .i64 glo) := by rw [Lib.cell_of_heap HG7.out]; rfl
      have g6 : w7.cell? ⟨w2.heap.size, 6, none⟩ = some (.int .i64 ghi) := by rw [Lib.cell_of_heap HG7.out]; rfl
      have g7 : w7.cell? ⟨w2.heap.size, 7, none⟩ = some (.bool go_) := by rw [Lib.cell_of_heap HG7.out]; rfl
      have g8 : w7.cell? ⟨w2.heap.size, 8, none⟩ = some (.slice qs gs ds) := by rw [Lib.cell_of_heap HG7.out]; rfl
      have g9 : w7.cell? ⟨w2.heap.size, 9, none⟩ = some (.slice qr gr dr) := by rw [Lib.cell_of_heap HG7.out]; rfl
      go_wp2_with fail
      refine (cFg.out _ kA7).mono ?_
      rintro r w8 ⟨v8, rfl, hU, hb8⟩
      have K8 : Below w.heap.size w w8 := K7.trans (hb8.mono K7.size)
      have HF8 : Hid (w8.heap[w.heap.size]? = some (.cells #[.int .i64 k, .string nm, .int .i64 op, .slice pv nv cv, .slice pt nt ct, .int .i64 lo, .int .i64 hi, .bool o, .slice ps ns cs, .slice pr nr cr] 29 (0, 0))) := blk_bel HF7.out hb8
      have hs8 : w.heap.size < w8.heap.size := blk_lt HF8.out
      have O8 : Hid (OwnN (w.heap.size + 1) u4 M' w8) := O7.out.bel hb8
      have HU : Hid (SrcA w8 1 v8 GF.length (GF.map Value.string)) := srcA_nms (hU.nms (by omega))
      clear hU hb8 HF7 HG7 O7 cFg g0 g1 g2 g3 g4 g5 g6 g7 g8 g9
      go_wp2_with (at_builtin; refine wpList_append_srcA rfl _ _ 22 rfl (w.heap.size + 1) 9 i0 (.string ByteArray.empty) 1 16 Try.underlying22 hi0 hz0 hz1 hz2 rfl (by decide) _ _ _ rfl O8.out _ GF.length (GF.map Value.string) rfl HU.out ?cc2 ?cc3 ?cc4 ?cc5 ?_)
      case cc2 => (intro u hu; obtain ⟨y, -, rfl⟩ := List.mem_map.1 hu; rfl)
      case cc3 => unfold maxLen; omega
      case cc4 => omega
      case cc5 => omega
      intro v' w9 h2 h3 _
      have O9 : Hid (OwnN (w.heap.size + 1) v' (M' ++ GF) w9) := by
        show w9.ownsRow _ _ _ _ _ _
        rw [List.length_append, List.map_append]
        exact h2
      have B9 : Below w.heap.size w w9 := Below.grown K8 h3 (by omega) (fun q hq => by have := HK.out q hq; omega)
      have X9 : Hid (w9.heap[w.heap.size]? = some (.cells #[.int .i64 k, .string nm, .int .i64 op, .slice pv nv cv, .slice pt nt ct, .int .i64 lo, .int .i64 hi, .bool o, .slice ps ns cs, .slice pr nr cr] 29 (0, 0))) := (h3.block w.heap.size hs8 (fun h => by have := HK.out _ h.symm; omega)).trans HF8.out
      clear h2 h3 HK O8 HU HF8
      go_wp2
      exact ⟨⟨i + 1, M' ++ GF, nn + gN, by omega, by go_num, by go_num, by omega, by rw [List.length_append]; omega, hne2, hMe2, O9, X9, B9⟩, by simp [intOf]; omega⟩

end Go.Proofs.Ytpocifbbhabbjab
