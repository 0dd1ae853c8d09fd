/- The document's walk over a regex of kind 2. -/
import Derived.Test.YtfajjphfjilpnaaGreatZ08

namespace Go.Proofs.YtfajjphfjilpnaaGreat
open Go.RowKit LX Go.Shelf
set_option linter.unusedVariables false

set_option maxRecDepth 100000 in
set_option maxHeartbeats 8000000 in
theorem rformula_cA (w0 : World) (q : Nat) (hq : w0.heap.size ≤ q) (f : Fm) (uv ut us ur : Value) (hQ : QAt w0 (f, ⟨uv, ut, us, ur⟩)) (d : Int) (hd0 : 0 ≤ d) (hd1 : d ≤ 25)
    (IT : d ≤ 24 → ∀ (i : Nat) (hi : i < f.terms.length) (u : Value), TmsAt w0 u f.terms[i].subs → f.terms[i].v.Fits → Walks w0 q 58 (.agg #[.int .i64 f.terms[i].k, .string f.terms[i].nm, .int .i64 f.terms[i].v.k, .int .i64 f.terms[i].v.n, .int .i64 f.terms[i].v.d, .string f.terms[i].v.s, u]) (d + 1) (fun s => trun (d + 1) s f.terms[i]))
    (IR : d ≤ 24 → ∀ (i : Nat) (hi : i < f.rgx.length) (u1 u2 : Value), FmsAt w0 u1 f.rgx[i].test → RxsAt w0 u2 f.rgx[i].subs → Walks w0 q 59 (.agg #[.int .i64 f.rgx[i].k, u1, u2]) (d + 1) (fun s => rrun (d + 1) s f.rgx[i]))
    (IF : d ≤ 24 → ∀ (i : Nat) (hi : i < f.subs.length) (y : FQ), QAt w0 (f.subs[i], y) → Walks w0 q 30 (.agg #[.int .i64 f.subs[i].k, .string f.subs[i].nm, .int .i64 f.subs[i].op, y.v, y.t, .int .i64 f.subs[i].lo, .int .i64 f.subs[i].hi, .bool f.subs[i].opn, y.s, y.r]) (d + 1) (fun s => frun (d + 1) s f.subs[i]))
    (hk : f.k < 1) (N M : Int) (w : World) (R : Int × (Int × Int)) (F : Int × Int → Int × (Int × Int)) (hw : Below w0.heap.size w0 w) (hK : WK w q N M 0) (ho : OkS (N, M)) (hR : R = andT (frun d (N, M) f) F) :
    Calls Tryz.prog 30 #[.pointer (some ⟨q, 0, none⟩), .agg #[.int .i64 f.k, .string f.nm, .int .i64 f.op, uv, ut, .int .i64 f.lo, .int .i64 f.hi, .bool f.opn, us, ur], .int .i64 d] w fun r w' => (∃ v, r = .returned v) ∧ Hid (KeepT q w w' ∧ WS w' q R F) := by
  obtain ⟨hv, ht, hs, hr⟩ := hQ
  dsimp only at hv ht hs hr
  have HV : Hid (NmsAt w0 uv f.vars) := hv
  obtain ⟨pv, cv, rfl, hlv, hcv, HXV0⟩ := hv.form
  have HXV : Hid (_) := HXV0
  obtain ⟨pt, ct, rfl, hlt0, hct, HXT0⟩ := ht.form
  have HXT : Hid (∀ i (hi : i < f.terms.length), ∃ b off u, pt = some ⟨b, off, none⟩ ∧ b < w0.heap.size ∧ TmC w0 b (off + i * 7) f.terms[i] u ∧ TmsAt w0 u f.terms[i].subs ∧ f.terms[i].v.Fits) := HXT0
  obtain ⟨ps, cs, rfl, hls, hcs, HXF0⟩ := hs.form
  have HXF : Hid (∀ i (hi : i < f.subs.length), ∃ b off uv ut us ur, ps = some ⟨b, off, none⟩ ∧ b < w0.heap.size ∧ FmC w0 b (off + i * 10) f.subs[i] uv ut us ur ∧ NmsAt w0 uv f.subs[i].vars ∧ TmsAt w0 ut f.subs[i].terms ∧ FmsAt w0 us f.subs[i].subs ∧ RxsAt w0 ur f.subs[i].rgx) := HXF0
  obtain ⟨pr, cr, rfl, hlr, hcr, HXR0⟩ := hr.form
  have HXR : Hid (∀ i (hi : i < f.rgx.length), ∃ b off ut us, pr = some ⟨b, off, none⟩ ∧ b < w0.heap.size ∧ RxC w0 b (off + i * 3) f.rgx[i] ut us ∧ FmsAt w0 ut f.rgx[i].test ∧ RxsAt w0 us f.rgx[i].subs) := HXR0
  have HD : Hid (_) := doc_fmE f hls
  have HW : Hid (WK w q N M 0) := hK
  have HO : Hid (OkS (N, M)) := ho
  have hqw : q < w.heap.size := hK.lt
  have HR0 : Hid (R = andT (meetE d (N, M), meetS d (N, M)) fun s1 => andT (fmE f, s1) fun s1 => andT (truns (d + 1) s1 f.terms) fun s2 => andT (rruns (d + 1) s2 f.rgx) fun s3 => andT (fruns (d + 1) s3 f.subs) F) := by
    have h := hR
    rw [frun_eq] at h
    simp only [andT_assoc] at h
    exact h
  have cM : Hid (∀ W : World, Calls Tryz.prog 53 #[.agg #[.int .i64 f.k, .string f.nm, .int .i64 f.op, .slice pv f.vars.length cv, .slice pt f.terms.length ct, .int .i64 f.lo, .int .i64 f.hi, .bool f.opn, .slice ps f.subs.length cs, .slice pr f.rgx.length cr]] W fun r w' => r = .returned (.bool (manyB f.k f.vars.length f.terms.length)) ∧ Below W.heap.size W w') := fun W => rmany_any f.k f.op f.lo f.hi f.nm f.opn pv pt ps pr f.vars.length cv f.terms.length ct f.subs.length cs f.rgx.length cr W
  have cF : Hid (∀ W : World, Calls Tryz.prog 54 #[.agg #[.int .i64 f.k, .string f.nm, .int .i64 f.op, .slice pv f.vars.length cv, .slice pt f.terms.length ct, .int .i64 f.lo, .int .i64 f.hi, .bool f.opn, .slice ps f.subs.length cs, .slice pr f.rgx.length cr]] W fun r w' => r = .returned (.bool (formB (usO f.k) f.nm f.op f.lo f.hi f.opn f.vars.length f.terms.length f.subs.length f.rgx.length)) ∧ Below W.heap.size W w') := fun W => rform_any f.k f.op f.lo f.hi f.nm f.opn pv pt ps pr f.vars.length cv f.terms.length ct f.subs.length cs f.rgx.length cr W
  have cN : Hid (∀ W : World, Below w0.heap.size w0 W → Calls Tryz.prog 55 #[.agg #[.int .i64 f.k, .string f.nm, .int .i64 f.op, .slice pv f.vars.length cv, .slice pt f.terms.length ct, .int .i64 f.lo, .int .i64 f.hi, .bool f.opn, .slice ps f.subs.length cs, .slice pr f.rgx.length cr]] W fun r w' => r = .returned (.bool (namedB (usO f.k) f.nm f.vars f.lo f.hi f.opn)) ∧ Below W.heap.size W w') := fun W hW => rnamed_any f.k f.op f.lo f.hi f.nm f.opn f.vars pv pt ps pr f.vars.length cv f.terms.length ct f.subs.length cs f.rgx.length cr W (HV.out.below hW)
  have cW : Hid (∀ W : World, Below w0.heap.size w0 W → Calls Tryz.prog 56 #[.slice pv f.vars.length cv] W fun r w' => r = .returned (.bool (repN [] f.vars)) ∧ Below W.heap.size W w') := fun W hW => rtwice_any _ f.vars W (HV.out.below hW)
  clear hv ht hs hr HXV0 HXT0 HXF0 HXR0 hK ho hR
  have HE : Hid (ndE d N = meetE d (N, M)) := nd_meet (s := (N, M)) HO.out
  have CT0 : Hid (_) := IT
  have CR0 : Hid (_) := IR
  have CF0 : Hid (_) := IF
  clear IT IR IF
  obtain ⟨FE, hFE⟩ : ∃ FE, Hid (fmE f = FE) := ⟨_, rfl⟩
  rw [hFE.out] at HR0 HD
  clear hFE
  obtain ⟨nv, env⟩ : ∃ n : Nat, Hid (f.vars.length = n) := ⟨_, rfl⟩
  obtain ⟨nt, ent⟩ : ∃ n : Nat, Hid (f.terms.length = n) := ⟨_, rfl⟩
  obtain ⟨ns, ens⟩ : ∃ n : Nat, Hid (f.subs.length = n) := ⟨_, rfl⟩
  obtain ⟨nr, enr⟩ : ∃ n : Nat, Hid (f.rgx.length = n) := ⟨_, rfl⟩
  rw [env.out] at cM cF cN cW hlv hcv HD ⊢
  rw [ent.out] at cM cF cN hlt0 hct HD ⊢
  rw [ens.out] at cM cF cN hls hcs HD ⊢
  rw [enr.out] at cM cF cN hlr hcr HD ⊢
  generalize formB (usO f.k) f.nm f.op f.lo f.hi f.opn nv nt ns nr = FB at *
  generalize namedB (usO f.k) f.nm f.vars f.lo f.hi f.opn = GB at *
  generalize manyB f.k nv nt = MB at *
  generalize repN [] f.vars = RB at *
  generalize Lib.containsS (f.vars.drop 1) f.nm = CB at *
  generalize f.nm = nm at *
  generalize f.lo = lo at *
  generalize f.hi = hi at *
  generalize f.opn = o at *
  generalize f.op = op at *
  generalize f.k = tk at *
  have hne : w.heap.size ≠ q := by omega
  go_enter Tryz.func30, Tryz.ntmps30
  go_wp2_with fail
  refine (rnode_any q N M d _ (HW.out.alloc _) ⟨HO.out.1, by have := HO.out.2.1; simp at this; omega⟩).mono ?_
  rintro r w1 ⟨rfl, h1⟩
  have hK1 : KeepT q w w1 := (KeepT.of ((Below.refl _ _).alloc (Nat.le_refl _) _)).trans h1.out.2.keep
  have W1 : Hid (WK w1 q (N + 1) (if M < d then d else M) (ndE d N)) := h1.out.1
  have B1 : Hid (w1.heap[w.heap.size]? = some (.cells #[.int .i64 tk, .string nm, .int .i64 op, .slice pv nv cv, .slice pt nt ct, .int .i64 lo, .int .i64 hi, .bool o, .slice ps ns cs, .slice pr nr cr] 29 (0, 0))) := (h1.out.2.block w.heap.size (by simp) hne).trans (heap_allocA w _)
  clear h1
  by_cases hE : ndE d N = 0
  case neg =>
    have hE' : (ndE d N == 0) = false := by simpa using hE
    rw [hE']
    go_wp2
    refine bodyPost_ret (results_none rfl _ _ _) rfl ?_
    refine ⟨⟨_, rfl⟩, hK1, _, _, _, W1.out, fun e => absurd e hE, fun _ => ?_⟩
    have h := HR0.out
    rw [← HE.out] at h
    rw [h, andT_ne hE]
  have hE' : (ndE d N == 0) = true := by simpa using hE
  rw [hE']
  obtain ⟨N1, hN1⟩ : ∃ N1, Hid (N + 1 = N1) := ⟨_, rfl⟩
  obtain ⟨M1, hM1⟩ : ∃ M1, Hid ((if M < d then d else M) = M1) := ⟨_, rfl⟩
  have W1' : Hid (WK w1 q N1 M1 0) := by have h := W1.out; rw [hE, hN1.out, hM1.out] at h; exact h
  clear W1
  have hmS : Hid (meetS d (N, M) = (N1, M1)) := by
    have e : meetE d (N, M) = 0 := by rw [← HE.out]; exact hE
    unfold meetS
    rw [if_pos e, ← hN1.out, ← hM1.out, Int.max_def]
    show (N + 1, if M ≤ d then d else M) = (N + 1, if M < d then d else M)
    congr 1
    by_cases h : M < d
    · rw [if_pos h, if_pos (by omega)]
    · rw [if_neg h]; split <;> omega
  have HR1 : Hid (R = andT (FE, (N1, M1)) fun s1 => andT (truns (d + 1) s1 f.terms) fun s2 => andT (rruns (d + 1) s2 f.rgx) fun s3 => andT (fruns (d + 1) s3 f.subs) F) := by
    have h := HR0.out
    rw [← HE.out, hE, andT_eq, hmS.out] at h
    exact h
  have hd24 : d ≤ 24 := meetE_le (s := (N, M)) (by rw [← HE.out]; exact hE)
  have HOk : Hid (OkS (N1, M1)) := by rw [← hmS.out]; exact meetS_ok HO.out hd0
  have CT := CT0.out hd24
  have CR := CR0.out hd24
  have CF := CF0.out hd24
  have CT : Hid (_) := CT
  have CR : Hid (_) := CR
  have CF : Hid (_) := CF
  clear HR0 HE hE hE' hN1 hM1 hmS CT0 CR0 CF0
  have HNo : Hid (¬ FE = 0 → ∀ W : World, WK W q N1 M1 FE → WS W q R F) := by
    intro h W hW
    have hr := HR1.out
    rw [andT_ne h] at hr
    exact ⟨_, _, _, hW, fun e => absurd e h, fun _ => by rw [hr]⟩
  have hk20 : tk < 1 ∨ 22 < tk := by omega
  have k19 : (tk == 19) = false := by simp; omega
  have k19' : ¬ tk = 19 := by omega
  have e0 : w1.cell? ⟨w.heap.size, 0, none⟩ = some (.int .i64 tk) := by rw [Lib.cell_of_heap B1.out]; rfl
  go_wp2_with fail
  refine (rwrong_any q N1 M1 0 20 _ w1 W1'.out).mono ?_
  rintro r w2 ⟨⟨v2, rfl⟩, h2⟩
  have W2 : Hid (WK w2 q N1 M1 20) := by have a := h2.out.1; first | exact a | (simp [wrE, hk] at a; exact a)
  have B2 : Hid (_) := h2.out.2.heap B1.out hne
  have hK2 : KeepT q w w2 := hK1.trans h2.out.2.keep
  clear h2 e0 B1 hK1 W1'
  obtain ⟨e0, e1, e2, e3, e4, e5, e6, e7, e8, e9⟩ := box10 B2.out
  have hB2 : Below w0.heap.size w0 w2 := hw.trans (hK2.below (B := w0.heap.size) hq (Nat.le_of_lt hqw))
  go_wp2_with fail
  refine (cM.out _).mono ?_
  rintro r w3 ⟨rfl, hb3⟩
  have W3 : Hid (WK w3 q N1 M1 20) := W2.out.below hb3
  have B3 : Hid (_) := blkB B2.out hb3
  have hK3 : KeepT q w w3 := hK2.trans (KeepT.of hb3)
  clear hb3 e0 e1 e2 e3 e4 e5 e6 e7 e8 e9 hB2 B2 W2 hK2 cM
  obtain ⟨E2, hE2⟩ : ∃ E, Hid (wrE MB 3 20 = E) := ⟨_, rfl⟩
  go_wp2_with fail
  refine (rwrong_any q N1 M1 _ 3 MB w3 W3.out).mono ?_
  rintro r w4 ⟨⟨v4, rfl⟩, h4⟩
  have W4 : Hid (WK w4 q N1 M1 E2) := by have a := h4.out.1; rw [hE2.out] at a; exact a
  have B4 : Hid (_) := h4.out.2.heap B3.out hne
  have hK4 : KeepT q w w4 := hK3.trans h4.out.2.keep
  have HD2 : Hid (wrE (RB || (decide (tk = 19) && CB)) 30 (wrE (!(FB && GB)) 1 E2) = FE) := by
    have h := HD.out
    rw [show wrE (decide (tk < 1 ∨ 22 < tk)) 20 0 = 20 by simp [wrE, hk], hE2.out] at h
    exact h
  clear h4 B3 W3 hK3 HD
  obtain ⟨e0, e1, e2, e3, e4, e5, e6, e7, e8, e9⟩ := box10 B4.out
  have hB4 : Below w0.heap.size w0 w4 := hw.trans (hK4.below (B := w0.heap.size) hq (Nat.le_of_lt hqw))
  go_wp2_with fail
  refine (cF.out _).mono ?_
  rintro r w5 ⟨rfl, hb5⟩
  have W5 : Hid (WK w5 q N1 M1 E2) := W4.out.below hb5
  have B5 : Hid (_) := blkB B4.out hb5
  have hK5 : KeepT q w w5 := hK4.trans (KeepT.of hb5)
  clear hb5 e0 e1 e2 e3 e4 e5 e6 e7 e8 e9 hB4 B4 W4 hK4 cF
  obtain ⟨e0, e1, e2, e3, e4, e5, e6, e7, e8, e9⟩ := box10 B5.out
  have hB5 : Below w0.heap.size w0 w5 := hw.trans (hK5.below (B := w0.heap.size) hq (Nat.le_of_lt hqw))
  go_wp2_with fail
  refine (cN.out _ hB5).mono ?_
  rintro r w6 ⟨rfl, hb6⟩
  have W6 : Hid (WK w6 q N1 M1 E2) := W5.out.below hb6
  have B6 : Hid (_) := blkB B5.out hb6
  have hK6 : KeepT q w w6 := hK5.trans (KeepT.of hb6)
  clear hb6 e0 e1 e2 e3 e4 e5 e6 e7 e8 e9 hB5 B5 W5 hK5 cN
  obtain ⟨E3, hE3⟩ : ∃ E, Hid (wrE (!(FB && GB)) 1 E2 = E) := ⟨_, rfl⟩
  rw [hE3.out] at HD2
  have h3n : ¬ E3 = 0 := by rw [← hE3.out]; exact wrE_keep (by rw [← hE2.out]; exact wrE_keep (by decide))
  cases FB with
  | false =>
    go_wp2_with fail
    refine (rwrong_any q N1 M1 _ 1 _ w6 W6.out).mono ?_
    rintro r w7 ⟨⟨v7, rfl⟩, h7⟩
    have W7 : Hid (WK w7 q N1 M1 E3) := by have a := h7.out.1; have b := hE3.out; first | (rw [b] at a; exact a) | (rw [← b]; exact a)
    have B7 : Hid (_) := h7.out.2.heap B6.out hne
    have hK7 : KeepT q w w7 := hK6.trans h7.out.2.keep
    clear h7 B6 W6 hK6
    have e3 : w7.cell? ⟨w.heap.size, 3, none⟩ = some (.slice pv nv cv) := by rw [Lib.cell_of_heap B7.out]; rfl
    have hB7 : Below w0.heap.size w0 w7 := hw.trans (hK7.below (B := w0.heap.size) hq (Nat.le_of_lt hqw))
    go_wp2_with fail
    refine (cW.out _ hB7).mono ?_
    rintro r w8 ⟨rfl, hb8⟩
    have W8 : Hid (WK w8 q N1 M1 E3) := W7.out.below hb8
    have B8 : Hid (_) := blkB B7.out hb8
    have hK8 : KeepT q w w8 := hK7.trans (KeepT.of hb8)
    clear hb8 e3 hB7 B7 W7 hK7 cW
    have e0 : w8.cell? ⟨w.heap.size, 0, none⟩ = some (.int .i64 tk) := by rw [Lib.cell_of_heap B8.out]; rfl
    have e3 : w8.cell? ⟨w.heap.size, 3, none⟩ = some (.slice pv nv cv) := by rw [Lib.cell_of_heap B8.out]; rfl
    have e1 : w8.cell? ⟨w.heap.size, 1, none⟩ = some (.string nm) := by rw [Lib.cell_of_heap B8.out]; rfl
    cases RB with
    | true =>
      go_wp2_with fail
      refine (rwrong_any q N1 M1 _ 30 _ _ W8.out).mono ?_
      rintro r w9 ⟨⟨v9, rfl⟩, h9⟩
      have W9 : Hid (WK w9 q N1 M1 FE) := by have a := h9.out.1; have b := HD2.out; rw [show (true || (decide (tk = 19) && CB)) = true by simp [k19']] at b; rw [b] at a; exact a
      have B9 : Hid (_) := h9.out.2.heap B8.out hne
      have hK9 : KeepT q w w9 := hK8.trans h9.out.2.keep
      have y2 : w9.cell? ⟨q, 2, none⟩ = some (.int .i64 FE) := W9.out.e
      clear h9 e0 e1 e3
      have tn : ¬ FE = 0 := by have h := HD2.out; rw [← h]; exact wrE_ne (by decide)
      have tn' : (FE == 0) = false := by simpa using tn
      have tn'' : (FE != 0) = true := by simpa using tn
      go_wp2
      refine bodyPost_ret (results_none rfl _ _ _) rfl ?_
      exact ⟨⟨_, rfl⟩, hK9, HNo.out tn _ W9.out⟩
    | false =>
      go_wp2_with fail
      refine (rwrong_any q N1 M1 _ 30 _ _ W8.out).mono ?_
      rintro r w9 ⟨⟨v9, rfl⟩, h9⟩
      have W9 : Hid (WK w9 q N1 M1 FE) := by have a := h9.out.1; have b := HD2.out; rw [show (false || (decide (tk = 19) && CB)) = false by simp [k19']] at b; rw [b] at a; exact a
      have B9 : Hid (_) := h9.out.2.heap B8.out hne
      have hK9 : KeepT q w w9 := hK8.trans h9.out.2.keep
      have y2 : w9.cell? ⟨q, 2, none⟩ = some (.int .i64 FE) := W9.out.e
      clear h9 e0 e1 e3
      have tn : ¬ FE = 0 := by have h := HD2.out; rw [← h]; exact wrE_keep h3n
      have tn' : (FE == 0) = false := by simpa using tn
      have tn'' : (FE != 0) = true := by simpa using tn
      go_wp2
      refine bodyPost_ret (results_none rfl _ _ _) rfl ?_
      exact ⟨⟨_, rfl⟩, hK9, HNo.out tn _ W9.out⟩
  | true =>
    go_wp2_with fail
    refine (rwrong_any q N1 M1 _ 1 _ w6 W6.out).mono ?_
    rintro r w7 ⟨⟨v7, rfl⟩, h7⟩
    have W7 : Hid (WK w7 q N1 M1 E3) := by have a := h7.out.1; have b := hE3.out; first | (rw [b] at a; exact a) | (rw [← b]; exact a)
    have B7 : Hid (_) := h7.out.2.heap B6.out hne
    have hK7 : KeepT q w w7 := hK6.trans h7.out.2.keep
    clear h7 B6 W6 hK6
    have e3 : w7.cell? ⟨w.heap.size, 3, none⟩ = some (.slice pv nv cv) := by rw [Lib.cell_of_heap B7.out]; rfl
    have hB7 : Below w0.heap.size w0 w7 := hw.trans (hK7.below (B := w0.heap.size) hq (Nat.le_of_lt hqw))
    go_wp2_with fail
    refine (cW.out _ hB7).mono ?_
    rintro r w8 ⟨rfl, hb8⟩
    have W8 : Hid (WK w8 q N1 M1 E3) := W7.out.below hb8
    have B8 : Hid (_) := blkB B7.out hb8
    have hK8 : KeepT q w w8 := hK7.trans (KeepT.of hb8)
    clear hb8 e3 hB7 B7 W7 hK7 cW
    have e0 : w8.cell? ⟨w.heap.size, 0, none⟩ = some (.int .i64 tk) := by rw [Lib.cell_of_heap B8.out]; rfl
    have e3 : w8.cell? ⟨w.heap.size, 3, none⟩ = some (.slice pv nv cv) := by rw [Lib.cell_of_heap B8.out]; rfl
    have e1 : w8.cell? ⟨w.heap.size, 1, none⟩ = some (.string nm) := by rw [Lib.cell_of_heap B8.out]; rfl
    cases RB with
    | true =>
      go_wp2_with fail
      refine (rwrong_any q N1 M1 _ 30 _ _ W8.out).mono ?_
      rintro r w9 ⟨⟨v9, rfl⟩, h9⟩
      have W9 : Hid (WK w9 q N1 M1 FE) := by have a := h9.out.1; have b := HD2.out; rw [show (true || (decide (tk = 19) && CB)) = true by simp [k19']] at b; rw [b] at a; exact a
      have B9 : Hid (_) := h9.out.2.heap B8.out hne
      have hK9 : KeepT q w w9 := hK8.trans h9.out.2.keep
      have y2 : w9.cell? ⟨q, 2, none⟩ = some (.int .i64 FE) := W9.out.e
      clear h9 e0 e1 e3
      have tn : ¬ FE = 0 := by have h := HD2.out; rw [← h]; exact wrE_ne (by decide)
      have tn' : (FE == 0) = false := by simpa using tn
      have tn'' : (FE != 0) = true := by simpa using tn
      go_wp2
      refine bodyPost_ret (results_none rfl _ _ _) rfl ?_
      exact ⟨⟨_, rfl⟩, hK9, HNo.out tn _ W9.out⟩
    | false =>
      go_wp2_with fail
      refine (rwrong_any q N1 M1 _ 30 _ _ W8.out).mono ?_
      rintro r w9 ⟨⟨v9, rfl⟩, h9⟩
      have W9 : Hid (WK w9 q N1 M1 FE) := by have a := h9.out.1; have b := HD2.out; rw [show (false || (decide (tk = 19) && CB)) = false by simp [k19']] at b; rw [b] at a; exact a
      have B9 : Hid (_) := h9.out.2.heap B8.out hne
      have hK9 : KeepT q w w9 := hK8.trans h9.out.2.keep
      have y2 : w9.cell? ⟨q, 2, none⟩ = some (.int .i64 FE) := W9.out.e
      clear h9 e0 e1 e3
      have tn : ¬ FE = 0 := by have h := HD2.out; rw [← h]; exact wrE_keep h3n
      have tn' : (FE == 0) = false := by simpa using tn
      have tn'' : (FE != 0) = true := by simpa using tn
      go_wp2
      refine bodyPost_ret (results_none rfl _ _ _) rfl ?_
      exact ⟨⟨_, rfl⟩, hK9, HNo.out tn _ W9.out⟩
end Go.Proofs.YtfajjphfjilpnaaGreat

namespace Go.Proofs.YtfajjphfjilpnaaGreat
open Go.RowKit LX Go.Shelf
set_option linter.unusedVariables false

set_option maxRecDepth 100000 in
set_option maxHeartbeats 8000000 in
theorem rformula_cB (w0 : World) (q : Nat) (hq : w0.heap.size ≤ q) (f : Fm) (uv ut us ur : Value) (hQ : QAt w0 (f, ⟨uv, ut, us, ur⟩)) (d : Int) (hd0 : 0 ≤ d) (hd1 : d ≤ 25)
    (IT : d ≤ 24 → ∀ (i : Nat) (hi : i < f.terms.length) (u : Value), TmsAt w0 u f.terms[i].subs → f.terms[i].v.Fits → Walks w0 q 58 (.agg #[.int .i64 f.terms[i].k, .string f.terms[i].nm, .int .i64 f.terms[i].v.k, .int .i64 f.terms[i].v.n, .int .i64 f.terms[i].v.d, .string f.terms[i].v.s, u]) (d + 1) (fun s => trun (d + 1) s f.terms[i]))
    (IR : d ≤ 24 → ∀ (i : Nat) (hi : i < f.rgx.length) (u1 u2 : Value), FmsAt w0 u1 f.rgx[i].test → RxsAt w0 u2 f.rgx[i].subs → Walks w0 q 59 (.agg #[.int .i64 f.rgx[i].k, u1, u2]) (d + 1) (fun s => rrun (d + 1) s f.rgx[i]))
    (IF : d ≤ 24 → ∀ (i : Nat) (hi : i < f.subs.length) (y : FQ), QAt w0 (f.subs[i], y) → Walks w0 q 30 (.agg #[.int .i64 f.subs[i].k, .string f.subs[i].nm, .int .i64 f.subs[i].op, y.v, y.t, .int .i64 f.subs[i].lo, .int .i64 f.subs[i].hi, .bool f.subs[i].opn, y.s, y.r]) (d + 1) (fun s => frun (d + 1) s f.subs[i]))
    (hk : 22 < f.k) (N M : Int) (w : World) (R : Int × (Int × Int)) (F : Int × Int → Int × (Int × Int)) (hw : Below w0.heap.size w0 w) (hK : WK w q N M 0) (ho : OkS (N, M)) (hR : R = andT (frun d (N, M) f) F) :
    Calls Tryz.prog 30 #[.pointer (some ⟨q, 0, none⟩), .agg #[.int .i64 f.k, .string f.nm, .int .i64 f.op, uv, ut, .int .i64 f.lo, .int .i64 f.hi, .bool f.opn, us, ur], .int .i64 d] w fun r w' => (∃ v, r = .returned v) ∧ Hid (KeepT q w w' ∧ WS w' q R F) := by
  obtain ⟨hv, ht, hs, hr⟩ := hQ
  dsimp only at hv ht hs hr
  have HV : Hid (NmsAt w0 uv f.vars) := hv
  obtain ⟨pv, cv, rfl, hlv, hcv, HXV0⟩ := hv.form
  have HXV : Hid (_) := HXV0
  obtain ⟨pt, ct, rfl, hlt0, hct, HXT0⟩ := ht.form
  have HXT : Hid (∀ i (hi : i < f.terms.length), ∃ b off u, pt = some ⟨b, off, none⟩ ∧ b < w0.heap.size ∧ TmC w0 b (off + i * 7) f.terms[i] u ∧ TmsAt w0 u f.terms[i].subs ∧ f.terms[i].v.Fits) := HXT0
  obtain ⟨ps, cs, rfl, hls, hcs, HXF0⟩ := hs.form
  have HXF : Hid (∀ i (hi : i < f.subs.length), ∃ b off uv ut us ur, ps = some ⟨b, off, none⟩ ∧ b < w0.heap.size ∧ FmC w0 b (off + i * 10) f.subs[i] uv ut us ur ∧ NmsAt w0 uv f.subs[i].vars ∧ TmsAt w0 ut f.subs[i].terms ∧ FmsAt w0 us f.subs[i].subs ∧ RxsAt w0 ur f.subs[i].rgx) := HXF0
  obtain ⟨pr, cr, rfl, hlr, hcr, HXR0⟩ := hr.form
  have HXR : Hid (∀ i (hi : i < f.rgx.length), ∃ b off ut us, pr = some ⟨b, off, none⟩ ∧ b < w0.heap.size ∧ RxC w0 b (off + i * 3) f.rgx[i] ut us ∧ FmsAt w0 ut f.rgx[i].test ∧ RxsAt w0 us f.rgx[i].subs) := HXR0
  have HD : Hid (_) := doc_fmE f hls
  have HW : Hid (WK w q N M 0) := hK
  have HO : Hid (OkS (N, M)) := ho
  have hqw : q < w.heap.size := hK.lt
  have HR0 : Hid (R = andT (meetE d (N, M), meetS d (N, M)) fun s1 => andT (fmE f, s1) fun s1 => andT (truns (d + 1) s1 f.terms) fun s2 => andT (rruns (d + 1) s2 f.rgx) fun s3 => andT (fruns (d + 1) s3 f.subs) F) := by
    have h := hR
    rw [frun_eq] at h
    simp only [andT_assoc] at h
    exact h
  have cM : Hid (∀ W : World, Calls Tryz.prog 53 #[.agg #[.int .i64 f.k, .string f.nm, .int .i64 f.op, .slice pv f.vars.length cv, .slice pt f.terms.length ct, .int .i64 f.lo, .int .i64 f.hi, .bool f.opn, .slice ps f.subs.length cs, .slice pr f.rgx.length cr]] W fun r w' => r = .returned (.bool (manyB f.k f.vars.length f.terms.length)) ∧ Below W.heap.size W w') := fun W => rmany_any f.k f.op f.lo f.hi f.nm f.opn pv pt ps pr f.vars.length cv f.terms.length ct f.subs.length cs f.rgx.length cr W
  have cF : Hid (∀ W : World, Calls Tryz.prog 54 #[.agg #[.int .i64 f.k, .string f.nm, .int .i64 f.op, .slice pv f.vars.length cv, .slice pt f.terms.length ct, .int .i64 f.lo, .int .i64 f.hi, .bool f.opn, .slice ps f.subs.length cs, .slice pr f.rgx.length cr]] W fun r w' => r = .returned (.bool (formB (usO f.k) f.nm f.op f.lo f.hi f.opn f.vars.length f.terms.length f.subs.length f.rgx.length)) ∧ Below W.heap.size W w') := fun W => rform_any f.k f.op f.lo f.hi f.nm f.opn pv pt ps pr f.vars.length cv f.terms.length ct f.subs.length cs f.rgx.length cr W
  have cN : Hid (∀ W : World, Below w0.heap.size w0 W → Calls Tryz.prog 55 #[.agg #[.int .i64 f.k, .string f.nm, .int .i64 f.op, .slice pv f.vars.length cv, .slice pt f.terms.length ct, .int .i64 f.lo, .int .i64 f.hi, .bool f.opn, .slice ps f.subs.length cs, .slice pr f.rgx.length cr]] W fun r w' => r = .returned (.bool (namedB (usO f.k) f.nm f.vars f.lo f.hi f.opn)) ∧ Below W.heap.size W w') := fun W hW => rnamed_any f.k f.op f.lo f.hi f.nm f.opn f.vars pv pt ps pr f.vars.length cv f.terms.length ct f.subs.length cs f.rgx.length cr W (HV.out.below hW)
  have cW : Hid (∀ W : World, Below w0.heap.size w0 W → Calls Tryz.prog 56 #[.slice pv f.vars.length cv] W fun r w' => r = .returned (.bool (repN [] f.vars)) ∧ Below W.heap.size W w') := fun W hW => rtwice_any _ f.vars W (HV.out.below hW)
  clear hv ht hs hr HXV0 HXT0 HXF0 HXR0 hK ho hR
  have HE : Hid (ndE d N = meetE d (N, M)) := nd_meet (s := (N, M)) HO.out
  have CT0 : Hid (_) := IT
  have CR0 : Hid (_) := IR
  have CF0 : Hid (_) := IF
  clear IT IR IF
  obtain ⟨FE, hFE⟩ : ∃ FE, Hid (fmE f = FE) := ⟨_, rfl⟩
  rw [hFE.out] at HR0 HD
  clear hFE
  obtain ⟨nv, env⟩ : ∃ n : Nat, Hid (f.vars.length = n) := ⟨_, rfl⟩
  obtain ⟨nt, ent⟩ : ∃ n : Nat, Hid (f.terms.length = n) := ⟨_, rfl⟩
  obtain ⟨ns, ens⟩ : ∃ n : Nat, Hid (f.subs.length = n) := ⟨_, rfl⟩
  obtain ⟨nr, enr⟩ : ∃ n : Nat, Hid (f.rgx.length = n) := ⟨_, rfl⟩
  rw [env.out] at cM cF cN cW hlv hcv HD ⊢
  rw [ent.out] at cM cF cN hlt0 hct HD ⊢
  rw [ens.out] at cM cF cN hls hcs HD ⊢
  rw [enr.out] at cM cF cN hlr hcr HD ⊢
  generalize formB (usO f.k) f.nm f.op f.lo f.hi f.opn nv nt ns nr = FB at *
  generalize namedB (usO f.k) f.nm f.vars f.lo f.hi f.opn = GB at *
  generalize manyB f.k nv nt = MB at *
  generalize repN [] f.vars = RB at *
  generalize Lib.containsS (f.vars.drop 1) f.nm = CB at *
  generalize f.nm = nm at *
  generalize f.lo = lo at *
  generalize f.hi = hi at *
  generalize f.opn = o at *
  generalize f.op = op at *
  generalize f.k = tk at *
  have hne : w.heap.size ≠ q := by omega
  go_enter Tryz.func30, Tryz.ntmps30
  go_wp2_with fail
  refine (rnode_any q N M d _ (HW.out.alloc _) ⟨HO.out.1, by have := HO.out.2.1; simp at this; omega⟩).mono ?_
  rintro r w1 ⟨rfl, h1⟩
  have hK1 : KeepT q w w1 := (KeepT.of ((Below.refl _ _).alloc (Nat.le_refl _) _)).trans h1.out.2.keep
  have W1 : Hid (WK w1 q (N + 1) (if M < d then d else M) (ndE d N)) := h1.out.1
  have B1 : Hid (w1.heap[w.heap.size]? = some (.cells #[.int .i64 tk, .string nm, .int .i64 op, .slice pv nv cv, .slice pt nt ct, .int .i64 lo, .int .i64 hi, .bool o, .slice ps ns cs, .slice pr nr cr] 29 (0, 0))) := (h1.out.2.block w.heap.size (by simp) hne).trans (heap_allocA w _)
  clear h1
  by_cases hE : ndE d N = 0
  case neg =>
    have hE' : (ndE d N == 0) = false := by simpa using hE
    rw [hE']
    go_wp2
    refine bodyPost_ret (results_none rfl _ _ _) rfl ?_
    refine ⟨⟨_, rfl⟩, hK1, _, _, _, W1.out, fun e => absurd e hE, fun _ => ?_⟩
    have h := HR0.out
    rw [← HE.out] at h
    rw [h, andT_ne hE]
  have hE' : (ndE d N == 0) = true := by simpa using hE
  rw [hE']
  obtain ⟨N1, hN1⟩ : ∃ N1, Hid (N + 1 = N1) := ⟨_, rfl⟩
  obtain ⟨M1, hM1⟩ : ∃ M1, Hid ((if M < d then d else M) = M1) := ⟨_, rfl⟩
  have W1' : Hid (WK w1 q N1 M1 0) := by have h := W1.out; rw [hE, hN1.out, hM1.out] at h; exact h
  clear W1
  have hmS : Hid (meetS d (N, M) = (N1, M1)) := by
    have e : meetE d (N, M) = 0 := by rw [← HE.out]; exact hE
    unfold meetS
    rw [if_pos e, ← hN1.out, ← hM1.out, Int.max_def]
    show (N + 1, if M ≤ d then d else M) = (N + 1, if M < d then d else M)
    congr 1
    by_cases h : M < d
    · rw [if_pos h, if_pos (by omega)]
    · rw [if_neg h]; split <;> omega
  have HR1 : Hid (R = andT (FE, (N1, M1)) fun s1 => andT (truns (d + 1) s1 f.terms) fun s2 => andT (rruns (d + 1) s2 f.rgx) fun s3 => andT (fruns (d + 1) s3 f.subs) F) := by
    have h := HR0.out
    rw [← HE.out, hE, andT_eq, hmS.out] at h
    exact h
  have hd24 : d ≤ 24 := meetE_le (s := (N, M)) (by rw [← HE.out]; exact hE)
  have HOk : Hid (OkS (N1, M1)) := by rw [← hmS.out]; exact meetS_ok HO.out hd0
  have CT := CT0.out hd24
  have CR := CR0.out hd24
  have CF := CF0.out hd24
  have CT : Hid (_) := CT
  have CR : Hid (_) := CR
  have CF : Hid (_) := CF
  clear HR0 HE hE hE' hN1 hM1 hmS CT0 CR0 CF0
  have HNo : Hid (¬ FE = 0 → ∀ W : World, WK W q N1 M1 FE → WS W q R F) := by
    intro h W hW
    have hr := HR1.out
    rw [andT_ne h] at hr
    exact ⟨_, _, _, hW, fun e => absurd e h, fun _ => by rw [hr]⟩
  have hk20 : tk < 1 ∨ 22 < tk := by omega
  have hk0 : ¬ tk < 1 := by omega
  have k19 : (tk == 19) = false := by simp; omega
  have k19' : ¬ tk = 19 := by omega
  have e0 : w1.cell? ⟨w.heap.size, 0, none⟩ = some (.int .i64 tk) := by rw [Lib.cell_of_heap B1.out]; rfl
  go_wp2_with fail
  refine (rwrong_any q N1 M1 0 20 _ w1 W1'.out).mono ?_
  rintro r w2 ⟨⟨v2, rfl⟩, h2⟩
  have W2 : Hid (WK w2 q N1 M1 20) := by have a := h2.out.1; first | exact a | (simp [wrE, hk] at a; exact a)
  have B2 : Hid (_) := h2.out.2.heap B1.out hne
  have hK2 : KeepT q w w2 := hK1.trans h2.out.2.keep
  clear h2 e0 B1 hK1 W1'
  obtain ⟨e0, e1, e2, e3, e4, e5, e6, e7, e8, e9⟩ := box10 B2.out
  have hB2 : Below w0.heap.size w0 w2 := hw.trans (hK2.below (B := w0.heap.size) hq (Nat.le_of_lt hqw))
  go_wp2_with fail
  refine (cM.out _).mono ?_
  rintro r w3 ⟨rfl, hb3⟩
  have W3 : Hid (WK w3 q N1 M1 20) := W2.out.below hb3
  have B3 : Hid (_) := blkB B2.out hb3
  have hK3 : KeepT q w w3 := hK2.trans (KeepT.of hb3)
  clear hb3 e0 e1 e2 e3 e4 e5 e6 e7 e8 e9 hB2 B2 W2 hK2 cM
  obtain ⟨E2, hE2⟩ : ∃ E, Hid (wrE MB 3 20 = E) := ⟨_, rfl⟩
  go_wp2_with fail
  refine (rwrong_any q N1 M1 _ 3 MB w3 W3.out).mono ?_
  rintro r w4 ⟨⟨v4, rfl⟩, h4⟩
  have W4 : Hid (WK w4 q N1 M1 E2) := by have a := h4.out.1; rw [hE2.out] at a; exact a
  have B4 : Hid (_) := h4.out.2.heap B3.out hne
  have hK4 : KeepT q w w4 := hK3.trans h4.out.2.keep
  have HD2 : Hid (wrE (RB || (decide (tk = 19) && CB)) 30 (wrE (!(FB && GB)) 1 E2) = FE) := by
    have h := HD.out
    rw [show wrE (decide (tk < 1 ∨ 22 < tk)) 20 0 = 20 by simp [wrE, hk], hE2.out] at h
    exact h
  clear h4 B3 W3 hK3 HD
  obtain ⟨e0, e1, e2, e3, e4, e5, e6, e7, e8, e9⟩ := box10 B4.out
  have hB4 : Below w0.heap.size w0 w4 := hw.trans (hK4.below (B := w0.heap.size) hq (Nat.le_of_lt hqw))
  go_wp2_with fail
  refine (cF.out _).mono ?_
  rintro r w5 ⟨rfl, hb5⟩
  have W5 : Hid (WK w5 q N1 M1 E2) := W4.out.below hb5
  have B5 : Hid (_) := blkB B4.out hb5
  have hK5 : KeepT q w w5 := hK4.trans (KeepT.of hb5)
  clear hb5 e0 e1 e2 e3 e4 e5 e6 e7 e8 e9 hB4 B4 W4 hK4 cF
  obtain ⟨e0, e1, e2, e3, e4, e5, e6, e7, e8, e9⟩ := box10 B5.out
  have hB5 : Below w0.heap.size w0 w5 := hw.trans (hK5.below (B := w0.heap.size) hq (Nat.le_of_lt hqw))
  go_wp2_with fail
  refine (cN.out _ hB5).mono ?_
  rintro r w6 ⟨rfl, hb6⟩
  have W6 : Hid (WK w6 q N1 M1 E2) := W5.out.below hb6
  have B6 : Hid (_) := blkB B5.out hb6
  have hK6 : KeepT q w w6 := hK5.trans (KeepT.of hb6)
  clear hb6 e0 e1 e2 e3 e4 e5 e6 e7 e8 e9 hB5 B5 W5 hK5 cN
  obtain ⟨E3, hE3⟩ : ∃ E, Hid (wrE (!(FB && GB)) 1 E2 = E) := ⟨_, rfl⟩
  rw [hE3.out] at HD2
  have h3n : ¬ E3 = 0 := by rw [← hE3.out]; exact wrE_keep (by rw [← hE2.out]; exact wrE_keep (by decide))
  cases FB with
  | false =>
    go_wp2_with fail
    refine (rwrong_any q N1 M1 _ 1 _ w6 W6.out).mono ?_
    rintro r w7 ⟨⟨v7, rfl⟩, h7⟩
    have W7 : Hid (WK w7 q N1 M1 E3) := by have a := h7.out.1; have b := hE3.out; first | (rw [b] at a; exact a) | (rw [← b]; exact a)
    have B7 : Hid (_) := h7.out.2.heap B6.out hne
    have hK7 : KeepT q w w7 := hK6.trans h7.out.2.keep
    clear h7 B6 W6 hK6
    have e3 : w7.cell? ⟨w.heap.size, 3, none⟩ = some (.slice pv nv cv) := by rw [Lib.cell_of_heap B7.out]; rfl
    have hB7 : Below w0.heap.size w0 w7 := hw.trans (hK7.below (B := w0.heap.size) hq (Nat.le_of_lt hqw))
    go_wp2_with fail
    refine (cW.out _ hB7).mono ?_
    rintro r w8 ⟨rfl, hb8⟩
    have W8 : Hid (WK w8 q N1 M1 E3) := W7.out.below hb8
    have B8 : Hid (_) := blkB B7.out hb8
    have hK8 : KeepT q w w8 := hK7.trans (KeepT.of hb8)
    clear hb8 e3 hB7 B7 W7 hK7 cW
    have e0 : w8.cell? ⟨w.heap.size, 0, none⟩ = some (.int .i64 tk) := by rw [Lib.cell_of_heap B8.out]; rfl
    have e3 : w8.cell? ⟨w.heap.size, 3, none⟩ = some (.slice pv nv cv) := by rw [Lib.cell_of_heap B8.out]; rfl
    have e1 : w8.cell? ⟨w.heap.size, 1, none⟩ = some (.string nm) := by rw [Lib.cell_of_heap B8.out]; rfl
    cases RB with
    | true =>
      go_wp2_with fail
      refine (rwrong_any q N1 M1 _ 30 _ _ W8.out).mono ?_
      rintro r w9 ⟨⟨v9, rfl⟩, h9⟩
      have W9 : Hid (WK w9 q N1 M1 FE) := by have a := h9.out.1; have b := HD2.out; rw [show (true || (decide (tk = 19) && CB)) = true by simp [k19']] at b; rw [b] at a; exact a
      have B9 : Hid (_) := h9.out.2.heap B8.out hne
      have hK9 : KeepT q w w9 := hK8.trans h9.out.2.keep
      have y2 : w9.cell? ⟨q, 2, none⟩ = some (.int .i64 FE) := W9.out.e
      clear h9 e0 e1 e3
      have tn : ¬ FE = 0 := by have h := HD2.out; rw [← h]; exact wrE_ne (by decide)
      have tn' : (FE == 0) = false := by simpa using tn
      have tn'' : (FE != 0) = true := by simpa using tn
      go_wp2
      refine bodyPost_ret (results_none rfl _ _ _) rfl ?_
      exact ⟨⟨_, rfl⟩, hK9, HNo.out tn _ W9.out⟩
    | false =>
      go_wp2_with fail
      refine (rwrong_any q N1 M1 _ 30 _ _ W8.out).mono ?_
      rintro r w9 ⟨⟨v9, rfl⟩, h9⟩
      have W9 : Hid (WK w9 q N1 M1 FE) := by have a := h9.out.1; have b := HD2.out; rw [show (false || (decide (tk = 19) && CB)) = false by simp [k19']] at b; rw [b] at a; exact a
      have B9 : Hid (_) := h9.out.2.heap B8.out hne
      have hK9 : KeepT q w w9 := hK8.trans h9.out.2.keep
      have y2 : w9.cell? ⟨q, 2, none⟩ = some (.int .i64 FE) := W9.out.e
      clear h9 e0 e1 e3
      have tn : ¬ FE = 0 := by have h := HD2.out; rw [← h]; exact wrE_keep h3n
      have tn' : (FE == 0) = false := by simpa using tn
      have tn'' : (FE != 0) = true := by simpa using tn
      go_wp2
      refine bodyPost_ret (results_none rfl _ _ _) rfl ?_
      exact ⟨⟨_, rfl⟩, hK9, HNo.out tn _ W9.out⟩
  | true =>
    go_wp2_with fail
    refine (rwrong_any q N1 M1 _ 1 _ w6 W6.out).mono ?_
    rintro r w7 ⟨⟨v7, rfl⟩, h7⟩
    have W7 : Hid (WK w7 q N1 M1 E3) := by have a := h7.out.1; have b := hE3.out; first | (rw [b] at a; exact a) | (rw [← b]; exact a)
    have B7 : Hid (_) := h7.out.2.heap B6.out hne
    have hK7 : KeepT q w w7 := hK6.trans h7.out.2.keep
    clear h7 B6 W6 hK6
    have e3 : w7.cell? ⟨w.heap.size, 3, none⟩ = some (.slice pv nv cv) := by rw [Lib.cell_of_heap B7.out]; rfl
    have hB7 : Below w0.heap.size w0 w7 := hw.trans (hK7.below (B := w0.heap.size) hq (Nat.le_of_lt hqw))
    go_wp2_with fail
    refine (cW.out _ hB7).mono ?_
    rintro r w8 ⟨rfl, hb8⟩
    have W8 : Hid (WK w8 q N1 M1 E3) := W7.out.below hb8
    have B8 : Hid (_) := blkB B7.out hb8
    have hK8 : KeepT q w w8 := hK7.trans (KeepT.of hb8)
    clear hb8 e3 hB7 B7 W7 hK7 cW
    have e0 : w8.cell? ⟨w.heap.size, 0, none⟩ = some (.int .i64 tk) := by rw [Lib.cell_of_heap B8.out]; rfl
    have e3 : w8.cell? ⟨w.heap.size, 3, none⟩ = some (.slice pv nv cv) := by rw [Lib.cell_of_heap B8.out]; rfl
    have e1 : w8.cell? ⟨w.heap.size, 1, none⟩ = some (.string nm) := by rw [Lib.cell_of_heap B8.out]; rfl
    cases RB with
    | true =>
      go_wp2_with fail
      refine (rwrong_any q N1 M1 _ 30 _ _ W8.out).mono ?_
      rintro r w9 ⟨⟨v9, rfl⟩, h9⟩
      have W9 : Hid (WK w9 q N1 M1 FE) := by have a := h9.out.1; have b := HD2.out; rw [show (true || (decide (tk = 19) && CB)) = true by simp [k19']] at b; rw [b] at a; exact a
      have B9 : Hid (_) := h9.out.2.heap B8.out hne
      have hK9 : KeepT q w w9 := hK8.trans h9.out.2.keep
      have y2 : w9.cell? ⟨q, 2, none⟩ = some (.int .i64 FE) := W9.out.e
      clear h9 e0 e1 e3
      have tn : ¬ FE = 0 := by have h := HD2.out; rw [← h]; exact wrE_ne (by decide)
      have tn' : (FE == 0) = false := by simpa using tn
      have tn'' : (FE != 0) = true := by simpa using tn
      go_wp2
      refine bodyPost_ret (results_none rfl _ _ _) rfl ?_
      exact ⟨⟨_, rfl⟩, hK9, HNo.out tn _ W9.out⟩
    | false =>
      go_wp2_with fail
      refine (rwrong_any q N1 M1 _ 30 _ _ W8.out).mono ?_
      rintro r w9 ⟨⟨v9, rfl⟩, h9⟩
      have W9 : Hid (WK w9 q N1 M1 FE) := by have a := h9.out.1; have b := HD2.out; rw [show (false || (decide (tk = 19) && CB)) = false by simp [k19']] at b; rw [b] at a; exact a
      have B9 : Hid (_) := h9.out.2.heap B8.out hne
      have hK9 : KeepT q w w9 := hK8.trans h9.out.2.keep
      have y2 : w9.cell? ⟨q, 2, none⟩ = some (.int .i64 FE) := W9.out.e
      clear h9 e0 e1 e3
      have tn : ¬ FE = 0 := by have h := HD2.out; rw [← h]; exact wrE_keep h3n
      have tn' : (FE == 0) = false := by simpa using tn
      have tn'' : (FE != 0) = true := by simpa using tn
      go_wp2
      refine bodyPost_ret (results_none rfl _ _ _) rfl ?_
      exact ⟨⟨_, rfl⟩, hK9, HNo.out tn _ W9.out⟩
end Go.Proofs.YtfajjphfjilpnaaGreat

namespace Go.Proofs.YtfajjphfjilpnaaGreat
open Go.RowKit LX Go.Shelf
set_option linter.unusedVariables false

set_option maxRecDepth 100000 in
set_option maxHeartbeats 8000000 in
theorem rformula_cC (w0 : World) (q : Nat) (hq : w0.heap.size ≤ q) (f : Fm) (uv ut us ur : Value) (hQ : QAt w0 (f, ⟨uv, ut, us, ur⟩)) (d : Int) (hd0 : 0 ≤ d) (hd1 : d ≤ 25)
    (IT : d ≤ 24 → ∀ (i : Nat) (hi : i < f.terms.length) (u : Value), TmsAt w0 u f.terms[i].subs → f.terms[i].v.Fits → Walks w0 q 58 (.agg #[.int .i64 f.terms[i].k, .string f.terms[i].nm, .int .i64 f.terms[i].v.k, .int .i64 f.terms[i].v.n, .int .i64 f.terms[i].v.d, .string f.terms[i].v.s, u]) (d + 1) (fun s => trun (d + 1) s f.terms[i]))
    (IR : d ≤ 24 → ∀ (i : Nat) (hi : i < f.rgx.length) (u1 u2 : Value), FmsAt w0 u1 f.rgx[i].test → RxsAt w0 u2 f.rgx[i].subs → Walks w0 q 59 (.agg #[.int .i64 f.rgx[i].k, u1, u2]) (d + 1) (fun s => rrun (d + 1) s f.rgx[i]))
    (IF : d ≤ 24 → ∀ (i : Nat) (hi : i < f.subs.length) (y : FQ), QAt w0 (f.subs[i], y) → Walks w0 q 30 (.agg #[.int .i64 f.subs[i].k, .string f.subs[i].nm, .int .i64 f.subs[i].op, y.v, y.t, .int .i64 f.subs[i].lo, .int .i64 f.subs[i].hi, .bool f.subs[i].opn, y.s, y.r]) (d + 1) (fun s => frun (d + 1) s f.subs[i]))
    (hk : (1 ≤ f.k ∧ f.k ≤ 22) ∧ ¬ f.k = 19) (N M : Int) (w : World) (R : Int × (Int × Int)) (F : Int × Int → Int × (Int × Int)) (hw : Below w0.heap.size w0 w) (hK : WK w q N M 0) (ho : OkS (N, M)) (hR : R = andT (frun d (N, M) f) F) :
    Calls Tryz.prog 30 #[.pointer (some ⟨q, 0, none⟩), .agg #[.int .i64 f.k, .string f.nm, .int .i64 f.op, uv, ut, .int .i64 f.lo, .int .i64 f.hi, .bool f.opn, us, ur], .int .i64 d] w fun r w' => (∃ v, r = .returned v) ∧ Hid (KeepT q w w' ∧ WS w' q R F) := by
  obtain ⟨hv, ht, hs, hr⟩ := hQ
  dsimp only at hv ht hs hr
  have HV : Hid (NmsAt w0 uv f.vars) := hv
  obtain ⟨pv, cv, rfl, hlv, hcv, HXV0⟩ := hv.form
  have HXV : Hid (_) := HXV0
  obtain ⟨pt, ct, rfl, hlt0, hct, HXT0⟩ := ht.form
  have HXT : Hid (∀ i (hi : i < f.terms.length), ∃ b off u, pt = some ⟨b, off, none⟩ ∧ b < w0.heap.size ∧ TmC w0 b (off + i * 7) f.terms[i] u ∧ TmsAt w0 u f.terms[i].subs ∧ f.terms[i].v.Fits) := HXT0
  obtain ⟨ps, cs, rfl, hls, hcs, HXF0⟩ := hs.form
  have HXF : Hid (∀ i (hi : i < f.subs.length), ∃ b off uv ut us ur, ps = some ⟨b, off, none⟩ ∧ b < w0.heap.size ∧ FmC w0 b (off + i * 10) f.subs[i] uv ut us ur ∧ NmsAt w0 uv f.subs[i].vars ∧ TmsAt w0 ut f.subs[i].terms ∧ FmsAt w0 us f.subs[i].subs ∧ RxsAt w0 ur f.subs[i].rgx) := HXF0
  obtain ⟨pr, cr, rfl, hlr, hcr, HXR0⟩ := hr.form
  have HXR : Hid (∀ i (hi : i < f.rgx.length), ∃ b off ut us, pr = some ⟨b, off, none⟩ ∧ b < w0.heap.size ∧ RxC w0 b (off + i * 3) f.rgx[i] ut us ∧ FmsAt w0 ut f.rgx[i].test ∧ RxsAt w0 us f.rgx[i].subs) := HXR0
  have HD : Hid (_) := doc_fmE f hls
  have HW : Hid (WK w q N M 0) := hK
  have HO : Hid (OkS (N, M)) := ho
  have hqw : q < w.heap.size := hK.lt
  have HR0 : Hid (R = andT (meetE d (N, M), meetS d (N, M)) fun s1 => andT (fmE f, s1) fun s1 => andT (truns (d + 1) s1 f.terms) fun s2 => andT (rruns (d + 1) s2 f.rgx) fun s3 => andT (fruns (d + 1) s3 f.subs) F) := by
    have h := hR
    rw [frun_eq] at h
    simp only [andT_assoc] at h
    exact h
  have cM : Hid (∀ W : World, Calls Tryz.prog 53 #[.agg #[.int .i64 f.k, .string f.nm, .int .i64 f.op, .slice pv f.vars.length cv, .slice pt f.terms.length ct, .int .i64 f.lo, .int .i64 f.hi, .bool f.opn, .slice ps f.subs.length cs, .slice pr f.rgx.length cr]] W fun r w' => r = .returned (.bool (manyB f.k f.vars.length f.terms.length)) ∧ Below W.heap.size W w') := fun W => rmany_any f.k f.op f.lo f.hi f.nm f.opn pv pt ps pr f.vars.length cv f.terms.length ct f.subs.length cs f.rgx.length cr W
  have cF : Hid (∀ W : World, Calls Tryz.prog 54 #[.agg #[.int .i64 f.k, .string f.nm, .int .i64 f.op, .slice pv f.vars.length cv, .slice pt f.terms.length ct, .int .i64 f.lo, .int .i64 f.hi, .bool f.opn, .slice ps f.subs.length cs, .slice pr f.rgx.length cr]] W fun r w' => r = .returned (.bool (formB (usO f.k) f.nm f.op f.lo f.hi f.opn f.vars.length f.terms.length f.subs.length f.rgx.length)) ∧ Below W.heap.size W w') := fun W => rform_any f.k f.op f.lo f.hi f.nm f.opn pv pt ps pr f.vars.length cv f.terms.length ct f.subs.length cs f.rgx.length cr W
  have cN : Hid (∀ W : World, Below w0.heap.size w0 W → Calls Tryz.prog 55 #[.agg #[.int .i64 f.k, .string f.nm, .int .i64 f.op, .slice pv f.vars.length cv, .slice pt f.terms.length ct, .int .i64 f.lo, .int .i64 f.hi, .bool f.opn, .slice ps f.subs.length cs, .slice pr f.rgx.length cr]] W fun r w' => r = .returned (.bool (namedB (usO f.k) f.nm f.vars f.lo f.hi f.opn)) ∧ Below W.heap.size W w') := fun W hW => rnamed_any f.k f.op f.lo f.hi f.nm f.opn f.vars pv pt ps pr f.vars.length cv f.terms.length ct f.subs.length cs f.rgx.length cr W (HV.out.below hW)
  have cW : Hid (∀ W : World, Below w0.heap.size w0 W → Calls Tryz.prog 56 #[.slice pv f.vars.length cv] W fun r w' => r = .returned (.bool (repN [] f.vars)) ∧ Below W.heap.size W w') := fun W hW => rtwice_any _ f.vars W (HV.out.below hW)
  clear hv ht hs hr HXV0 HXT0 HXF0 HXR0 hK ho hR
  have HE : Hid (ndE d N = meetE d (N, M)) := nd_meet (s := (N, M)) HO.out
  have CT0 : Hid (_) := IT
  have CR0 : Hid (_) := IR
  have CF0 : Hid (_) := IF
  clear IT IR IF
  obtain ⟨FE, hFE⟩ : ∃ FE, Hid (fmE f = FE) := ⟨_, rfl⟩
  rw [hFE.out] at HR0 HD
  clear hFE
  obtain ⟨nv, env⟩ : ∃ n : Nat, Hid (f.vars.length = n) := ⟨_, rfl⟩
  obtain ⟨nt, ent⟩ : ∃ n : Nat, Hid (f.terms.length = n) := ⟨_, rfl⟩
  obtain ⟨ns, ens⟩ : ∃ n : Nat, Hid (f.subs.length = n) := ⟨_, rfl⟩
  obtain ⟨nr, enr⟩ : ∃ n : Nat, Hid (f.rgx.length = n) := ⟨_, rfl⟩
  rw [env.out] at cM cF cN cW hlv hcv HD ⊢
  rw [ent.out] at cM cF cN hlt0 hct HD ⊢
  rw [ens.out] at cM cF cN hls hcs HD ⊢
  rw [enr.out] at cM cF cN hlr hcr HD ⊢
  generalize formB (usO f.k) f.nm f.op f.lo f.hi f.opn nv nt ns nr = FB at *
  generalize namedB (usO f.k) f.nm f.vars f.lo f.hi f.opn = GB at *
  generalize manyB f.k nv nt = MB at *
  generalize repN [] f.vars = RB at *
  generalize Lib.containsS (f.vars.drop 1) f.nm = CB at *
  generalize f.nm = nm at *
  generalize f.lo = lo at *
  generalize f.hi = hi at *
  generalize f.opn = o at *
  generalize f.op = op at *
  generalize f.k = tk at *
  have hne : w.heap.size ≠ q := by omega
  go_enter Tryz.func30, Tryz.ntmps30
  go_wp2_with fail
  refine (rnode_any q N M d _ (HW.out.alloc _) ⟨HO.out.1, by have := HO.out.2.1; simp at this; omega⟩).mono ?_
  rintro r w1 ⟨rfl, h1⟩
  have hK1 : KeepT q w w1 := (KeepT.of ((Below.refl _ _).alloc (Nat.le_refl _) _)).trans h1.out.2.keep
  have W1 : Hid (WK w1 q (N + 1) (if M < d then d else M) (ndE d N)) := h1.out.1
  have B1 : Hid (w1.heap[w.heap.size]? = some (.cells #[.int .i64 tk, .string nm, .int .i64 op, .slice pv nv cv, .slice pt nt ct, .int .i64 lo, .int .i64 hi, .bool o, .slice ps ns cs, .slice pr nr cr] 29 (0, 0))) := (h1.out.2.block w.heap.size (by simp) hne).trans (heap_allocA w _)
  clear h1
  by_cases hE : ndE d N = 0
  case neg =>
    have hE' : (ndE d N == 0) = false := by simpa using hE
    rw [hE']
    go_wp2
    refine bodyPost_ret (results_none rfl _ _ _) rfl ?_
    refine ⟨⟨_, rfl⟩, hK1, _, _, _, W1.out, fun e => absurd e hE, fun _ => ?_⟩
    have h := HR0.out
    rw [← HE.out] at h
    rw [h, andT_ne hE]
  have hE' : (ndE d N == 0) = true := by simpa using hE
  rw [hE']
  obtain ⟨N1, hN1⟩ : ∃ N1, Hid (N + 1 = N1) := ⟨_, rfl⟩
  obtain ⟨M1, hM1⟩ : ∃ M1, Hid ((if M < d then d else M) = M1) := ⟨_, rfl⟩
  have W1' : Hid (WK w1 q N1 M1 0) := by have h := W1.out; rw [hE, hN1.out, hM1.out] at h; exact h
  clear W1
  have hmS : Hid (meetS d (N, M) = (N1, M1)) := by
    have e : meetE d (N, M) = 0 := by rw [← HE.out]; exact hE
    unfold meetS
    rw [if_pos e, ← hN1.out, ← hM1.out, Int.max_def]
    show (N + 1, if M ≤ d then d else M) = (N + 1, if M < d then d else M)
    congr 1
    by_cases h : M < d
    · rw [if_pos h, if_pos (by omega)]
    · rw [if_neg h]; split <;> omega
  have HR1 : Hid (R = andT (FE, (N1, M1)) fun s1 => andT (truns (d + 1) s1 f.terms) fun s2 => andT (rruns (d + 1) s2 f.rgx) fun s3 => andT (fruns (d + 1) s3 f.subs) F) := by
    have h := HR0.out
    rw [← HE.out, hE, andT_eq, hmS.out] at h
    exact h
  have hd24 : d ≤ 24 := meetE_le (s := (N, M)) (by rw [← HE.out]; exact hE)
  have HOk : Hid (OkS (N1, M1)) := by rw [← hmS.out]; exact meetS_ok HO.out hd0
  have CT := CT0.out hd24
  have CR := CR0.out hd24
  have CF := CF0.out hd24
  have CT : Hid (_) := CT
  have CR : Hid (_) := CR
  have CF : Hid (_) := CF
  clear HR0 HE hE hE' hN1 hM1 hmS CT0 CR0 CF0
  have HNo : Hid (¬ FE = 0 → ∀ W : World, WK W q N1 M1 FE → WS W q R F) := by
    intro h W hW
    have hr := HR1.out
    rw [andT_ne h] at hr
    exact ⟨_, _, _, hW, fun e => absurd e h, fun _ => by rw [hr]⟩
  have hk0 : ¬ tk < 1 := by omega
  have hk9 : ¬ 22 < tk := by omega
  have k19' : ¬ tk = 19 := hk.2
  have k19 : (tk == 19) = false := by simpa using k19'
  clear hk
  have e0 : w1.cell? ⟨w.heap.size, 0, none⟩ = some (.int .i64 tk) := by rw [Lib.cell_of_heap B1.out]; rfl
  go_wp2_with fail
  refine (rwrong_any q N1 M1 0 20 _ w1 W1'.out).mono ?_
  rintro r w2 ⟨⟨v2, rfl⟩, h2⟩
  have W2 : Hid (WK w2 q N1 M1 0) := by have a := h2.out.1; first | exact a | (unfold wrE at a; rw [if_neg (fun h => by have h1 := h.1; simp at h1; omega)] at a; exact a)
  have B2 : Hid (_) := h2.out.2.heap B1.out hne
  have hK2 : KeepT q w w2 := hK1.trans h2.out.2.keep
  clear h2 e0 B1 hK1 W1'
  obtain ⟨e0, e1, e2, e3, e4, e5, e6, e7, e8, e9⟩ := box10 B2.out
  have hB2 : Below w0.heap.size w0 w2 := hw.trans (hK2.below (B := w0.heap.size) hq (Nat.le_of_lt hqw))
  go_wp2_with fail
  refine (cM.out _).mono ?_
  rintro r w3 ⟨rfl, hb3⟩
  have W3 : Hid (WK w3 q N1 M1 0) := W2.out.below hb3
  have B3 : Hid (_) := blkB B2.out hb3
  have hK3 : KeepT q w w3 := hK2.trans (KeepT.of hb3)
  clear hb3 e0 e1 e2 e3 e4 e5 e6 e7 e8 e9 hB2 B2 W2 hK2 cM
  obtain ⟨E2, hE2⟩ : ∃ E, Hid (wrE MB 3 0 = E) := ⟨_, rfl⟩
  go_wp2_with fail
  refine (rwrong_any q N1 M1 _ 3 MB w3 W3.out).mono ?_
  rintro r w4 ⟨⟨v4, rfl⟩, h4⟩
  have W4 : Hid (WK w4 q N1 M1 E2) := by have a := h4.out.1; rw [hE2.out] at a; exact a
  have B4 : Hid (_) := h4.out.2.heap B3.out hne
  have hK4 : KeepT q w w4 := hK3.trans h4.out.2.keep
  have HD2 : Hid (wrE (RB || (decide (tk = 19) && CB)) 30 (wrE (!(FB && GB)) 1 E2) = FE) := by
    have h := HD.out
    rw [show wrE (decide (tk < 1 ∨ 22 < tk)) 20 0 = 0 by (unfold wrE; rw [if_neg (fun h => by have h1 := h.1; simp at h1; omega)]), hE2.out] at h
    exact h
  clear h4 B3 W3 hK3 HD
  obtain ⟨e0, e1, e2, e3, e4, e5, e6, e7, e8, e9⟩ := box10 B4.out
  have hB4 : Below w0.heap.size w0 w4 := hw.trans (hK4.below (B := w0.heap.size) hq (Nat.le_of_lt hqw))
  go_wp2_with fail
  refine (cF.out _).mono ?_
  rintro r w5 ⟨rfl, hb5⟩
  have W5 : Hid (WK w5 q N1 M1 E2) := W4.out.below hb5
  have B5 : Hid (_) := blkB B4.out hb5
  have hK5 : KeepT q w w5 := hK4.trans (KeepT.of hb5)
  clear hb5 e0 e1 e2 e3 e4 e5 e6 e7 e8 e9 hB4 B4 W4 hK4 cF
  obtain ⟨e0, e1, e2, e3, e4, e5, e6, e7, e8, e9⟩ := box10 B5.out
  have hB5 : Below w0.heap.size w0 w5 := hw.trans (hK5.below (B := w0.heap.size) hq (Nat.le_of_lt hqw))
  go_wp2_with fail
  refine (cN.out _ hB5).mono ?_
  rintro r w6 ⟨rfl, hb6⟩
  have W6 : Hid (WK w6 q N1 M1 E2) := W5.out.below hb6
  have B6 : Hid (_) := blkB B5.out hb6
  have hK6 : KeepT q w w6 := hK5.trans (KeepT.of hb6)
  clear hb6 e0 e1 e2 e3 e4 e5 e6 e7 e8 e9 hB5 B5 W5 hK5 cN
  obtain ⟨E3, hE3⟩ : ∃ E, Hid (wrE (!(FB && GB)) 1 E2 = E) := ⟨_, rfl⟩
  rw [hE3.out] at HD2
  cases FB with
  | false =>
    have h3n : ¬ E3 = 0 := by rw [← hE3.out]; exact wrE_ne (by decide)
    go_wp2_with fail
    refine (rwrong_any q N1 M1 _ 1 _ w6 W6.out).mono ?_
    rintro r w7 ⟨⟨v7, rfl⟩, h7⟩
    have W7 : Hid (WK w7 q N1 M1 E3) := by have a := h7.out.1; have b := hE3.out; first | (rw [b] at a; exact a) | (rw [← b]; exact a)
    have B7 : Hid (_) := h7.out.2.heap B6.out hne
    have hK7 : KeepT q w w7 := hK6.trans h7.out.2.keep
    clear h7 B6 W6 hK6
    have e3 : w7.cell? ⟨w.heap.size, 3, none⟩ = some (.slice pv nv cv) := by rw [Lib.cell_of_heap B7.out]; rfl
    have hB7 : Below w0.heap.size w0 w7 := hw.trans (hK7.below (B := w0.heap.size) hq (Nat.le_of_lt hqw))
    go_wp2_with fail
    refine (cW.out _ hB7).mono ?_
    rintro r w8 ⟨rfl, hb8⟩
    have W8 : Hid (WK w8 q N1 M1 E3) := W7.out.below hb8
    have B8 : Hid (_) := blkB B7.out hb8
    have hK8 : KeepT q w w8 := hK7.trans (KeepT.of hb8)
    clear hb8 e3 hB7 B7 W7 hK7 cW
    have e0 : w8.cell? ⟨w.heap.size, 0, none⟩ = some (.int .i64 tk) := by rw [Lib.cell_of_heap B8.out]; rfl
    have e3 : w8.cell? ⟨w.heap.size, 3, none⟩ = some (.slice pv nv cv) := by rw [Lib.cell_of_heap B8.out]; rfl
    have e1 : w8.cell? ⟨w.heap.size, 1, none⟩ = some (.string nm) := by rw [Lib.cell_of_heap B8.out]; rfl
    cases RB with
    | true =>
      go_wp2_with fail
      refine (rwrong_any q N1 M1 _ 30 _ _ W8.out).mono ?_
      rintro r w9 ⟨⟨v9, rfl⟩, h9⟩
      have W9 : Hid (WK w9 q N1 M1 FE) := by have a := h9.out.1; have b := HD2.out; rw [show (true || (decide (tk = 19) && CB)) = true by simp [k19']] at b; rw [b] at a; exact a
      have B9 : Hid (_) := h9.out.2.heap B8.out hne
      have hK9 : KeepT q w w9 := hK8.trans h9.out.2.keep
      have y2 : w9.cell? ⟨q, 2, none⟩ = some (.int .i64 FE) := W9.out.e
      clear h9 e0 e1 e3
      have tn : ¬ FE = 0 := by have h := HD2.out; rw [← h]; exact wrE_ne (by decide)
      have tn' : (FE == 0) = false := by simpa using tn
      have tn'' : (FE != 0) = true := by simpa using tn
      go_wp2
      refine bodyPost_ret (results_none rfl _ _ _) rfl ?_
      exact ⟨⟨_, rfl⟩, hK9, HNo.out tn _ W9.out⟩
    | false =>
      go_wp2_with fail
      refine (rwrong_any q N1 M1 _ 30 _ _ W8.out).mono ?_
      rintro r w9 ⟨⟨v9, rfl⟩, h9⟩
      have W9 : Hid (WK w9 q N1 M1 FE) := by have a := h9.out.1; have b := HD2.out; rw [show (false || (decide (tk = 19) && CB)) = false by simp [k19']] at b; rw [b] at a; exact a
      have B9 : Hid (_) := h9.out.2.heap B8.out hne
      have hK9 : KeepT q w w9 := hK8.trans h9.out.2.keep
      have y2 : w9.cell? ⟨q, 2, none⟩ = some (.int .i64 FE) := W9.out.e
      clear h9 e0 e1 e3
      have tn : ¬ FE = 0 := by have h := HD2.out; rw [← h]; exact wrE_keep h3n
      have tn' : (FE == 0) = false := by simpa using tn
      have tn'' : (FE != 0) = true := by simpa using tn
      go_wp2
      refine bodyPost_ret (results_none rfl _ _ _) rfl ?_
      exact ⟨⟨_, rfl⟩, hK9, HNo.out tn _ W9.out⟩
  | true =>
    go_wp2_with fail
    refine (rwrong_any q N1 M1 _ 1 _ w6 W6.out).mono ?_
    rintro r w7 ⟨⟨v7, rfl⟩, h7⟩
    have W7 : Hid (WK w7 q N1 M1 E3) := by have a := h7.out.1; have b := hE3.out; first | (rw [b] at a; exact a) | (rw [← b]; exact a)
    have B7 : Hid (_) := h7.out.2.heap B6.out hne
    have hK7 : KeepT q w w7 := hK6.trans h7.out.2.keep
    clear h7 B6 W6 hK6
    have e3 : w7.cell? ⟨w.heap.size, 3, none⟩ = some (.slice pv nv cv) := by rw [Lib.cell_of_heap B7.out]; rfl
    have hB7 : Below w0.heap.size w0 w7 := hw.trans (hK7.below (B := w0.heap.size) hq (Nat.le_of_lt hqw))
    go_wp2_with fail
    refine (cW.out _ hB7).mono ?_
    rintro r w8 ⟨rfl, hb8⟩
    have W8 : Hid (WK w8 q N1 M1 E3) := W7.out.below hb8
    have B8 : Hid (_) := blkB B7.out hb8
    have hK8 : KeepT q w w8 := hK7.trans (KeepT.of hb8)
    clear hb8 e3 hB7 B7 W7 hK7 cW
    have e0 : w8.cell? ⟨w.heap.size, 0, none⟩ = some (.int .i64 tk) := by rw [Lib.cell_of_heap B8.out]; rfl
    have e3 : w8.cell? ⟨w.heap.size, 3, none⟩ = some (.slice pv nv cv) := by rw [Lib.cell_of_heap B8.out]; rfl
    have e1 : w8.cell? ⟨w.heap.size, 1, none⟩ = some (.string nm) := by rw [Lib.cell_of_heap B8.out]; rfl
    cases RB with
    | true =>
      go_wp2_with fail
      refine (rwrong_any q N1 M1 _ 30 _ _ W8.out).mono ?_
      rintro r w9 ⟨⟨v9, rfl⟩, h9⟩
      have W9 : Hid (WK w9 q N1 M1 FE) := by have a := h9.out.1; have b := HD2.out; rw [show (true || (decide (tk = 19) && CB)) = true by simp [k19']] at b; rw [b] at a; exact a
      have B9 : Hid (_) := h9.out.2.heap B8.out hne
      have hK9 : KeepT q w w9 := hK8.trans h9.out.2.keep
      have y2 : w9.cell? ⟨q, 2, none⟩ = some (.int .i64 FE) := W9.out.e
      clear h9 e0 e1 e3
      have tn : ¬ FE = 0 := by have h := HD2.out; rw [← h]; exact wrE_ne (by decide)
      have tn' : (FE == 0) = false := by simpa using tn
      have tn'' : (FE != 0) = true := by simpa using tn
      go_wp2
      refine bodyPost_ret (results_none rfl _ _ _) rfl ?_
      exact ⟨⟨_, rfl⟩, hK9, HNo.out tn _ W9.out⟩
    | false =>
      go_wp2_with fail
      refine (rwrong_any q N1 M1 _ 30 _ _ W8.out).mono ?_
      rintro r w9 ⟨⟨v9, rfl⟩, h9⟩
      have W9 : Hid (WK w9 q N1 M1 FE) := by have a := h9.out.1; have b := HD2.out; rw [show (false || (decide (tk = 19) && CB)) = false by simp [k19']] at b; rw [b] at a; exact a
      have B9 : Hid (_) := h9.out.2.heap B8.out hne
      have hK9 : KeepT q w w9 := hK8.trans h9.out.2.keep
      have y2 : w9.cell? ⟨q, 2, none⟩ = some (.int .i64 FE) := W9.out.e
      clear h9 e0 e1 e3
      by_cases hz : FE = 0
      case neg =>
        have tn' : (FE == 0) = false := by simpa using hz
        have tn'' : (FE != 0) = true := by simpa using hz
        go_wp2
        refine bodyPost_ret (results_none rfl _ _ _) rfl ?_
        exact ⟨⟨_, rfl⟩, hK9, HNo.out hz _ W9.out⟩
      subst hz
      have S9 : Hid (WS w9 q R (fun s1 => andT (truns (d + 1) s1 f.terms) fun s2 => andT (rruns (d + 1) s2 f.rgx) fun s3 => andT (fruns (d + 1) s3 f.subs) F)) := WS.of W9.out HOk.out (by have h := HR1.out; rw [andT_eq] at h; exact h)
      clear HD2 HR1 HNo hE3
      go_wp2
      go_loopw [12] (fun v wr => ∃ k : Nat, k ≤ nt ∧ v = .int .i64 k ∧ KeepT q w9 wr ∧ Hid (WS wr q R (fun s => andT (truns (d + 1) s (f.terms.drop k)) (fun s2 => andT (rruns (d + 1) s2 f.rgx) fun s3 => andT (fruns (d + 1) s3 f.subs) F)))) (fun v _ => nt - (intOf v).toNat)
      case atStart => exact ⟨0, Nat.zero_le _, rfl, KeepT.refl _ _, by rw [List.drop_zero]; exact S9⟩
      case round =>
        obtain ⟨k, hk, rfl, hKr, hSr⟩ := hrel
        have Br : Hid (_) := (hKr.block w.heap.size (lt_heap B9.out) hne).trans B9.out
        have r6 : wr.cell? ⟨w.heap.size, 4, none⟩ = some (.slice pt nt ct) := by rw [Lib.cell_of_heap Br.out]; rfl
        by_cases hlt : k < nt
        case neg =>
          have c2 : ¬ (k : Int) < nt := by omega
          obtain ⟨w10, ew⟩ : ∃ W : World, W = wr := ⟨_, rfl⟩
          subst ew
          have S10 : Hid (WS w10 q R (fun s2 => andT (rruns (d + 1) s2 f.rgx) fun s3 => andT (fruns (d + 1) s3 f.subs) F)) := hSr.out.cast (fun s => by rw [List.drop_eq_nil_of_le (by have := ent.out; omega), truns_nil]; exact andT_eq)
          have hK10 : KeepT q w w10 := hK9.trans hKr
          have B10 : Hid (_) := Br.out
          clear hSr hKr Br
          go_wp2
          clear r6 c2 hk hlt
          go_loopw [13] (fun v wr => ∃ k : Nat, k ≤ nr ∧ v = .int .i64 k ∧ KeepT q w10 wr ∧ Hid (WS wr q R (fun s => andT (rruns (d + 1) s (f.rgx.drop k)) (fun s3 => andT (fruns (d + 1) s3 f.subs) F)))) (fun v _ => nr - (intOf v).toNat)
          case atStart => exact ⟨0, Nat.zero_le _, rfl, KeepT.refl _ _, by rw [List.drop_zero]; exact S10⟩
          case round =>
            obtain ⟨k, hk, rfl, hKr, hSr⟩ := hrel
            have Br : Hid (_) := (hKr.block w.heap.size (lt_heap B10.out) hne).trans B10.out
            have r6 : wr.cell? ⟨w.heap.size, 9, none⟩ = some (.slice pr nr cr) := by rw [Lib.cell_of_heap Br.out]; rfl
            by_cases hlt : k < nr
            case neg =>
              have c2 : ¬ (k : Int) < nr := by omega
              obtain ⟨w11, ew⟩ : ∃ W : World, W = wr := ⟨_, rfl⟩
              subst ew
              have S11 : Hid (WS w11 q R (fun s3 => andT (fruns (d + 1) s3 f.subs) F)) := hSr.out.cast (fun s => by rw [List.drop_eq_nil_of_le (by have := enr.out; omega), rruns_nil]; exact andT_eq)
              have hK11 : KeepT q w w11 := hK10.trans hKr
              have B11 : Hid (_) := Br.out
              clear hSr hKr Br
              go_wp2
              clear r6 c2 hk hlt
              go_loopw [14] (fun v wr => ∃ k : Nat, k ≤ ns ∧ v = .int .i64 k ∧ KeepT q w11 wr ∧ Hid (WS wr q R (fun s => andT (fruns (d + 1) s (f.subs.drop k)) F))) (fun v _ => ns - (intOf v).toNat)
              case atStart => exact ⟨0, Nat.zero_le _, rfl, KeepT.refl _ _, by rw [List.drop_zero]; exact S11⟩
              case round =>
                obtain ⟨k, hk, rfl, hKr, hSr⟩ := hrel
                have Br : Hid (_) := (hKr.block w.heap.size (lt_heap B11.out) hne).trans B11.out
                have r6 : wr.cell? ⟨w.heap.size, 8, none⟩ = some (.slice ps ns cs) := by rw [Lib.cell_of_heap Br.out]; rfl
                by_cases hlt : k < ns
                case neg =>
                  have c2 : ¬ (k : Int) < ns := by omega
                  have S12 : Hid (WS wr q R F) := hSr.out.cast (fun s => by rw [List.drop_eq_nil_of_le (by have := ens.out; omega), fruns_nil]; exact andT_eq)
                  have hK12 : KeepT q w wr := hK11.trans hKr
                  go_wp2
                  go_end0
                  exact ⟨⟨_, rfl⟩, hK12, S12.out⟩
                have hlt' : (k : Int) < ns := by omega
                have kx : k < f.subs.length := by have := ens.out; omega
                obtain ⟨b, off, u1, u2, u3, u4, rfl, hb, TC, N1t, N2t, N3t, N4t⟩ := HXF.out k kx
                have hBr : Below w0.heap.size w0 wr := hw.trans ((hK11.trans hKr).below (B := w0.heap.size) hq (Nat.le_of_lt hqw))
                obtain ⟨a0, a1, a2, a3, a4, a5, a6, a7, a8, a9⟩ := TC.below hBr hb
                have wk := CF.out k kx ⟨u1, u2, u3, u4⟩ ⟨N1t, N2t, N3t, N4t⟩
                have cW := wk wr R (fun s1 => andT (fruns (d + 1) s1 (f.subs.drop (k + 1))) F) hBr (hSr.out.cast (fun s => by rw [List.drop_eq_getElem_cons kx, fruns_and]))
                have HcW : Hid (Calls Tryz.prog 30 #[.pointer (some ⟨q, 0, none⟩), .agg #[.int .i64 f.subs[k].k, .string f.subs[k].nm, .int .i64 f.subs[k].op, u1, u2, .int .i64 f.subs[k].lo, .int .i64 f.subs[k].hi, .bool f.subs[k].opn, u3, u4], .int .i64 (d + 1)] wr fun e9 w' => (∃ v, e9 = .returned v) ∧ Hid (KeepT q wr w' ∧ WS w' q R (fun s1 => andT (fruns (d + 1) s1 (f.subs.drop (k + 1))) F))) := cW
                obtain ⟨-, p1, c1, rfl, -⟩ := N1t
                obtain ⟨p2, c2, rfl, -⟩ := N2t.form
                obtain ⟨p3, c3, rfl, -⟩ := N3t.form
                obtain ⟨p4, c4, rfl, -⟩ := N4t.form
                clear TC hSr wk cW N2t N3t N4t
                generalize f.subs[k].k = X0 at *
                generalize f.subs[k].nm = X1 at *
                generalize f.subs[k].op = X2 at *
                generalize f.subs[k].lo = X3 at *
                generalize f.subs[k].hi = X4 at *
                generalize f.subs[k].opn = X5 at *
                generalize f.subs[k].vars.length = L1 at *
                generalize f.subs[k].terms.length = L2 at *
                generalize f.subs[k].subs.length = L3 at *
                generalize f.subs[k].rgx.length = L4 at *
                have nw : IntKind.i64.wrap (d + 1) = d + 1 := by rw [IntKind.wrap_i64]; omega
                have nw2 : wrap64 (d + 1) = d + 1 := by unfold wrap64; omega
                go_wp2_with fail
                refine HcW.out.mono ?_
                rintro r w6 ⟨⟨v6, rfl⟩, h6⟩
                have hK6 : KeepT q w11 w6 := hKr.trans h6.out.1
                have HS6 : Hid (_) := h6.out.2
                clear h6 HcW
                go_wp2
                exact ⟨⟨k + 1, by omega, by go_num, hK6, HS6.out⟩, by simp [intOf]; omega⟩
            have hlt' : (k : Int) < nr := by omega
            have kx : k < f.rgx.length := by have := enr.out; omega
            obtain ⟨b, off, u1, u2, rfl, hb, TC, N1t, N2t⟩ := HXR.out k kx
            have hBr : Below w0.heap.size w0 wr := hw.trans ((hK10.trans hKr).below (B := w0.heap.size) hq (Nat.le_of_lt hqw))
            obtain ⟨a0, a1, a2⟩ := TC.below hBr hb
            have wk := CR.out k kx u1 u2 N1t N2t
            have cW := wk wr R (fun s1 => andT (rruns (d + 1) s1 (f.rgx.drop (k + 1))) (fun s3 => andT (fruns (d + 1) s3 f.subs) F)) hBr (hSr.out.cast (fun s => by rw [List.drop_eq_getElem_cons kx, rruns_and]))
            have HcW : Hid (Calls Tryz.prog 59 #[.pointer (some ⟨q, 0, none⟩), .agg #[.int .i64 f.rgx[k].k, u1, u2], .int .i64 (d + 1)] wr fun e9 w' => (∃ v, e9 = .returned v) ∧ Hid (KeepT q wr w' ∧ WS w' q R (fun s1 => andT (rruns (d + 1) s1 (f.rgx.drop (k + 1))) (fun s3 => andT (fruns (d + 1) s3 f.subs) F)))) := cW
            obtain ⟨p1, c1, rfl, -⟩ := N1t.form
            obtain ⟨p2, c2, rfl, -⟩ := N2t.form
            clear TC hSr wk cW N1t N2t
            generalize f.rgx[k].k = X0 at *
            generalize f.rgx[k].test.length = L1 at *
            generalize f.rgx[k].subs.length = L2 at *
            have nw : IntKind.i64.wrap (d + 1) = d + 1 := by rw [IntKind.wrap_i64]; omega
            have nw2 : wrap64 (d + 1) = d + 1 := by unfold wrap64; omega
            go_wp2_with fail
            refine HcW.out.mono ?_
            rintro r w6 ⟨⟨v6, rfl⟩, h6⟩
            have hK6 : KeepT q w10 w6 := hKr.trans h6.out.1
            have HS6 : Hid (_) := h6.out.2
            clear h6 HcW
            go_wp2
            exact ⟨⟨k + 1, by omega, by go_num, hK6, HS6.out⟩, by simp [intOf]; omega⟩
        have hlt' : (k : Int) < nt := by omega
        have kx : k < f.terms.length := by have := ent.out; omega
        obtain ⟨b, off, u, rfl, hb, TC, TS, TF⟩ := HXT.out k kx
        have hBr : Below w0.heap.size w0 wr := hw.trans ((hK9.trans hKr).below (B := w0.heap.size) hq (Nat.le_of_lt hqw))
        obtain ⟨a0, a1, a2, a3, a4, a5, a6⟩ := TC.below hBr hb
        have wk := CT.out k kx u TS TF
        have cW := wk wr R (fun s1 => andT (truns (d + 1) s1 (f.terms.drop (k + 1))) (fun s2 => andT (rruns (d + 1) s2 f.rgx) fun s3 => andT (fruns (d + 1) s3 f.subs) F)) hBr (hSr.out.cast (fun s => by rw [List.drop_eq_getElem_cons kx, truns_and]))
        have HcW : Hid (Calls Tryz.prog 58 #[.pointer (some ⟨q, 0, none⟩), .agg #[.int .i64 f.terms[k].k, .string f.terms[k].nm, .int .i64 f.terms[k].v.k, .int .i64 f.terms[k].v.n, .int .i64 f.terms[k].v.d, .string f.terms[k].v.s, u], .int .i64 (d + 1)] wr fun e9 w' => (∃ v, e9 = .returned v) ∧ Hid (KeepT q wr w' ∧ WS w' q R (fun s1 => andT (truns (d + 1) s1 (f.terms.drop (k + 1))) (fun s2 => andT (rruns (d + 1) s2 f.rgx) fun s3 => andT (fruns (d + 1) s3 f.subs) F)))) := cW
        clear TC hSr wk cW TS TF
        generalize f.terms[k].k = X0 at *
        generalize f.terms[k].nm = X1 at *
        generalize f.terms[k].v.k = X2 at *
        generalize f.terms[k].v.n = X3 at *
        generalize f.terms[k].v.d = X4 at *
        generalize f.terms[k].v.s = X5 at *
        have nw : IntKind.i64.wrap (d + 1) = d + 1 := by rw [IntKind.wrap_i64]; omega
        have nw2 : wrap64 (d + 1) = d + 1 := by unfold wrap64; omega
        go_wp2_with fail
        refine HcW.out.mono ?_
        rintro r w6 ⟨⟨v6, rfl⟩, h6⟩
        have hK6 : KeepT q w9 w6 := hKr.trans h6.out.1
        have HS6 : Hid (_) := h6.out.2
        clear h6 HcW
        go_wp2
        exact ⟨⟨k + 1, by omega, by go_num, hK6, HS6.out⟩, by simp [intOf]; omega⟩
end Go.Proofs.YtfajjphfjilpnaaGreat

namespace Go.Proofs.YtfajjphfjilpnaaGreat
open Go.RowKit LX Go.Shelf
set_option linter.unusedVariables false

set_option maxRecDepth 100000 in
set_option maxHeartbeats 8000000 in
theorem rformula_cD (w0 : World) (q : Nat) (hq : w0.heap.size ≤ q) (f : Fm) (uv ut us ur : Value) (hQ : QAt w0 (f, ⟨uv, ut, us, ur⟩)) (d : Int) (hd0 : 0 ≤ d) (hd1 : d ≤ 25)
    (IT : d ≤ 24 → ∀ (i : Nat) (hi : i < f.terms.length) (u : Value), TmsAt w0 u f.terms[i].subs → f.terms[i].v.Fits → Walks w0 q 58 (.agg #[.int .i64 f.terms[i].k, .string f.terms[i].nm, .int .i64 f.terms[i].v.k, .int .i64 f.terms[i].v.n, .int .i64 f.terms[i].v.d, .string f.terms[i].v.s, u]) (d + 1) (fun s => trun (d + 1) s f.terms[i]))
    (IR : d ≤ 24 → ∀ (i : Nat) (hi : i < f.rgx.length) (u1 u2 : Value), FmsAt w0 u1 f.rgx[i].test → RxsAt w0 u2 f.rgx[i].subs → Walks w0 q 59 (.agg #[.int .i64 f.rgx[i].k, u1, u2]) (d + 1) (fun s => rrun (d + 1) s f.rgx[i]))
    (IF : d ≤ 24 → ∀ (i : Nat) (hi : i < f.subs.length) (y : FQ), QAt w0 (f.subs[i], y) → Walks w0 q 30 (.agg #[.int .i64 f.subs[i].k, .string f.subs[i].nm, .int .i64 f.subs[i].op, y.v, y.t, .int .i64 f.subs[i].lo, .int .i64 f.subs[i].hi, .bool f.subs[i].opn, y.s, y.r]) (d + 1) (fun s => frun (d + 1) s f.subs[i]))
    (hk : f.k = 19) (N M : Int) (w : World) (R : Int × (Int × Int)) (F : Int × Int → Int × (Int × Int)) (hw : Below w0.heap.size w0 w) (hK : WK w q N M 0) (ho : OkS (N, M)) (hR : R = andT (frun d (N, M) f) F) :
    Calls Tryz.prog 30 #[.pointer (some ⟨q, 0, none⟩), .agg #[.int .i64 f.k, .string f.nm, .int .i64 f.op, uv, ut, .int .i64 f.lo, .int .i64 f.hi, .bool f.opn, us, ur], .int .i64 d] w fun r w' => (∃ v, r = .returned v) ∧ Hid (KeepT q w w' ∧ WS w' q R F) := by
  obtain ⟨hv, ht, hs, hr⟩ := hQ
  dsimp only at hv ht hs hr
  have HV : Hid (NmsAt w0 uv f.vars) := hv
  obtain ⟨pv, cv, rfl, hlv, hcv, HXV0⟩ := hv.form
  have HXV : Hid (_) := HXV0
  obtain ⟨pt, ct, rfl, hlt0, hct, HXT0⟩ := ht.form
  have HXT : Hid (∀ i (hi : i < f.terms.length), ∃ b off u, pt = some ⟨b, off, none⟩ ∧ b < w0.heap.size ∧ TmC w0 b (off + i * 7) f.terms[i] u ∧ TmsAt w0 u f.terms[i].subs ∧ f.terms[i].v.Fits) := HXT0
  obtain ⟨ps, cs, rfl, hls, hcs, HXF0⟩ := hs.form
  have HXF : Hid (∀ i (hi : i < f.subs.length), ∃ b off uv ut us ur, ps = some ⟨b, off, none⟩ ∧ b < w0.heap.size ∧ FmC w0 b (off + i * 10) f.subs[i] uv ut us ur ∧ NmsAt w0 uv f.subs[i].vars ∧ TmsAt w0 ut f.subs[i].terms ∧ FmsAt w0 us f.subs[i].subs ∧ RxsAt w0 ur f.subs[i].rgx) := HXF0
  obtain ⟨pr, cr, rfl, hlr, hcr, HXR0⟩ := hr.form
  have HXR : Hid (∀ i (hi : i < f.rgx.length), ∃ b off ut us, pr = some ⟨b, off, none⟩ ∧ b < w0.heap.size ∧ RxC w0 b (off + i * 3) f.rgx[i] ut us ∧ FmsAt w0 ut f.rgx[i].test ∧ RxsAt w0 us f.rgx[i].subs) := HXR0
  have HD : Hid (_) := doc_fmE f hls
  have HW : Hid (WK w q N M 0) := hK
  have HO : Hid (OkS (N, M)) := ho
  have hqw : q < w.heap.size := hK.lt
  have HR0 : Hid (R = andT (meetE d (N, M), meetS d (N, M)) fun s1 => andT (fmE f, s1) fun s1 => andT (truns (d + 1) s1 f.terms) fun s2 => andT (rruns (d + 1) s2 f.rgx) fun s3 => andT (fruns (d + 1) s3 f.subs) F) := by
    have h := hR
    rw [frun_eq] at h
    simp only [andT_assoc] at h
    exact h
  have cM : Hid (∀ W : World, Calls Tryz.prog 53 #[.agg #[.int .i64 f.k, .string f.nm, .int .i64 f.op, .slice pv f.vars.length cv, .slice pt f.terms.length ct, .int .i64 f.lo, .int .i64 f.hi, .bool f.opn, .slice ps f.subs.length cs, .slice pr f.rgx.length cr]] W fun r w' => r = .returned (.bool (manyB f.k f.vars.length f.terms.length)) ∧ Below W.heap.size W w') := fun W => rmany_any f.k f.op f.lo f.hi f.nm f.opn pv pt ps pr f.vars.length cv f.terms.length ct f.subs.length cs f.rgx.length cr W
  have cF : Hid (∀ W : World, Calls Tryz.prog 54 #[.agg #[.int .i64 f.k, .string f.nm, .int .i64 f.op, .slice pv f.vars.length cv, .slice pt f.terms.length ct, .int .i64 f.lo, .int .i64 f.hi, .bool f.opn, .slice ps f.subs.length cs, .slice pr f.rgx.length cr]] W fun r w' => r = .returned (.bool (formB (usO f.k) f.nm f.op f.lo f.hi f.opn f.vars.length f.terms.length f.subs.length f.rgx.length)) ∧ Below W.heap.size W w') := fun W => rform_any f.k f.op f.lo f.hi f.nm f.opn pv pt ps pr f.vars.length cv f.terms.length ct f.subs.length cs f.rgx.length cr W
  have cN : Hid (∀ W : World, Below w0.heap.size w0 W → Calls Tryz.prog 55 #[.agg #[.int .i64 f.k, .string f.nm, .int .i64 f.op, .slice pv f.vars.length cv, .slice pt f.terms.length ct, .int .i64 f.lo, .int .i64 f.hi, .bool f.opn, .slice ps f.subs.length cs, .slice pr f.rgx.length cr]] W fun r w' => r = .returned (.bool (namedB (usO f.k) f.nm f.vars f.lo f.hi f.opn)) ∧ Below W.heap.size W w') := fun W hW => rnamed_any f.k f.op f.lo f.hi f.nm f.opn f.vars pv pt ps pr f.vars.length cv f.terms.length ct f.subs.length cs f.rgx.length cr W (HV.out.below hW)
  have cW : Hid (∀ W : World, Below w0.heap.size w0 W → Calls Tryz.prog 56 #[.slice pv f.vars.length cv] W fun r w' => r = .returned (.bool (repN [] f.vars)) ∧ Below W.heap.size W w') := fun W hW => rtwice_any _ f.vars W (HV.out.below hW)
  have h19 : Hid (formB (usO f.k) f.nm f.op f.lo f.hi f.opn f.vars.length f.terms.length f.subs.length f.rgx.length = true → 1 ≤ f.vars.length) := by
    intro h
    rw [hk] at h
    have e : (usO 19).v = -1 := by decide
    unfold formB at h
    rw [e] at h
    simp only [Bool.and_eq_true] at h
    have h2 := h.2.2.2.1
    unfold soB at h2
    simp at h2
    omega
  clear hv ht hs hr HXV0 HXT0 HXF0 HXR0 hK ho hR
  have HE : Hid (ndE d N = meetE d (N, M)) := nd_meet (s := (N, M)) HO.out
  have CT0 : Hid (_) := IT
  have CR0 : Hid (_) := IR
  have CF0 : Hid (_) := IF
  clear IT IR IF
  obtain ⟨FE, hFE⟩ : ∃ FE, Hid (fmE f = FE) := ⟨_, rfl⟩
  rw [hFE.out] at HR0 HD
  clear hFE
  obtain ⟨nv, env⟩ : ∃ n : Nat, Hid (f.vars.length = n) := ⟨_, rfl⟩
  obtain ⟨nt, ent⟩ : ∃ n : Nat, Hid (f.terms.length = n) := ⟨_, rfl⟩
  obtain ⟨ns, ens⟩ : ∃ n : Nat, Hid (f.subs.length = n) := ⟨_, rfl⟩
  obtain ⟨nr, enr⟩ : ∃ n : Nat, Hid (f.rgx.length = n) := ⟨_, rfl⟩
  rw [env.out] at cM cF cN cW hlv hcv HD h19 ⊢
  rw [ent.out] at cM cF cN hlt0 hct HD h19 ⊢
  rw [ens.out] at cM cF cN hls hcs HD h19 ⊢
  rw [enr.out] at cM cF cN hlr hcr HD h19 ⊢
  generalize formB (usO f.k) f.nm f.op f.lo f.hi f.opn nv nt ns nr = FB at *
  generalize namedB (usO f.k) f.nm f.vars f.lo f.hi f.opn = GB at *
  generalize manyB f.k nv nt = MB at *
  generalize repN [] f.vars = RB at *
  generalize hCB : Lib.containsS (f.vars.drop 1) f.nm = CB at *
  have HCB : Hid (Lib.containsS (f.vars.drop 1) f.nm = CB) := hCB
  clear hCB
  generalize f.nm = nm at *
  generalize f.lo = lo at *
  generalize f.hi = hi at *
  generalize f.opn = o at *
  generalize f.op = op at *
  generalize f.k = tk at *
  subst hk
  have hne : w.heap.size ≠ q := by omega
  go_enter Tryz.func30, Tryz.ntmps30
  go_wp2_with fail
  refine (rnode_any q N M d _ (HW.out.alloc _) ⟨HO.out.1, by have := HO.out.2.1; simp at this; omega⟩).mono ?_
  rintro r w1 ⟨rfl, h1⟩
  have hK1 : KeepT q w w1 := (KeepT.of ((Below.refl _ _).alloc (Nat.le_refl _) _)).trans h1.out.2.keep
  have W1 : Hid (WK w1 q (N + 1) (if M < d then d else M) (ndE d N)) := h1.out.1
  have B1 : Hid (w1.heap[w.heap.size]? = some (.cells #[.int .i64 19, .string nm, .int .i64 op, .slice pv nv cv, .slice pt nt ct, .int .i64 lo, .int .i64 hi, .bool o, .slice ps ns cs, .slice pr nr cr] 29 (0, 0))) := (h1.out.2.block w.heap.size (by simp) hne).trans (heap_allocA w _)
  clear h1
  by_cases hE : ndE d N = 0
  case neg =>
    have hE' : (ndE d N == 0) = false := by simpa using hE
    rw [hE']
    go_wp2
    refine bodyPost_ret (results_none rfl _ _ _) rfl ?_
    refine ⟨⟨_, rfl⟩, hK1, _, _, _, W1.out, fun e => absurd e hE, fun _ => ?_⟩
    have h := HR0.out
    rw [← HE.out] at h
    rw [h, andT_ne hE]
  have hE' : (ndE d N == 0) = true := by simpa using hE
  rw [hE']
  obtain ⟨N1, hN1⟩ : ∃ N1, Hid (N + 1 = N1) := ⟨_, rfl⟩
  obtain ⟨M1, hM1⟩ : ∃ M1, Hid ((if M < d then d else M) = M1) := ⟨_, rfl⟩
  have W1' : Hid (WK w1 q N1 M1 0) := by have h := W1.out; rw [hE, hN1.out, hM1.out] at h; exact h
  clear W1
  have hmS : Hid (meetS d (N, M) = (N1, M1)) := by
    have e : meetE d (N, M) = 0 := by rw [← HE.out]; exact hE
    unfold meetS
    rw [if_pos e, ← hN1.out, ← hM1.out, Int.max_def]
    show (N + 1, if M ≤ d then d else M) = (N + 1, if M < d then d else M)
    congr 1
    by_cases h : M < d
    · rw [if_pos h, if_pos (by omega)]
    · rw [if_neg h]; split <;> omega
  have HR1 : Hid (R = andT (FE, (N1, M1)) fun s1 => andT (truns (d + 1) s1 f.terms) fun s2 => andT (rruns (d + 1) s2 f.rgx) fun s3 => andT (fruns (d + 1) s3 f.subs) F) := by
    have h := HR0.out
    rw [← HE.out, hE, andT_eq, hmS.out] at h
    exact h
  have hd24 : d ≤ 24 := meetE_le (s := (N, M)) (by rw [← HE.out]; exact hE)
  have HOk : Hid (OkS (N1, M1)) := by rw [← hmS.out]; exact meetS_ok HO.out hd0
  have CT := CT0.out hd24
  have CR := CR0.out hd24
  have CF := CF0.out hd24
  have CT : Hid (_) := CT
  have CR : Hid (_) := CR
  have CF : Hid (_) := CF
  clear HR0 HE hE hE' hN1 hM1 hmS CT0 CR0 CF0
  have HNo : Hid (¬ FE = 0 → ∀ W : World, WK W q N1 M1 FE → WS W q R F) := by
    intro h W hW
    have hr := HR1.out
    rw [andT_ne h] at hr
    exact ⟨_, _, _, hW, fun e => absurd e h, fun _ => by rw [hr]⟩
  have e0 : w1.cell? ⟨w.heap.size, 0, none⟩ = some (.int .i64 19) := by rw [Lib.cell_of_heap B1.out]; rfl
  go_wp2_with fail
  refine (rwrong_any q N1 M1 0 20 _ w1 W1'.out).mono ?_
  rintro r w2 ⟨⟨v2, rfl⟩, h2⟩
  have W2 : Hid (WK w2 q N1 M1 0) := by have a := h2.out.1; first | exact a | (simp [wrE] at a; exact a)
  have B2 : Hid (_) := h2.out.2.heap B1.out hne
  have hK2 : KeepT q w w2 := hK1.trans h2.out.2.keep
  clear h2 e0 B1 hK1 W1'
  obtain ⟨e0, e1, e2, e3, e4, e5, e6, e7, e8, e9⟩ := box10 B2.out
  have hB2 : Below w0.heap.size w0 w2 := hw.trans (hK2.below (B := w0.heap.size) hq (Nat.le_of_lt hqw))
  go_wp2_with fail
  refine (cM.out _).mono ?_
  rintro r w3 ⟨rfl, hb3⟩
  have W3 : Hid (WK w3 q N1 M1 0) := W2.out.below hb3
  have B3 : Hid (_) := blkB B2.out hb3
  have hK3 : KeepT q w w3 := hK2.trans (KeepT.of hb3)
  clear hb3 e0 e1 e2 e3 e4 e5 e6 e7 e8 e9 hB2 B2 W2 hK2 cM
  obtain ⟨E2, hE2⟩ : ∃ E, Hid (wrE MB 3 0 = E) := ⟨_, rfl⟩
  go_wp2_with fail
  refine (rwrong_any q N1 M1 _ 3 MB w3 W3.out).mono ?_
  rintro r w4 ⟨⟨v4, rfl⟩, h4⟩
  have W4 : Hid (WK w4 q N1 M1 E2) := by have a := h4.out.1; rw [hE2.out] at a; exact a
  have B4 : Hid (_) := h4.out.2.heap B3.out hne
  have hK4 : KeepT q w w4 := hK3.trans h4.out.2.keep
  have HD2 : Hid (wrE (RB || CB) 30 (wrE (!(FB && GB)) 1 E2) = FE) := by
    have h := HD.out
    simp only [decide_true, Bool.true_and] at h
    rw [← hE2.out]
    exact h
  clear h4 B3 W3 hK3 HD
  obtain ⟨e0, e1, e2, e3, e4, e5, e6, e7, e8, e9⟩ := box10 B4.out
  have hB4 : Below w0.heap.size w0 w4 := hw.trans (hK4.below (B := w0.heap.size) hq (Nat.le_of_lt hqw))
  go_wp2_with fail
  refine (cF.out _).mono ?_
  rintro r w5 ⟨rfl, hb5⟩
  have W5 : Hid (WK w5 q N1 M1 E2) := W4.out.below hb5
  have B5 : Hid (_) := blkB B4.out hb5
  have hK5 : KeepT q w w5 := hK4.trans (KeepT.of hb5)
  clear hb5 e0 e1 e2 e3 e4 e5 e6 e7 e8 e9 hB4 B4 W4 hK4 cF
  obtain ⟨e0, e1, e2, e3, e4, e5, e6, e7, e8, e9⟩ := box10 B5.out
  have hB5 : Below w0.heap.size w0 w5 := hw.trans (hK5.below (B := w0.heap.size) hq (Nat.le_of_lt hqw))
  go_wp2_with fail
  refine (cN.out _ hB5).mono ?_
  rintro r w6 ⟨rfl, hb6⟩
  have W6 : Hid (WK w6 q N1 M1 E2) := W5.out.below hb6
  have B6 : Hid (_) := blkB B5.out hb6
  have hK6 : KeepT q w w6 := hK5.trans (KeepT.of hb6)
  clear hb6 e0 e1 e2 e3 e4 e5 e6 e7 e8 e9 hB5 B5 W5 hK5 cN
  obtain ⟨E3, hE3⟩ : ∃ E, Hid (wrE (!(FB && GB)) 1 E2 = E) := ⟨_, rfl⟩
  rw [hE3.out] at HD2
  cases FB with
  | false =>
    have h3n : ¬ E3 = 0 := by rw [← hE3.out]; exact wrE_ne (by decide)
    go_wp2_with fail
    refine (rwrong_any q N1 M1 _ 1 _ w6 W6.out).mono ?_
    rintro r w7 ⟨⟨v7, rfl⟩, h7⟩
    have W7 : Hid (WK w7 q N1 M1 E3) := by have a := h7.out.1; have b := hE3.out; first | (rw [b] at a; exact a) | (rw [← b]; exact a)
    have B7 : Hid (_) := h7.out.2.heap B6.out hne
    have hK7 : KeepT q w w7 := hK6.trans h7.out.2.keep
    clear h7 B6 W6 hK6
    have e3 : w7.cell? ⟨w.heap.size, 3, none⟩ = some (.slice pv nv cv) := by rw [Lib.cell_of_heap B7.out]; rfl
    have hB7 : Below w0.heap.size w0 w7 := hw.trans (hK7.below (B := w0.heap.size) hq (Nat.le_of_lt hqw))
    go_wp2_with fail
    refine (cW.out _ hB7).mono ?_
    rintro r w8 ⟨rfl, hb8⟩
    have W8 : Hid (WK w8 q N1 M1 E3) := W7.out.below hb8
    have B8 : Hid (_) := blkB B7.out hb8
    have hK8 : KeepT q w w8 := hK7.trans (KeepT.of hb8)
    clear hb8 e3 hB7 B7 W7 hK7 cW
    have e0 : w8.cell? ⟨w.heap.size, 0, none⟩ = some (.int .i64 19) := by rw [Lib.cell_of_heap B8.out]; rfl
    have e3 : w8.cell? ⟨w.heap.size, 3, none⟩ = some (.slice pv nv cv) := by rw [Lib.cell_of_heap B8.out]; rfl
    have e1 : w8.cell? ⟨w.heap.size, 1, none⟩ = some (.string nm) := by rw [Lib.cell_of_heap B8.out]; rfl
    by_cases hn0 : nv = 0
    case pos =>
      have hcb : CB = false := by rw [← HCB.out, List.drop_eq_nil_of_le (by have := env.out; omega)]; exact contS_nil _
      subst hcb
      have c0 : ¬ (0 : Int) < nv := by omega
      cases RB with
      | true =>
        go_wp2_with fail
        refine (rwrong_any q N1 M1 _ 30 _ _ W8.out).mono ?_
        rintro r w9 ⟨⟨v9, rfl⟩, h9⟩
        have W9 : Hid (WK w9 q N1 M1 FE) := by have a := h9.out.1; have b := HD2.out; rw [show (true || false) = true by simp] at b; rw [b] at a; exact a
        have B9 : Hid (_) := h9.out.2.heap B8.out hne
        have hK9 : KeepT q w w9 := hK8.trans h9.out.2.keep
        have y2 : w9.cell? ⟨q, 2, none⟩ = some (.int .i64 FE) := W9.out.e
        clear h9 e0 e1 e3
        have tn : ¬ FE = 0 := by have h := HD2.out; rw [← h]; exact wrE_ne (by decide)
        have tn' : (FE == 0) = false := by simpa using tn
        have tn'' : (FE != 0) = true := by simpa using tn
        go_wp2
        refine bodyPost_ret (results_none rfl _ _ _) rfl ?_
        exact ⟨⟨_, rfl⟩, hK9, HNo.out tn _ W9.out⟩
      | false =>
        go_wp2_with fail
        refine (rwrong_any q N1 M1 _ 30 _ _ W8.out).mono ?_
        rintro r w9 ⟨⟨v9, rfl⟩, h9⟩
        have W9 : Hid (WK w9 q N1 M1 FE) := by have a := h9.out.1; have b := HD2.out; rw [show (false || false) = false by simp] at b; rw [b] at a; exact a
        have B9 : Hid (_) := h9.out.2.heap B8.out hne
        have hK9 : KeepT q w w9 := hK8.trans h9.out.2.keep
        have y2 : w9.cell? ⟨q, 2, none⟩ = some (.int .i64 FE) := W9.out.e
        clear h9 e0 e1 e3
        have tn : ¬ FE = 0 := by have h := HD2.out; rw [← h]; exact wrE_keep h3n
        have tn' : (FE == 0) = false := by simpa using tn
        have tn'' : (FE != 0) = true := by simpa using tn
        go_wp2
        refine bodyPost_ret (results_none rfl _ _ _) rfl ?_
        exact ⟨⟨_, rfl⟩, hK9, HNo.out tn _ W9.out⟩
    have c0 : (0 : Int) < nv := by omega
    have c1 : (1 : Int) ≤ nv := by omega
    obtain ⟨b, off, rfl, hb, -⟩ := HXV.out 0 (by have := env.out; omega)
    have cK : Hid (∀ (W : World) (p : Option Addr), Below w0.heap.size w0 W → (1 < nv → p = some ⟨b, off + 1, none⟩) → Calls Tryz.prog 57 #[.slice p (nv - 1) (cv - 1), .string nm] W fun e w' => e = .returned (.bool CB) ∧ w' = W) := fun W p hW hp => by
      have hv := HV.out
      rw [env.out] at hv
      have h := NmsAt.drop1 hv p (fun h => hp (by have := env.out; omega)) (by have := env.out; omega)
      rw [env.out] at h
      have h2 := rhasN_any _ _ nm W (h.below hW)
      rw [HCB.out] at h2
      exact h2
    have hB8 : Below w0.heap.size w0 w8 := hw.trans (hK8.below (B := w0.heap.size) hq (Nat.le_of_lt hqw))
    have KEY : (cv = 1 ∧ Hid (∀ m : Nat, Calls Tryz.prog 57 #[.slice (some ⟨b, off, none⟩) 0 0, .string nm] (w8.drewN m) fun e w' => e = .returned (.bool CB) ∧ w' = w8.drewN m)) ∨ (¬ cv = 1 ∧ Hid (∀ m : Nat, Calls Tryz.prog 57 #[.slice (some ⟨b, off + 1, none⟩) (nv - 1) (cv - 1), .string nm] (w8.drewN m) fun e w' => e = .returned (.bool CB) ∧ w' = w8.drewN m)) := by
      by_cases hc1 : cv = 1
      · refine Or.inl ⟨hc1, fun m => ?_⟩
        have h := cK.out (w8.drewN m) (some ⟨b, off, none⟩) (bdrewA m hB8) (by omega)
        rwa [show nv - 1 = 0 by omega, show cv - 1 = 0 by omega] at h
      · exact Or.inr ⟨hc1, fun m => cK.out (w8.drewN m) (some ⟨b, off + 1, none⟩) (bdrewA m hB8) (fun _ => rfl)⟩
    rcases KEY with ⟨hc1, cK1⟩ | ⟨hc1, cK1⟩
    all_goals
      try subst hc1
      go_upto_region 12 with fail
      go_quiet (first | (go_at_call 57; exact Calls.quiet_of_same (cK1.out _)))
      have W8 : Hid (WK (w8.drewN nq) q N1 M1 E3) := W8.out
      have B8 : Hid ((w8.drewN nq).heap[w.heap.size]? = _) := B8.out
      have hK8 : KeepT q w (w8.drewN nq) := ⟨hK8.os, hK8.tape, hK8.output, hK8.size, hK8.block⟩
      clear cK cK1 e0 e1 e3 hB8
      generalize w8.drewN nq = w8' at *
      cases RB with
      | true =>
        go_wp2_with fail
        refine (rwrong_any q N1 M1 _ 30 _ _ W8.out).mono ?_
        rintro r w9 ⟨⟨v9, rfl⟩, h9⟩
        have W9 : Hid (WK w9 q N1 M1 FE) := by have a := h9.out.1; have b := HD2.out; rw [show (true || CB) = true by simp] at b; rw [b] at a; exact a
        have B9 : Hid (_) := h9.out.2.heap B8.out hne
        have hK9 : KeepT q w w9 := hK8.trans h9.out.2.keep
        have y2 : w9.cell? ⟨q, 2, none⟩ = some (.int .i64 FE) := W9.out.e
        clear h9
        have tn : ¬ FE = 0 := by have h := HD2.out; rw [← h]; exact wrE_ne (by decide)
        have tn' : (FE == 0) = false := by simpa using tn
        have tn'' : (FE != 0) = true := by simpa using tn
        go_wp2
        refine bodyPost_ret (results_none rfl _ _ _) rfl ?_
        exact ⟨⟨_, rfl⟩, hK9, HNo.out tn _ W9.out⟩
      | false =>
        cases CB with
        | true =>
          go_wp2_with fail
          refine (rwrong_any q N1 M1 _ 30 _ _ W8.out).mono ?_
          rintro r w9 ⟨⟨v9, rfl⟩, h9⟩
          have W9 : Hid (WK w9 q N1 M1 FE) := by have a := h9.out.1; have b := HD2.out; rw [show (false || true) = true by simp] at b; rw [b] at a; exact a
          have B9 : Hid (_) := h9.out.2.heap B8.out hne
          have hK9 : KeepT q w w9 := hK8.trans h9.out.2.keep
          have y2 : w9.cell? ⟨q, 2, none⟩ = some (.int .i64 FE) := W9.out.e
          clear h9
          have tn : ¬ FE = 0 := by have h := HD2.out; rw [← h]; exact wrE_ne (by decide)
          have tn' : (FE == 0) = false := by simpa using tn
          have tn'' : (FE != 0) = true := by simpa using tn
          go_wp2
          refine bodyPost_ret (results_none rfl _ _ _) rfl ?_
          exact ⟨⟨_, rfl⟩, hK9, HNo.out tn _ W9.out⟩
        | false =>
          go_wp2_with fail
          refine (rwrong_any q N1 M1 _ 30 _ _ W8.out).mono ?_
          rintro r w9 ⟨⟨v9, rfl⟩, h9⟩
          have W9 : Hid (WK w9 q N1 M1 FE) := by have a := h9.out.1; have b := HD2.out; rw [show (false || false) = false by simp] at b; rw [b] at a; exact a
          have B9 : Hid (_) := h9.out.2.heap B8.out hne
          have hK9 : KeepT q w w9 := hK8.trans h9.out.2.keep
          have y2 : w9.cell? ⟨q, 2, none⟩ = some (.int .i64 FE) := W9.out.e
          clear h9
          have tn : ¬ FE = 0 := by have h := HD2.out; rw [← h]; exact wrE_keep h3n
          have tn' : (FE == 0) = false := by simpa using tn
          have tn'' : (FE != 0) = true := by simpa using tn
          go_wp2
          refine bodyPost_ret (results_none rfl _ _ _) rfl ?_
          exact ⟨⟨_, rfl⟩, hK9, HNo.out tn _ W9.out⟩
  | true =>
    go_wp2_with fail
    refine (rwrong_any q N1 M1 _ 1 _ w6 W6.out).mono ?_
    rintro r w7 ⟨⟨v7, rfl⟩, h7⟩
    have W7 : Hid (WK w7 q N1 M1 E3) := by have a := h7.out.1; have b := hE3.out; first | (rw [b] at a; exact a) | (rw [← b]; exact a)
    have B7 : Hid (_) := h7.out.2.heap B6.out hne
    have hK7 : KeepT q w w7 := hK6.trans h7.out.2.keep
    clear h7 B6 W6 hK6
    have e3 : w7.cell? ⟨w.heap.size, 3, none⟩ = some (.slice pv nv cv) := by rw [Lib.cell_of_heap B7.out]; rfl
    have hB7 : Below w0.heap.size w0 w7 := hw.trans (hK7.below (B := w0.heap.size) hq (Nat.le_of_lt hqw))
    go_wp2_with fail
    refine (cW.out _ hB7).mono ?_
    rintro r w8 ⟨rfl, hb8⟩
    have W8 : Hid (WK w8 q N1 M1 E3) := W7.out.below hb8
    have B8 : Hid (_) := blkB B7.out hb8
    have hK8 : KeepT q w w8 := hK7.trans (KeepT.of hb8)
    clear hb8 e3 hB7 B7 W7 hK7 cW
    have e0 : w8.cell? ⟨w.heap.size, 0, none⟩ = some (.int .i64 19) := by rw [Lib.cell_of_heap B8.out]; rfl
    have e3 : w8.cell? ⟨w.heap.size, 3, none⟩ = some (.slice pv nv cv) := by rw [Lib.cell_of_heap B8.out]; rfl
    have e1 : w8.cell? ⟨w.heap.size, 1, none⟩ = some (.string nm) := by rw [Lib.cell_of_heap B8.out]; rfl
    have hn0 : ¬ nv = 0 := by have := h19.out (by trivial); omega
    have c0 : (0 : Int) < nv := by omega
    have c1 : (1 : Int) ≤ nv := by omega
    obtain ⟨b, off, rfl, hb, -⟩ := HXV.out 0 (by have := env.out; omega)
    have cK : Hid (∀ (W : World) (p : Option Addr), Below w0.heap.size w0 W → (1 < nv → p = some ⟨b, off + 1, none⟩) → Calls Tryz.prog 57 #[.slice p (nv - 1) (cv - 1), .string nm] W fun e w' => e = .returned (.bool CB) ∧ w' = W) := fun W p hW hp => by
      have hv := HV.out
      rw [env.out] at hv
      have h := NmsAt.drop1 hv p (fun h => hp (by have := env.out; omega)) (by have := env.out; omega)
      rw [env.out] at h
      have h2 := rhasN_any _ _ nm W (h.below hW)
      rw [HCB.out] at h2
      exact h2
    have hB8 : Below w0.heap.size w0 w8 := hw.trans (hK8.below (B := w0.heap.size) hq (Nat.le_of_lt hqw))
    have KEY : (cv = 1 ∧ Hid (∀ m : Nat, Calls Tryz.prog 57 #[.slice (some ⟨b, off, none⟩) 0 0, .string nm] (w8.drewN m) fun e w' => e = .returned (.bool CB) ∧ w' = w8.drewN m)) ∨ (¬ cv = 1 ∧ Hid (∀ m : Nat, Calls Tryz.prog 57 #[.slice (some ⟨b, off + 1, none⟩) (nv - 1) (cv - 1), .string nm] (w8.drewN m) fun e w' => e = .returned (.bool CB) ∧ w' = w8.drewN m)) := by
      by_cases hc1 : cv = 1
      · refine Or.inl ⟨hc1, fun m => ?_⟩
        have h := cK.out (w8.drewN m) (some ⟨b, off, none⟩) (bdrewA m hB8) (by omega)
        rwa [show nv - 1 = 0 by omega, show cv - 1 = 0 by omega] at h
      · exact Or.inr ⟨hc1, fun m => cK.out (w8.drewN m) (some ⟨b, off + 1, none⟩) (bdrewA m hB8) (fun _ => rfl)⟩
    rcases KEY with ⟨hc1, cK1⟩ | ⟨hc1, cK1⟩
    all_goals
      try subst hc1
      go_upto_region 12 with fail
      go_quiet (first | (go_at_call 57; exact Calls.quiet_of_same (cK1.out _)))
      have W8 : Hid (WK (w8.drewN nq) q N1 M1 E3) := W8.out
      have B8 : Hid ((w8.drewN nq).heap[w.heap.size]? = _) := B8.out
      have hK8 : KeepT q w (w8.drewN nq) := ⟨hK8.os, hK8.tape, hK8.output, hK8.size, hK8.block⟩
      clear cK cK1 e0 e1 e3 hB8
      generalize w8.drewN nq = w8' at *
      cases RB with
      | true =>
        go_wp2_with fail
        refine (rwrong_any q N1 M1 _ 30 _ _ W8.out).mono ?_
        rintro r w9 ⟨⟨v9, rfl⟩, h9⟩
        have W9 : Hid (WK w9 q N1 M1 FE) := by have a := h9.out.1; have b := HD2.out; rw [show (true || CB) = true by simp] at b; rw [b] at a; exact a
        have B9 : Hid (_) := h9.out.2.heap B8.out hne
        have hK9 : KeepT q w w9 := hK8.trans h9.out.2.keep
        have y2 : w9.cell? ⟨q, 2, none⟩ = some (.int .i64 FE) := W9.out.e
        clear h9
        have tn : ¬ FE = 0 := by have h := HD2.out; rw [← h]; exact wrE_ne (by decide)
        have tn' : (FE == 0) = false := by simpa using tn
        have tn'' : (FE != 0) = true := by simpa using tn
        go_wp2
        refine bodyPost_ret (results_none rfl _ _ _) rfl ?_
        exact ⟨⟨_, rfl⟩, hK9, HNo.out tn _ W9.out⟩
      | false =>
        cases CB with
        | true =>
          go_wp2_with fail
          refine (rwrong_any q N1 M1 _ 30 _ _ W8.out).mono ?_
          rintro r w9 ⟨⟨v9, rfl⟩, h9⟩
          have W9 : Hid (WK w9 q N1 M1 FE) := by have a := h9.out.1; have b := HD2.out; rw [show (false || true) = true by simp] at b; rw [b] at a; exact a
          have B9 : Hid (_) := h9.out.2.heap B8.out hne
          have hK9 : KeepT q w w9 := hK8.trans h9.out.2.keep
          have y2 : w9.cell? ⟨q, 2, none⟩ = some (.int .i64 FE) := W9.out.e
          clear h9
          have tn : ¬ FE = 0 := by have h := HD2.out; rw [← h]; exact wrE_ne (by decide)
          have tn' : (FE == 0) = false := by simpa using tn
          have tn'' : (FE != 0) = true := by simpa using tn
          go_wp2
          refine bodyPost_ret (results_none rfl _ _ _) rfl ?_
          exact ⟨⟨_, rfl⟩, hK9, HNo.out tn _ W9.out⟩
        | false =>
          go_wp2_with fail
          refine (rwrong_any q N1 M1 _ 30 _ _ W8.out).mono ?_
          rintro r w9 ⟨⟨v9, rfl⟩, h9⟩
          have W9 : Hid (WK w9 q N1 M1 FE) := by have a := h9.out.1; have b := HD2.out; rw [show (false || false) = false by simp] at b; rw [b] at a; exact a
          have B9 : Hid (_) := h9.out.2.heap B8.out hne
          have hK9 : KeepT q w w9 := hK8.trans h9.out.2.keep
          have y2 : w9.cell? ⟨q, 2, none⟩ = some (.int .i64 FE) := W9.out.e
          clear h9
          by_cases hz : FE = 0
          case neg =>
            have tn' : (FE == 0) = false := by simpa using hz
            have tn'' : (FE != 0) = true := by simpa using hz
            go_wp2
            refine bodyPost_ret (results_none rfl _ _ _) rfl ?_
            exact ⟨⟨_, rfl⟩, hK9, HNo.out hz _ W9.out⟩
          subst hz
          have S9 : Hid (WS w9 q R (fun s1 => andT (truns (d + 1) s1 f.terms) fun s2 => andT (rruns (d + 1) s2 f.rgx) fun s3 => andT (fruns (d + 1) s3 f.subs) F)) := WS.of W9.out HOk.out (by have h := HR1.out; rw [andT_eq] at h; exact h)
          clear HD2 HR1 HNo hE3
          go_wp2
          go_loopw [12] (fun v wr => ∃ k : Nat, k ≤ nt ∧ v = .int .i64 k ∧ KeepT q w9 wr ∧ Hid (WS wr q R (fun s => andT (truns (d + 1) s (f.terms.drop k)) (fun s2 => andT (rruns (d + 1) s2 f.rgx) fun s3 => andT (fruns (d + 1) s3 f.subs) F)))) (fun v _ => nt - (intOf v).toNat)
          case atStart => exact ⟨0, Nat.zero_le _, rfl, KeepT.refl _ _, by rw [List.drop_zero]; exact S9⟩
          case round =>
            obtain ⟨k, hk, rfl, hKr, hSr⟩ := hrel
            have Br : Hid (_) := (hKr.block w.heap.size (lt_heap B9.out) hne).trans B9.out
            have r6 : wr.cell? ⟨w.heap.size, 4, none⟩ = some (.slice pt nt ct) := by rw [Lib.cell_of_heap Br.out]; rfl
            by_cases hlt : k < nt
            case neg =>
              have c2 : ¬ (k : Int) < nt := by omega
              obtain ⟨w10, ew⟩ : ∃ W : World, W = wr := ⟨_, rfl⟩
              subst ew
              have S10 : Hid (WS w10 q R (fun s2 => andT (rruns (d + 1) s2 f.rgx) fun s3 => andT (fruns (d + 1) s3 f.subs) F)) := hSr.out.cast (fun s => by rw [List.drop_eq_nil_of_le (by have := ent.out; omega), truns_nil]; exact andT_eq)
              have hK10 : KeepT q w w10 := hK9.trans hKr
              have B10 : Hid (_) := Br.out
              clear hSr hKr Br
              go_wp2
              clear r6 c2 hk hlt
              go_loopw [13] (fun v wr => ∃ k : Nat, k ≤ nr ∧ v = .int .i64 k ∧ KeepT q w10 wr ∧ Hid (WS wr q R (fun s => andT (rruns (d + 1) s (f.rgx.drop k)) (fun s3 => andT (fruns (d + 1) s3 f.subs) F)))) (fun v _ => nr - (intOf v).toNat)
              case atStart => exact ⟨0, Nat.zero_le _, rfl, KeepT.refl _ _, by rw [List.drop_zero]; exact S10⟩
              case round =>
                obtain ⟨k, hk, rfl, hKr, hSr⟩ := hrel
                have Br : Hid (_) := (hKr.block w.heap.size (lt_heap B10.out) hne).trans B10.out
                have r6 : wr.cell? ⟨w.heap.size, 9, none⟩ = some (.slice pr nr cr) := by rw [Lib.cell_of_heap Br.out]; rfl
                by_cases hlt : k < nr
                case neg =>
                  have c2 : ¬ (k : Int) < nr := by omega
                  obtain ⟨w11, ew⟩ : ∃ W : World, W = wr := ⟨_, rfl⟩
                  subst ew
                  have S11 : Hid (WS w11 q R (fun s3 => andT (fruns (d + 1) s3 f.subs) F)) := hSr.out.cast (fun s => by rw [List.drop_eq_nil_of_le (by have := enr.out; omega), rruns_nil]; exact andT_eq)
                  have hK11 : KeepT q w w11 := hK10.trans hKr
                  have B11 : Hid (_) := Br.out
                  clear hSr hKr Br
                  go_wp2
                  clear r6 c2 hk hlt
                  go_loopw [14] (fun v wr => ∃ k : Nat, k ≤ ns ∧ v = .int .i64 k ∧ KeepT q w11 wr ∧ Hid (WS wr q R (fun s => andT (fruns (d + 1) s (f.subs.drop k)) F))) (fun v _ => ns - (intOf v).toNat)
                  case atStart => exact ⟨0, Nat.zero_le _, rfl, KeepT.refl _ _, by rw [List.drop_zero]; exact S11⟩
                  case round =>
                    obtain ⟨k, hk, rfl, hKr, hSr⟩ := hrel
                    have Br : Hid (_) := (hKr.block w.heap.size (lt_heap B11.out) hne).trans B11.out
                    have r6 : wr.cell? ⟨w.heap.size, 8, none⟩ = some (.slice ps ns cs) := by rw [Lib.cell_of_heap Br.out]; rfl
                    by_cases hlt : k < ns
                    case neg =>
                      have c2 : ¬ (k : Int) < ns := by omega
                      have S12 : Hid (WS wr q R F) := hSr.out.cast (fun s => by rw [List.drop_eq_nil_of_le (by have := ens.out; omega), fruns_nil]; exact andT_eq)
                      have hK12 : KeepT q w wr := hK11.trans hKr
                      go_wp2
                      go_end0
                      exact ⟨⟨_, rfl⟩, hK12, S12.out⟩
                    have hlt' : (k : Int) < ns := by omega
                    have kx : k < f.subs.length := by have := ens.out; omega
                    obtain ⟨b, off, u1, u2, u3, u4, rfl, hb, TC, N1t, N2t, N3t, N4t⟩ := HXF.out k kx
                    have hBr : Below w0.heap.size w0 wr := hw.trans ((hK11.trans hKr).below (B := w0.heap.size) hq (Nat.le_of_lt hqw))
                    obtain ⟨a0, a1, a2, a3, a4, a5, a6, a7, a8, a9⟩ := TC.below hBr hb
                    have wk := CF.out k kx ⟨u1, u2, u3, u4⟩ ⟨N1t, N2t, N3t, N4t⟩
                    have cW := wk wr R (fun s1 => andT (fruns (d + 1) s1 (f.subs.drop (k + 1))) F) hBr (hSr.out.cast (fun s => by rw [List.drop_eq_getElem_cons kx, fruns_and]))
                    have HcW : Hid (Calls Tryz.prog 30 #[.pointer (some ⟨q, 0, none⟩), .agg #[.int .i64 f.subs[k].k, .string f.subs[k].nm, .int .i64 f.subs[k].op, u1, u2, .int .i64 f.subs[k].lo, .int .i64 f.subs[k].hi, .bool f.subs[k].opn, u3, u4], .int .i64 (d + 1)] wr fun e9 w' => (∃ v, e9 = .returned v) ∧ Hid (KeepT q wr w' ∧ WS w' q R (fun s1 => andT (fruns (d + 1) s1 (f.subs.drop (k + 1))) F))) := cW
                    obtain ⟨-, p1, c1, rfl, -⟩ := N1t
                    obtain ⟨p2, c2, rfl, -⟩ := N2t.form
                    obtain ⟨p3, c3, rfl, -⟩ := N3t.form
                    obtain ⟨p4, c4, rfl, -⟩ := N4t.form
                    clear TC hSr wk cW N2t N3t N4t
                    generalize f.subs[k].k = X0 at *
                    generalize f.subs[k].nm = X1 at *
                    generalize f.subs[k].op = X2 at *
                    generalize f.subs[k].lo = X3 at *
                    generalize f.subs[k].hi = X4 at *
                    generalize f.subs[k].opn = X5 at *
                    generalize f.subs[k].vars.length = L1 at *
                    generalize f.subs[k].terms.length = L2 at *
                    generalize f.subs[k].subs.length = L3 at *
                    generalize f.subs[k].rgx.length = L4 at *
                    have nw : IntKind.i64.wrap (d + 1) = d + 1 := by rw [IntKind.wrap_i64]; omega
                    have nw2 : wrap64 (d + 1) = d + 1 := by unfold wrap64; omega
                    go_wp2_with fail
                    refine HcW.out.mono ?_
                    rintro r w6 ⟨⟨v6, rfl⟩, h6⟩
                    have hK6 : KeepT q w11 w6 := hKr.trans h6.out.1
                    have HS6 : Hid (_) := h6.out.2
                    clear h6 HcW
                    go_wp2
                    exact ⟨⟨k + 1, by omega, by go_num, hK6, HS6.out⟩, by simp [intOf]; omega⟩
                have hlt' : (k : Int) < nr := by omega
                have kx : k < f.rgx.length := by have := enr.out; omega
                obtain ⟨b, off, u1, u2, rfl, hb, TC, N1t, N2t⟩ := HXR.out k kx
                have hBr : Below w0.heap.size w0 wr := hw.trans ((hK10.trans hKr).below (B := w0.heap.size) hq (Nat.le_of_lt hqw))
                obtain ⟨a0, a1, a2⟩ := TC.below hBr hb
                have wk := CR.out k kx u1 u2 N1t N2t
                have cW := wk wr R (fun s1 => andT (rruns (d + 1) s1 (f.rgx.drop (k + 1))) (fun s3 => andT (fruns (d + 1) s3 f.subs) F)) hBr (hSr.out.cast (fun s => by rw [List.drop_eq_getElem_cons kx, rruns_and]))
                have HcW : Hid (Calls Tryz.prog 59 #[.pointer (some ⟨q, 0, none⟩), .agg #[.int .i64 f.rgx[k].k, u1, u2], .int .i64 (d + 1)] wr fun e9 w' => (∃ v, e9 = .returned v) ∧ Hid (KeepT q wr w' ∧ WS w' q R (fun s1 => andT (rruns (d + 1) s1 (f.rgx.drop (k + 1))) (fun s3 => andT (fruns (d + 1) s3 f.subs) F)))) := cW
                obtain ⟨p1, c1, rfl, -⟩ := N1t.form
                obtain ⟨p2, c2, rfl, -⟩ := N2t.form
                clear TC hSr wk cW N1t N2t
                generalize f.rgx[k].k = X0 at *
                generalize f.rgx[k].test.length = L1 at *
                generalize f.rgx[k].subs.length = L2 at *
                have nw : IntKind.i64.wrap (d + 1) = d + 1 := by rw [IntKind.wrap_i64]; omega
                have nw2 : wrap64 (d + 1) = d + 1 := by unfold wrap64; omega
                go_wp2_with fail
                refine HcW.out.mono ?_
                rintro r w6 ⟨⟨v6, rfl⟩, h6⟩
                have hK6 : KeepT q w10 w6 := hKr.trans h6.out.1
                have HS6 : Hid (_) := h6.out.2
                clear h6 HcW
                go_wp2
                exact ⟨⟨k + 1, by omega, by go_num, hK6, HS6.out⟩, by simp [intOf]; omega⟩
            have hlt' : (k : Int) < nt := by omega
            have kx : k < f.terms.length := by have := ent.out; omega
            obtain ⟨b, off, u, rfl, hb, TC, TS, TF⟩ := HXT.out k kx
            have hBr : Below w0.heap.size w0 wr := hw.trans ((hK9.trans hKr).below (B := w0.heap.size) hq (Nat.le_of_lt hqw))
            obtain ⟨a0, a1, a2, a3, a4, a5, a6⟩ := TC.below hBr hb
            have wk := CT.out k kx u TS TF
            have cW := wk wr R (fun s1 => andT (truns (d + 1) s1 (f.terms.drop (k + 1))) (fun s2 => andT (rruns (d + 1) s2 f.rgx) fun s3 => andT (fruns (d + 1) s3 f.subs) F)) hBr (hSr.out.cast (fun s => by rw [List.drop_eq_getElem_cons kx, truns_and]))
            have HcW : Hid (Calls Tryz.prog 58 #[.pointer (some ⟨q, 0, none⟩), .agg #[.int .i64 f.terms[k].k, .string f.terms[k].nm, .int .i64 f.terms[k].v.k, .int .i64 f.terms[k].v.n, .int .i64 f.terms[k].v.d, .string f.terms[k].v.s, u], .int .i64 (d + 1)] wr fun e9 w' => (∃ v, e9 = .returned v) ∧ Hid (KeepT q wr w' ∧ WS w' q R (fun s1 => andT (truns (d + 1) s1 (f.terms.drop (k + 1))) (fun s2 => andT (rruns (d + 1) s2 f.rgx) fun s3 => andT (fruns (d + 1) s3 f.subs) F)))) := cW
            clear TC hSr wk cW TS TF
            generalize f.terms[k].k = X0 at *
            generalize f.terms[k].nm = X1 at *
            generalize f.terms[k].v.k = X2 at *
            generalize f.terms[k].v.n = X3 at *
            generalize f.terms[k].v.d = X4 at *
            generalize f.terms[k].v.s = X5 at *
            have nw : IntKind.i64.wrap (d + 1) = d + 1 := by rw [IntKind.wrap_i64]; omega
            have nw2 : wrap64 (d + 1) = d + 1 := by unfold wrap64; omega
            go_wp2_with fail
            refine HcW.out.mono ?_
            rintro r w6 ⟨⟨v6, rfl⟩, h6⟩
            have hK6 : KeepT q w9 w6 := hKr.trans h6.out.1
            have HS6 : Hid (_) := h6.out.2
            clear h6 HcW
            go_wp2
            exact ⟨⟨k + 1, by omega, by go_num, hK6, HS6.out⟩, by simp [intOf]; omega⟩
end Go.Proofs.YtfajjphfjilpnaaGreat

namespace Go.Proofs.YtfajjphfjilpnaaGreat
open Go.RowKit LX Go.Shelf
set_option linter.unusedVariables false

set_option maxRecDepth 100000 in
set_option maxHeartbeats 8000000 in
theorem rregex_clo (w0 : World) (q : Nat) (hq : w0.heap.size ≤ q) (r : Rx) (ut us : Value) (ht : FmsAt w0 ut r.test) (hs : RxsAt w0 us r.subs) (d : Int) (hd0 : 0 ≤ d) (hd1 : d ≤ 25)
    (IR : d ≤ 24 → ∀ (i : Nat) (hi : i < r.subs.length) (u1 u2 : Value), FmsAt w0 u1 r.subs[i].test → RxsAt w0 u2 r.subs[i].subs → Walks w0 q 59 (.agg #[.int .i64 r.subs[i].k, u1, u2]) (d + 1) (fun s => rrun (d + 1) s r.subs[i]))
    (IF : d ≤ 24 → ∀ (i : Nat) (hi : i < r.test.length) (y : FQ), QAt w0 (r.test[i], y) → Walks w0 q 30 (.agg #[.int .i64 r.test[i].k, .string r.test[i].nm, .int .i64 r.test[i].op, y.v, y.t, .int .i64 r.test[i].lo, .int .i64 r.test[i].hi, .bool r.test[i].opn, y.s, y.r]) (d + 1) (fun s => frun (d + 1) s r.test[i]))
    (hk : r.k < 1) (N M : Int) (w : World) (R : Int × (Int × Int)) (F : Int × Int → Int × (Int × Int)) (hw : Below w0.heap.size w0 w) (hK : WK w q N M 0) (ho : OkS (N, M)) (hR : R = andT (rrun d (N, M) r) F) :
    Calls Tryz.prog 59 #[.pointer (some ⟨q, 0, none⟩), .agg #[.int .i64 r.k, ut, us], .int .i64 d] w fun e w' => (∃ v, e = .returned v) ∧ Hid (KeepT q w w' ∧ WS w' q R F) := by
  obtain ⟨pt, ct, rfl, hlt0, hct, HXF0⟩ := ht.form
  have HXF : Hid (∀ i (hi : i < r.test.length), ∃ b off uv ut us ur, pt = some ⟨b, off, none⟩ ∧ b < w0.heap.size ∧ FmC w0 b (off + i * 10) r.test[i] uv ut us ur ∧ NmsAt w0 uv r.test[i].vars ∧ TmsAt w0 ut r.test[i].terms ∧ FmsAt w0 us r.test[i].subs ∧ RxsAt w0 ur r.test[i].rgx) := HXF0
  obtain ⟨ps, cs, rfl, hls, hcs, HXR0⟩ := hs.form
  have HXR : Hid (∀ i (hi : i < r.subs.length), ∃ b off ut us, ps = some ⟨b, off, none⟩ ∧ b < w0.heap.size ∧ RxC w0 b (off + i * 3) r.subs[i] ut us ∧ FmsAt w0 ut r.subs[i].test ∧ RxsAt w0 us r.subs[i].subs) := HXR0
  have HW : Hid (WK w q N M 0) := hK
  have HO : Hid (OkS (N, M)) := ho
  have hqw : q < w.heap.size := hK.lt
  have HR0 : Hid (R = andT (meetE d (N, M), meetS d (N, M)) fun s1 => andT (rxE r, s1) fun s1 => andT (fruns (d + 1) s1 r.test) fun s2 => andT (rruns (d + 1) s2 r.subs) F) := by
    have h := hR
    rw [rrun_eq] at h
    simp only [andT_assoc] at h
    exact h
  have HE : Hid (ndE d N = meetE d (N, M)) := nd_meet (s := (N, M)) HO.out
  have CR0 : Hid (_) := IR
  have CF0 : Hid (_) := IF
  clear IR IF ht hs HXF0 HXR0 hK ho hR
  obtain ⟨FE, hFE⟩ : ∃ FE, Hid (rxE r = FE) := ⟨_, rfl⟩
  have HD : Hid ((if r.k < 1 ∨ 5 < r.k then 20 else if r.test.length ≠ (if r.k = 2 then 1 else 0) ∨ r.subs.length ≠ (if r.k = 3 ∨ r.k = 4 then 2 else if r.k = 5 then 1 else 0) then 1 else 0) = FE) := hFE.out
  rw [hFE.out] at HR0
  clear hFE
  obtain ⟨nt, ent⟩ : ∃ n : Nat, Hid (r.test.length = n) := ⟨_, rfl⟩
  obtain ⟨ns, ens⟩ : ∃ n : Nat, Hid (r.subs.length = n) := ⟨_, rfl⟩
  rw [ent.out] at hlt0 hct HD ⊢
  rw [ens.out] at hls hcs HD ⊢
  generalize r.k = tk at *
  have hne : w.heap.size ≠ q := by omega
  go_enter Tryz.func59, Tryz.ntmps59
  go_wp2_with fail
  refine (rnode_any q N M d _ (HW.out.alloc _) ⟨HO.out.1, by have := HO.out.2.1; simp at this; omega⟩).mono ?_
  rintro r9 w1 ⟨rfl, h1⟩
  have hK1 : KeepT q w w1 := (KeepT.of ((Below.refl _ _).alloc (Nat.le_refl _) _)).trans h1.out.2.keep
  have W1 : Hid (WK w1 q (N + 1) (if M < d then d else M) (ndE d N)) := h1.out.1
  have B1 : Hid (w1.heap[w.heap.size]? = some (.cells #[.int .i64 tk, .slice pt nt ct, .slice ps ns cs] 76 (0, 0))) := (h1.out.2.block w.heap.size (by simp) hne).trans (heap_allocA w _)
  clear h1
  by_cases hE : ndE d N = 0
  case neg =>
    have hE' : (ndE d N == 0) = false := by simpa using hE
    rw [hE']
    go_wp2
    refine bodyPost_ret (results_none rfl _ _ _) rfl ?_
    refine ⟨⟨_, rfl⟩, hK1, _, _, _, W1.out, fun e => absurd e hE, fun _ => ?_⟩
    have h := HR0.out
    rw [← HE.out] at h
    rw [h, andT_ne hE]
  have hE' : (ndE d N == 0) = true := by simpa using hE
  rw [hE']
  obtain ⟨N1, hN1⟩ : ∃ N1, Hid (N + 1 = N1) := ⟨_, rfl⟩
  obtain ⟨M1, hM1⟩ : ∃ M1, Hid ((if M < d then d else M) = M1) := ⟨_, rfl⟩
  have W1' : Hid (WK w1 q N1 M1 0) := by have h := W1.out; rw [hE, hN1.out, hM1.out] at h; exact h
  clear W1
  have hmS : Hid (meetS d (N, M) = (N1, M1)) := by
    have e : meetE d (N, M) = 0 := by rw [← HE.out]; exact hE
    unfold meetS
    rw [if_pos e, ← hN1.out, ← hM1.out, Int.max_def]
    show (N + 1, if M ≤ d then d else M) = (N + 1, if M < d then d else M)
    congr 1
    by_cases h : M < d
    · rw [if_pos h, if_pos (by omega)]
    · rw [if_neg h]; split <;> omega
  have HR1 : Hid (R = andT (FE, (N1, M1)) fun s1 => andT (fruns (d + 1) s1 r.test) fun s2 => andT (rruns (d + 1) s2 r.subs) F) := by
    have h := HR0.out
    rw [← HE.out, hE, andT_eq, hmS.out] at h
    exact h
  have hd24 : d ≤ 24 := meetE_le (s := (N, M)) (by rw [← HE.out]; exact hE)
  have HOk : Hid (OkS (N1, M1)) := by rw [← hmS.out]; exact meetS_ok HO.out hd0
  have CR := CR0.out hd24
  have CF := CF0.out hd24
  have CR : Hid (_) := CR
  have CF : Hid (_) := CF
  clear HR0 HE hE hE' hN1 hM1 hmS CR0 CF0
  have HNo : Hid (¬ FE = 0 → ∀ W : World, WK W q N1 M1 FE → WS W q R F) := by
    intro h W hW
    have hr := HR1.out
    rw [andT_ne h] at hr
    exact ⟨_, _, _, hW, fun e => absurd e h, fun _ => by rw [hr]⟩
  have x2 : (tk == 2) = false := by simp; omega
  have x3 : (tk == 3) = false := by simp; omega
  have x4 : (tk == 4) = false := by simp; omega
  have x5 : (tk == 5) = false := by simp; omega
  have e0 : w1.cell? ⟨w.heap.size, 0, none⟩ = some (.int .i64 tk) := by rw [Lib.cell_of_heap B1.out]; rfl
  go_wp2_with fail
  refine (rwrong_any q N1 M1 0 20 _ w1 W1'.out).mono ?_
  rintro r9 w2 ⟨⟨v2, rfl⟩, h2⟩
  have W2 : Hid (WK w2 q N1 M1 20) := by have a := h2.out.1; first | exact a | (simp [wrE, hk] at a; exact a)
  have B2 : Hid (_) := h2.out.2.heap B1.out hne
  have hK2 : KeepT q w w2 := hK1.trans h2.out.2.keep
  clear h2 e0 B1 hK1 W1'
  have e0 : w2.cell? ⟨w.heap.size, 0, none⟩ = some (.int .i64 tk) := by rw [Lib.cell_of_heap B2.out]; rfl
  have e1 : w2.cell? ⟨w.heap.size, 1, none⟩ = some (.slice pt nt ct) := by rw [Lib.cell_of_heap B2.out]; rfl
  have e2 : w2.cell? ⟨w.heap.size, 2, none⟩ = some (.slice ps ns cs) := by rw [Lib.cell_of_heap B2.out]; rfl
  by_cases hT : nt = 0
  case neg =>
    have t1 : ((nt : Int) == 0) = false := by simp; omega
    have t2 : ((nt : Int) != 0) = true := by simp; omega
    go_wp2_with fail
    refine (rwrong_any q N1 M1 _ 1 _ _ W2.out).mono ?_
    rintro r9 w9 ⟨⟨v9, rfl⟩, h9⟩
    have W9 : Hid (WK w9 q N1 M1 FE) := by have a := h9.out.1; have b := HD.out; simp [wrE, hk] at a b; first | (subst b; exact a) | (rw [← b]; exact a)
    have B9 : Hid (_) := h9.out.2.heap B2.out hne
    have hK9 : KeepT q w w9 := hK2.trans h9.out.2.keep
    have y2 : w9.cell? ⟨q, 2, none⟩ = some (.int .i64 FE) := W9.out.e
    clear h9 e0 e1 e2
    have tn : ¬ FE = 0 := by have b := HD.out; simp [hk] at b; omega
    have tn' : (FE == 0) = false := by simpa using tn
    have tn'' : (FE != 0) = true := by simpa using tn
    go_wp2
    refine bodyPost_ret (results_none rfl _ _ _) rfl ?_
    exact ⟨⟨_, rfl⟩, hK9, HNo.out tn _ W9.out⟩
  have t1 : ((nt : Int) == 0) = true := by simp; omega
  have t2 : ((nt : Int) != 0) = false := by simp; omega
  by_cases hS : ns = 0
  case neg =>
    have s1 : ((ns : Int) == 0) = false := by simp; omega
    have s2 : ((ns : Int) != 0) = true := by simp; omega
    go_wp2_with fail
    refine (rwrong_any q N1 M1 _ 1 _ _ W2.out).mono ?_
    rintro r9 w9 ⟨⟨v9, rfl⟩, h9⟩
    have W9 : Hid (WK w9 q N1 M1 FE) := by have a := h9.out.1; have b := HD.out; simp [wrE, hk] at a b; first | (subst b; exact a) | (rw [← b]; exact a)
    have B9 : Hid (_) := h9.out.2.heap B2.out hne
    have hK9 : KeepT q w w9 := hK2.trans h9.out.2.keep
    have y2 : w9.cell? ⟨q, 2, none⟩ = some (.int .i64 FE) := W9.out.e
    clear h9 e0 e1 e2
    have tn : ¬ FE = 0 := by have b := HD.out; simp [hk] at b; omega
    have tn' : (FE == 0) = false := by simpa using tn
    have tn'' : (FE != 0) = true := by simpa using tn
    go_wp2
    refine bodyPost_ret (results_none rfl _ _ _) rfl ?_
    exact ⟨⟨_, rfl⟩, hK9, HNo.out tn _ W9.out⟩
  have s1 : ((ns : Int) == 0) = true := by simp; omega
  have s2 : ((ns : Int) != 0) = false := by simp; omega
  go_wp2_with fail
  refine (rwrong_any q N1 M1 _ 1 _ _ W2.out).mono ?_
  rintro r9 w9 ⟨⟨v9, rfl⟩, h9⟩
  have W9 : Hid (WK w9 q N1 M1 FE) := by have a := h9.out.1; have b := HD.out; simp [wrE, hk] at a b; first | (subst b; exact a) | (rw [← b]; exact a)
  have B9 : Hid (_) := h9.out.2.heap B2.out hne
  have hK9 : KeepT q w w9 := hK2.trans h9.out.2.keep
  have y2 : w9.cell? ⟨q, 2, none⟩ = some (.int .i64 FE) := W9.out.e
  clear h9 e0 e1 e2
  have tn : ¬ FE = 0 := by have b := HD.out; simp [hk] at b; omega
  have tn' : (FE == 0) = false := by simpa using tn
  have tn'' : (FE != 0) = true := by simpa using tn
  go_wp2
  refine bodyPost_ret (results_none rfl _ _ _) rfl ?_
  exact ⟨⟨_, rfl⟩, hK9, HNo.out tn _ W9.out⟩
end Go.Proofs.YtfajjphfjilpnaaGreat

namespace Go.Proofs.YtfajjphfjilpnaaGreat
open Go.RowKit LX Go.Shelf
set_option linter.unusedVariables false

set_option maxRecDepth 100000 in
set_option maxHeartbeats 8000000 in
theorem rregex_chi (w0 : World) (q : Nat) (hq : w0.heap.size ≤ q) (r : Rx) (ut us : Value) (ht : FmsAt w0 ut r.test) (hs : RxsAt w0 us r.subs) (d : Int) (hd0 : 0 ≤ d) (hd1 : d ≤ 25)
    (IR : d ≤ 24 → ∀ (i : Nat) (hi : i < r.subs.length) (u1 u2 : Value), FmsAt w0 u1 r.subs[i].test → RxsAt w0 u2 r.subs[i].subs → Walks w0 q 59 (.agg #[.int .i64 r.subs[i].k, u1, u2]) (d + 1) (fun s => rrun (d + 1) s r.subs[i]))
    (IF : d ≤ 24 → ∀ (i : Nat) (hi : i < r.test.length) (y : FQ), QAt w0 (r.test[i], y) → Walks w0 q 30 (.agg #[.int .i64 r.test[i].k, .string r.test[i].nm, .int .i64 r.test[i].op, y.v, y.t, .int .i64 r.test[i].lo, .int .i64 r.test[i].hi, .bool r.test[i].opn, y.s, y.r]) (d + 1) (fun s => frun (d + 1) s r.test[i]))
    (hk : 5 < r.k) (N M : Int) (w : World) (R : Int × (Int × Int)) (F : Int × Int → Int × (Int × Int)) (hw : Below w0.heap.size w0 w) (hK : WK w q N M 0) (ho : OkS (N, M)) (hR : R = andT (rrun d (N, M) r) F) :
    Calls Tryz.prog 59 #[.pointer (some ⟨q, 0, none⟩), .agg #[.int .i64 r.k, ut, us], .int .i64 d] w fun e w' => (∃ v, e = .returned v) ∧ Hid (KeepT q w w' ∧ WS w' q R F) := by
  obtain ⟨pt, ct, rfl, hlt0, hct, HXF0⟩ := ht.form
  have HXF : Hid (∀ i (hi : i < r.test.length), ∃ b off uv ut us ur, pt = some ⟨b, off, none⟩ ∧ b < w0.heap.size ∧ FmC w0 b (off + i * 10) r.test[i] uv ut us ur ∧ NmsAt w0 uv r.test[i].vars ∧ TmsAt w0 ut r.test[i].terms ∧ FmsAt w0 us r.test[i].subs ∧ RxsAt w0 ur r.test[i].rgx) := HXF0
  obtain ⟨ps, cs, rfl, hls, hcs, HXR0⟩ := hs.form
  have HXR : Hid (∀ i (hi : i < r.subs.length), ∃ b off ut us, ps = some ⟨b, off, none⟩ ∧ b < w0.heap.size ∧ RxC w0 b (off + i * 3) r.subs[i] ut us ∧ FmsAt w0 ut r.subs[i].test ∧ RxsAt w0 us r.subs[i].subs) := HXR0
  have HW : Hid (WK w q N M 0) := hK
  have HO : Hid (OkS (N, M)) := ho
  have hqw : q < w.heap.size := hK.lt
  have HR0 : Hid (R = andT (meetE d (N, M), meetS d (N, M)) fun s1 => andT (rxE r, s1) fun s1 => andT (fruns (d + 1) s1 r.test) fun s2 => andT (rruns (d + 1) s2 r.subs) F) := by
    have h := hR
    rw [rrun_eq] at h
    simp only [andT_assoc] at h
    exact h
  have HE : Hid (ndE d N = meetE d (N, M)) := nd_meet (s := (N, M)) HO.out
  have CR0 : Hid (_) := IR
  have CF0 : Hid (_) := IF
  clear IR IF ht hs HXF0 HXR0 hK ho hR
  obtain ⟨FE, hFE⟩ : ∃ FE, Hid (rxE r = FE) := ⟨_, rfl⟩
  have HD : Hid ((if r.k < 1 ∨ 5 < r.k then 20 else if r.test.length ≠ (if r.k = 2 then 1 else 0) ∨ r.subs.length ≠ (if r.k = 3 ∨ r.k = 4 then 2 else if r.k = 5 then 1 else 0) then 1 else 0) = FE) := hFE.out
  rw [hFE.out] at HR0
  clear hFE
  obtain ⟨nt, ent⟩ : ∃ n : Nat, Hid (r.test.length = n) := ⟨_, rfl⟩
  obtain ⟨ns, ens⟩ : ∃ n : Nat, Hid (r.subs.length = n) := ⟨_, rfl⟩
  rw [ent.out] at hlt0 hct HD ⊢
  rw [ens.out] at hls hcs HD ⊢
  generalize r.k = tk at *
  have hne : w.heap.size ≠ q := by omega
  go_enter Tryz.func59, Tryz.ntmps59
  go_wp2_with fail
  refine (rnode_any q N M d _ (HW.out.alloc _) ⟨HO.out.1, by have := HO.out.2.1; simp at this; omega⟩).mono ?_
  rintro r9 w1 ⟨rfl, h1⟩
  have hK1 : KeepT q w w1 := (KeepT.of ((Below.refl _ _).alloc (Nat.le_refl _) _)).trans h1.out.2.keep
  have W1 : Hid (WK w1 q (N + 1) (if M < d then d else M) (ndE d N)) := h1.out.1
  have B1 : Hid (w1.heap[w.heap.size]? = some (.cells #[.int .i64 tk, .slice pt nt ct, .slice ps ns cs] 76 (0, 0))) := (h1.out.2.block w.heap.size (by simp) hne).trans (heap_allocA w _)
  clear h1
  by_cases hE : ndE d N = 0
  case neg =>
    have hE' : (ndE d N == 0) = false := by simpa using hE
    rw [hE']
    go_wp2
    refine bodyPost_ret (results_none rfl _ _ _) rfl ?_
    refine ⟨⟨_, rfl⟩, hK1, _, _, _, W1.out, fun e => absurd e hE, fun _ => ?_⟩
    have h := HR0.out
    rw [← HE.out] at h
    rw [h, andT_ne hE]
  have hE' : (ndE d N == 0) = true := by simpa using hE
  rw [hE']
  obtain ⟨N1, hN1⟩ : ∃ N1, Hid (N + 1 = N1) := ⟨_, rfl⟩
  obtain ⟨M1, hM1⟩ : ∃ M1, Hid ((if M < d then d else M) = M1) := ⟨_, rfl⟩
  have W1' : Hid (WK w1 q N1 M1 0) := by have h := W1.out; rw [hE, hN1.out, hM1.out] at h; exact h
  clear W1
  have hmS : Hid (meetS d (N, M) = (N1, M1)) := by
    have e : meetE d (N, M) = 0 := by rw [← HE.out]; exact hE
    unfold meetS
    rw [if_pos e, ← hN1.out, ← hM1.out, Int.max_def]
    show (N + 1, if M ≤ d then d else M) = (N + 1, if M < d then d else M)
    congr 1
    by_cases h : M < d
    · rw [if_pos h, if_pos (by omega)]
    · rw [if_neg h]; split <;> omega
  have HR1 : Hid (R = andT (FE, (N1, M1)) fun s1 => andT (fruns (d + 1) s1 r.test) fun s2 => andT (rruns (d + 1) s2 r.subs) F) := by
    have h := HR0.out
    rw [← HE.out, hE, andT_eq, hmS.out] at h
    exact h
  have hd24 : d ≤ 24 := meetE_le (s := (N, M)) (by rw [← HE.out]; exact hE)
  have HOk : Hid (OkS (N1, M1)) := by rw [← hmS.out]; exact meetS_ok HO.out hd0
  have CR := CR0.out hd24
  have CF := CF0.out hd24
  have CR : Hid (_) := CR
  have CF : Hid (_) := CF
  clear HR0 HE hE hE' hN1 hM1 hmS CR0 CF0
  have HNo : Hid (¬ FE = 0 → ∀ W : World, WK W q N1 M1 FE → WS W q R F) := by
    intro h W hW
    have hr := HR1.out
    rw [andT_ne h] at hr
    exact ⟨_, _, _, hW, fun e => absurd e h, fun _ => by rw [hr]⟩
  have hk0 : ¬ tk < 1 := by omega
  have x2 : (tk == 2) = false := by simp; omega
  have x3 : (tk == 3) = false := by simp; omega
  have x4 : (tk == 4) = false := by simp; omega
  have x5 : (tk == 5) = false := by simp; omega
  have e0 : w1.cell? ⟨w.heap.size, 0, none⟩ = some (.int .i64 tk) := by rw [Lib.cell_of_heap B1.out]; rfl
  go_wp2_with fail
  refine (rwrong_any q N1 M1 0 20 _ w1 W1'.out).mono ?_
  rintro r9 w2 ⟨⟨v2, rfl⟩, h2⟩
  have W2 : Hid (WK w2 q N1 M1 20) := by have a := h2.out.1; first | exact a | (simp [wrE, hk] at a; exact a)
  have B2 : Hid (_) := h2.out.2.heap B1.out hne
  have hK2 : KeepT q w w2 := hK1.trans h2.out.2.keep
  clear h2 e0 B1 hK1 W1'
  have e0 : w2.cell? ⟨w.heap.size, 0, none⟩ = some (.int .i64 tk) := by rw [Lib.cell_of_heap B2.out]; rfl
  have e1 : w2.cell? ⟨w.heap.size, 1, none⟩ = some (.slice pt nt ct) := by rw [Lib.cell_of_heap B2.out]; rfl
  have e2 : w2.cell? ⟨w.heap.size, 2, none⟩ = some (.slice ps ns cs) := by rw [Lib.cell_of_heap B2.out]; rfl
  by_cases hT : nt = 0
  case neg =>
    have t1 : ((nt : Int) == 0) = false := by simp; omega
    have t2 : ((nt : Int) != 0) = true := by simp; omega
    go_wp2_with fail
    refine (rwrong_any q N1 M1 _ 1 _ _ W2.out).mono ?_
    rintro r9 w9 ⟨⟨v9, rfl⟩, h9⟩
    have W9 : Hid (WK w9 q N1 M1 FE) := by have a := h9.out.1; have b := HD.out; simp [wrE, hk] at a b; first | (subst b; exact a) | (rw [← b]; exact a)
    have B9 : Hid (_) := h9.out.2.heap B2.out hne
    have hK9 : KeepT q w w9 := hK2.trans h9.out.2.keep
    have y2 : w9.cell? ⟨q, 2, none⟩ = some (.int .i64 FE) := W9.out.e
    clear h9 e0 e1 e2
    have tn : ¬ FE = 0 := by have b := HD.out; simp [hk] at b; omega
    have tn' : (FE == 0) = false := by simpa using tn
    have tn'' : (FE != 0) = true := by simpa using tn
    go_wp2
    refine bodyPost_ret (results_none rfl _ _ _) rfl ?_
    exact ⟨⟨_, rfl⟩, hK9, HNo.out tn _ W9.out⟩
  have t1 : ((nt : Int) == 0) = true := by simp; omega
  have t2 : ((nt : Int) != 0) = false := by simp; omega
  by_cases hS : ns = 0
  case neg =>
    have s1 : ((ns : Int) == 0) = false := by simp; omega
    have s2 : ((ns : Int) != 0) = true := by simp; omega
    go_wp2_with fail
    refine (rwrong_any q N1 M1 _ 1 _ _ W2.out).mono ?_
    rintro r9 w9 ⟨⟨v9, rfl⟩, h9⟩
    have W9 : Hid (WK w9 q N1 M1 FE) := by have a := h9.out.1; have b := HD.out; simp [wrE, hk] at a b; first | (subst b; exact a) | (rw [← b]; exact a)
    have B9 : Hid (_) := h9.out.2.heap B2.out hne
    have hK9 : KeepT q w w9 := hK2.trans h9.out.2.keep
    have y2 : w9.cell? ⟨q, 2, none⟩ = some (.int .i64 FE) := W9.out.e
    clear h9 e0 e1 e2
    have tn : ¬ FE = 0 := by have b := HD.out; simp [hk] at b; omega
    have tn' : (FE == 0) = false := by simpa using tn
    have tn'' : (FE != 0) = true := by simpa using tn
    go_wp2
    refine bodyPost_ret (results_none rfl _ _ _) rfl ?_
    exact ⟨⟨_, rfl⟩, hK9, HNo.out tn _ W9.out⟩
  have s1 : ((ns : Int) == 0) = true := by simp; omega
  have s2 : ((ns : Int) != 0) = false := by simp; omega
  go_wp2_with fail
  refine (rwrong_any q N1 M1 _ 1 _ _ W2.out).mono ?_
  rintro r9 w9 ⟨⟨v9, rfl⟩, h9⟩
  have W9 : Hid (WK w9 q N1 M1 FE) := by have a := h9.out.1; have b := HD.out; simp [wrE, hk] at a b; first | (subst b; exact a) | (rw [← b]; exact a)
  have B9 : Hid (_) := h9.out.2.heap B2.out hne
  have hK9 : KeepT q w w9 := hK2.trans h9.out.2.keep
  have y2 : w9.cell? ⟨q, 2, none⟩ = some (.int .i64 FE) := W9.out.e
  clear h9 e0 e1 e2
  have tn : ¬ FE = 0 := by have b := HD.out; simp [hk] at b; omega
  have tn' : (FE == 0) = false := by simpa using tn
  have tn'' : (FE != 0) = true := by simpa using tn
  go_wp2
  refine bodyPost_ret (results_none rfl _ _ _) rfl ?_
  exact ⟨⟨_, rfl⟩, hK9, HNo.out tn _ W9.out⟩
end Go.Proofs.YtfajjphfjilpnaaGreat

namespace Go.Proofs.YtfajjphfjilpnaaGreat
open Go.RowKit LX Go.Shelf
set_option linter.unusedVariables false

set_option maxRecDepth 100000 in
set_option maxHeartbeats 8000000 in
theorem rregex_c1 (w0 : World) (q : Nat) (hq : w0.heap.size ≤ q) (r : Rx) (ut us : Value) (ht : FmsAt w0 ut r.test) (hs : RxsAt w0 us r.subs) (d : Int) (hd0 : 0 ≤ d) (hd1 : d ≤ 25)
    (IR : d ≤ 24 → ∀ (i : Nat) (hi : i < r.subs.length) (u1 u2 : Value), FmsAt w0 u1 r.subs[i].test → RxsAt w0 u2 r.subs[i].subs → Walks w0 q 59 (.agg #[.int .i64 r.subs[i].k, u1, u2]) (d + 1) (fun s => rrun (d + 1) s r.subs[i]))
    (IF : d ≤ 24 → ∀ (i : Nat) (hi : i < r.test.length) (y : FQ), QAt w0 (r.test[i], y) → Walks w0 q 30 (.agg #[.int .i64 r.test[i].k, .string r.test[i].nm, .int .i64 r.test[i].op, y.v, y.t, .int .i64 r.test[i].lo, .int .i64 r.test[i].hi, .bool r.test[i].opn, y.s, y.r]) (d + 1) (fun s => frun (d + 1) s r.test[i]))
    (hk : r.k = 1) (N M : Int) (w : World) (R : Int × (Int × Int)) (F : Int × Int → Int × (Int × Int)) (hw : Below w0.heap.size w0 w) (hK : WK w q N M 0) (ho : OkS (N, M)) (hR : R = andT (rrun d (N, M) r) F) :
    Calls Tryz.prog 59 #[.pointer (some ⟨q, 0, none⟩), .agg #[.int .i64 r.k, ut, us], .int .i64 d] w fun e w' => (∃ v, e = .returned v) ∧ Hid (KeepT q w w' ∧ WS w' q R F) := by
  obtain ⟨pt, ct, rfl, hlt0, hct, HXF0⟩ := ht.form
  have HXF : Hid (∀ i (hi : i < r.test.length), ∃ b off uv ut us ur, pt = some ⟨b, off, none⟩ ∧ b < w0.heap.size ∧ FmC w0 b (off + i * 10) r.test[i] uv ut us ur ∧ NmsAt w0 uv r.test[i].vars ∧ TmsAt w0 ut r.test[i].terms ∧ FmsAt w0 us r.test[i].subs ∧ RxsAt w0 ur r.test[i].rgx) := HXF0
  obtain ⟨ps, cs, rfl, hls, hcs, HXR0⟩ := hs.form
  have HXR : Hid (∀ i (hi : i < r.subs.length), ∃ b off ut us, ps = some ⟨b, off, none⟩ ∧ b < w0.heap.size ∧ RxC w0 b (off + i * 3) r.subs[i] ut us ∧ FmsAt w0 ut r.subs[i].test ∧ RxsAt w0 us r.subs[i].subs) := HXR0
  have HW : Hid (WK w q N M 0) := hK
  have HO : Hid (OkS (N, M)) := ho
  have hqw : q < w.heap.size := hK.lt
  have HR0 : Hid (R = andT (meetE d (N, M), meetS d (N, M)) fun s1 => andT (rxE r, s1) fun s1 => andT (fruns (d + 1) s1 r.test) fun s2 => andT (rruns (d + 1) s2 r.subs) F) := by
    have h := hR
    rw [rrun_eq] at h
    simp only [andT_assoc] at h
    exact h
  have HE : Hid (ndE d N = meetE d (N, M)) := nd_meet (s := (N, M)) HO.out
  have CR0 : Hid (_) := IR
  have CF0 : Hid (_) := IF
  clear IR IF ht hs HXF0 HXR0 hK ho hR
  obtain ⟨FE, hFE⟩ : ∃ FE, Hid (rxE r = FE) := ⟨_, rfl⟩
  have HD : Hid ((if r.k < 1 ∨ 5 < r.k then 20 else if r.test.length ≠ (if r.k = 2 then 1 else 0) ∨ r.subs.length ≠ (if r.k = 3 ∨ r.k = 4 then 2 else if r.k = 5 then 1 else 0) then 1 else 0) = FE) := hFE.out
  rw [hFE.out] at HR0
  clear hFE
  obtain ⟨nt, ent⟩ : ∃ n : Nat, Hid (r.test.length = n) := ⟨_, rfl⟩
  obtain ⟨ns, ens⟩ : ∃ n : Nat, Hid (r.subs.length = n) := ⟨_, rfl⟩
  rw [ent.out] at hlt0 hct HD ⊢
  rw [ens.out] at hls hcs HD ⊢
  generalize r.k = tk at *
  subst hk
  have hne : w.heap.size ≠ q := by omega
  go_enter Tryz.func59, Tryz.ntmps59
  go_wp2_with fail
  refine (rnode_any q N M d _ (HW.out.alloc _) ⟨HO.out.1, by have := HO.out.2.1; simp at this; omega⟩).mono ?_
  rintro r9 w1 ⟨rfl, h1⟩
  have hK1 : KeepT q w w1 := (KeepT.of ((Below.refl _ _).alloc (Nat.le_refl _) _)).trans h1.out.2.keep
  have W1 : Hid (WK w1 q (N + 1) (if M < d then d else M) (ndE d N)) := h1.out.1
  have B1 : Hid (w1.heap[w.heap.size]? = some (.cells #[.int .i64 1, .slice pt nt ct, .slice ps ns cs] 76 (0, 0))) := (h1.out.2.block w.heap.size (by simp) hne).trans (heap_allocA w _)
  clear h1
  by_cases hE : ndE d N = 0
  case neg =>
    have hE' : (ndE d N == 0) = false := by simpa using hE
    rw [hE']
    go_wp2
    refine bodyPost_ret (results_none rfl _ _ _) rfl ?_
    refine ⟨⟨_, rfl⟩, hK1, _, _, _, W1.out, fun e => absurd e hE, fun _ => ?_⟩
    have h := HR0.out
    rw [← HE.out] at h
    rw [h, andT_ne hE]
  have hE' : (ndE d N == 0) = true := by simpa using hE
  rw [hE']
  obtain ⟨N1, hN1⟩ : ∃ N1, Hid (N + 1 = N1) := ⟨_, rfl⟩
  obtain ⟨M1, hM1⟩ : ∃ M1, Hid ((if M < d then d else M) = M1) := ⟨_, rfl⟩
  have W1' : Hid (WK w1 q N1 M1 0) := by have h := W1.out; rw [hE, hN1.out, hM1.out] at h; exact h
  clear W1
  have hmS : Hid (meetS d (N, M) = (N1, M1)) := by
    have e : meetE d (N, M) = 0 := by rw [← HE.out]; exact hE
    unfold meetS
    rw [if_pos e, ← hN1.out, ← hM1.out, Int.max_def]
    show (N + 1, if M ≤ d then d else M) = (N + 1, if M < d then d else M)
    congr 1
    by_cases h : M < d
    · rw [if_pos h, if_pos (by omega)]
    · rw [if_neg h]; split <;> omega
  have HR1 : Hid (R = andT (FE, (N1, M1)) fun s1 => andT (fruns (d + 1) s1 r.test) fun s2 => andT (rruns (d + 1) s2 r.subs) F) := by
    have h := HR0.out
    rw [← HE.out, hE, andT_eq, hmS.out] at h
    exact h
  have hd24 : d ≤ 24 := meetE_le (s := (N, M)) (by rw [← HE.out]; exact hE)
  have HOk : Hid (OkS (N1, M1)) := by rw [← hmS.out]; exact meetS_ok HO.out hd0
  have CR := CR0.out hd24
  have CF := CF0.out hd24
  have CR : Hid (_) := CR
  have CF : Hid (_) := CF
  clear HR0 HE hE hE' hN1 hM1 hmS CR0 CF0
  have HNo : Hid (¬ FE = 0 → ∀ W : World, WK W q N1 M1 FE → WS W q R F) := by
    intro h W hW
    have hr := HR1.out
    rw [andT_ne h] at hr
    exact ⟨_, _, _, hW, fun e => absurd e h, fun _ => by rw [hr]⟩
  have e0 : w1.cell? ⟨w.heap.size, 0, none⟩ = some (.int .i64 1) := by rw [Lib.cell_of_heap B1.out]; rfl
  go_wp2_with fail
  refine (rwrong_any q N1 M1 0 20 _ w1 W1'.out).mono ?_
  rintro r9 w2 ⟨⟨v2, rfl⟩, h2⟩
  have W2 : Hid (WK w2 q N1 M1 0) := by have a := h2.out.1; first | exact a | (simp [wrE, hk] at a; exact a)
  have B2 : Hid (_) := h2.out.2.heap B1.out hne
  have hK2 : KeepT q w w2 := hK1.trans h2.out.2.keep
  clear h2 e0 B1 hK1 W1'
  have e0 : w2.cell? ⟨w.heap.size, 0, none⟩ = some (.int .i64 1) := by rw [Lib.cell_of_heap B2.out]; rfl
  have e1 : w2.cell? ⟨w.heap.size, 1, none⟩ = some (.slice pt nt ct) := by rw [Lib.cell_of_heap B2.out]; rfl
  have e2 : w2.cell? ⟨w.heap.size, 2, none⟩ = some (.slice ps ns cs) := by rw [Lib.cell_of_heap B2.out]; rfl
  by_cases hT : nt = 0
  case neg =>
    have t1 : ((nt : Int) == 0) = false := by simp; omega
    have t2 : ((nt : Int) != 0) = true := by simp; omega
    go_wp2_with fail
    refine (rwrong_any q N1 M1 _ 1 _ _ W2.out).mono ?_
    rintro r9 w9 ⟨⟨v9, rfl⟩, h9⟩
    have W9 : Hid (WK w9 q N1 M1 FE) := by have a := h9.out.1; have b := HD.out; simp [wrE, hT] at a b; first | (subst b; exact a) | (rw [← b]; exact a)
    have B9 : Hid (_) := h9.out.2.heap B2.out hne
    have hK9 : KeepT q w w9 := hK2.trans h9.out.2.keep
    have y2 : w9.cell? ⟨q, 2, none⟩ = some (.int .i64 FE) := W9.out.e
    clear h9 e0 e1 e2
    have tn : ¬ FE = 0 := by have b := HD.out; simp [hT] at b; omega
    have tn' : (FE == 0) = false := by simpa using tn
    have tn'' : (FE != 0) = true := by simpa using tn
    go_wp2
    refine bodyPost_ret (results_none rfl _ _ _) rfl ?_
    exact ⟨⟨_, rfl⟩, hK9, HNo.out tn _ W9.out⟩
  have t1 : ((nt : Int) == 0) = true := by simp; omega
  have t2 : ((nt : Int) != 0) = false := by simp; omega
  by_cases hS : ns = 0
  case neg =>
    have s1 : ((ns : Int) == 0) = false := by simp; omega
    have s2 : ((ns : Int) != 0) = true := by simp; omega
    go_wp2_with fail
    refine (rwrong_any q N1 M1 _ 1 _ _ W2.out).mono ?_
    rintro r9 w9 ⟨⟨v9, rfl⟩, h9⟩
    have W9 : Hid (WK w9 q N1 M1 FE) := by have a := h9.out.1; have b := HD.out; simp [wrE, hT, hS] at a b; first | (subst b; exact a) | (rw [← b]; exact a)
    have B9 : Hid (_) := h9.out.2.heap B2.out hne
    have hK9 : KeepT q w w9 := hK2.trans h9.out.2.keep
    have y2 : w9.cell? ⟨q, 2, none⟩ = some (.int .i64 FE) := W9.out.e
    clear h9 e0 e1 e2
    have tn : ¬ FE = 0 := by have b := HD.out; simp [hT, hS] at b; omega
    have tn' : (FE == 0) = false := by simpa using tn
    have tn'' : (FE != 0) = true := by simpa using tn
    go_wp2
    refine bodyPost_ret (results_none rfl _ _ _) rfl ?_
    exact ⟨⟨_, rfl⟩, hK9, HNo.out tn _ W9.out⟩
  have s1 : ((ns : Int) == 0) = true := by simp; omega
  have s2 : ((ns : Int) != 0) = false := by simp; omega
  go_wp2_with fail
  refine (rwrong_any q N1 M1 _ 1 _ _ W2.out).mono ?_
  rintro r9 w9 ⟨⟨v9, rfl⟩, h9⟩
  have W9 : Hid (WK w9 q N1 M1 FE) := by have a := h9.out.1; have b := HD.out; simp [wrE, hT, hS] at a b; first | (subst b; exact a) | (rw [← b]; exact a)
  have B9 : Hid (_) := h9.out.2.heap B2.out hne
  have hK9 : KeepT q w w9 := hK2.trans h9.out.2.keep
  have y2 : w9.cell? ⟨q, 2, none⟩ = some (.int .i64 FE) := W9.out.e
  clear h9 e0 e1 e2
  clear t1 t2 s1 s2
  have hz : FE = 0 := by have b := HD.out; simp [hT, hS] at b; omega
  subst hz
  have S9 : Hid (WS w9 q R (fun s1 => andT (fruns (d + 1) s1 r.test) fun s2 => andT (rruns (d + 1) s2 r.subs) F)) := WS.of W9.out HOk.out (by have h := HR1.out; rw [andT_eq] at h; exact h)
  clear HD HR1 HNo hT hS
  go_wp2
  go_loopw [9] (fun v wr => ∃ k : Nat, k ≤ nt ∧ v = .int .i64 k ∧ KeepT q w9 wr ∧ Hid (WS wr q R (fun s => andT (fruns (d + 1) s (r.test.drop k)) (fun s2 => andT (rruns (d + 1) s2 r.subs) F)))) (fun v _ => nt - (intOf v).toNat)
  case atStart => exact ⟨0, Nat.zero_le _, rfl, KeepT.refl _ _, by rw [List.drop_zero]; exact S9⟩
  case round =>
    obtain ⟨k, hk, rfl, hKr, hSr⟩ := hrel
    have Br : Hid (_) := (hKr.block w.heap.size (lt_heap B9.out) hne).trans B9.out
    have r6 : wr.cell? ⟨w.heap.size, 1, none⟩ = some (.slice pt nt ct) := by rw [Lib.cell_of_heap Br.out]; rfl
    by_cases hlt : k < nt
    case neg =>
      have c2 : ¬ (k : Int) < nt := by omega
      obtain ⟨w10, ew⟩ : ∃ W : World, W = wr := ⟨_, rfl⟩
      subst ew
      have S10 : Hid (WS w10 q R (fun s2 => andT (rruns (d + 1) s2 r.subs) F)) := hSr.out.cast (fun s => by rw [List.drop_eq_nil_of_le (by have := ent.out; omega), fruns_nil]; exact andT_eq)
      have hK10 : KeepT q w w10 := hK9.trans hKr
      have B10 : Hid (_) := Br.out
      clear hSr hKr Br
      go_wp2
      clear r6 c2 hk hlt
      go_loopw [10] (fun v wr => ∃ k : Nat, k ≤ ns ∧ v = .int .i64 k ∧ KeepT q w10 wr ∧ Hid (WS wr q R (fun s => andT (rruns (d + 1) s (r.subs.drop k)) F))) (fun v _ => ns - (intOf v).toNat)
      case atStart => exact ⟨0, Nat.zero_le _, rfl, KeepT.refl _ _, by rw [List.drop_zero]; exact S10⟩
      case round =>
        obtain ⟨k, hk, rfl, hKr, hSr⟩ := hrel
        have Br : Hid (_) := (hKr.block w.heap.size (lt_heap B10.out) hne).trans B10.out
        have r6 : wr.cell? ⟨w.heap.size, 2, none⟩ = some (.slice ps ns cs) := by rw [Lib.cell_of_heap Br.out]; rfl
        by_cases hlt : k < ns
        case neg =>
          have c2 : ¬ (k : Int) < ns := by omega
          have S11 : Hid (WS wr q R F) := hSr.out.cast (fun s => by rw [List.drop_eq_nil_of_le (by have := ens.out; omega), rruns_nil]; exact andT_eq)
          have hK11 : KeepT q w wr := hK10.trans hKr
          go_wp2
          go_end0
          exact ⟨⟨_, rfl⟩, hK11, S11.out⟩
        have hlt' : (k : Int) < ns := by omega
        have kx : k < r.subs.length := by have := ens.out; omega
        obtain ⟨b, off, u1, u2, rfl, hb, TC, N1t, N2t⟩ := HXR.out k kx
        have hBr : Below w0.heap.size w0 wr := hw.trans ((hK10.trans hKr).below (B := w0.heap.size) hq (Nat.le_of_lt hqw))
        obtain ⟨a0, a1, a2⟩ := TC.below hBr hb
        have wk := CR.out k kx u1 u2 N1t N2t
        have cW := wk wr R (fun s1 => andT (rruns (d + 1) s1 (r.subs.drop (k + 1))) F) hBr (hSr.out.cast (fun s => by rw [List.drop_eq_getElem_cons kx, rruns_and]))
        have HcW : Hid (Calls Tryz.prog 59 #[.pointer (some ⟨q, 0, none⟩), .agg #[.int .i64 r.subs[k].k, u1, u2], .int .i64 (d + 1)] wr fun e9 w' => (∃ v, e9 = .returned v) ∧ Hid (KeepT q wr w' ∧ WS w' q R (fun s1 => andT (rruns (d + 1) s1 (r.subs.drop (k + 1))) F))) := cW
        obtain ⟨p1, c1, rfl, -⟩ := N1t.form
        obtain ⟨p2, c2, rfl, -⟩ := N2t.form
        clear TC hSr wk cW N1t N2t
        generalize r.subs[k].k = X0 at *
        generalize r.subs[k].test.length = L1 at *
        generalize r.subs[k].subs.length = L2 at *
        have nw : IntKind.i64.wrap (d + 1) = d + 1 := by rw [IntKind.wrap_i64]; omega
        have nw2 : wrap64 (d + 1) = d + 1 := by unfold wrap64; omega
        go_wp2_with fail
        refine HcW.out.mono ?_
        rintro r w6 ⟨⟨v6, rfl⟩, h6⟩
        have hK6 : KeepT q w10 w6 := hKr.trans h6.out.1
        have HS6 : Hid (_) := h6.out.2
        clear h6 HcW
        go_wp2
        exact ⟨⟨k + 1, by omega, by go_num, hK6, HS6.out⟩, by simp [intOf]; omega⟩
    have hlt' : (k : Int) < nt := by omega
    have kx : k < r.test.length := by have := ent.out; omega
    obtain ⟨b, off, u1, u2, u3, u4, rfl, hb, TC, N1t, N2t, N3t, N4t⟩ := HXF.out k kx
    have hBr : Below w0.heap.size w0 wr := hw.trans ((hK9.trans hKr).below (B := w0.heap.size) hq (Nat.le_of_lt hqw))
    obtain ⟨a0, a1, a2, a3, a4, a5, a6, a7, a8, a9⟩ := TC.below hBr hb
    have wk := CF.out k kx ⟨u1, u2, u3, u4⟩ ⟨N1t, N2t, N3t, N4t⟩
    have cW := wk wr R (fun s1 => andT (fruns (d + 1) s1 (r.test.drop (k + 1))) (fun s2 => andT (rruns (d + 1) s2 r.subs) F)) hBr (hSr.out.cast (fun s => by rw [List.drop_eq_getElem_cons kx, fruns_and]))
    have HcW : Hid (Calls Tryz.prog 30 #[.pointer (some ⟨q, 0, none⟩), .agg #[.int .i64 r.test[k].k, .string r.test[k].nm, .int .i64 r.test[k].op, u1, u2, .int .i64 r.test[k].lo, .int .i64 r.test[k].hi, .bool r.test[k].opn, u3, u4], .int .i64 (d + 1)] wr fun e9 w' => (∃ v, e9 = .returned v) ∧ Hid (KeepT q wr w' ∧ WS w' q R (fun s1 => andT (fruns (d + 1) s1 (r.test.drop (k + 1))) (fun s2 => andT (rruns (d + 1) s2 r.subs) F)))) := cW
    obtain ⟨-, p1, c1, rfl, -⟩ := N1t
    obtain ⟨p2, c2, rfl, -⟩ := N2t.form
    obtain ⟨p3, c3, rfl, -⟩ := N3t.form
    obtain ⟨p4, c4, rfl, -⟩ := N4t.form
    clear TC hSr wk cW N2t N3t N4t
    generalize r.test[k].k = X0 at *
    generalize r.test[k].nm = X1 at *
    generalize r.test[k].op = X2 at *
    generalize r.test[k].lo = X3 at *
    generalize r.test[k].hi = X4 at *
    generalize r.test[k].opn = X5 at *
    generalize r.test[k].vars.length = L1 at *
    generalize r.test[k].terms.length = L2 at *
    generalize r.test[k].subs.length = L3 at *
    generalize r.test[k].rgx.length = L4 at *
    have nw : IntKind.i64.wrap (d + 1) = d + 1 := by rw [IntKind.wrap_i64]; omega
    have nw2 : wrap64 (d + 1) = d + 1 := by unfold wrap64; omega
    go_wp2_with fail
    refine HcW.out.mono ?_
    rintro r w6 ⟨⟨v6, rfl⟩, h6⟩
    have hK6 : KeepT q w9 w6 := hKr.trans h6.out.1
    have HS6 : Hid (_) := h6.out.2
    clear h6 HcW
    go_wp2
    exact ⟨⟨k + 1, by omega, by go_num, hK6, HS6.out⟩, by simp [intOf]; omega⟩
end Go.Proofs.YtfajjphfjilpnaaGreat

namespace Go.Proofs.YtfajjphfjilpnaaGreat
open Go.RowKit LX Go.Shelf
set_option linter.unusedVariables false

set_option maxRecDepth 100000 in
set_option maxHeartbeats 8000000 in
theorem rregex_c2 (w0 : World) (q : Nat) (hq : w0.heap.size ≤ q) (r : Rx) (ut us : Value) (ht : FmsAt w0 ut r.test) (hs : RxsAt w0 us r.subs) (d : Int) (hd0 : 0 ≤ d) (hd1 : d ≤ 25)
    (IR : d ≤ 24 → ∀ (i : Nat) (hi : i < r.subs.length) (u1 u2 : Value), FmsAt w0 u1 r.subs[i].test → RxsAt w0 u2 r.subs[i].subs → Walks w0 q 59 (.agg #[.int .i64 r.subs[i].k, u1, u2]) (d + 1) (fun s => rrun (d + 1) s r.subs[i]))
    (IF : d ≤ 24 → ∀ (i : Nat) (hi : i < r.test.length) (y : FQ), QAt w0 (r.test[i], y) → Walks w0 q 30 (.agg #[.int .i64 r.test[i].k, .string r.test[i].nm, .int .i64 r.test[i].op, y.v, y.t, .int .i64 r.test[i].lo, .int .i64 r.test[i].hi, .bool r.test[i].opn, y.s, y.r]) (d + 1) (fun s => frun (d + 1) s r.test[i]))
    (hk : r.k = 2) (N M : Int) (w : World) (R : Int × (Int × Int)) (F : Int × Int → Int × (Int × Int)) (hw : Below w0.heap.size w0 w) (hK : WK w q N M 0) (ho : OkS (N, M)) (hR : R = andT (rrun d (N, M) r) F) :
    Calls Tryz.prog 59 #[.pointer (some ⟨q, 0, none⟩), .agg #[.int .i64 r.k, ut, us], .int .i64 d] w fun e w' => (∃ v, e = .returned v) ∧ Hid (KeepT q w w' ∧ WS w' q R F) := by
  obtain ⟨pt, ct, rfl, hlt0, hct, HXF0⟩ := ht.form
  have HXF : Hid (∀ i (hi : i < r.test.length), ∃ b off uv ut us ur, pt = some ⟨b, off, none⟩ ∧ b < w0.heap.size ∧ FmC w0 b (off + i * 10) r.test[i] uv ut us ur ∧ NmsAt w0 uv r.test[i].vars ∧ TmsAt w0 ut r.test[i].terms ∧ FmsAt w0 us r.test[i].subs ∧ RxsAt w0 ur r.test[i].rgx) := HXF0
  obtain ⟨ps, cs, rfl, hls, hcs, HXR0⟩ := hs.form
  have HXR : Hid (∀ i (hi : i < r.subs.length), ∃ b off ut us, ps = some ⟨b, off, none⟩ ∧ b < w0.heap.size ∧ RxC w0 b (off + i * 3) r.subs[i] ut us ∧ FmsAt w0 ut r.subs[i].test ∧ RxsAt w0 us r.subs[i].subs) := HXR0
  have HW : Hid (WK w q N M 0) := hK
  have HO : Hid (OkS (N, M)) := ho
  have hqw : q < w.heap.size := hK.lt
  have HR0 : Hid (R = andT (meetE d (N, M), meetS d (N, M)) fun s1 => andT (rxE r, s1) fun s1 => andT (fruns (d + 1) s1 r.test) fun s2 => andT (rruns (d + 1) s2 r.subs) F) := by
    have h := hR
    rw [rrun_eq] at h
    simp only [andT_assoc] at h
    exact h
  have HE : Hid (ndE d N = meetE d (N, M)) := nd_meet (s := (N, M)) HO.out
  have CR0 : Hid (_) := IR
  have CF0 : Hid (_) := IF
  clear IR IF ht hs HXF0 HXR0 hK ho hR
  obtain ⟨FE, hFE⟩ : ∃ FE, Hid (rxE r = FE) := ⟨_, rfl⟩
  have HD : Hid ((if r.k < 1 ∨ 5 < r.k then 20 else if r.test.length ≠ (if r.k = 2 then 1 else 0) ∨ r.subs.length ≠ (if r.k = 3 ∨ r.k = 4 then 2 else if r.k = 5 then 1 else 0) then 1 else 0) = FE) := hFE.out
  rw [hFE.out] at HR0
  clear hFE
  obtain ⟨nt, ent⟩ : ∃ n : Nat, Hid (r.test.length = n) := ⟨_, rfl⟩
  obtain ⟨ns, ens⟩ : ∃ n : Nat, Hid (r.subs.length = n) := ⟨_, rfl⟩
  rw [ent.out] at hlt0 hct HD ⊢
  rw [ens.out] at hls hcs HD ⊢
  generalize r.k = tk at *
  subst hk
  have hne : w.heap.size ≠ q := by omega
  go_enter Tryz.func59, Tryz.ntmps59
  go_wp2_with fail
  refine (rnode_any q N M d _ (HW.out.alloc _) ⟨HO.out.1, by have := HO.out.2.1; simp at this; omega⟩).mono ?_
  rintro r9 w1 ⟨rfl, h1⟩
  have hK1 : KeepT q w w1 := (KeepT.of ((Below.refl _ _).alloc (Nat.le_refl _) _)).trans h1.out.2.keep
  have W1 : Hid (WK w1 q (N + 1) (if M < d then d else M) (ndE d N)) := h1.out.1
  have B1 : Hid (w1.heap[w.heap.size]? = some (.cells #[.int .i64 2, .slice pt nt ct, .slice ps ns cs] 76 (0, 0))) := (h1.out.2.block w.heap.size (by simp) hne).trans (heap_allocA w _)
  clear h1
  by_cases hE : ndE d N = 0
  case neg =>
    have hE' : (ndE d N == 0) = false := by simpa using hE
    rw [hE']
    go_wp2
    refine bodyPost_ret (results_none rfl _ _ _) rfl ?_
    refine ⟨⟨_, rfl⟩, hK1, _, _, _, W1.out, fun e => absurd e hE, fun _ => ?_⟩
    have h := HR0.out
    rw [← HE.out] at h
    rw [h, andT_ne hE]
  have hE' : (ndE d N == 0) = true := by simpa using hE
  rw [hE']
  obtain ⟨N1, hN1⟩ : ∃ N1, Hid (N + 1 = N1) := ⟨_, rfl⟩
  obtain ⟨M1, hM1⟩ : ∃ M1, Hid ((if M < d then d else M) = M1) := ⟨_, rfl⟩
  have W1' : Hid (WK w1 q N1 M1 0) := by have h := W1.out; rw [hE, hN1.out, hM1.out] at h; exact h
  clear W1
  have hmS : Hid (meetS d (N, M) = (N1, M1)) := by
    have e : meetE d (N, M) = 0 := by rw [← HE.out]; exact hE
    unfold meetS
    rw [if_pos e, ← hN1.out, ← hM1.out, Int.max_def]
    show (N + 1, if M ≤ d then d else M) = (N + 1, if M < d then d else M)
    congr 1
    by_cases h : M < d
    · rw [if_pos h, if_pos (by omega)]
    · rw [if_neg h]; split <;> omega
  have HR1 : Hid (R = andT (FE, (N1, M1)) fun s1 => andT (fruns (d + 1) s1 r.test) fun s2 => andT (rruns (d + 1) s2 r.subs) F) := by
    have h := HR0.out
    rw [← HE.out, hE, andT_eq, hmS.out] at h
    exact h
  have hd24 : d ≤ 24 := meetE_le (s := (N, M)) (by rw [← HE.out]; exact hE)
  have HOk : Hid (OkS (N1, M1)) := by rw [← hmS.out]; exact meetS_ok HO.out hd0
  have CR := CR0.out hd24
  have CF := CF0.out hd24
  have CR : Hid (_) := CR
  have CF : Hid (_) := CF
  clear HR0 HE hE hE' hN1 hM1 hmS CR0 CF0
  have HNo : Hid (¬ FE = 0 → ∀ W : World, WK W q N1 M1 FE → WS W q R F) := by
    intro h W hW
    have hr := HR1.out
    rw [andT_ne h] at hr
    exact ⟨_, _, _, hW, fun e => absurd e h, fun _ => by rw [hr]⟩
  have e0 : w1.cell? ⟨w.heap.size, 0, none⟩ = some (.int .i64 2) := by rw [Lib.cell_of_heap B1.out]; rfl
  go_wp2_with fail
  refine (rwrong_any q N1 M1 0 20 _ w1 W1'.out).mono ?_
  rintro r9 w2 ⟨⟨v2, rfl⟩, h2⟩
  have W2 : Hid (WK w2 q N1 M1 0) := by have a := h2.out.1; first | exact a | (simp [wrE, hk] at a; exact a)
  have B2 : Hid (_) := h2.out.2.heap B1.out hne
  have hK2 : KeepT q w w2 := hK1.trans h2.out.2.keep
  clear h2 e0 B1 hK1 W1'
  have e0 : w2.cell? ⟨w.heap.size, 0, none⟩ = some (.int .i64 2) := by rw [Lib.cell_of_heap B2.out]; rfl
  have e1 : w2.cell? ⟨w.heap.size, 1, none⟩ = some (.slice pt nt ct) := by rw [Lib.cell_of_heap B2.out]; rfl
  have e2 : w2.cell? ⟨w.heap.size, 2, none⟩ = some (.slice ps ns cs) := by rw [Lib.cell_of_heap B2.out]; rfl
  by_cases hT : nt = 1
  case neg =>
    have t1 : ((nt : Int) == 1) = false := by simp; omega
    have t2 : ((nt : Int) != 1) = true := by simp; omega
    go_wp2_with fail
    refine (rwrong_any q N1 M1 _ 1 _ _ W2.out).mono ?_
    rintro r9 w9 ⟨⟨v9, rfl⟩, h9⟩
    have W9 : Hid (WK w9 q N1 M1 FE) := by have a := h9.out.1; have b := HD.out; simp [wrE, hT] at a b; first | (subst b; exact a) | (rw [← b]; exact a)
    have B9 : Hid (_) := h9.out.2.heap B2.out hne
    have hK9 : KeepT q w w9 := hK2.trans h9.out.2.keep
    have y2 : w9.cell? ⟨q, 2, none⟩ = some (.int .i64 FE) := W9.out.e
    clear h9 e0 e1 e2
    have tn : ¬ FE = 0 := by have b := HD.out; simp [hT] at b; omega
    have tn' : (FE == 0) = false := by simpa using tn
    have tn'' : (FE != 0) = true := by simpa using tn
    go_wp2
    refine bodyPost_ret (results_none rfl _ _ _) rfl ?_
    exact ⟨⟨_, rfl⟩, hK9, HNo.out tn _ W9.out⟩
  have t1 : ((nt : Int) == 1) = true := by simp; omega
  have t2 : ((nt : Int) != 1) = false := by simp; omega
  by_cases hS : ns = 0
  case neg =>
    have s1 : ((ns : Int) == 0) = false := by simp; omega
    have s2 : ((ns : Int) != 0) = true := by simp; omega
    go_wp2_with fail
    refine (rwrong_any q N1 M1 _ 1 _ _ W2.out).mono ?_
    rintro r9 w9 ⟨⟨v9, rfl⟩, h9⟩
    have W9 : Hid (WK w9 q N1 M1 FE) := by have a := h9.out.1; have b := HD.out; simp [wrE, hT, hS] at a b; first | (subst b; exact a) | (rw [← b]; exact a)
    have B9 : Hid (_) := h9.out.2.heap B2.out hne
    have hK9 : KeepT q w w9 := hK2.trans h9.out.2.keep
    have y2 : w9.cell? ⟨q, 2, none⟩ = some (.int .i64 FE) := W9.out.e
    clear h9 e0 e1 e2
    have tn : ¬ FE = 0 := by have b := HD.out; simp [hT, hS] at b; omega
    have tn' : (FE == 0) = false := by simpa using tn
    have tn'' : (FE != 0) = true := by simpa using tn
    go_wp2
    refine bodyPost_ret (results_none rfl _ _ _) rfl ?_
    exact ⟨⟨_, rfl⟩, hK9, HNo.out tn _ W9.out⟩
  have s1 : ((ns : Int) == 0) = true := by simp; omega
  have s2 : ((ns : Int) != 0) = false := by simp; omega
  go_wp2_with fail
  refine (rwrong_any q N1 M1 _ 1 _ _ W2.out).mono ?_
  rintro r9 w9 ⟨⟨v9, rfl⟩, h9⟩
  have W9 : Hid (WK w9 q N1 M1 FE) := by have a := h9.out.1; have b := HD.out; simp [wrE, hT, hS] at a b; first | (subst b; exact a) | (rw [← b]; exact a)
  have B9 : Hid (_) := h9.out.2.heap B2.out hne
  have hK9 : KeepT q w w9 := hK2.trans h9.out.2.keep
  have y2 : w9.cell? ⟨q, 2, none⟩ = some (.int .i64 FE) := W9.out.e
  clear h9 e0 e1 e2
  clear t1 t2 s1 s2
  have hz : FE = 0 := by have b := HD.out; simp [hT, hS] at b; omega
  subst hz
  have S9 : Hid (WS w9 q R (fun s1 => andT (fruns (d + 1) s1 r.test) fun s2 => andT (rruns (d + 1) s2 r.subs) F)) := WS.of W9.out HOk.out (by have h := HR1.out; rw [andT_eq] at h; exact h)
  clear HD HR1 HNo hT hS
  go_wp2
  go_loopw [9] (fun v wr => ∃ k : Nat, k ≤ nt ∧ v = .int .i64 k ∧ KeepT q w9 wr ∧ Hid (WS wr q R (fun s => andT (fruns (d + 1) s (r.test.drop k)) (fun s2 => andT (rruns (d + 1) s2 r.subs) F)))) (fun v _ => nt - (intOf v).toNat)
  case atStart => exact ⟨0, Nat.zero_le _, rfl, KeepT.refl _ _, by rw [List.drop_zero]; exact S9⟩
  case round =>
    obtain ⟨k, hk, rfl, hKr, hSr⟩ := hrel
    have Br : Hid (_) := (hKr.block w.heap.size (lt_heap B9.out) hne).trans B9.out
    have r6 : wr.cell? ⟨w.heap.size, 1, none⟩ = some (.slice pt nt ct) := by rw [Lib.cell_of_heap Br.out]; rfl
    by_cases hlt : k < nt
    case neg =>
      have c2 : ¬ (k : Int) < nt := by omega
      obtain ⟨w10, ew⟩ : ∃ W : World, W = wr := ⟨_, rfl⟩
      subst ew
      have S10 : Hid (WS w10 q R (fun s2 => andT (rruns (d + 1) s2 r.subs) F)) := hSr.out.cast (fun s => by rw [List.drop_eq_nil_of_le (by have := ent.out; omega), fruns_nil]; exact andT_eq)
      have hK10 : KeepT q w w10 := hK9.trans hKr
      have B10 : Hid (_) := Br.out
      clear hSr hKr Br
      go_wp2
      clear r6 c2 hk hlt
      go_loopw [10] (fun v wr => ∃ k : Nat, k ≤ ns ∧ v = .int .i64 k ∧ KeepT q w10 wr ∧ Hid (WS wr q R (fun s => andT (rruns (d + 1) s (r.subs.drop k)) F))) (fun v _ => ns - (intOf v).toNat)
      case atStart => exact ⟨0, Nat.zero_le _, rfl, KeepT.refl _ _, by rw [List.drop_zero]; exact S10⟩
      case round =>
        obtain ⟨k, hk, rfl, hKr, hSr⟩ := hrel
        have Br : Hid (_) := (hKr.block w.heap.size (lt_heap B10.out) hne).trans B10.out
        have r6 : wr.cell? ⟨w.heap.size, 2, none⟩ = some (.slice ps ns cs) := by rw [Lib.cell_of_heap Br.out]; rfl
        by_cases hlt : k < ns
        case neg =>
          have c2 : ¬ (k : Int) < ns := by omega
          have S11 : Hid (WS wr q R F) := hSr.out.cast (fun s => by rw [List.drop_eq_nil_of_le (by have := ens.out; omega), rruns_nil]; exact andT_eq)
          have hK11 : KeepT q w wr := hK10.trans hKr
          go_wp2
          go_end0
          exact ⟨⟨_, rfl⟩, hK11, S11.out⟩
        have hlt' : (k : Int) < ns := by omega
        have kx : k < r.subs.length := by have := ens.out; omega
        obtain ⟨b, off, u1, u2, rfl, hb, TC, N1t, N2t⟩ := HXR.out k kx
        have hBr : Below w0.heap.size w0 wr := hw.trans ((hK10.trans hKr).below (B := w0.heap.size) hq (Nat.le_of_lt hqw))
        obtain ⟨a0, a1, a2⟩ := TC.below hBr hb
        have wk := CR.out k kx u1 u2 N1t N2t
        have cW := wk wr R (fun s1 => andT (rruns (d + 1) s1 (r.subs.drop (k + 1))) F) hBr (hSr.out.cast (fun s => by rw [List.drop_eq_getElem_cons kx, rruns_and]))
        have HcW : Hid (Calls Tryz.prog 59 #[.pointer (some ⟨q, 0, none⟩), .agg #[.int .i64 r.subs[k].k, u1, u2], .int .i64 (d + 1)] wr fun e9 w' => (∃ v, e9 = .returned v) ∧ Hid (KeepT q wr w' ∧ WS w' q R (fun s1 => andT (rruns (d + 1) s1 (r.subs.drop (k + 1))) F))) := cW
        obtain ⟨p1, c1, rfl, -⟩ := N1t.form
        obtain ⟨p2, c2, rfl, -⟩ := N2t.form
        clear TC hSr wk cW N1t N2t
        generalize r.subs[k].k = X0 at *
        generalize r.subs[k].test.length = L1 at *
        generalize r.subs[k].subs.length = L2 at *
        have nw : IntKind.i64.wrap (d + 1) = d + 1 := by rw [IntKind.wrap_i64]; omega
        have nw2 : wrap64 (d + 1) = d + 1 := by unfold wrap64; omega
        go_wp2_with fail
        refine HcW.out.mono ?_
        rintro r w6 ⟨⟨v6, rfl⟩, h6⟩
        have hK6 : KeepT q w10 w6 := hKr.trans h6.out.1
        have HS6 : Hid (_) := h6.out.2
        clear h6 HcW
        go_wp2
        exact ⟨⟨k + 1, by omega, by go_num, hK6, HS6.out⟩, by simp [intOf]; omega⟩
    have hlt' : (k : Int) < nt := by omega
    have kx : k < r.test.length := by have := ent.out; omega
    obtain ⟨b, off, u1, u2, u3, u4, rfl, hb, TC, N1t, N2t, N3t, N4t⟩ := HXF.out k kx
    have hBr : Below w0.heap.size w0 wr := hw.trans ((hK9.trans hKr).below (B := w0.heap.size) hq (Nat.le_of_lt hqw))
    obtain ⟨a0, a1, a2, a3, a4, a5, a6, a7, a8, a9⟩ := TC.below hBr hb
    have wk := CF.out k kx ⟨u1, u2, u3, u4⟩ ⟨N1t, N2t, N3t, N4t⟩
    have cW := wk wr R (fun s1 => andT (fruns (d + 1) s1 (r.test.drop (k + 1))) (fun s2 => andT (rruns (d + 1) s2 r.subs) F)) hBr (hSr.out.cast (fun s => by rw [List.drop_eq_getElem_cons kx, fruns_and]))
    have HcW : Hid (Calls Tryz.prog 30 #[.pointer (some ⟨q, 0, none⟩), .agg #[.int .i64 r.test[k].k, .string r.test[k].nm, .int .i64 r.test[k].op, u1, u2, .int .i64 r.test[k].lo, .int .i64 r.test[k].hi, .bool r.test[k].opn, u3, u4], .int .i64 (d + 1)] wr fun e9 w' => (∃ v, e9 = .returned v) ∧ Hid (KeepT q wr w' ∧ WS w' q R (fun s1 => andT (fruns (d + 1) s1 (r.test.drop (k + 1))) (fun s2 => andT (rruns (d + 1) s2 r.subs) F)))) := cW
    obtain ⟨-, p1, c1, rfl, -⟩ := N1t
    obtain ⟨p2, c2, rfl, -⟩ := N2t.form
    obtain ⟨p3, c3, rfl, -⟩ := N3t.form
    obtain ⟨p4, c4, rfl, -⟩ := N4t.form
    clear TC hSr wk cW N2t N3t N4t
    generalize r.test[k].k = X0 at *
    generalize r.test[k].nm = X1 at *
    generalize r.test[k].op = X2 at *
    generalize r.test[k].lo = X3 at *
    generalize r.test[k].hi = X4 at *
    generalize r.test[k].opn = X5 at *
    generalize r.test[k].vars.length = L1 at *
    generalize r.test[k].terms.length = L2 at *
    generalize r.test[k].subs.length = L3 at *
    generalize r.test[k].rgx.length = L4 at *
    have nw : IntKind.i64.wrap (d + 1) = d + 1 := by rw [IntKind.wrap_i64]; omega
    have nw2 : wrap64 (d + 1) = d + 1 := by unfold wrap64; omega
    go_wp2_with fail
    refine HcW.out.mono ?_
    rintro r w6 ⟨⟨v6, rfl⟩, h6⟩
    have hK6 : KeepT q w9 w6 := hKr.trans h6.out.1
    have HS6 : Hid (_) := h6.out.2
    clear h6 HcW
    go_wp2
    exact ⟨⟨k + 1, by omega, by go_num, hK6, HS6.out⟩, by simp [intOf]; omega⟩
end Go.Proofs.YtfajjphfjilpnaaGreat
