/- The program's Part, of any formula. -/
import Derived.Test.YtfajjphfjilpnaaGreatZ08
import Derived.Test.YtfajjphfjilpnaaGreatZ09
import Derived.Test.YtfajjphfjilpnaaGreatZ07
import Derived.Test.YtfajjphfjilpnaaGreatZ06

namespace Go.Proofs.YtfajjphfjilpnaaGreat
open Go.RowKit LX Go.Shelf
set_option linter.unusedVariables false

set_option maxRecDepth 100000 in
set_option maxHeartbeats 8000000 in
theorem rregex_c2 (w0 : World) (q : Nat) (hq : w0.heap.size ≤ q) (r : Rx) (ut us : Value) (ht : FmsAt w0 ut r.test) (hs : RxsAt w0 us r.subs) (d : Int) (hd0 : 0 ≤ d) (hd1 : d ≤ 25)
    (IR : d ≤ 24 → ∀ (i : Nat) (hi : i < r.subs.length) (u1 u2 : Value), FmsAt w0 u1 r.subs[i].test → RxsAt w0 u2 r.subs[i].subs → Walks w0 q 59 (.agg #[.int .i64 r.subs[i].k, u1, u2]) (d + 1) (fun s => rrun (d + 1) s r.subs[i]))
    (IF : d ≤ 24 → ∀ (i : Nat) (hi : i < r.test.length) (y : FQ), QAt w0 (r.test[i], y) → Walks w0 q 30 (.agg #[.int .i64 r.test[i].k, .string r.test[i].nm, .int .i64 r.test[i].op, y.v, y.t, .int .i64 r.test[i].lo, .int .i64 r.test[i].hi, .bool r.test[i].opn, y.s, y.r]) (d + 1) (fun s => frun (d + 1) s r.test[i]))
    (hk : r.k = 2) (N M : Int) (w : World) (R : Int × (Int × Int)) (F : Int × Int → Int × (Int × Int)) (hw : Below w0.heap.size w0 w) (hK : WK w q N M 0) (ho : OkS (N, M)) (hR : R = andT (rrun d (N, M) r) F) :
    Calls Tryz.prog 59 #[.pointer (some ⟨q, 0, none⟩), .agg #[.int .i64 r.k, ut, us], .int .i64 d] w fun e w' => (∃ v, e = .returned v) ∧ Hid (KeepT q w w' ∧ WS w' q R F) := by
  obtain ⟨pt, ct, rfl, hlt0, hct, HXF0⟩ := ht.form
  have HXF : Hid (∀ i (hi : i < r.test.length), ∃ b off uv ut us ur, pt = some ⟨b, off, none⟩ ∧ b < w0.heap.size ∧ FmC w0 b (off + i * 10) r.test[i] uv ut us ur ∧ NmsAt w0 uv r.test[i].vars ∧ TmsAt w0 ut r.test[i].terms ∧ FmsAt w0 us r.test[i].subs ∧ RxsAt w0 ur r.test[i].rgx) := HXF0
  obtain ⟨ps, cs, rfl, hls, hcs, HXR0⟩ := hs.form
  have HXR : Hid (∀ i (hi : i < r.subs.length), ∃ b off ut us, ps = some ⟨b, off, none⟩ ∧ b < w0.heap.size ∧ RxC w0 b (off + i * 3) r.subs[i] ut us ∧ FmsAt w0 ut r.subs[i].test ∧ RxsAt w0 us r.subs[i].subs) := HXR0
  have HW : Hid (WK w q N M 0) := hK
  have HO : Hid (OkS (N, M)) := ho
  have hqw : q < w.heap.size := hK.lt
  have HR0 : Hid (R = andT (meetE d (N, M), meetS d (N, M)) fun s1 => andT (rxE r, s1) fun s1 => andT (fruns (d + 1) s1 r.test) fun s2 => andT (rruns (d + 1) s2 r.subs) F) := by
    have h := hR
    rw [rrun_eq] at h
    simp only [andT_assoc] at h
    exact h
  have HE : Hid (ndE d N = meetE d (N, M)) := nd_meet (s := (N, M)) HO.out
  have CR0 : Hid (_) := IR
  have CF0 : Hid (_) := IF
  clear IR IF ht hs HXF0 HXR0 hK ho hR
  obtain ⟨FE, hFE⟩ : ∃ FE, Hid (rxE r = FE) := ⟨_, rfl⟩
  have HD : Hid ((if r.k < 1 ∨ 5 < r.k then 20 else if r.test.length ≠ (if r.k = 2 then 1 else 0) ∨ r.subs.length ≠ (if r.k = 3 ∨ r.k = 4 then 2 else if r.k = 5 then 1 else 0) then 1 else 0) = FE) := hFE.out
  rw [hFE.out] at HR0
  clear hFE
  obtain ⟨nt, ent⟩ : ∃ n : Nat, Hid (r.test.length = n) := ⟨_, rfl⟩
  obtain ⟨ns, ens⟩ : ∃ n : Nat, Hid (r.subs.length = n) := ⟨_, rfl⟩
  rw [ent.out] at hlt0 hct HD ⊢
  rw [ens.out] at hls hcs HD ⊢
  generalize r.k = tk at *
  subst hk
  have hne : w.heap.size ≠ q := by omega
  go_enter Tryz.func59, Tryz.ntmps59
  go_wp2_with fail
  refine (rnode_any q N M d _ (HW.out.alloc _) ⟨HO.out.1, by have := HO.out.2.1; simp at this; omega⟩).mono ?_
  rintro r9 w1 ⟨rfl, h1⟩
  have hK1 : KeepT q w w1 := (KeepT.of ((Below.refl _ _).alloc (Nat.le_refl _) _)).trans h1.out.2.keep
  have W1 : Hid (WK w1 q (N + 1) (if M < d then d else M) (ndE d N)) := h1.out.1
  have B1 : Hid (w1.heap[w.heap.size]? = some (.cells #[.int .i64 2, .slice pt nt ct, .slice ps ns cs] 76 (0, 0))) := (h1.out.2.block w.heap.size (by simp) hne).trans (heap_allocA w _)
  clear h1
  by_cases hE : ndE d N = 0
  case neg =>
    have hE' : (ndE d N == 0) = false := by simpa using hE
    rw [hE']
    go_wp2
    refine bodyPost_ret (results_none rfl _ _ _) rfl ?_
    refine ⟨⟨_, rfl⟩, hK1, _, _, _, W1.out, fun e => absurd e hE, fun _ => ?_⟩
    have h := HR0.out
    rw [← HE.out] at h
    rw [h, andT_ne hE]
  have hE' : (ndE d N == 0) = true := by simpa using hE
  rw [hE']
  obtain ⟨N1, hN1⟩ : ∃ N1, Hid (N + 1 = N1) := ⟨_, rfl⟩
  obtain ⟨M1, hM1⟩ : ∃ M1, Hid ((if M < d then d else M) = M1) := ⟨_, rfl⟩
  have W1' : Hid (WK w1 q N1 M1 0) := by have h := W1.out; rw [hE, hN1.out, hM1.out] at h; exact h
  clear W1
  have hmS : Hid (meetS d (N, M) = (N1, M1)) := by
    have e : meetE d (N, M) = 0 := by rw [← HE.out]; exact hE
    unfold meetS
    rw [if_pos e, ← hN1.out, ← hM1.out, Int.max_def]
    show (N + 1, if M ≤ d then d else M) = (N + 1, if M < d then d else M)
    congr 1
    by_cases h : M < d
    · rw [if_pos h, if_pos (by omega)]
    · rw [if_neg h]; split <;> omega
  have HR1 : Hid (R = andT (FE, (N1, M1)) fun s1 => andT (fruns (d + 1) s1 r.test) fun s2 => andT (rruns (d + 1) s2 r.subs) F) := by
    have h := HR0.out
    rw [← HE.out, hE, andT_eq, hmS.out] at h
    exact h
  have hd24 : d ≤ 24 := meetE_le (s := (N, M)) (by rw [← HE.out]; exact hE)
  have HOk : Hid (OkS (N1, M1)) := by rw [← hmS.out]; exact meetS_ok HO.out hd0
  have CR := CR0.out hd24
  have CF := CF0.out hd24
  have CR : Hid (_) := CR
  have CF : Hid (_) := CF
  clear HR0 HE hE hE' hN1 hM1 hmS CR0 CF0
  have HNo : Hid (¬ FE = 0 → ∀ W : World, WK W q N1 M1 FE → WS W q R F) := by
    intro h W hW
    have hr := HR1.out
    rw [andT_ne h] at hr
    exact ⟨_, _, _, hW, fun e => absurd e h, fun _ => by rw [hr]⟩
  have e0 : w1.cell? ⟨w.heap.size, 0, none⟩ = some (.int .i64 2) := by rw [Lib.cell_of_heap B1.out]; rfl
  go_wp2_with fail
  refine (rwrong_any q N1 M1 0 20 _ w1 W1'.out).mono ?_
  rintro r9 w2 ⟨⟨v2, rfl⟩, h2⟩
  have W2 : Hid (WK w2 q N1 M1 0) := by have a := h2.out.1; first | exact a | (simp [wrE, hk] at a; exact a)
  have B2 : Hid (_) := h2.out.2.heap B1.out hne
  have hK2 : KeepT q w w2 := hK1.trans h2.out.2.keep
  clear h2 e0 B1 hK1 W1'
  have e0 : w2.cell? ⟨w.heap.size, 0, none⟩ = some (.int .i64 2) := by rw [Lib.cell_of_heap B2.out]; rfl
  have e1 : w2.cell? ⟨w.heap.size, 1, none⟩ = some (.slice pt nt ct) := by rw [Lib.cell_of_heap B2.out]; rfl
  have e2 : w2.cell? ⟨w.heap.size, 2, none⟩ = some (.slice ps ns cs) := by rw [Lib.cell_of_heap B2.out]; rfl
  by_cases hT : nt = 1
  case neg =>
    have t1 : ((nt : Int) == 1) = false := by simp; omega
    have t2 : ((nt : Int) != 1) = true := by simp; omega
    go_wp2_with fail
    refine (rwrong_any q N1 M1 _ 1 _ _ W2.out).mono ?_
    rintro r9 w9 ⟨⟨v9, rfl⟩, h9⟩
    have W9 : Hid (WK w9 q N1 M1 FE) := by have a := h9.out.1; have b := HD.out; simp [wrE, hT] at a b; first | (subst b; exact a) | (rw [← b]; exact a)
    have B9 : Hid (_) := h9.out.2.heap B2.out hne
    have hK9 : KeepT q w w9 := hK2.trans h9.out.2.keep
    have y2 : w9.cell? ⟨q, 2, none⟩ = some (.int .i64 FE) := W9.out.e
    clear h9 e0 e1 e2
    have tn : ¬ FE = 0 := by have b := HD.out; simp [hT] at b; omega
    have tn' : (FE == 0) = false := by simpa using tn
    have tn'' : (FE != 0) = true := by simpa using tn
    go_wp2
    refine bodyPost_ret (results_none rfl _ _ _) rfl ?_
    exact ⟨⟨_, rfl⟩, hK9, HNo.out tn _ W9.out⟩
  have t1 : ((nt : Int) == 1) = true := by simp; omega
  have t2 : ((nt : Int) != 1) = false := by simp; omega
  by_cases hS : ns = 0
  case neg =>
    have s1 : ((ns : Int) == 0) = false := by simp; omega
    have s2 : ((ns : Int) != 0) = true := by simp; omega
    go_wp2_with fail
    refine (rwrong_any q N1 M1 _ 1 _ _ W2.out).mono ?_
    rintro r9 w9 ⟨⟨v9, rfl⟩, h9⟩
    have W9 : Hid (WK w9 q N1 M1 FE) := by have a := h9.out.1; have b := HD.out; simp [wrE, hT, hS] at a b; first | (subst b; exact a) | (rw [← b]; exact a)
    have B9 : Hid (_) := h9.out.2.heap B2.out hne
    have hK9 : KeepT q w w9 := hK2.trans h9.out.2.keep
    have y2 : w9.cell? ⟨q, 2, none⟩ = some (.int .i64 FE) := W9.out.e
    clear h9 e0 e1 e2
    have tn : ¬ FE = 0 := by have b := HD.out; simp [hT, hS] at b; omega
    have tn' : (FE == 0) = false := by simpa using tn
    have tn'' : (FE != 0) = true := by simpa using tn
    go_wp2
    refine bodyPost_ret (results_none rfl _ _ _) rfl ?_
    exact ⟨⟨_, rfl⟩, hK9, HNo.out tn _ W9.out⟩
  have s1 : ((ns : Int) == 0) = true := by simp; omega
  have s2 : ((ns : Int) != 0) = false := by simp; omega
  go_wp2_with fail
  refine (rwrong_any q N1 M1 _ 1 _ _ W2.out).mono ?_
  rintro r9 w9 ⟨⟨v9, rfl⟩, h9⟩
  have W9 : Hid (WK w9 q N1 M1 FE) := by have a := h9.out.1; have b := HD.out; simp [wrE, hT, hS] at a b; first | (subst b; exact a) | (rw [← b]; exact a)
  have B9 : Hid (_) := h9.out.2.heap B2.out hne
  have hK9 : KeepT q w w9 := hK2.trans h9.out.2.keep
  have y2 : w9.cell? ⟨q, 2, none⟩ = some (.int .i64 FE) := W9.out.e
  clear h9 e0 e1 e2
  clear t1 t2 s1 s2
  have hz : FE = 0 := by have b := HD.out; simp [hT, hS] at b; omega
  subst hz
  have S9 : Hid (WS w9 q R (fun s1 => andT (fruns (d + 1) s1 r.test) fun s2 => andT (rruns (d + 1) s2 r.subs) F)) := WS.of W9.out HOk.out (by have h := HR1.out; rw [andT_eq] at h; exact h)
  clear HD HR1 HNo hT hS
  go_wp2
  go_loopw [9] (fun v wr => ∃ k : Nat, k ≤ nt ∧ v = .int .i64 k ∧ KeepT q w9 wr ∧ Hid (WS wr q R (fun s => andT (fruns (d + 1) s (r.test.drop k)) (fun s2 => andT (rruns (d + 1) s2 r.subs) F)))) (fun v _ => nt - (intOf v).toNat)
  case atStart => exact ⟨0, Nat.zero_le _, rfl, KeepT.refl _ _, by rw [List.drop_zero]; exact S9⟩
  case round =>
    obtain ⟨k, hk, rfl, hKr, hSr⟩ := hrel
    have Br : Hid (_) := (hKr.block w.heap.size (lt_heap B9.out) hne).trans B9.out
    have r6 : wr.cell? ⟨w.heap.size, 1, none⟩ = some (.slice pt nt ct) := by rw [Lib.cell_of_heap Br.out]; rfl
    by_cases hlt : k < nt
    case neg =>
      have c2 : ¬ (k : Int) < nt := by omega
      obtain ⟨w10, ew⟩ : ∃ W : World, W = wr := ⟨_, rfl⟩
      subst ew
      have S10 : Hid (WS w10 q R (fun s2 => andT (rruns (d + 1) s2 r.subs) F)) := hSr.out.cast (fun s => by rw [List.drop_eq_nil_of_le (by have := ent.out; omega), fruns_nil]; exact andT_eq)
      have hK10 : KeepT q w w10 := hK9.trans hKr
      have B10 : Hid (_) := Br.out
      clear hSr hKr Br
      go_wp2
      clear r6 c2 hk hlt
      go_loopw [10] (fun v wr => ∃ k : Nat, k ≤ ns ∧ v = .int .i64 k ∧ KeepT q w10 wr ∧ Hid (WS wr q R (fun s => andT (rruns (d + 1) s (r.subs.drop k)) F))) (fun v _ => ns - (intOf v).toNat)
      case atStart => exact ⟨0, Nat.zero_le _, rfl, KeepT.refl _ _, by rw [List.drop_zero]; exact S10⟩
      case round =>
        obtain ⟨k, hk, rfl, hKr, hSr⟩ := hrel
        have Br : Hid (_) := (hKr.block w.heap.size (lt_heap B10.out) hne).trans B10.out
        have r6 : wr.cell? ⟨w.heap.size, 2, none⟩ = some (.slice ps ns cs) := by rw [Lib.cell_of_heap Br.out]; rfl
        by_cases hlt : k < ns
        case neg =>
          have c2 : ¬ (k : Int) < ns := by omega
          have S11 : Hid (WS wr q R F) := hSr.out.cast (fun s => by rw [List.drop_eq_nil_of_le (by have := ens.out; omega), rruns_nil]; exact andT_eq)
          have hK11 : KeepT q w wr := hK10.trans hKr
          go_wp2
          go_end0
          exact ⟨⟨_, rfl⟩, hK11, S11.out⟩
        have hlt' : (k : Int) < ns := by omega
        have kx : k < r.subs.length := by have := ens.out; omega
        obtain ⟨b, off, u1, u2, rfl, hb, TC, N1t, N2t⟩ := HXR.out k kx
        have hBr : Below w0.heap.size w0 wr := hw.trans ((hK10.trans hKr).below (B := w0.heap.size) hq (Nat.le_of_lt hqw))
        obtain ⟨a0, a1, a2⟩ := TC.below hBr hb
        have wk := CR.out k kx u1 u2 N1t N2t
        have cW := wk wr R (fun s1 => andT (rruns (d + 1) s1 (r.subs.drop (k + 1))) F) hBr (hSr.out.cast (fun s => by rw [List.drop_eq_getElem_cons kx, rruns_and]))
        have HcW : Hid (Calls Tryz.prog 59 #[.pointer (some ⟨q, 0, none⟩), .agg #[.int .i64 r.subs[k].k, u1, u2], .int .i64 (d + 1)] wr fun e9 w' => (∃ v, e9 = .returned v) ∧ Hid (KeepT q wr w' ∧ WS w' q R (fun s1 => andT (rruns (d + 1) s1 (r.subs.drop (k + 1))) F))) := cW
        obtain ⟨p1, c1, rfl, -⟩ := N1t.form
        obtain ⟨p2, c2, rfl, -⟩ := N2t.form
        clear TC hSr wk cW N1t N2t
        generalize r.subs[k].k = X0 at *
        generalize r.subs[k].test.length = L1 at *
        generalize r.subs[k].subs.length = L2 at *
        have nw : IntKind.i64.wrap (d + 1) = d + 1 := by rw [IntKind.wrap_i64]; omega
        have nw2 : wrap64 (d + 1) = d + 1 := by unfold wrap64; omega
        go_wp2_with fail
        refine HcW.out.mono ?_
        rintro r w6 ⟨⟨v6, rfl⟩, h6⟩
        have hK6 : KeepT q w10 w6 := hKr.trans h6.out.1
        have HS6 : Hid (_) := h6.out.2
        clear h6 HcW
        go_wp2
        exact ⟨⟨k + 1, by omega, by go_num, hK6, HS6.out⟩, by simp [intOf]; omega⟩
    have hlt' : (k : Int) < nt := by omega
    have kx : k < r.test.length := by have := ent.out; omega
    obtain ⟨b, off, u1, u2, u3, u4, rfl, hb, TC, N1t, N2t, N3t, N4t⟩ := HXF.out k kx
    have hBr : Below w0.heap.size w0 wr := hw.trans ((hK9.trans hKr).below (B := w0.heap.size) hq (Nat.le_of_lt hqw))
    obtain ⟨a0, a1, a2, a3, a4, a5, a6, a7, a8, a9⟩ := TC.below hBr hb
    have wk := CF.out k kx ⟨u1, u2, u3, u4⟩ ⟨N1t, N2t, N3t, N4t⟩
    have cW := wk wr R (fun s1 => andT (fruns (d + 1) s1 (r.test.drop (k + 1))) (fun s2 => andT (rruns (d + 1) s2 r.subs) F)) hBr (hSr.out.cast (fun s => by rw [List.drop_eq_getElem_cons kx, fruns_and]))
    have HcW : Hid (Calls Tryz.prog 30 #[.pointer (some ⟨q, 0, none⟩), .agg #[.int .i64 r.test[k].k, .string r.test[k].nm, .int .i64 r.test[k].op, u1, u2, .int .i64 r.test[k].lo, .int .i64 r.test[k].hi, .bool r.test[k].opn, u3, u4], .int .i64 (d + 1)] wr fun e9 w' => (∃ v, e9 = .returned v) ∧ Hid (KeepT q wr w' ∧ WS w' q R (fun s1 => andT (fruns (d + 1) s1 (r.test.drop (k + 1))) (fun s2 => andT (rruns (d + 1) s2 r.subs) F)))) := cW
    obtain ⟨-, p1, c1, rfl, -⟩ := N1t
    obtain ⟨p2, c2, rfl, -⟩ := N2t.form
    obtain ⟨p3, c3, rfl, -⟩ := N3t.form
    obtain ⟨p4, c4, rfl, -⟩ := N4t.form
    clear TC hSr wk cW N2t N3t N4t
    generalize r.test[k].k = X0 at *
    generalize r.test[k].nm = X1 at *
    generalize r.test[k].op = X2 at *
    generalize r.test[k].lo = X3 at *
    generalize r.test[k].hi = X4 at *
    generalize r.test[k].opn = X5 at *
    generalize r.test[k].vars.length = L1 at *
    generalize r.test[k].terms.length = L2 at *
    generalize r.test[k].subs.length = L3 at *
    generalize r.test[k].rgx.length = L4 at *
    have nw : IntKind.i64.wrap (d + 1) = d + 1 := by rw [IntKind.wrap_i64]; omega
    have nw2 : wrap64 (d + 1) = d + 1 := by unfold wrap64; omega
    go_wp2_with fail
    refine HcW.out.mono ?_
    rintro r w6 ⟨⟨v6, rfl⟩, h6⟩
    have hK6 : KeepT q w9 w6 := hKr.trans h6.out.1
    have HS6 : Hid (_) := h6.out.2
    clear h6 HcW
    go_wp2
    exact ⟨⟨k + 1, by omega, by go_num, hK6, HS6.out⟩, by simp [intOf]; omega⟩
end Go.Proofs.YtfajjphfjilpnaaGreat

namespace Go.Proofs.YtfajjphfjilpnaaGreat
open Go.RowKit LX Go.Shelf
set_option linter.unusedVariables false

set_option maxRecDepth 100000 in
set_option maxHeartbeats 8000000 in
theorem rregex_c3 (w0 : World) (q : Nat) (hq : w0.heap.size ≤ q) (r : Rx) (ut us : Value) (ht : FmsAt w0 ut r.test) (hs : RxsAt w0 us r.subs) (d : Int) (hd0 : 0 ≤ d) (hd1 : d ≤ 25)
    (IR : d ≤ 24 → ∀ (i : Nat) (hi : i < r.subs.length) (u1 u2 : Value), FmsAt w0 u1 r.subs[i].test → RxsAt w0 u2 r.subs[i].subs → Walks w0 q 59 (.agg #[.int .i64 r.subs[i].k, u1, u2]) (d + 1) (fun s => rrun (d + 1) s r.subs[i]))
    (IF : d ≤ 24 → ∀ (i : Nat) (hi : i < r.test.length) (y : FQ), QAt w0 (r.test[i], y) → Walks w0 q 30 (.agg #[.int .i64 r.test[i].k, .string r.test[i].nm, .int .i64 r.test[i].op, y.v, y.t, .int .i64 r.test[i].lo, .int .i64 r.test[i].hi, .bool r.test[i].opn, y.s, y.r]) (d + 1) (fun s => frun (d + 1) s r.test[i]))
    (hk : r.k = 3) (N M : Int) (w : World) (R : Int × (Int × Int)) (F : Int × Int → Int × (Int × Int)) (hw : Below w0.heap.size w0 w) (hK : WK w q N M 0) (ho : OkS (N, M)) (hR : R = andT (rrun d (N, M) r) F) :
    Calls Tryz.prog 59 #[.pointer (some ⟨q, 0, none⟩), .agg #[.int .i64 r.k, ut, us], .int .i64 d] w fun e w' => (∃ v, e = .returned v) ∧ Hid (KeepT q w w' ∧ WS w' q R F) := by
  obtain ⟨pt, ct, rfl, hlt0, hct, HXF0⟩ := ht.form
  have HXF : Hid (∀ i (hi : i < r.test.length), ∃ b off uv ut us ur, pt = some ⟨b, off, none⟩ ∧ b < w0.heap.size ∧ FmC w0 b (off + i * 10) r.test[i] uv ut us ur ∧ NmsAt w0 uv r.test[i].vars ∧ TmsAt w0 ut r.test[i].terms ∧ FmsAt w0 us r.test[i].subs ∧ RxsAt w0 ur r.test[i].rgx) := HXF0
  obtain ⟨ps, cs, rfl, hls, hcs, HXR0⟩ := hs.form
  have HXR : Hid (∀ i (hi : i < r.subs.length), ∃ b off ut us, ps = some ⟨b, off, none⟩ ∧ b < w0.heap.size ∧ RxC w0 b (off + i * 3) r.subs[i] ut us ∧ FmsAt w0 ut r.subs[i].test ∧ RxsAt w0 us r.subs[i].subs) := HXR0
  have HW : Hid (WK w q N M 0) := hK
  have HO : Hid (OkS (N, M)) := ho
  have hqw : q < w.heap.size := hK.lt
  have HR0 : Hid (R = andT (meetE d (N, M), meetS d (N, M)) fun s1 => andT (rxE r, s1) fun s1 => andT (fruns (d + 1) s1 r.test) fun s2 => andT (rruns (d + 1) s2 r.subs) F) := by
    have h := hR
    rw [rrun_eq] at h
    simp only [andT_assoc] at h
    exact h
  have HE : Hid (ndE d N = meetE d (N, M)) := nd_meet (s := (N, M)) HO.out
  have CR0 : Hid (_) := IR
  have CF0 : Hid (_) := IF
  clear IR IF ht hs HXF0 HXR0 hK ho hR
  obtain ⟨FE, hFE⟩ : ∃ FE, Hid (rxE r = FE) := ⟨_, rfl⟩
  have HD : Hid ((if r.k < 1 ∨ 5 < r.k then 20 else if r.test.length ≠ (if r.k = 2 then 1 else 0) ∨ r.subs.length ≠ (if r.k = 3 ∨ r.k = 4 then 2 else if r.k = 5 then 1 else 0) then 1 else 0) = FE) := hFE.out
  rw [hFE.out] at HR0
  clear hFE
  obtain ⟨nt, ent⟩ : ∃ n : Nat, Hid (r.test.length = n) := ⟨_, rfl⟩
  obtain ⟨ns, ens⟩ : ∃ n : Nat, Hid (r.subs.length = n) := ⟨_, rfl⟩
  rw [ent.out] at hlt0 hct HD ⊢
  rw [ens.out] at hls hcs HD ⊢
  generalize r.k = tk at *
  subst hk
  have hne : w.heap.size ≠ q := by omega
  go_enter Tryz.func59, Tryz.ntmps59
  go_wp2_with fail
  refine (rnode_any q N M d _ (HW.out.alloc _) ⟨HO.out.1, by have := HO.out.2.1; simp at this; omega⟩).mono ?_
  rintro r9 w1 ⟨rfl, h1⟩
  have hK1 : KeepT q w w1 := (KeepT.of ((Below.refl _ _).alloc (Nat.le_refl _) _)).trans h1.out.2.keep
  have W1 : Hid (WK w1 q (N + 1) (if M < d then d else M) (ndE d N)) := h1.out.1
  have B1 : Hid (w1.heap[w.heap.size]? = some (.cells #[.int .i64 3, .slice pt nt ct, .slice ps ns cs] 76 (0, 0))) := (h1.out.2.block w.heap.size (by simp) hne).trans (heap_allocA w _)
  clear h1
  by_cases hE : ndE d N = 0
  case neg =>
    have hE' : (ndE d N == 0) = false := by simpa using hE
    rw [hE']
    go_wp2
    refine bodyPost_ret (results_none rfl _ _ _) rfl ?_
    refine ⟨⟨_, rfl⟩, hK1, _, _, _, W1.out, fun e => absurd e hE, fun _ => ?_⟩
    have h := HR0.out
    rw [← HE.out] at h
    rw [h, andT_ne hE]
  have hE' : (ndE d N == 0) = true := by simpa using hE
  rw [hE']
  obtain ⟨N1, hN1⟩ : ∃ N1, Hid (N + 1 = N1) := ⟨_, rfl⟩
  obtain ⟨M1, hM1⟩ : ∃ M1, Hid ((if M < d then d else M) = M1) := ⟨_, rfl⟩
  have W1' : Hid (WK w1 q N1 M1 0) := by have h := W1.out; rw [hE, hN1.out, hM1.out] at h; exact h
  clear W1
  have hmS : Hid (meetS d (N, M) = (N1, M1)) := by
    have e : meetE d (N, M) = 0 := by rw [← HE.out]; exact hE
    unfold meetS
    rw [if_pos e, ← hN1.out, ← hM1.out, Int.max_def]
    show (N + 1, if M ≤ d then d else M) = (N + 1, if M < d then d else M)
    congr 1
    by_cases h : M < d
    · rw [if_pos h, if_pos (by omega)]
    · rw [if_neg h]; split <;> omega
  have HR1 : Hid (R = andT (FE, (N1, M1)) fun s1 => andT (fruns (d + 1) s1 r.test) fun s2 => andT (rruns (d + 1) s2 r.subs) F) := by
    have h := HR0.out
    rw [← HE.out, hE, andT_eq, hmS.out] at h
    exact h
  have hd24 : d ≤ 24 := meetE_le (s := (N, M)) (by rw [← HE.out]; exact hE)
  have HOk : Hid (OkS (N1, M1)) := by rw [← hmS.out]; exact meetS_ok HO.out hd0
  have CR := CR0.out hd24
  have CF := CF0.out hd24
  have CR : Hid (_) := CR
  have CF : Hid (_) := CF
  clear HR0 HE hE hE' hN1 hM1 hmS CR0 CF0
  have HNo : Hid (¬ FE = 0 → ∀ W : World, WK W q N1 M1 FE → WS W q R F) := by
    intro h W hW
    have hr := HR1.out
    rw [andT_ne h] at hr
    exact ⟨_, _, _, hW, fun e => absurd e h, fun _ => by rw [hr]⟩
  have e0 : w1.cell? ⟨w.heap.size, 0, none⟩ = some (.int .i64 3) := by rw [Lib.cell_of_heap B1.out]; rfl
  go_wp2_with fail
  refine (rwrong_any q N1 M1 0 20 _ w1 W1'.out).mono ?_
  rintro r9 w2 ⟨⟨v2, rfl⟩, h2⟩
  have W2 : Hid (WK w2 q N1 M1 0) := by have a := h2.out.1; first | exact a | (simp [wrE, hk] at a; exact a)
  have B2 : Hid (_) := h2.out.2.heap B1.out hne
  have hK2 : KeepT q w w2 := hK1.trans h2.out.2.keep
  clear h2 e0 B1 hK1 W1'
  have e0 : w2.cell? ⟨w.heap.size, 0, none⟩ = some (.int .i64 3) := by rw [Lib.cell_of_heap B2.out]; rfl
  have e1 : w2.cell? ⟨w.heap.size, 1, none⟩ = some (.slice pt nt ct) := by rw [Lib.cell_of_heap B2.out]; rfl
  have e2 : w2.cell? ⟨w.heap.size, 2, none⟩ = some (.slice ps ns cs) := by rw [Lib.cell_of_heap B2.out]; rfl
  by_cases hT : nt = 0
  case neg =>
    have t1 : ((nt : Int) == 0) = false := by simp; omega
    have t2 : ((nt : Int) != 0) = true := by simp; omega
    go_wp2_with fail
    refine (rwrong_any q N1 M1 _ 1 _ _ W2.out).mono ?_
    rintro r9 w9 ⟨⟨v9, rfl⟩, h9⟩
    have W9 : Hid (WK w9 q N1 M1 FE) := by have a := h9.out.1; have b := HD.out; simp [wrE, hT] at a b; first | (subst b; exact a) | (rw [← b]; exact a)
    have B9 : Hid (_) := h9.out.2.heap B2.out hne
    have hK9 : KeepT q w w9 := hK2.trans h9.out.2.keep
    have y2 : w9.cell? ⟨q, 2, none⟩ = some (.int .i64 FE) := W9.out.e
    clear h9 e0 e1 e2
    have tn : ¬ FE = 0 := by have b := HD.out; simp [hT] at b; omega
    have tn' : (FE == 0) = false := by simpa using tn
    have tn'' : (FE != 0) = true := by simpa using tn
    go_wp2
    refine bodyPost_ret (results_none rfl _ _ _) rfl ?_
    exact ⟨⟨_, rfl⟩, hK9, HNo.out tn _ W9.out⟩
  have t1 : ((nt : Int) == 0) = true := by simp; omega
  have t2 : ((nt : Int) != 0) = false := by simp; omega
  by_cases hS : ns = 2
  case neg =>
    have s1 : ((ns : Int) == 2) = false := by simp; omega
    have s2 : ((ns : Int) != 2) = true := by simp; omega
    go_wp2_with fail
    refine (rwrong_any q N1 M1 _ 1 _ _ W2.out).mono ?_
    rintro r9 w9 ⟨⟨v9, rfl⟩, h9⟩
    have W9 : Hid (WK w9 q N1 M1 FE) := by have a := h9.out.1; have b := HD.out; simp [wrE, hT, hS] at a b; first | (subst b; exact a) | (rw [← b]; exact a)
    have B9 : Hid (_) := h9.out.2.heap B2.out hne
    have hK9 : KeepT q w w9 := hK2.trans h9.out.2.keep
    have y2 : w9.cell? ⟨q, 2, none⟩ = some (.int .i64 FE) := W9.out.e
    clear h9 e0 e1 e2
    have tn : ¬ FE = 0 := by have b := HD.out; simp [hT, hS] at b; omega
    have tn' : (FE == 0) = false := by simpa using tn
    have tn'' : (FE != 0) = true := by simpa using tn
    go_wp2
    refine bodyPost_ret (results_none rfl _ _ _) rfl ?_
    exact ⟨⟨_, rfl⟩, hK9, HNo.out tn _ W9.out⟩
  have s1 : ((ns : Int) == 2) = true := by simp; omega
  have s2 : ((ns : Int) != 2) = false := by simp; omega
  go_wp2_with fail
  refine (rwrong_any q N1 M1 _ 1 _ _ W2.out).mono ?_
  rintro r9 w9 ⟨⟨v9, rfl⟩, h9⟩
  have W9 : Hid (WK w9 q N1 M1 FE) := by have a := h9.out.1; have b := HD.out; simp [wrE, hT, hS] at a b; first | (subst b; exact a) | (rw [← b]; exact a)
  have B9 : Hid (_) := h9.out.2.heap B2.out hne
  have hK9 : KeepT q w w9 := hK2.trans h9.out.2.keep
  have y2 : w9.cell? ⟨q, 2, none⟩ = some (.int .i64 FE) := W9.out.e
  clear h9 e0 e1 e2
  clear t1 t2 s1 s2
  have hz : FE = 0 := by have b := HD.out; simp [hT, hS] at b; omega
  subst hz
  have S9 : Hid (WS w9 q R (fun s1 => andT (fruns (d + 1) s1 r.test) fun s2 => andT (rruns (d + 1) s2 r.subs) F)) := WS.of W9.out HOk.out (by have h := HR1.out; rw [andT_eq] at h; exact h)
  clear HD HR1 HNo hT hS
  go_wp2
  go_loopw [9] (fun v wr => ∃ k : Nat, k ≤ nt ∧ v = .int .i64 k ∧ KeepT q w9 wr ∧ Hid (WS wr q R (fun s => andT (fruns (d + 1) s (r.test.drop k)) (fun s2 => andT (rruns (d + 1) s2 r.subs) F)))) (fun v _ => nt - (intOf v).toNat)
  case atStart => exact ⟨0, Nat.zero_le _, rfl, KeepT.refl _ _, by rw [List.drop_zero]; exact S9⟩
  case round =>
    obtain ⟨k, hk, rfl, hKr, hSr⟩ := hrel
    have Br : Hid (_) := (hKr.block w.heap.size (lt_heap B9.out) hne).trans B9.out
    have r6 : wr.cell? ⟨w.heap.size, 1, none⟩ = some (.slice pt nt ct) := by rw [Lib.cell_of_heap Br.out]; rfl
    by_cases hlt : k < nt
    case neg =>
      have c2 : ¬ (k : Int) < nt := by omega
      obtain ⟨w10, ew⟩ : ∃ W : World, W = wr := ⟨_, rfl⟩
      subst ew
      have S10 : Hid (WS w10 q R (fun s2 => andT (rruns (d + 1) s2 r.subs) F)) := hSr.out.cast (fun s => by rw [List.drop_eq_nil_of_le (by have := ent.out; omega), fruns_nil]; exact andT_eq)
      have hK10 : KeepT q w w10 := hK9.trans hKr
      have B10 : Hid (_) := Br.out
      clear hSr hKr Br
      go_wp2
      clear r6 c2 hk hlt
      go_loopw [10] (fun v wr => ∃ k : Nat, k ≤ ns ∧ v = .int .i64 k ∧ KeepT q w10 wr ∧ Hid (WS wr q R (fun s => andT (rruns (d + 1) s (r.subs.drop k)) F))) (fun v _ => ns - (intOf v).toNat)
      case atStart => exact ⟨0, Nat.zero_le _, rfl, KeepT.refl _ _, by rw [List.drop_zero]; exact S10⟩
      case round =>
        obtain ⟨k, hk, rfl, hKr, hSr⟩ := hrel
        have Br : Hid (_) := (hKr.block w.heap.size (lt_heap B10.out) hne).trans B10.out
        have r6 : wr.cell? ⟨w.heap.size, 2, none⟩ = some (.slice ps ns cs) := by rw [Lib.cell_of_heap Br.out]; rfl
        by_cases hlt : k < ns
        case neg =>
          have c2 : ¬ (k : Int) < ns := by omega
          have S11 : Hid (WS wr q R F) := hSr.out.cast (fun s => by rw [List.drop_eq_nil_of_le (by have := ens.out; omega), rruns_nil]; exact andT_eq)
          have hK11 : KeepT q w wr := hK10.trans hKr
          go_wp2
          go_end0
          exact ⟨⟨_, rfl⟩, hK11, S11.out⟩
        have hlt' : (k : Int) < ns := by omega
        have kx : k < r.subs.length := by have := ens.out; omega
        obtain ⟨b, off, u1, u2, rfl, hb, TC, N1t, N2t⟩ := HXR.out k kx
        have hBr : Below w0.heap.size w0 wr := hw.trans ((hK10.trans hKr).below (B := w0.heap.size) hq (Nat.le_of_lt hqw))
        obtain ⟨a0, a1, a2⟩ := TC.below hBr hb
        have wk := CR.out k kx u1 u2 N1t N2t
        have cW := wk wr R (fun s1 => andT (rruns (d + 1) s1 (r.subs.drop (k + 1))) F) hBr (hSr.out.cast (fun s => by rw [List.drop_eq_getElem_cons kx, rruns_and]))
        have HcW : Hid (Calls Tryz.prog 59 #[.pointer (some ⟨q, 0, none⟩), .agg #[.int .i64 r.subs[k].k, u1, u2], .int .i64 (d + 1)] wr fun e9 w' => (∃ v, e9 = .returned v) ∧ Hid (KeepT q wr w' ∧ WS w' q R (fun s1 => andT (rruns (d + 1) s1 (r.subs.drop (k + 1))) F))) := cW
        obtain ⟨p1, c1, rfl, -⟩ := N1t.form
        obtain ⟨p2, c2, rfl, -⟩ := N2t.form
        clear TC hSr wk cW N1t N2t
        generalize r.subs[k].k = X0 at *
        generalize r.subs[k].test.length = L1 at *
        generalize r.subs[k].subs.length = L2 at *
        have nw : IntKind.i64.wrap (d + 1) = d + 1 := by rw [IntKind.wrap_i64]; omega
        have nw2 : wrap64 (d + 1) = d + 1 := by unfold wrap64; omega
        go_wp2_with fail
        refine HcW.out.mono ?_
        rintro r w6 ⟨⟨v6, rfl⟩, h6⟩
        have hK6 : KeepT q w10 w6 := hKr.trans h6.out.1
        have HS6 : Hid (_) := h6.out.2
        clear h6 HcW
        go_wp2
        exact ⟨⟨k + 1, by omega, by go_num, hK6, HS6.out⟩, by simp [intOf]; omega⟩
    have hlt' : (k : Int) < nt := by omega
    have kx : k < r.test.length := by have := ent.out; omega
    obtain ⟨b, off, u1, u2, u3, u4, rfl, hb, TC, N1t, N2t, N3t, N4t⟩ := HXF.out k kx
    have hBr : Below w0.heap.size w0 wr := hw.trans ((hK9.trans hKr).below (B := w0.heap.size) hq (Nat.le_of_lt hqw))
    obtain ⟨a0, a1, a2, a3, a4, a5, a6, a7, a8, a9⟩ := TC.below hBr hb
    have wk := CF.out k kx ⟨u1, u2, u3, u4⟩ ⟨N1t, N2t, N3t, N4t⟩
    have cW := wk wr R (fun s1 => andT (fruns (d + 1) s1 (r.test.drop (k + 1))) (fun s2 => andT (rruns (d + 1) s2 r.subs) F)) hBr (hSr.out.cast (fun s => by rw [List.drop_eq_getElem_cons kx, fruns_and]))
    have HcW : Hid (Calls Tryz.prog 30 #[.pointer (some ⟨q, 0, none⟩), .agg #[.int .i64 r.test[k].k, .string r.test[k].nm, .int .i64 r.test[k].op, u1, u2, .int .i64 r.test[k].lo, .int .i64 r.test[k].hi, .bool r.test[k].opn, u3, u4], .int .i64 (d + 1)] wr fun e9 w' => (∃ v, e9 = .returned v) ∧ Hid (KeepT q wr w' ∧ WS w' q R (fun s1 => andT (fruns (d + 1) s1 (r.test.drop (k + 1))) (fun s2 => andT (rruns (d + 1) s2 r.subs) F)))) := cW
    obtain ⟨-, p1, c1, rfl, -⟩ := N1t
    obtain ⟨p2, c2, rfl, -⟩ := N2t.form
    obtain ⟨p3, c3, rfl, -⟩ := N3t.form
    obtain ⟨p4, c4, rfl, -⟩ := N4t.form
    clear TC hSr wk cW N2t N3t N4t
    generalize r.test[k].k = X0 at *
    generalize r.test[k].nm = X1 at *
    generalize r.test[k].op = X2 at *
    generalize r.test[k].lo = X3 at *
    generalize r.test[k].hi = X4 at *
    generalize r.test[k].opn = X5 at *
    generalize r.test[k].vars.length = L1 at *
    generalize r.test[k].terms.length = L2 at *
    generalize r.test[k].subs.length = L3 at *
    generalize r.test[k].rgx.length = L4 at *
    have nw : IntKind.i64.wrap (d + 1) = d + 1 := by rw [IntKind.wrap_i64]; omega
    have nw2 : wrap64 (d + 1) = d + 1 := by unfold wrap64; omega
    go_wp2_with fail
    refine HcW.out.mono ?_
    rintro r w6 ⟨⟨v6, rfl⟩, h6⟩
    have hK6 : KeepT q w9 w6 := hKr.trans h6.out.1
    have HS6 : Hid (_) := h6.out.2
    clear h6 HcW
    go_wp2
    exact ⟨⟨k + 1, by omega, by go_num, hK6, HS6.out⟩, by simp [intOf]; omega⟩
end Go.Proofs.YtfajjphfjilpnaaGreat

namespace Go.Proofs.YtfajjphfjilpnaaGreat
open Go.RowKit LX Go.Shelf
set_option linter.unusedVariables false

set_option maxRecDepth 100000 in
set_option maxHeartbeats 8000000 in
theorem rregex_c4 (w0 : World) (q : Nat) (hq : w0.heap.size ≤ q) (r : Rx) (ut us : Value) (ht : FmsAt w0 ut r.test) (hs : RxsAt w0 us r.subs) (d : Int) (hd0 : 0 ≤ d) (hd1 : d ≤ 25)
    (IR : d ≤ 24 → ∀ (i : Nat) (hi : i < r.subs.length) (u1 u2 : Value), FmsAt w0 u1 r.subs[i].test → RxsAt w0 u2 r.subs[i].subs → Walks w0 q 59 (.agg #[.int .i64 r.subs[i].k, u1, u2]) (d + 1) (fun s => rrun (d + 1) s r.subs[i]))
    (IF : d ≤ 24 → ∀ (i : Nat) (hi : i < r.test.length) (y : FQ), QAt w0 (r.test[i], y) → Walks w0 q 30 (.agg #[.int .i64 r.test[i].k, .string r.test[i].nm, .int .i64 r.test[i].op, y.v, y.t, .int .i64 r.test[i].lo, .int .i64 r.test[i].hi, .bool r.test[i].opn, y.s, y.r]) (d + 1) (fun s => frun (d + 1) s r.test[i]))
    (hk : r.k = 4) (N M : Int) (w : World) (R : Int × (Int × Int)) (F : Int × Int → Int × (Int × Int)) (hw : Below w0.heap.size w0 w) (hK : WK w q N M 0) (ho : OkS (N, M)) (hR : R = andT (rrun d (N, M) r) F) :
    Calls Tryz.prog 59 #[.pointer (some ⟨q, 0, none⟩), .agg #[.int .i64 r.k, ut, us], .int .i64 d] w fun e w' => (∃ v, e = .returned v) ∧ Hid (KeepT q w w' ∧ WS w' q R F) := by
  obtain ⟨pt, ct, rfl, hlt0, hct, HXF0⟩ := ht.form
  have HXF : Hid (∀ i (hi : i < r.test.length), ∃ b off uv ut us ur, pt = some ⟨b, off, none⟩ ∧ b < w0.heap.size ∧ FmC w0 b (off + i * 10) r.test[i] uv ut us ur ∧ NmsAt w0 uv r.test[i].vars ∧ TmsAt w0 ut r.test[i].terms ∧ FmsAt w0 us r.test[i].subs ∧ RxsAt w0 ur r.test[i].rgx) := HXF0
  obtain ⟨ps, cs, rfl, hls, hcs, HXR0⟩ := hs.form
  have HXR : Hid (∀ i (hi : i < r.subs.length), ∃ b off ut us, ps = some ⟨b, off, none⟩ ∧ b < w0.heap.size ∧ RxC w0 b (off + i * 3) r.subs[i] ut us ∧ FmsAt w0 ut r.subs[i].test ∧ RxsAt w0 us r.subs[i].subs) := HXR0
  have HW : Hid (WK w q N M 0) := hK
  have HO : Hid (OkS (N, M)) := ho
  have hqw : q < w.heap.size := hK.lt
  have HR0 : Hid (R = andT (meetE d (N, M), meetS d (N, M)) fun s1 => andT (rxE r, s1) fun s1 => andT (fruns (d + 1) s1 r.test) fun s2 => andT (rruns (d + 1) s2 r.subs) F) := by
    have h := hR
    rw [rrun_eq] at h
    simp only [andT_assoc] at h
    exact h
  have HE : Hid (ndE d N = meetE d (N, M)) := nd_meet (s := (N, M)) HO.out
  have CR0 : Hid (_) := IR
  have CF0 : Hid (_) := IF
  clear IR IF ht hs HXF0 HXR0 hK ho hR
  obtain ⟨FE, hFE⟩ : ∃ FE, Hid (rxE r = FE) := ⟨_, rfl⟩
  have HD : Hid ((if r.k < 1 ∨ 5 < r.k then 20 else if r.test.length ≠ (if r.k = 2 then 1 else 0) ∨ r.subs.length ≠ (if r.k = 3 ∨ r.k = 4 then 2 else if r.k = 5 then 1 else 0) then 1 else 0) = FE) := hFE.out
  rw [hFE.out] at HR0
  clear hFE
  obtain ⟨nt, ent⟩ : ∃ n : Nat, Hid (r.test.length = n) := ⟨_, rfl⟩
  obtain ⟨ns, ens⟩ : ∃ n : Nat, Hid (r.subs.length = n) := ⟨_, rfl⟩
  rw [ent.out] at hlt0 hct HD ⊢
  rw [ens.out] at hls hcs HD ⊢
  generalize r.k = tk at *
  subst hk
  have hne : w.heap.size ≠ q := by omega
  go_enter Tryz.func59, Tryz.ntmps59
  go_wp2_with fail
  refine (rnode_any q N M d _ (HW.out.alloc _) ⟨HO.out.1, by have := HO.out.2.1; simp at this; omega⟩).mono ?_
  rintro r9 w1 ⟨rfl, h1⟩
  have hK1 : KeepT q w w1 := (KeepT.of ((Below.refl _ _).alloc (Nat.le_refl _) _)).trans h1.out.2.keep
  have W1 : Hid (WK w1 q (N + 1) (if M < d then d else M) (ndE d N)) := h1.out.1
  have B1 : Hid (w1.heap[w.heap.size]? = some (.cells #[.int .i64 4, .slice pt nt ct, .slice ps ns cs] 76 (0, 0))) := (h1.out.2.block w.heap.size (by simp) hne).trans (heap_allocA w _)
  clear h1
  by_cases hE : ndE d N = 0
  case neg =>
    have hE' : (ndE d N == 0) = false := by simpa using hE
    rw [hE']
    go_wp2
    refine bodyPost_ret (results_none rfl _ _ _) rfl ?_
    refine ⟨⟨_, rfl⟩, hK1, _, _, _, W1.out, fun e => absurd e hE, fun _ => ?_⟩
    have h := HR0.out
    rw [← HE.out] at h
    rw [h, andT_ne hE]
  have hE' : (ndE d N == 0) = true := by simpa using hE
  rw [hE']
  obtain ⟨N1, hN1⟩ : ∃ N1, Hid (N + 1 = N1) := ⟨_, rfl⟩
  obtain ⟨M1, hM1⟩ : ∃ M1, Hid ((if M < d then d else M) = M1) := ⟨_, rfl⟩
  have W1' : Hid (WK w1 q N1 M1 0) := by have h := W1.out; rw [hE, hN1.out, hM1.out] at h; exact h
  clear W1
  have hmS : Hid (meetS d (N, M) = (N1, M1)) := by
    have e : meetE d (N, M) = 0 := by rw [← HE.out]; exact hE
    unfold meetS
    rw [if_pos e, ← hN1.out, ← hM1.out, Int.max_def]
    show (N + 1, if M ≤ d then d else M) = (N + 1, if M < d then d else M)
    congr 1
    by_cases h : M < d
    · rw [if_pos h, if_pos (by omega)]
    · rw [if_neg h]; split <;> omega
  have HR1 : Hid (R = andT (FE, (N1, M1)) fun s1 => andT (fruns (d + 1) s1 r.test) fun s2 => andT (rruns (d + 1) s2 r.subs) F) := by
    have h := HR0.out
    rw [← HE.out, hE, andT_eq, hmS.out] at h
    exact h
  have hd24 : d ≤ 24 := meetE_le (s := (N, M)) (by rw [← HE.out]; exact hE)
  have HOk : Hid (OkS (N1, M1)) := by rw [← hmS.out]; exact meetS_ok HO.out hd0
  have CR := CR0.out hd24
  have CF := CF0.out hd24
  have CR : Hid (_) := CR
  have CF : Hid (_) := CF
  clear HR0 HE hE hE' hN1 hM1 hmS CR0 CF0
  have HNo : Hid (¬ FE = 0 → ∀ W : World, WK W q N1 M1 FE → WS W q R F) := by
    intro h W hW
    have hr := HR1.out
    rw [andT_ne h] at hr
    exact ⟨_, _, _, hW, fun e => absurd e h, fun _ => by rw [hr]⟩
  have e0 : w1.cell? ⟨w.heap.size, 0, none⟩ = some (.int .i64 4) := by rw [Lib.cell_of_heap B1.out]; rfl
  go_wp2_with fail
  refine (rwrong_any q N1 M1 0 20 _ w1 W1'.out).mono ?_
  rintro r9 w2 ⟨⟨v2, rfl⟩, h2⟩
  have W2 : Hid (WK w2 q N1 M1 0) := by have a := h2.out.1; first | exact a | (simp [wrE, hk] at a; exact a)
  have B2 : Hid (_) := h2.out.2.heap B1.out hne
  have hK2 : KeepT q w w2 := hK1.trans h2.out.2.keep
  clear h2 e0 B1 hK1 W1'
  have e0 : w2.cell? ⟨w.heap.size, 0, none⟩ = some (.int .i64 4) := by rw [Lib.cell_of_heap B2.out]; rfl
  have e1 : w2.cell? ⟨w.heap.size, 1, none⟩ = some (.slice pt nt ct) := by rw [Lib.cell_of_heap B2.out]; rfl
  have e2 : w2.cell? ⟨w.heap.size, 2, none⟩ = some (.slice ps ns cs) := by rw [Lib.cell_of_heap B2.out]; rfl
  by_cases hT : nt = 0
  case neg =>
    have t1 : ((nt : Int) == 0) = false := by simp; omega
    have t2 : ((nt : Int) != 0) = true := by simp; omega
    go_wp2_with fail
    refine (rwrong_any q N1 M1 _ 1 _ _ W2.out).mono ?_
    rintro r9 w9 ⟨⟨v9, rfl⟩, h9⟩
    have W9 : Hid (WK w9 q N1 M1 FE) := by have a := h9.out.1; have b := HD.out; simp [wrE, hT] at a b; first | (subst b; exact a) | (rw [← b]; exact a)
    have B9 : Hid (_) := h9.out.2.heap B2.out hne
    have hK9 : KeepT q w w9 := hK2.trans h9.out.2.keep
    have y2 : w9.cell? ⟨q, 2, none⟩ = some (.int .i64 FE) := W9.out.e
    clear h9 e0 e1 e2
    have tn : ¬ FE = 0 := by have b := HD.out; simp [hT] at b; omega
    have tn' : (FE == 0) = false := by simpa using tn
    have tn'' : (FE != 0) = true := by simpa using tn
    go_wp2
    refine bodyPost_ret (results_none rfl _ _ _) rfl ?_
    exact ⟨⟨_, rfl⟩, hK9, HNo.out tn _ W9.out⟩
  have t1 : ((nt : Int) == 0) = true := by simp; omega
  have t2 : ((nt : Int) != 0) = false := by simp; omega
  by_cases hS : ns = 2
  case neg =>
    have s1 : ((ns : Int) == 2) = false := by simp; omega
    have s2 : ((ns : Int) != 2) = true := by simp; omega
    go_wp2_with fail
    refine (rwrong_any q N1 M1 _ 1 _ _ W2.out).mono ?_
    rintro r9 w9 ⟨⟨v9, rfl⟩, h9⟩
    have W9 : Hid (WK w9 q N1 M1 FE) := by have a := h9.out.1; have b := HD.out; simp [wrE, hT, hS] at a b; first | (subst b; exact a) | (rw [← b]; exact a)
    have B9 : Hid (_) := h9.out.2.heap B2.out hne
    have hK9 : KeepT q w w9 := hK2.trans h9.out.2.keep
    have y2 : w9.cell? ⟨q, 2, none⟩ = some (.int .i64 FE) := W9.out.e
    clear h9 e0 e1 e2
    have tn : ¬ FE = 0 := by have b := HD.out; simp [hT, hS] at b; omega
    have tn' : (FE == 0) = false := by simpa using tn
    have tn'' : (FE != 0) = true := by simpa using tn
    go_wp2
    refine bodyPost_ret (results_none rfl _ _ _) rfl ?_
    exact ⟨⟨_, rfl⟩, hK9, HNo.out tn _ W9.out⟩
  have s1 : ((ns : Int) == 2) = true := by simp; omega
  have s2 : ((ns : Int) != 2) = false := by simp; omega
  go_wp2_with fail
  refine (rwrong_any q N1 M1 _ 1 _ _ W2.out).mono ?_
  rintro r9 w9 ⟨⟨v9, rfl⟩, h9⟩
  have W9 : Hid (WK w9 q N1 M1 FE) := by have a := h9.out.1; have b := HD.out; simp [wrE, hT, hS] at a b; first | (subst b; exact a) | (rw [← b]; exact a)
  have B9 : Hid (_) := h9.out.2.heap B2.out hne
  have hK9 : KeepT q w w9 := hK2.trans h9.out.2.keep
  have y2 : w9.cell? ⟨q, 2, none⟩ = some (.int .i64 FE) := W9.out.e
  clear h9 e0 e1 e2
  clear t1 t2 s1 s2
  have hz : FE = 0 := by have b := HD.out; simp [hT, hS] at b; omega
  subst hz
  have S9 : Hid (WS w9 q R (fun s1 => andT (fruns (d + 1) s1 r.test) fun s2 => andT (rruns (d + 1) s2 r.subs) F)) := WS.of W9.out HOk.out (by have h := HR1.out; rw [andT_eq] at h; exact h)
  clear HD HR1 HNo hT hS
  go_wp2
  go_loopw [9] (fun v wr => ∃ k : Nat, k ≤ nt ∧ v = .int .i64 k ∧ KeepT q w9 wr ∧ Hid (WS wr q R (fun s => andT (fruns (d + 1) s (r.test.drop k)) (fun s2 => andT (rruns (d + 1) s2 r.subs) F)))) (fun v _ => nt - (intOf v).toNat)
  case atStart => exact ⟨0, Nat.zero_le _, rfl, KeepT.refl _ _, by rw [List.drop_zero]; exact S9⟩
  case round =>
    obtain ⟨k, hk, rfl, hKr, hSr⟩ := hrel
    have Br : Hid (_) := (hKr.block w.heap.size (lt_heap B9.out) hne).trans B9.out
    have r6 : wr.cell? ⟨w.heap.size, 1, none⟩ = some (.slice pt nt ct) := by rw [Lib.cell_of_heap Br.out]; rfl
    by_cases hlt : k < nt
    case neg =>
      have c2 : ¬ (k : Int) < nt := by omega
      obtain ⟨w10, ew⟩ : ∃ W : World, W = wr := ⟨_, rfl⟩
      subst ew
      have S10 : Hid (WS w10 q R (fun s2 => andT (rruns (d + 1) s2 r.subs) F)) := hSr.out.cast (fun s => by rw [List.drop_eq_nil_of_le (by have := ent.out; omega), fruns_nil]; exact andT_eq)
      have hK10 : KeepT q w w10 := hK9.trans hKr
      have B10 : Hid (_) := Br.out
      clear hSr hKr Br
      go_wp2
      clear r6 c2 hk hlt
      go_loopw [10] (fun v wr => ∃ k : Nat, k ≤ ns ∧ v = .int .i64 k ∧ KeepT q w10 wr ∧ Hid (WS wr q R (fun s => andT (rruns (d + 1) s (r.subs.drop k)) F))) (fun v _ => ns - (intOf v).toNat)
      case atStart => exact ⟨0, Nat.zero_le _, rfl, KeepT.refl _ _, by rw [List.drop_zero]; exact S10⟩
      case round =>
        obtain ⟨k, hk, rfl, hKr, hSr⟩ := hrel
        have Br : Hid (_) := (hKr.block w.heap.size (lt_heap B10.out) hne).trans B10.out
        have r6 : wr.cell? ⟨w.heap.size, 2, none⟩ = some (.slice ps ns cs) := by rw [Lib.cell_of_heap Br.out]; rfl
        by_cases hlt : k < ns
        case neg =>
          have c2 : ¬ (k : Int) < ns := by omega
          have S11 : Hid (WS wr q R F) := hSr.out.cast (fun s => by rw [List.drop_eq_nil_of_le (by have := ens.out; omega), rruns_nil]; exact andT_eq)
          have hK11 : KeepT q w wr := hK10.trans hKr
          go_wp2
          go_end0
          exact ⟨⟨_, rfl⟩, hK11, S11.out⟩
        have hlt' : (k : Int) < ns := by omega
        have kx : k < r.subs.length := by have := ens.out; omega
        obtain ⟨b, off, u1, u2, rfl, hb, TC, N1t, N2t⟩ := HXR.out k kx
        have hBr : Below w0.heap.size w0 wr := hw.trans ((hK10.trans hKr).below (B := w0.heap.size) hq (Nat.le_of_lt hqw))
        obtain ⟨a0, a1, a2⟩ := TC.below hBr hb
        have wk := CR.out k kx u1 u2 N1t N2t
        have cW := wk wr R (fun s1 => andT (rruns (d + 1) s1 (r.subs.drop (k + 1))) F) hBr (hSr.out.cast (fun s => by rw [List.drop_eq_getElem_cons kx, rruns_and]))
        have HcW : Hid (Calls Tryz.prog 59 #[.pointer (some ⟨q, 0, none⟩), .agg #[.int .i64 r.subs[k].k, u1, u2], .int .i64 (d + 1)] wr fun e9 w' => (∃ v, e9 = .returned v) ∧ Hid (KeepT q wr w' ∧ WS w' q R (fun s1 => andT (rruns (d + 1) s1 (r.subs.drop (k + 1))) F))) := cW
        obtain ⟨p1, c1, rfl, -⟩ := N1t.form
        obtain ⟨p2, c2, rfl, -⟩ := N2t.form
        clear TC hSr wk cW N1t N2t
        generalize r.subs[k].k = X0 at *
        generalize r.subs[k].test.length = L1 at *
        generalize r.subs[k].subs.length = L2 at *
        have nw : IntKind.i64.wrap (d + 1) = d + 1 := by rw [IntKind.wrap_i64]; omega
        have nw2 : wrap64 (d + 1) = d + 1 := by unfold wrap64; omega
        go_wp2_with fail
        refine HcW.out.mono ?_
        rintro r w6 ⟨⟨v6, rfl⟩, h6⟩
        have hK6 : KeepT q w10 w6 := hKr.trans h6.out.1
        have HS6 : Hid (_) := h6.out.2
        clear h6 HcW
        go_wp2
        exact ⟨⟨k + 1, by omega, by go_num, hK6, HS6.out⟩, by simp [intOf]; omega⟩
    have hlt' : (k : Int) < nt := by omega
    have kx : k < r.test.length := by have := ent.out; omega
    obtain ⟨b, off, u1, u2, u3, u4, rfl, hb, TC, N1t, N2t, N3t, N4t⟩ := HXF.out k kx
    have hBr : Below w0.heap.size w0 wr := hw.trans ((hK9.trans hKr).below (B := w0.heap.size) hq (Nat.le_of_lt hqw))
    obtain ⟨a0, a1, a2, a3, a4, a5, a6, a7, a8, a9⟩ := TC.below hBr hb
    have wk := CF.out k kx ⟨u1, u2, u3, u4⟩ ⟨N1t, N2t, N3t, N4t⟩
    have cW := wk wr R (fun s1 => andT (fruns (d + 1) s1 (r.test.drop (k + 1))) (fun s2 => andT (rruns (d + 1) s2 r.subs) F)) hBr (hSr.out.cast (fun s => by rw [List.drop_eq_getElem_cons kx, fruns_and]))
    have HcW : Hid (Calls Tryz.prog 30 #[.pointer (some ⟨q, 0, none⟩), .agg #[.int .i64 r.test[k].k, .string r.test[k].nm, .int .i64 r.test[k].op, u1, u2, .int .i64 r.test[k].lo, .int .i64 r.test[k].hi, .bool r.test[k].opn, u3, u4], .int .i64 (d + 1)] wr fun e9 w' => (∃ v, e9 = .returned v) ∧ Hid (KeepT q wr w' ∧ WS w' q R (fun s1 => andT (fruns (d + 1) s1 (r.test.drop (k + 1))) (fun s2 => andT (rruns (d + 1) s2 r.subs) F)))) := cW
    obtain ⟨-, p1, c1, rfl, -⟩ := N1t
    obtain ⟨p2, c2, rfl, -⟩ := N2t.form
    obtain ⟨p3, c3, rfl, -⟩ := N3t.form
    obtain ⟨p4, c4, rfl, -⟩ := N4t.form
    clear TC hSr wk cW N2t N3t N4t
    generalize r.test[k].k = X0 at *
    generalize r.test[k].nm = X1 at *
    generalize r.test[k].op = X2 at *
    generalize r.test[k].lo = X3 at *
    generalize r.test[k].hi = X4 at *
    generalize r.test[k].opn = X5 at *
    generalize r.test[k].vars.length = L1 at *
    generalize r.test[k].terms.length = L2 at *
    generalize r.test[k].subs.length = L3 at *
    generalize r.test[k].rgx.length = L4 at *
    have nw : IntKind.i64.wrap (d + 1) = d + 1 := by rw [IntKind.wrap_i64]; omega
    have nw2 : wrap64 (d + 1) = d + 1 := by unfold wrap64; omega
    go_wp2_with fail
    refine HcW.out.mono ?_
    rintro r w6 ⟨⟨v6, rfl⟩, h6⟩
    have hK6 : KeepT q w9 w6 := hKr.trans h6.out.1
    have HS6 : Hid (_) := h6.out.2
    clear h6 HcW
    go_wp2
    exact ⟨⟨k + 1, by omega, by go_num, hK6, HS6.out⟩, by simp [intOf]; omega⟩
end Go.Proofs.YtfajjphfjilpnaaGreat

namespace Go.Proofs.YtfajjphfjilpnaaGreat
open Go.RowKit LX Go.Shelf
set_option linter.unusedVariables false

set_option maxRecDepth 100000 in
set_option maxHeartbeats 8000000 in
theorem rregex_c5 (w0 : World) (q : Nat) (hq : w0.heap.size ≤ q) (r : Rx) (ut us : Value) (ht : FmsAt w0 ut r.test) (hs : RxsAt w0 us r.subs) (d : Int) (hd0 : 0 ≤ d) (hd1 : d ≤ 25)
    (IR : d ≤ 24 → ∀ (i : Nat) (hi : i < r.subs.length) (u1 u2 : Value), FmsAt w0 u1 r.subs[i].test → RxsAt w0 u2 r.subs[i].subs → Walks w0 q 59 (.agg #[.int .i64 r.subs[i].k, u1, u2]) (d + 1) (fun s => rrun (d + 1) s r.subs[i]))
    (IF : d ≤ 24 → ∀ (i : Nat) (hi : i < r.test.length) (y : FQ), QAt w0 (r.test[i], y) → Walks w0 q 30 (.agg #[.int .i64 r.test[i].k, .string r.test[i].nm, .int .i64 r.test[i].op, y.v, y.t, .int .i64 r.test[i].lo, .int .i64 r.test[i].hi, .bool r.test[i].opn, y.s, y.r]) (d + 1) (fun s => frun (d + 1) s r.test[i]))
    (hk : r.k = 5) (N M : Int) (w : World) (R : Int × (Int × Int)) (F : Int × Int → Int × (Int × Int)) (hw : Below w0.heap.size w0 w) (hK : WK w q N M 0) (ho : OkS (N, M)) (hR : R = andT (rrun d (N, M) r) F) :
    Calls Tryz.prog 59 #[.pointer (some ⟨q, 0, none⟩), .agg #[.int .i64 r.k, ut, us], .int .i64 d] w fun e w' => (∃ v, e = .returned v) ∧ Hid (KeepT q w w' ∧ WS w' q R F) := by
  obtain ⟨pt, ct, rfl, hlt0, hct, HXF0⟩ := ht.form
  have HXF : Hid (∀ i (hi : i < r.test.length), ∃ b off uv ut us ur, pt = some ⟨b, off, none⟩ ∧ b < w0.heap.size ∧ FmC w0 b (off + i * 10) r.test[i] uv ut us ur ∧ NmsAt w0 uv r.test[i].vars ∧ TmsAt w0 ut r.test[i].terms ∧ FmsAt w0 us r.test[i].subs ∧ RxsAt w0 ur r.test[i].rgx) := HXF0
  obtain ⟨ps, cs, rfl, hls, hcs, HXR0⟩ := hs.form
  have HXR : Hid (∀ i (hi : i < r.subs.length), ∃ b off ut us, ps = some ⟨b, off, none⟩ ∧ b < w0.heap.size ∧ RxC w0 b (off + i * 3) r.subs[i] ut us ∧ FmsAt w0 ut r.subs[i].test ∧ RxsAt w0 us r.subs[i].subs) := HXR0
  have HW : Hid (WK w q N M 0) := hK
  have HO : Hid (OkS (N, M)) := ho
  have hqw : q < w.heap.size := hK.lt
  have HR0 : Hid (R = andT (meetE d (N, M), meetS d (N, M)) fun s1 => andT (rxE r, s1) fun s1 => andT (fruns (d + 1) s1 r.test) fun s2 => andT (rruns (d + 1) s2 r.subs) F) := by
    have h := hR
    rw [rrun_eq] at h
    simp only [andT_assoc] at h
    exact h
  have HE : Hid (ndE d N = meetE d (N, M)) := nd_meet (s := (N, M)) HO.out
  have CR0 : Hid (_) := IR
  have CF0 : Hid (_) := IF
  clear IR IF ht hs HXF0 HXR0 hK ho hR
  obtain ⟨FE, hFE⟩ : ∃ FE, Hid (rxE r = FE) := ⟨_, rfl⟩
  have HD : Hid ((if r.k < 1 ∨ 5 < r.k then 20 else if r.test.length ≠ (if r.k = 2 then 1 else 0) ∨ r.subs.length ≠ (if r.k = 3 ∨ r.k = 4 then 2 else if r.k = 5 then 1 else 0) then 1 else 0) = FE) := hFE.out
  rw [hFE.out] at HR0
  clear hFE
  obtain ⟨nt, ent⟩ : ∃ n : Nat, Hid (r.test.length = n) := ⟨_, rfl⟩
  obtain ⟨ns, ens⟩ : ∃ n : Nat, Hid (r.subs.length = n) := ⟨_, rfl⟩
  rw [ent.out] at hlt0 hct HD ⊢
  rw [ens.out] at hls hcs HD ⊢
  generalize r.k = tk at *
  subst hk
  have hne : w.heap.size ≠ q := by omega
  go_enter Tryz.func59, Tryz.ntmps59
  go_wp2_with fail
  refine (rnode_any q N M d _ (HW.out.alloc _) ⟨HO.out.1, by have := HO.out.2.1; simp at this; omega⟩).mono ?_
  rintro r9 w1 ⟨rfl, h1⟩
  have hK1 : KeepT q w w1 := (KeepT.of ((Below.refl _ _).alloc (Nat.le_refl _) _)).trans h1.out.2.keep
  have W1 : Hid (WK w1 q (N + 1) (if M < d then d else M) (ndE d N)) := h1.out.1
  have B1 : Hid (w1.heap[w.heap.size]? = some (.cells #[.int .i64 5, .slice pt nt ct, .slice ps ns cs] 76 (0, 0))) := (h1.out.2.block w.heap.size (by simp) hne).trans (heap_allocA w _)
  clear h1
  by_cases hE : ndE d N = 0
  case neg =>
    have hE' : (ndE d N == 0) = false := by simpa using hE
    rw [hE']
    go_wp2
    refine bodyPost_ret (results_none rfl _ _ _) rfl ?_
    refine ⟨⟨_, rfl⟩, hK1, _, _, _, W1.out, fun e => absurd e hE, fun _ => ?_⟩
    have h := HR0.out
    rw [← HE.out] at h
    rw [h, andT_ne hE]
  have hE' : (ndE d N == 0) = true := by simpa using hE
  rw [hE']
  obtain ⟨N1, hN1⟩ : ∃ N1, Hid (N + 1 = N1) := ⟨_, rfl⟩
  obtain ⟨M1, hM1⟩ : ∃ M1, Hid ((if M < d then d else M) = M1) := ⟨_, rfl⟩
  have W1' : Hid (WK w1 q N1 M1 0) := by have h := W1.out; rw [hE, hN1.out, hM1.out] at h; exact h
  clear W1
  have hmS : Hid (meetS d (N, M) = (N1, M1)) := by
    have e : meetE d (N, M) = 0 := by rw [← HE.out]; exact hE
    unfold meetS
    rw [if_pos e, ← hN1.out, ← hM1.out, Int.max_def]
    show (N + 1, if M ≤ d then d else M) = (N + 1, if M < d then d else M)
    congr 1
    by_cases h : M < d
    · rw [if_pos h, if_pos (by omega)]
    · rw [if_neg h]; split <;> omega
  have HR1 : Hid (R = andT (FE, (N1, M1)) fun s1 => andT (fruns (d + 1) s1 r.test) fun s2 => andT (rruns (d + 1) s2 r.subs) F) := by
    have h := HR0.out
    rw [← HE.out, hE, andT_eq, hmS.out] at h
    exact h
  have hd24 : d ≤ 24 := meetE_le (s := (N, M)) (by rw [← HE.out]; exact hE)
  have HOk : Hid (OkS (N1, M1)) := by rw [← hmS.out]; exact meetS_ok HO.out hd0
  have CR := CR0.out hd24
  have CF := CF0.out hd24
  have CR : Hid (_) := CR
  have CF : Hid (_) := CF
  clear HR0 HE hE hE' hN1 hM1 hmS CR0 CF0
  have HNo : Hid (¬ FE = 0 → ∀ W : World, WK W q N1 M1 FE → WS W q R F) := by
    intro h W hW
    have hr := HR1.out
    rw [andT_ne h] at hr
    exact ⟨_, _, _, hW, fun e => absurd e h, fun _ => by rw [hr]⟩
  have e0 : w1.cell? ⟨w.heap.size, 0, none⟩ = some (.int .i64 5) := by rw [Lib.cell_of_heap B1.out]; rfl
  go_wp2_with fail
  refine (rwrong_any q N1 M1 0 20 _ w1 W1'.out).mono ?_
  rintro r9 w2 ⟨⟨v2, rfl⟩, h2⟩
  have W2 : Hid (WK w2 q N1 M1 0) := by have a := h2.out.1; first | exact a | (simp [wrE, hk] at a; exact a)
  have B2 : Hid (_) := h2.out.2.heap B1.out hne
  have hK2 : KeepT q w w2 := hK1.trans h2.out.2.keep
  clear h2 e0 B1 hK1 W1'
  have e0 : w2.cell? ⟨w.heap.size, 0, none⟩ = some (.int .i64 5) := by rw [Lib.cell_of_heap B2.out]; rfl
  have e1 : w2.cell? ⟨w.heap.size, 1, none⟩ = some (.slice pt nt ct) := by rw [Lib.cell_of_heap B2.out]; rfl
  have e2 : w2.cell? ⟨w.heap.size, 2, none⟩ = some (.slice ps ns cs) := by rw [Lib.cell_of_heap B2.out]; rfl
  by_cases hT : nt = 0
  case neg =>
    have t1 : ((nt : Int) == 0) = false := by simp; omega
    have t2 : ((nt : Int) != 0) = true := by simp; omega
    go_wp2_with fail
    refine (rwrong_any q N1 M1 _ 1 _ _ W2.out).mono ?_
    rintro r9 w9 ⟨⟨v9, rfl⟩, h9⟩
    have W9 : Hid (WK w9 q N1 M1 FE) := by have a := h9.out.1; have b := HD.out; simp [wrE, hT] at a b; first | (subst b; exact a) | (rw [← b]; exact a)
    have B9 : Hid (_) := h9.out.2.heap B2.out hne
    have hK9 : KeepT q w w9 := hK2.trans h9.out.2.keep
    have y2 : w9.cell? ⟨q, 2, none⟩ = some (.int .i64 FE) := W9.out.e
    clear h9 e0 e1 e2
    have tn : ¬ FE = 0 := by have b := HD.out; simp [hT] at b; omega
    have tn' : (FE == 0) = false := by simpa using tn
    have tn'' : (FE != 0) = true := by simpa using tn
    go_wp2
    refine bodyPost_ret (results_none rfl _ _ _) rfl ?_
    exact ⟨⟨_, rfl⟩, hK9, HNo.out tn _ W9.out⟩
  have t1 : ((nt : Int) == 0) = true := by simp; omega
  have t2 : ((nt : Int) != 0) = false := by simp; omega
  by_cases hS : ns = 1
  case neg =>
    have s1 : ((ns : Int) == 1) = false := by simp; omega
    have s2 : ((ns : Int) != 1) = true := by simp; omega
    go_wp2_with fail
    refine (rwrong_any q N1 M1 _ 1 _ _ W2.out).mono ?_
    rintro r9 w9 ⟨⟨v9, rfl⟩, h9⟩
    have W9 : Hid (WK w9 q N1 M1 FE) := by have a := h9.out.1; have b := HD.out; simp [wrE, hT, hS] at a b; first | (subst b; exact a) | (rw [← b]; exact a)
    have B9 : Hid (_) := h9.out.2.heap B2.out hne
    have hK9 : KeepT q w w9 := hK2.trans h9.out.2.keep
    have y2 : w9.cell? ⟨q, 2, none⟩ = some (.int .i64 FE) := W9.out.e
    clear h9 e0 e1 e2
    have tn : ¬ FE = 0 := by have b := HD.out; simp [hT, hS] at b; omega
    have tn' : (FE == 0) = false := by simpa using tn
    have tn'' : (FE != 0) = true := by simpa using tn
    go_wp2
    refine bodyPost_ret (results_none rfl _ _ _) rfl ?_
    exact ⟨⟨_, rfl⟩, hK9, HNo.out tn _ W9.out⟩
  have s1 : ((ns : Int) == 1) = true := by simp; omega
  have s2 : ((ns : Int) != 1) = false := by simp; omega
  go_wp2_with fail
  refine (rwrong_any q N1 M1 _ 1 _ _ W2.out).mono ?_
  rintro r9 w9 ⟨⟨v9, rfl⟩, h9⟩
  have W9 : Hid (WK w9 q N1 M1 FE) := by have a := h9.out.1; have b := HD.out; simp [wrE, hT, hS] at a b; first | (subst b; exact a) | (rw [← b]; exact a)
  have B9 : Hid (_) := h9.out.2.heap B2.out hne
  have hK9 : KeepT q w w9 := hK2.trans h9.out.2.keep
  have y2 : w9.cell? ⟨q, 2, none⟩ = some (.int .i64 FE) := W9.out.e
  clear h9 e0 e1 e2
  clear t1 t2 s1 s2
  have hz : FE = 0 := by have b := HD.out; simp [hT, hS] at b; omega
  subst hz
  have S9 : Hid (WS w9 q R (fun s1 => andT (fruns (d + 1) s1 r.test) fun s2 => andT (rruns (d + 1) s2 r.subs) F)) := WS.of W9.out HOk.out (by have h := HR1.out; rw [andT_eq] at h; exact h)
  clear HD HR1 HNo hT hS
  go_wp2
  go_loopw [9] (fun v wr => ∃ k : Nat, k ≤ nt ∧ v = .int .i64 k ∧ KeepT q w9 wr ∧ Hid (WS wr q R (fun s => andT (fruns (d + 1) s (r.test.drop k)) (fun s2 => andT (rruns (d + 1) s2 r.subs) F)))) (fun v _ => nt - (intOf v).toNat)
  case atStart => exact ⟨0, Nat.zero_le _, rfl, KeepT.refl _ _, by rw [List.drop_zero]; exact S9⟩
  case round =>
    obtain ⟨k, hk, rfl, hKr, hSr⟩ := hrel
    have Br : Hid (_) := (hKr.block w.heap.size (lt_heap B9.out) hne).trans B9.out
    have r6 : wr.cell? ⟨w.heap.size, 1, none⟩ = some (.slice pt nt ct) := by rw [Lib.cell_of_heap Br.out]; rfl
    by_cases hlt : k < nt
    case neg =>
      have c2 : ¬ (k : Int) < nt := by omega
      obtain ⟨w10, ew⟩ : ∃ W : World, W = wr := ⟨_, rfl⟩
      subst ew
      have S10 : Hid (WS w10 q R (fun s2 => andT (rruns (d + 1) s2 r.subs) F)) := hSr.out.cast (fun s => by rw [List.drop_eq_nil_of_le (by have := ent.out; omega), fruns_nil]; exact andT_eq)
      have hK10 : KeepT q w w10 := hK9.trans hKr
      have B10 : Hid (_) := Br.out
      clear hSr hKr Br
      go_wp2
      clear r6 c2 hk hlt
      go_loopw [10] (fun v wr => ∃ k : Nat, k ≤ ns ∧ v = .int .i64 k ∧ KeepT q w10 wr ∧ Hid (WS wr q R (fun s => andT (rruns (d + 1) s (r.subs.drop k)) F))) (fun v _ => ns - (intOf v).toNat)
      case atStart => exact ⟨0, Nat.zero_le _, rfl, KeepT.refl _ _, by rw [List.drop_zero]; exact S10⟩
      case round =>
        obtain ⟨k, hk, rfl, hKr, hSr⟩ := hrel
        have Br : Hid (_) := (hKr.block w.heap.size (lt_heap B10.out) hne).trans B10.out
        have r6 : wr.cell? ⟨w.heap.size, 2, none⟩ = some (.slice ps ns cs) := by rw [Lib.cell_of_heap Br.out]; rfl
        by_cases hlt : k < ns
        case neg =>
          have c2 : ¬ (k : Int) < ns := by omega
          have S11 : Hid (WS wr q R F) := hSr.out.cast (fun s => by rw [List.drop_eq_nil_of_le (by have := ens.out; omega), rruns_nil]; exact andT_eq)
          have hK11 : KeepT q w wr := hK10.trans hKr
          go_wp2
          go_end0
          exact ⟨⟨_, rfl⟩, hK11, S11.out⟩
        have hlt' : (k : Int) < ns := by omega
        have kx : k < r.subs.length := by have := ens.out; omega
        obtain ⟨b, off, u1, u2, rfl, hb, TC, N1t, N2t⟩ := HXR.out k kx
        have hBr : Below w0.heap.size w0 wr := hw.trans ((hK10.trans hKr).below (B := w0.heap.size) hq (Nat.le_of_lt hqw))
        obtain ⟨a0, a1, a2⟩ := TC.below hBr hb
        have wk := CR.out k kx u1 u2 N1t N2t
        have cW := wk wr R (fun s1 => andT (rruns (d + 1) s1 (r.subs.drop (k + 1))) F) hBr (hSr.out.cast (fun s => by rw [List.drop_eq_getElem_cons kx, rruns_and]))
        have HcW : Hid (Calls Tryz.prog 59 #[.pointer (some ⟨q, 0, none⟩), .agg #[.int .i64 r.subs[k].k, u1, u2], .int .i64 (d + 1)] wr fun e9 w' => (∃ v, e9 = .returned v) ∧ Hid (KeepT q wr w' ∧ WS w' q R (fun s1 => andT (rruns (d + 1) s1 (r.subs.drop (k + 1))) F))) := cW
        obtain ⟨p1, c1, rfl, -⟩ := N1t.form
        obtain ⟨p2, c2, rfl, -⟩ := N2t.form
        clear TC hSr wk cW N1t N2t
        generalize r.subs[k].k = X0 at *
        generalize r.subs[k].test.length = L1 at *
        generalize r.subs[k].subs.length = L2 at *
        have nw : IntKind.i64.wrap (d + 1) = d + 1 := by rw [IntKind.wrap_i64]; omega
        have nw2 : wrap64 (d + 1) = d + 1 := by unfold wrap64; omega
        go_wp2_with fail
        refine HcW.out.mono ?_
        rintro r w6 ⟨⟨v6, rfl⟩, h6⟩
        have hK6 : KeepT q w10 w6 := hKr.trans h6.out.1
        have HS6 : Hid (_) := h6.out.2
        clear h6 HcW
        go_wp2
        exact ⟨⟨k + 1, by omega, by go_num, hK6, HS6.out⟩, by simp [intOf]; omega⟩
    have hlt' : (k : Int) < nt := by omega
    have kx : k < r.test.length := by have := ent.out; omega
    obtain ⟨b, off, u1, u2, u3, u4, rfl, hb, TC, N1t, N2t, N3t, N4t⟩ := HXF.out k kx
    have hBr : Below w0.heap.size w0 wr := hw.trans ((hK9.trans hKr).below (B := w0.heap.size) hq (Nat.le_of_lt hqw))
    obtain ⟨a0, a1, a2, a3, a4, a5, a6, a7, a8, a9⟩ := TC.below hBr hb
    have wk := CF.out k kx ⟨u1, u2, u3, u4⟩ ⟨N1t, N2t, N3t, N4t⟩
    have cW := wk wr R (fun s1 => andT (fruns (d + 1) s1 (r.test.drop (k + 1))) (fun s2 => andT (rruns (d + 1) s2 r.subs) F)) hBr (hSr.out.cast (fun s => by rw [List.drop_eq_getElem_cons kx, fruns_and]))
    have HcW : Hid (Calls Tryz.prog 30 #[.pointer (some ⟨q, 0, none⟩), .agg #[.int .i64 r.test[k].k, .string r.test[k].nm, .int .i64 r.test[k].op, u1, u2, .int .i64 r.test[k].lo, .int .i64 r.test[k].hi, .bool r.test[k].opn, u3, u4], .int .i64 (d + 1)] wr fun e9 w' => (∃ v, e9 = .returned v) ∧ Hid (KeepT q wr w' ∧ WS w' q R (fun s1 => andT (fruns (d + 1) s1 (r.test.drop (k + 1))) (fun s2 => andT (rruns (d + 1) s2 r.subs) F)))) := cW
    obtain ⟨-, p1, c1, rfl, -⟩ := N1t
    obtain ⟨p2, c2, rfl, -⟩ := N2t.form
    obtain ⟨p3, c3, rfl, -⟩ := N3t.form
    obtain ⟨p4, c4, rfl, -⟩ := N4t.form
    clear TC hSr wk cW N2t N3t N4t
    generalize r.test[k].k = X0 at *
    generalize r.test[k].nm = X1 at *
    generalize r.test[k].op = X2 at *
    generalize r.test[k].lo = X3 at *
    generalize r.test[k].hi = X4 at *
    generalize r.test[k].opn = X5 at *
    generalize r.test[k].vars.length = L1 at *
    generalize r.test[k].terms.length = L2 at *
    generalize r.test[k].subs.length = L3 at *
    generalize r.test[k].rgx.length = L4 at *
    have nw : IntKind.i64.wrap (d + 1) = d + 1 := by rw [IntKind.wrap_i64]; omega
    have nw2 : wrap64 (d + 1) = d + 1 := by unfold wrap64; omega
    go_wp2_with fail
    refine HcW.out.mono ?_
    rintro r w6 ⟨⟨v6, rfl⟩, h6⟩
    have hK6 : KeepT q w9 w6 := hKr.trans h6.out.1
    have HS6 : Hid (_) := h6.out.2
    clear h6 HcW
    go_wp2
    exact ⟨⟨k + 1, by omega, by go_num, hK6, HS6.out⟩, by simp [intOf]; omega⟩
end Go.Proofs.YtfajjphfjilpnaaGreat

namespace Go.Proofs.YtfajjphfjilpnaaGreat
open Go.RowKit LX Go.Shelf
set_option linter.unusedVariables false

theorem rboth_walks (w0 : World) (q : Nat) (hq : w0.heap.size ≤ q) : ∀ m : Nat, (∀ (f : Fm) (y : FQ) (d : Int), SizeOf.sizeOf f ≤ m → QAt w0 (f, y) → 0 ≤ d → d ≤ 25 → Walks w0 q 30 (.agg #[.int .i64 f.k, .string f.nm, .int .i64 f.op, y.v, y.t, .int .i64 f.lo, .int .i64 f.hi, .bool f.opn, y.s, y.r]) d (fun s => frun d s f)) ∧ (∀ (r : Rx) (u1 u2 : Value) (d : Int), SizeOf.sizeOf r ≤ m → FmsAt w0 u1 r.test → RxsAt w0 u2 r.subs → 0 ≤ d → d ≤ 25 → Walks w0 q 59 (.agg #[.int .i64 r.k, u1, u2]) d (fun s => rrun d s r)) := by
  intro m
  induction m with
  | zero => exact ⟨fun f y d hm => by cases f; simp at hm, fun r u1 u2 d hm => by cases r; simp at hm⟩
  | succ m ih =>
    refine ⟨fun f y d hm hQ h0 h1 W R F hW hS => ?_, fun r u1 u2 d hm ht hs h0 h1 W R F hW hS => ?_⟩
    · obtain ⟨N, M, E, h, g1, g2⟩ := hS
      by_cases hE : E = 0
      case neg =>
        refine (rformula_no q N M E d _ _ _ _ _ _ y.v y.t y.s y.r W h hE).mono ?_
        rintro r w' ⟨hv, g⟩
        exact ⟨hv, KeepT.of g.out.1, N, M, E, g.out.2, fun e => absurd e hE, g2⟩
      subst hE
      obtain ⟨ho, hR⟩ := g1 rfl
      have IT : d ≤ 24 → ∀ (i : Nat) (hi : i < f.terms.length) (u : Value), TmsAt w0 u f.terms[i].subs → f.terms[i].v.Fits → Walks w0 q 58 (.agg #[.int .i64 f.terms[i].k, .string f.terms[i].nm, .int .i64 f.terms[i].v.k, .int .i64 f.terms[i].v.n, .int .i64 f.terms[i].v.d, .string f.terms[i].v.s, u]) (d + 1) (fun s => trun (d + 1) s f.terms[i]) := fun h i hi u hu hf => rterm_walks w0 q hq _ u hu hf (d + 1) (by omega) (by omega)
      have IR : d ≤ 24 → ∀ (i : Nat) (hi : i < f.rgx.length) (u1 u2 : Value), FmsAt w0 u1 f.rgx[i].test → RxsAt w0 u2 f.rgx[i].subs → Walks w0 q 59 (.agg #[.int .i64 f.rgx[i].k, u1, u2]) (d + 1) (fun s => rrun (d + 1) s f.rgx[i]) := fun h i hi u1 u2 a b => ih.2 _ u1 u2 (d + 1) (by have a := mem_lt i hi; have b := f.rgx_lt; omega) a b (by omega) (by omega)
      have IF : d ≤ 24 → ∀ (i : Nat) (hi : i < f.subs.length) (y : FQ), QAt w0 (f.subs[i], y) → Walks w0 q 30 (.agg #[.int .i64 f.subs[i].k, .string f.subs[i].nm, .int .i64 f.subs[i].op, y.v, y.t, .int .i64 f.subs[i].lo, .int .i64 f.subs[i].hi, .bool f.subs[i].opn, y.s, y.r]) (d + 1) (fun s => frun (d + 1) s f.subs[i]) := fun h i hi y a => ih.1 _ y (d + 1) (by have a := mem_lt i hi; have b := f.subs_lt; omega) a (by omega) (by omega)
      by_cases k0 : f.k < 1
      · exact rformula_cA w0 q hq f y.v y.t y.s y.r hQ d h0 h1 IT IR IF k0 N M W R F hW h ho hR
      by_cases k22 : 22 < f.k
      · exact rformula_cB w0 q hq f y.v y.t y.s y.r hQ d h0 h1 IT IR IF k22 N M W R F hW h ho hR
      by_cases k19 : f.k = 19
      · exact rformula_cD w0 q hq f y.v y.t y.s y.r hQ d h0 h1 IT IR IF k19 N M W R F hW h ho hR
      · exact rformula_cC w0 q hq f y.v y.t y.s y.r hQ d h0 h1 IT IR IF ⟨by omega, k19⟩ N M W R F hW h ho hR
    · obtain ⟨N, M, E, h, g1, g2⟩ := hS
      by_cases hE : E = 0
      case neg =>
        refine (rregex_no q N M E d _ u1 u2 W h hE).mono ?_
        rintro r w' ⟨hv, g⟩
        exact ⟨hv, KeepT.of g.out.1, N, M, E, g.out.2, fun e => absurd e hE, g2⟩
      subst hE
      obtain ⟨ho, hR⟩ := g1 rfl
      have IR : d ≤ 24 → ∀ (i : Nat) (hi : i < r.subs.length) (u1 u2 : Value), FmsAt w0 u1 r.subs[i].test → RxsAt w0 u2 r.subs[i].subs → Walks w0 q 59 (.agg #[.int .i64 r.subs[i].k, u1, u2]) (d + 1) (fun s => rrun (d + 1) s r.subs[i]) := fun h i hi u1 u2 a b => ih.2 _ u1 u2 (d + 1) (by have a := mem_lt i hi; have b := r.subs_lt; omega) a b (by omega) (by omega)
      have IF : d ≤ 24 → ∀ (i : Nat) (hi : i < r.test.length) (y : FQ), QAt w0 (r.test[i], y) → Walks w0 q 30 (.agg #[.int .i64 r.test[i].k, .string r.test[i].nm, .int .i64 r.test[i].op, y.v, y.t, .int .i64 r.test[i].lo, .int .i64 r.test[i].hi, .bool r.test[i].opn, y.s, y.r]) (d + 1) (fun s => frun (d + 1) s r.test[i]) := fun h i hi y a => ih.1 _ y (d + 1) (by have a := mem_lt i hi; have b := r.test_lt; omega) a (by omega) (by omega)
      have h7 : r.k < 1 ∨ 5 < r.k ∨ r.k = 1 ∨ r.k = 2 ∨ r.k = 3 ∨ r.k = 4 ∨ r.k = 5 := by omega
      rcases h7 with h7 | h7 | h7 | h7 | h7 | h7 | h7
      · exact rregex_clo w0 q hq r u1 u2 ht hs d h0 h1 IR IF h7 N M W R F hW h ho hR
      · exact rregex_chi w0 q hq r u1 u2 ht hs d h0 h1 IR IF h7 N M W R F hW h ho hR
      · exact rregex_c1 w0 q hq r u1 u2 ht hs d h0 h1 IR IF h7 N M W R F hW h ho hR
      · exact rregex_c2 w0 q hq r u1 u2 ht hs d h0 h1 IR IF h7 N M W R F hW h ho hR
      · exact rregex_c3 w0 q hq r u1 u2 ht hs d h0 h1 IR IF h7 N M W R F hW h ho hR
      · exact rregex_c4 w0 q hq r u1 u2 ht hs d h0 h1 IR IF h7 N M W R F hW h ho hR
      · exact rregex_c5 w0 q hq r u1 u2 ht hs d h0 h1 IR IF h7 N M W R F hW h ho hR
theorem rformula_walk (w0 : World) (q : Nat) (hq : w0.heap.size ≤ q) (f : Fm) (y : FQ) (hQ : QAt w0 (f, y)) (W : World) (hW : Below w0.heap.size w0 W) (h : WK W q 0 0 0) :
    Calls Tryz.prog 30 #[.pointer (some ⟨q, 0, none⟩), .agg #[.int .i64 f.k, .string f.nm, .int .i64 f.op, y.v, y.t, .int .i64 f.lo, .int .i64 f.hi, .bool f.opn, y.s, y.r], .int .i64 1] W fun r w' => (∃ v, r = .returned v) ∧ Hid (KeepT q W w' ∧ WQ w' q (frun 1 (0, 0) f)) := by
  refine ((rboth_walks w0 q hq (SizeOf.sizeOf f)).1 f y 1 (Nat.le_refl _) hQ (by decide) (by decide) W (frun 1 (0, 0) f) (fun s => (0, s)) hW (WS.of h ⟨by decide, by decide, by decide, by decide⟩ ?_)).mono ?_
  · show _ = andT _ _
    unfold andT
    by_cases hz : (frun 1 (0, 0) f).1 = 0
    · rw [if_pos hz]; exact Prod.ext hz rfl
    · rw [if_neg hz]
  · rintro r w' ⟨hv, g⟩
    exact ⟨hv, g.out.1, g.out.2.wq⟩
end Go.Proofs.YtfajjphfjilpnaaGreat

namespace Go.Proofs.YtfajjphfjilpnaaGreat
open Go.RowKit LX Go.Shelf
set_option linter.unusedVariables false

theorem few_iff (f : Fm) : ((fre f).2 ≤ 8) ↔ (fre f).1.length ≤ 8 ∧ ∀ i (hi : i < (ptsF f).length), (fre (ptsF f)[i]).2 ≤ 8 := by
  rw [fre_eq]
  show max _ _ ≤ 8 ↔ (freO f _).length ≤ 8 ∧ _
  constructor
  · intro h
    refine ⟨by omega, fun i hi => ?_⟩
    have := mx_ge (l := (ptsF f).map fun g => (fre g).2) (x := (fre (ptsF f)[i]).2) (List.mem_map.2 ⟨_, List.getElem_mem hi, rfl⟩)
    omega
  · rintro ⟨h1, h2⟩
    have : mx ((ptsF f).map fun g => (fre g).2) ≤ 8 := mx_le fun x hx => by
      obtain ⟨g, hg, rfl⟩ := List.mem_map.1 hx
      obtain ⟨i, hi, e⟩ := List.getElem_of_mem hg
      rw [← e]
      exact h2 i hi
    omega
theorem run_good {f : Fm} (h0 : (frun 1 (0, 0) f).1 = 0) : wfF f ∧ nodF f ≤ 256 := by
  have h1 := fruns_good (fs := [f]) (dep := 1) (s := (0, 0)) (by rw [fruns_one]; exact pair0 h0)
  rw [wfFs_cons, nodFs_cons, nodFs_nil] at h1
  have h2 : OkS (frun 1 (0, 0) f).2 := frun_okS f
  have h3 : ((frun 1 (0, 0) f).2).1 ≤ 256 := h2.2.1
  refine ⟨h1.1.1, ?_⟩
  have := h1.2
  simp at this
  omega
set_option maxRecDepth 100000 in
set_option maxHeartbeats 8000000 in
theorem rfew_any (w0 : World) : ∀ (m : Nat) (f : Fm) (y : FQ) (w : World), nodF f < m → nodF f ≤ 256 → wfF f → QAt w0 (f, y) → Below w0.heap.size w0 w →
    Calls Tryz.prog 31 #[.agg #[.int .i64 f.k, .string f.nm, .int .i64 f.op, y.v, y.t, .int .i64 f.lo, .int .i64 f.hi, .bool f.opn, y.s, y.r]] w fun e w' => e = .returned (.bool (decide ((fre f).2 ≤ 8))) ∧ Below w.heap.size w w' := by
  intro m
  induction m with
  | zero => intro f y w hm; omega
  | succ m ih =>
    intro f y w hm hn hok hQ hw
    have hE : fmE f = 0 := by rw [wfF_eq] at hok; exact hok.1
    have hpa := pts_app hE
    have hpn := pts_nod f
    have hpo := pts_ok hok
    have hpl : (ptsF f).length ≤ 256 := by have := nodFs_len (ptsF f); omega
    have hfl : (fre f).1.length ≤ 5000 := by have := fre_len _ f (Nat.le_refl _) hok; omega
    have cV : Hid (∀ W : World, Below w0.heap.size w0 W → Calls Tryz.prog 41 #[.agg #[.int .i64 f.k, .string f.nm, .int .i64 f.op, y.v, y.t, .int .i64 f.lo, .int .i64 f.hi, .bool f.opn, y.s, y.r]] W fun e w' => ∃ v, e = .returned v ∧ OwnN W.heap.size v (fre f).1 w' ∧ Below W.heap.size W w') := fun W hW => rvars_any w0 _ f y W (Nat.lt_succ_self _) hn hok hQ hW
    have cPt : Hid (∀ W : World, Below w0.heap.size w0 W → Calls Tryz.prog 47 #[.agg #[.int .i64 f.k, .string f.nm, .int .i64 f.op, y.v, y.t, .int .i64 f.lo, .int .i64 f.hi, .bool f.opn, y.s, y.r]] W fun e w' => ∃ v, e = .returned v ∧ OwnF w0 (W.heap.size + 1) v (ptsF f) w' ∧ Below W.heap.size W w') := fun W hW => by
      have h := rparts_any w0 f y hQ W hW (by rw [← List.length_append, hpa]; omega)
      rw [hpa] at h
      exact h
    have IHp : Hid (∀ (i : Nat) (hi : i < (ptsF f).length) (z : FQ) (W : World), QAt w0 ((ptsF f)[i], z) → Below w0.heap.size w0 W → Calls Tryz.prog 31 #[.agg #[.int .i64 (ptsF f)[i].k, .string (ptsF f)[i].nm, .int .i64 (ptsF f)[i].op, z.v, z.t, .int .i64 (ptsF f)[i].lo, .int .i64 (ptsF f)[i].hi, .bool (ptsF f)[i].opn, z.s, z.r]] W fun e w' => e = .returned (.bool (decide ((fre (ptsF f)[i]).2 ≤ 8))) ∧ Below W.heap.size W w') := fun i hi z W h1 h2 => ih _ z W (by have := nodFs_get (ptsF f) i hi; omega) (by have := nodFs_get (ptsF f) i hi; omega) (wfFs_get _ i hi hpo) h1 h2
    have HI : Hid (((fre f).2 ≤ 8) ↔ (fre f).1.length ≤ 8 ∧ ∀ i (hi : i < (ptsF f).length), (fre (ptsF f)[i]).2 ≤ 8) := few_iff f
    have hw0 := hw.size
    obtain ⟨np, enp⟩ : ∃ n : Nat, Hid ((ptsF f).length = n) := ⟨_, rfl⟩
    obtain ⟨FV0, eXQ⟩ : ∃ F : List ByteArray, Hid ((fre f).1 = F) := ⟨_, rfl⟩
    rw [eXQ.out] at cV HI hfl
    obtain ⟨BB, eBB⟩ : ∃ B : Bool, Hid (decide ((fre f).2 ≤ 8) = B) := ⟨_, rfl⟩
    rw [eBB.out]
    have HI2 : Hid (BB = true ↔ FV0.length ≤ 8 ∧ ∀ i (hi : i < (ptsF f).length), (fre (ptsF f)[i]).2 ≤ 8) := by
      rw [← eBB.out, decide_eq_true_eq]
      exact HI.out
    rw [enp.out] at hpl
    clear HI eBB eXQ ih hm hn hok hE hpa hpn hpo
    obtain ⟨uv, ut, us, ur⟩ := y
    obtain ⟨h1, h2, h3, h4⟩ := hQ
    dsimp only at h1 h2 h3 h4 cV cPt ⊢
    obtain ⟨-, pv, cv, rfl, -, -⟩ := h1
    obtain ⟨pt, ct, rfl, -⟩ := h2.form
    obtain ⟨ps, cs, rfl, -⟩ := h3.form
    obtain ⟨pr, cr, rfl, -⟩ := h4.form
    clear h2 h3 h4
    generalize f.vars.length = nv at *
    generalize f.terms.length = nt at *
    generalize f.subs.length = ns at *
    generalize f.rgx.length = nr at *
    generalize f.lo = lo at *
    generalize f.hi = fhi at *
    generalize f.nm = nm at *
    generalize f.opn = o at *
    generalize f.op = op at *
    generalize f.k = fk at *
    go_enter Tryz.func31, Tryz.ntmps31
    go_wp2_with fail
    refine (cV.out _ (hw.alloc hw0 _)).mono ?_
    rintro e w1 ⟨v1, rfl, h1, hb1⟩
    have X1 : Hid (w1.heap[w.heap.size]? = some (.cells #[.int .i64 fk, .string nm, .int .i64 op, .slice pv nv cv, .slice pt nt ct, .int .i64 lo, .int .i64 fhi, .bool o, .slice ps ns cs, .slice pr nr cr] 29 (0, 0))) := (hb1.block w.heap.size (by simp)).trans (heap_allocA w _)
    have B1 : Below w.heap.size w w1 := ((Below.refl _ _).alloc (Nat.le_refl _) _).trans (hb1.mono (by simp))
    have B10 : Below w0.heap.size w0 w1 := hw.trans (B1.mono hw0)
    obtain ⟨p1, c1, rfl, -⟩ := h1.cap
    obtain ⟨nf, enf⟩ : ∃ n : Nat, Hid (FV0.length = n) := ⟨_, rfl⟩
    rw [enf.out] at HI2 hfl ⊢
    clear h1 hb1 cV
    by_cases h8 : nf ≤ 8
    case neg =>
      have h8' : (8 : Int) < nf := by omega
      have hB : Hid (BB = false) := by
        have h := HI2.out
        cases hbb : BB with
        | false => exact rfl
        | true => rw [hbb] at h; exact absurd (h.1 rfl).1 h8
      go_wp2
      go_ret
      exact ⟨ret_bool hB.out.symm, B1⟩
    have h8' : ¬ (8 : Int) < nf := by omega
    have e0 : w1.cell? ⟨w.heap.size, 0, none⟩ = some (.int .i64 fk) := by rw [Lib.cell_of_heap X1.out]; rfl
    have e1 : w1.cell? ⟨w.heap.size, 1, none⟩ = some (.string nm) := by rw [Lib.cell_of_heap X1.out]; rfl
    have e2 : w1.cell? ⟨w.heap.size, 2, none⟩ = some (.int .i64 op) := by rw [Lib.cell_of_heap X1.out]; rfl
    have e3 : w1.cell? ⟨w.heap.size, 3, none⟩ = some (.slice pv nv cv) := by rw [Lib.cell_of_heap X1.out]; rfl
    have e4 : w1.cell? ⟨w.heap.size, 4, none⟩ = some (.slice pt nt ct) := by rw [Lib.cell_of_heap X1.out]; rfl
    have e5 : w1.cell? ⟨w.heap.size, 5, none⟩ = some (.int .i64 lo) := by rw [Lib.cell_of_heap X1.out]; rfl
    have e6 : w1.cell? ⟨w.heap.size, 6, none⟩ = some (.int .i64 fhi) := by rw [Lib.cell_of_heap X1.out]; rfl
    have e7 : w1.cell? ⟨w.heap.size, 7, none⟩ = some (.bool o) := by rw [Lib.cell_of_heap X1.out]; rfl
    have e8 : w1.cell? ⟨w.heap.size, 8, none⟩ = some (.slice ps ns cs) := by rw [Lib.cell_of_heap X1.out]; rfl
    have e9 : w1.cell? ⟨w.heap.size, 9, none⟩ = some (.slice pr nr cr) := by rw [Lib.cell_of_heap X1.out]; rfl
    go_wp2_with fail
    refine (cPt.out _ B10).mono ?_
    rintro e w3 ⟨v6, rfl, h6, hb6⟩
    have P3 : Hid (PtsAt w0 w3 v6 (ptsF f)) := h6.pts (by have := enp.out; omega)
    have B3 : Below w.heap.size w w3 := B1.trans (hb6.mono B1.size)
    clear h6 hb6 X1 B1 B10 cPt e0 e1 e2 e3 e4 e5 e6 e7 e8 e9
    obtain ⟨p6, c6, rfl, hl6, hc6, HP6⟩ := P3.out
    have HPP : Hid (_) := HP6
    clear P3 HP6
    rw [enp.out] at hl6 hc6 ⊢
    go_wp2
    go_loopw [5] (fun v wr => ∃ k : Nat, k ≤ np ∧ v = .int .i64 k ∧ Hid (∀ i (hi : i < (ptsF f).length), i < k → (fre (ptsF f)[i]).2 ≤ 8) ∧ Hid (Below w3.heap.size w3 wr)) (fun v _ => np - (intOf v).toNat)
    case atStart => exact ⟨0, Nat.zero_le _, rfl, (fun i hi h => by omega), Below.refl _ _⟩
    case round =>
      obtain ⟨k, hk, rfl, hAll, hBr⟩ := hrel
      have Bw : Below w.heap.size w wr := B3.trans (hBr.out.mono B3.size)
      by_cases hlt : k < np
      case neg =>
        have c2 : ¬ (k : Int) < np := by omega
        have hB : Hid (BB = true) := HI2.out.2 ⟨h8, fun i hi => hAll.out i hi (by have := enp.out; omega)⟩
        go_wp2
        go_ret
        exact ⟨ret_bool hB.out.symm, Bw⟩
      have hlt' : (k : Int) < np := by omega
      have kx : k < (ptsF f).length := by have := enp.out; omega
      obtain ⟨b, off, z, rfl, hb, TC, QZ⟩ := HPP.out k kx
      have B0r : Below w0.heap.size w0 wr := hw.trans (Bw.mono hw0)
      obtain ⟨a0, a1, a2, a3, a4, a5, a6, a7, a8, a9⟩ := TC.below hBr.out hb
      have cI := IHp.out k kx z wr QZ B0r
      obtain ⟨N1, N2, N3, N4⟩ := QZ
      obtain ⟨zv, zt, zs, zr⟩ := z
      dsimp only at N1 N2 N3 N4 a0 a1 a2 a3 a4 a5 a6 a7 a8 a9
      have HN : Hid ((fre (ptsF f)[k]).2 ≤ 8 → ∀ i (hi : i < (ptsF f).length), i < k + 1 → (fre (ptsF f)[i]).2 ≤ 8) := fun h i hi hik => by
        by_cases e : i = k
        · subst e; exact h
        · exact hAll.out i hi (by omega)
      have HNo : Hid (¬ (fre (ptsF f)[k]).2 ≤ 8 → BB = false) := fun h => by
        have h2 := HI2.out
        cases hbb : BB with
        | false => exact rfl
        | true => rw [hbb] at h2; exact absurd ((h2.1 rfl).2 k kx) h
      obtain ⟨q8, eq8⟩ : ∃ q : Nat, Hid ((fre (ptsF f)[k]).2 = q) := ⟨(fre (ptsF f)[k]).2, (show _ = _ from rfl)⟩
      rw [eq8.out] at HN HNo
      have CI : Hid (Calls Tryz.prog 31 #[.agg #[.int .i64 (ptsF f)[k].k, .string (ptsF f)[k].nm, .int .i64 (ptsF f)[k].op, zv, zt, .int .i64 (ptsF f)[k].lo, .int .i64 (ptsF f)[k].hi, .bool (ptsF f)[k].opn, zs, zr]] wr fun e w' => e = .returned (.bool (decide (q8 ≤ 8))) ∧ Below wr.heap.size wr w') := by rw [← eq8.out]; exact cI
      obtain ⟨-, q1, d1, rfl, -⟩ := N1
      obtain ⟨q2, d2, rfl, -⟩ := N2.form
      obtain ⟨q3, d3, rfl, -⟩ := N3.form
      obtain ⟨q4, d4, rfl, -⟩ := N4.form
      clear TC N2 N3 N4 cI eq8 hAll
      generalize (ptsF f)[k].k = Y0 at *
      generalize (ptsF f)[k].nm = Y1 at *
      generalize (ptsF f)[k].op = Y2 at *
      generalize (ptsF f)[k].lo = Y3 at *
      generalize (ptsF f)[k].hi = Y4 at *
      generalize (ptsF f)[k].opn = Y5 at *
      generalize (ptsF f)[k].vars.length = L1 at *
      generalize (ptsF f)[k].terms.length = L2 at *
      generalize (ptsF f)[k].subs.length = L3 at *
      generalize (ptsF f)[k].rgx.length = L4 at *
      go_wp2_with fail
      refine CI.out.mono ?_
      rintro e w4 ⟨rfl, hb4⟩
      have K4 : Hid (Below w3.heap.size w3 w4) := hBr.out.trans (hb4.mono hBr.out.size)
      have B4 : Below w.heap.size w w4 := Bw.trans (hb4.mono Bw.size)
      clear CI hb4 hBr a0 a1 a2 a3 a4 a5 a6 a7 a8 a9
      by_cases hq : q8 ≤ 8
      · have e8 : decide (q8 ≤ 8) = true := decide_eq_true hq
        rw [e8]
        have hA : Hid (_) := HN.out hq
        go_wp2
        exact ⟨⟨k + 1, by omega, by go_num, hA, K4⟩, by simp [intOf]; omega⟩
      · have e8 : decide (q8 ≤ 8) = false := decide_eq_false hq
        rw [e8]
        have hB := HNo.out hq
        have HB : Hid (BB = false) := hB
        clear hB
        go_wp2
        go_ret
        exact ⟨ret_bool HB.out.symm, B4⟩
set_option maxRecDepth 100000 in
set_option maxHeartbeats 8000000 in
theorem rcheck_fm (f : Fm) (y : FQ) (w : World) (hQ : QAt w (f, y)) :
    Calls Tryz.prog 9 #[.agg #[.int .i64 f.k, .string f.nm, .int .i64 f.op, y.v, y.t, .int .i64 f.lo, .int .i64 f.hi, .bool f.opn, y.s, y.r]] w fun e w' => e = .returned (.int .i64 (chkF f)) ∧ Below w.heap.size w w' := by
  have HQ : Hid (QAt w (f, y)) := hQ
  have cF : Hid (∀ (W : World) (q : Nat), Below w.heap.size w W → w.heap.size ≤ q → WK W q 0 0 0 → Calls Tryz.prog 30 #[.pointer (some ⟨q, 0, none⟩), .agg #[.int .i64 f.k, .string f.nm, .int .i64 f.op, y.v, y.t, .int .i64 f.lo, .int .i64 f.hi, .bool f.opn, y.s, y.r], .int .i64 1] W fun r w' => (∃ v, r = .returned v) ∧ Hid (KeepT q W w' ∧ WQ w' q (frun 1 (0, 0) f))) := fun W q hW hq h => rformula_walk w q hq f y HQ.out W hW h
  have cW : Hid ((frun 1 (0, 0) f).1 = 0 → ∀ W : World, Below w.heap.size w W → Calls Tryz.prog 31 #[.agg #[.int .i64 f.k, .string f.nm, .int .i64 f.op, y.v, y.t, .int .i64 f.lo, .int .i64 f.hi, .bool f.opn, y.s, y.r]] W fun e w' => e = .returned (.bool (decide ((fre f).2 ≤ 8))) ∧ Below W.heap.size W w') := fun h W hW => rfew_any w _ f y W (Nat.lt_succ_self _) (run_good h).2 (run_good h).1 HQ.out hW
  have HC : Hid (chkF f = if (frun 1 (0, 0) f).1 = 0 then (if 8 < (fre f).2 then 30 else 0) else (frun 1 (0, 0) f).1) := rfl
  obtain ⟨RR, eRR⟩ : ∃ R : Int × (Int × Int), Hid (frun 1 (0, 0) f = R) := ⟨_, rfl⟩
  rw [eRR.out] at cF cW HC
  obtain ⟨CK, eCK⟩ : ∃ C : Int, Hid (chkF f = C) := ⟨_, rfl⟩
  rw [eCK.out] at HC ⊢
  obtain ⟨F2, eF2⟩ : ∃ n : Nat, Hid ((fre f).2 = n) := ⟨_, rfl⟩
  rw [eF2.out] at HC cW
  clear eRR eCK eF2
  obtain ⟨uv, ut, us, ur⟩ := y
  obtain ⟨h1, h2, h3, h4⟩ := hQ
  dsimp only at h1 h2 h3 h4 cF cW ⊢
  obtain ⟨-, pv, cv, rfl, -, -⟩ := h1
  obtain ⟨pt, ct, rfl, -⟩ := h2.form
  obtain ⟨ps, cs, rfl, -⟩ := h3.form
  obtain ⟨pr, cr, rfl, -⟩ := h4.form
  clear h2 h3 h4
  generalize f.vars.length = nv at *
  generalize f.terms.length = nt at *
  generalize f.subs.length = ns at *
  generalize f.rgx.length = nr at *
  generalize f.lo = lo at *
  generalize f.hi = fhi at *
  generalize f.nm = nm at *
  generalize f.opn = o at *
  generalize f.op = op at *
  generalize f.k = fk at *
  obtain ⟨w1, ew1⟩ : ∃ w1, w1 = (w.alloc (.cells #[.int .i64 fk, .string nm, .int .i64 op, .slice pv nv cv, .slice pt nt ct, .int .i64 lo, .int .i64 fhi, .bool o, .slice ps ns cs, .slice pr nr cr] 29)).alloc (.cells #[.int .i64 0, .int .i64 0, .int .i64 0] 61) := ⟨_, rfl⟩
  have X1 : Hid (w1.heap[w.heap.size]? = some (.cells #[.int .i64 fk, .string nm, .int .i64 op, .slice pv nv cv, .slice pt nt ct, .int .i64 lo, .int .i64 fhi, .bool o, .slice ps ns cs, .slice pr nr cr] 29 (0, 0))) := by rw [ew1]; exact (Below.heap_alloc _ _ _ (by simp)).trans (heap_allocA w _)
  have K1 : Hid (WK w1 (w.heap.size + 1) 0 0 0) := by
    rw [ew1]
    have h := heap_allocA (w.alloc (.cells #[.int .i64 fk, .string nm, .int .i64 op, .slice pv nv cv, .slice pt nt ct, .int .i64 lo, .int .i64 fhi, .bool o, .slice ps ns cs, .slice pr nr cr] 29)) (.cells #[.int .i64 0, .int .i64 0, .int .i64 0] 61)
    simp only [World.size_alloc] at h
    exact h
  have B1 : Below w.heap.size w w1 := by rw [ew1]; exact ((Below.refl _ _).alloc (Nat.le_refl _) _).alloc (by simp) _
  go_enter Tryz.func9, Tryz.ntmps9
  go_upto_region 2 with fail
  rw [← ew1]
  clear ew1
  have e0 : w1.cell? ⟨w.heap.size, 0, none⟩ = some (.int .i64 fk) := by rw [Lib.cell_of_heap X1.out]; rfl
  have e1 : w1.cell? ⟨w.heap.size, 1, none⟩ = some (.string nm) := by rw [Lib.cell_of_heap X1.out]; rfl
  have e2 : w1.cell? ⟨w.heap.size, 2, none⟩ = some (.int .i64 op) := by rw [Lib.cell_of_heap X1.out]; rfl
  have e3 : w1.cell? ⟨w.heap.size, 3, none⟩ = some (.slice pv nv cv) := by rw [Lib.cell_of_heap X1.out]; rfl
  have e4 : w1.cell? ⟨w.heap.size, 4, none⟩ = some (.slice pt nt ct) := by rw [Lib.cell_of_heap X1.out]; rfl
  have e5 : w1.cell? ⟨w.heap.size, 5, none⟩ = some (.int .i64 lo) := by rw [Lib.cell_of_heap X1.out]; rfl
  have e6 : w1.cell? ⟨w.heap.size, 6, none⟩ = some (.int .i64 fhi) := by rw [Lib.cell_of_heap X1.out]; rfl
  have e7 : w1.cell? ⟨w.heap.size, 7, none⟩ = some (.bool o) := by rw [Lib.cell_of_heap X1.out]; rfl
  have e8 : w1.cell? ⟨w.heap.size, 8, none⟩ = some (.slice ps ns cs) := by rw [Lib.cell_of_heap X1.out]; rfl
  have e9 : w1.cell? ⟨w.heap.size, 9, none⟩ = some (.slice pr nr cr) := by rw [Lib.cell_of_heap X1.out]; rfl
  go_wp2_with fail
  refine (cF.out w1 (w.heap.size + 1) B1 (by omega) K1.out).mono ?_
  rintro r w2 ⟨⟨v2, rfl⟩, h2⟩
  obtain ⟨hK2, N, M, hW2, hNM⟩ := h2.out
  have HW2 : Hid (WK w2 (w.heap.size + 1) N M RR.1) := hW2
  have hsz1 : w.heap.size < w1.heap.size := blkL X1.out
  have X2 : Hid (_) := (hK2.block w.heap.size hsz1 (by omega)).trans X1.out
  have B2 : Below w.heap.size w w2 := B1.trans (hK2.below (by omega) (by have := hW2.lt; have := K1.out.lt; omega))
  clear h2 hK2 hW2 hNM cF K1 X1 B1 e0 e1 e2 e3 e4 e5 e6 e7 e8 e9 hsz1
  have y2 : w2.cell? ⟨w.heap.size + 1, 2, none⟩ = some (.int .i64 RR.1) := HW2.out.e
  obtain ⟨E, eE⟩ : ∃ E : Int, Hid (RR.1 = E) := ⟨_, rfl⟩
  rw [eE.out] at y2 cW HC
  clear HW2 eE
  by_cases hE : E = 0
  case neg =>
    have hE' : (E == 0) = false := by simpa using hE
    have hE'' : (E != 0) = true := by simpa using hE
    have hR : Hid (CK = E) := by have h := HC.out; rw [if_neg hE] at h; exact h
    go_wp2
    go_ret
    exact ⟨retI hR.out.symm, B2⟩
  subst hE
  have CW := cW.out rfl
  have CW : Hid (_) := CW
  have HC2 : Hid (CK = if 8 < F2 then 30 else 0) := by have h := HC.out; rw [if_pos rfl] at h; exact h
  clear cW HC
  have e0 : w2.cell? ⟨w.heap.size, 0, none⟩ = some (.int .i64 fk) := by rw [Lib.cell_of_heap X2.out]; rfl
  have e1 : w2.cell? ⟨w.heap.size, 1, none⟩ = some (.string nm) := by rw [Lib.cell_of_heap X2.out]; rfl
  have e2 : w2.cell? ⟨w.heap.size, 2, none⟩ = some (.int .i64 op) := by rw [Lib.cell_of_heap X2.out]; rfl
  have e3 : w2.cell? ⟨w.heap.size, 3, none⟩ = some (.slice pv nv cv) := by rw [Lib.cell_of_heap X2.out]; rfl
  have e4 : w2.cell? ⟨w.heap.size, 4, none⟩ = some (.slice pt nt ct) := by rw [Lib.cell_of_heap X2.out]; rfl
  have e5 : w2.cell? ⟨w.heap.size, 5, none⟩ = some (.int .i64 lo) := by rw [Lib.cell_of_heap X2.out]; rfl
  have e6 : w2.cell? ⟨w.heap.size, 6, none⟩ = some (.int .i64 fhi) := by rw [Lib.cell_of_heap X2.out]; rfl
  have e7 : w2.cell? ⟨w.heap.size, 7, none⟩ = some (.bool o) := by rw [Lib.cell_of_heap X2.out]; rfl
  have e8 : w2.cell? ⟨w.heap.size, 8, none⟩ = some (.slice ps ns cs) := by rw [Lib.cell_of_heap X2.out]; rfl
  have e9 : w2.cell? ⟨w.heap.size, 9, none⟩ = some (.slice pr nr cr) := by rw [Lib.cell_of_heap X2.out]; rfl
  go_wp2_with fail
  refine (CW.out w2 B2).mono ?_
  rintro e w3 ⟨rfl, hb3⟩
  have B3 : Below w.heap.size w w3 := B2.trans (hb3.mono B2.size)
  clear hb3 CW B2 X2 e0 e1 e2 e3 e4 e5 e6 e7 e8 e9 y2
  by_cases hF : F2 ≤ 8
  · have eF : decide (F2 ≤ 8) = true := decide_eq_true hF
    rw [eF]
    have hR : Hid (CK = 0) := by have h := HC2.out; rw [if_neg (by omega)] at h; exact h
    go_wp2
    go_ret
    exact ⟨retI hR.out.symm, B3⟩
  · have eF : decide (F2 ≤ 8) = false := decide_eq_false hF
    rw [eF]
    have hR : Hid (CK = 30) := by have h := HC2.out; rw [if_pos (by omega)] at h; exact h
    go_wp2
    go_ret
    exact ⟨retI hR.out.symm, B3⟩
end Go.Proofs.YtfajjphfjilpnaaGreat

namespace Go.Proofs.YtfajjphfjilpnaaGreat
open Go.RowKit LX Go.Shelf
set_option linter.unusedVariables false

/-- What the document's Part tells: what it tells lies where the formula's parts lie. -/
def RPartOut (wB w : World) (f : Fm) (ns : List Int) (r : Ending) (w' : World) : Prop := Below w.heap.size w w' ∧ ((¬ chkF f = 0 ∧ r = .returned (.tuple #[.agg #[.int .i64 0, .string ⟨#[]⟩, .int .i64 0, .slice none 0 0, .slice none 0 0, .int .i64 0, .int .i64 0, .bool false, .slice none 0 0, .slice none 0 0], .int .i64 (chkF f)])) ∨
  (chkF f = 0 ∧ partP f ns = none ∧ r = .returned (.tuple #[.agg #[.int .i64 0, .string ⟨#[]⟩, .int .i64 0, .slice none 0 0, .slice none 0 0, .int .i64 0, .int .i64 0, .bool false, .slice none 0 0, .slice none 0 0], .int .i64 5])) ∨
  (chkF f = 0 ∧ ∃ g q, partP f ns = some g ∧ r = .returned (.tuple #[.agg #[.int .i64 g.k, .string g.nm, .int .i64 g.op, q.v, q.t, .int .i64 g.lo, .int .i64 g.hi, .bool g.opn, q.s, q.r], .int .i64 0]) ∧ QAt wB (g, q)))
set_option maxRecDepth 100000 in
set_option maxHeartbeats 8000000 in
theorem rpart_fm (wB : World) (f : Fm) (q : FQ) (w : World) (hB0 : Below wB.heap.size wB w) (hq : QAt wB (f, q)) (V : Value) (ns : List Int) (hV : PthAt w V ns) :
    Calls Tryz.prog 18 #[.agg #[.int .i64 f.k, .string f.nm, .int .i64 f.op, q.v, q.t, .int .i64 f.lo, .int .i64 f.hi, .bool f.opn, q.s, q.r], V] w (RPartOut wB w f ns) := by
  have cK : Hid (∀ W : World, Below w.heap.size w W → Calls Tryz.prog 9 #[.agg #[.int .i64 f.k, .string f.nm, .int .i64 f.op, q.v, q.t, .int .i64 f.lo, .int .i64 f.hi, .bool f.opn, q.s, q.r]] W fun r w' => r = .returned (.int .i64 (chkF f)) ∧ Below W.heap.size W w') := fun W hW => rcheck_fm f q W (hq.below (hB0.trans (hW.mono hB0.size)))
  have cP : Hid (∀ (g : Fm) (r : FQ) (W : World), QAt wB (g, r) → wfF g ∧ nodF g ≤ 256 ∧ lgF g → Below w.heap.size w W → Calls Tryz.prog 47 #[.agg #[.int .i64 g.k, .string g.nm, .int .i64 g.op, r.v, r.t, .int .i64 g.lo, .int .i64 g.hi, .bool g.opn, r.s, r.r]] W fun e w' => ∃ v, e = .returned v ∧ PtsAt wB w' v (ptsF g) ∧ Below W.heap.size W w') := fun g r W h1 h2 hW => by
    have hE : fmE g = 0 := by have h := h2.1; rw [wfF_eq] at h; exact h.1
    have hpa := pts_app hE
    have hpl : (ptsF g).length ≤ 256 := by have := nodFs_len (ptsF g); have := pts_nod g; omega
    have h := rparts_any wB g r h1 W (hB0.trans (hW.mono hB0.size)) (by rw [← List.length_append, hpa]; omega)
    rw [hpa] at h
    refine h.mono ?_
    rintro e w' ⟨v, e1, h3, h4⟩
    exact ⟨v, e1, h3.pts (by omega), h4⟩
  have HQ : Hid (QAt wB (f, q)) := hq
  obtain ⟨lp, p, c, rfl, hc, HX0⟩ := hV
  have HX : Hid (∀ i (hi : i < ns.length), ∃ b off, p = some ⟨b, off, none⟩ ∧ b < w.heap.size ∧ w.cell? ⟨b, off + i, none⟩ = some (.int .i64 ns[i])) := HX0
  obtain ⟨PO, ePO⟩ : ∃ PO, Hid (RPartOut wB w f ns = PO) := ⟨_, rfl⟩
  rw [ePO.out]
  have hPO1 : Hid (∀ r w', Below w.heap.size w w' → ¬ chkF f = 0 → r = .returned (.tuple #[.agg #[.int .i64 0, .string ⟨#[]⟩, .int .i64 0, .slice none 0 0, .slice none 0 0, .int .i64 0, .int .i64 0, .bool false, .slice none 0 0, .slice none 0 0], .int .i64 (chkF f)]) → PO r w') := fun r w' h1 h2 h3 => by
    rw [← ePO.out]
    exact ⟨h1, Or.inl ⟨h2, h3⟩⟩
  have hPO2 : Hid (∀ r w', Below w.heap.size w w' → chkF f = 0 → partP f ns = none → r = .returned (.tuple #[.agg #[.int .i64 0, .string ⟨#[]⟩, .int .i64 0, .slice none 0 0, .slice none 0 0, .int .i64 0, .int .i64 0, .bool false, .slice none 0 0, .slice none 0 0], .int .i64 5]) → PO r w') := fun r w' h1 h2 h3 h4 => by
    rw [← ePO.out]
    exact ⟨h1, Or.inr (Or.inl ⟨h2, h3, h4⟩)⟩
  have hPO3 : Hid (∀ r w' g q, Below w.heap.size w w' → chkF f = 0 → partP f ns = some g → r = .returned (.tuple #[.agg #[.int .i64 g.k, .string g.nm, .int .i64 g.op, q.v, q.t, .int .i64 g.lo, .int .i64 g.hi, .bool g.opn, q.s, q.r], .int .i64 0]) → QAt wB (g, q) → PO r w') := fun r w' g q h1 h2 h3 h4 h5 => by
    rw [← ePO.out]
    exact ⟨h1, Or.inr (Or.inr ⟨h2, g, q, h3, h4, h5⟩)⟩
  have HG : Hid (chkF f = 0 → wfF f ∧ nodF f ≤ 256 ∧ lgF f) := fun h => ⟨(chk_good h).1, (chk_good h).2, chk_lg h⟩
  clear HX0 hq ePO
  obtain ⟨uv, ut, us, ur⟩ := q
  obtain ⟨h1, h2, h3, h4⟩ := HQ.out
  dsimp only at h1 h2 h3 h4 cK ⊢
  obtain ⟨-, pv, cv, rfl, -, -⟩ := h1
  obtain ⟨pt, ct, rfl, -⟩ := h2.form
  obtain ⟨ps, cs, rfl, -⟩ := h3.form
  obtain ⟨pr, cr, rfl, -⟩ := h4.form
  clear h2 h3 h4
  obtain ⟨n, en⟩ : ∃ n : Nat, Hid (ns.length = n) := ⟨_, rfl⟩
  rw [en.out] at lp hc ⊢
  go_enter Tryz.func18, Tryz.ntmps18
  go_wp2_with fail
  refine (cK.out _ (by go_grown)).mono ?_
  rintro r w1 ⟨rfl, hb1⟩
  have hB1 : Below w.heap.size w w1 := Below.trans (by go_grown) (hb1.mono (by first | (simp; done) | (simp; omega)))
  have X0 : BoxF w1 w.heap.size f ⟨.slice pv f.vars.length cv, .slice pt f.terms.length ct, .slice ps f.subs.length cs, .slice pr f.rgx.length cr⟩ := (hb1.block w.heap.size (by simp; omega)).trans ((Below.heap_alloc _ _ _ (by simp)).trans (heap_allocA w _))
  have Y0 : BoxF w1 (w.heap.size + 1) fm0 fq0 := (hb1.block (w.heap.size + 1) (by simp)).trans (by have h := heap_allocA (w.alloc (Obj.cells #[.int .i64 f.k, .string f.nm, .int .i64 f.op, .slice pv f.vars.length cv, .slice pt f.terms.length ct, .int .i64 f.lo, .int .i64 f.hi, .bool f.opn, .slice ps f.subs.length cs, .slice pr f.rgx.length cr] 29)) (Obj.cells #[.int .i64 0, .string ⟨#[]⟩, .int .i64 0, .slice none 0 0, .slice none 0 0, .int .i64 0, .int .i64 0, .bool false, .slice none 0 0, .slice none 0 0] 29); rw [alloc_size] at h; exact h)
  have HX0 : Hid (BoxF w1 w.heap.size f ⟨.slice pv f.vars.length cv, .slice pt f.terms.length ct, .slice ps f.subs.length cs, .slice pr f.rgx.length cr⟩) := X0
  have HY0 : Hid (BoxF w1 (w.heap.size + 1) fm0 fq0) := Y0
  clear hb1 cK X0 Y0
  by_cases hE : chkF f = 0
  case neg =>
    have hE' : (chkF f != 0) = true := by simp [hE]
    have z0 : w1.cell? ⟨w.heap.size + 1, 0, none⟩ = some (.int .i64 0) := by have h := HY0.out; unfold BoxF at h; rw [Lib.cell_of_heap h]; rfl
    have zf0 : w1.frozen? ⟨w.heap.size + 1, 0, none⟩ = false := BoxF.fz HY0.out 0
    have z1 : w1.cell? ⟨w.heap.size + 1, 1, none⟩ = some (.string ⟨#[]⟩) := by have h := HY0.out; unfold BoxF at h; rw [Lib.cell_of_heap h]; rfl
    have zf1 : w1.frozen? ⟨w.heap.size + 1, 1, none⟩ = false := BoxF.fz HY0.out 1
    have z2 : w1.cell? ⟨w.heap.size + 1, 2, none⟩ = some (.int .i64 0) := by have h := HY0.out; unfold BoxF at h; rw [Lib.cell_of_heap h]; rfl
    have zf2 : w1.frozen? ⟨w.heap.size + 1, 2, none⟩ = false := BoxF.fz HY0.out 2
    have z3 : w1.cell? ⟨w.heap.size + 1, 3, none⟩ = some (.slice none 0 0) := by have h := HY0.out; unfold BoxF at h; rw [Lib.cell_of_heap h]; rfl
    have zf3 : w1.frozen? ⟨w.heap.size + 1, 3, none⟩ = false := BoxF.fz HY0.out 3
    have z4 : w1.cell? ⟨w.heap.size + 1, 4, none⟩ = some (.slice none 0 0) := by have h := HY0.out; unfold BoxF at h; rw [Lib.cell_of_heap h]; rfl
    have zf4 : w1.frozen? ⟨w.heap.size + 1, 4, none⟩ = false := BoxF.fz HY0.out 4
    have z5 : w1.cell? ⟨w.heap.size + 1, 5, none⟩ = some (.int .i64 0) := by have h := HY0.out; unfold BoxF at h; rw [Lib.cell_of_heap h]; rfl
    have zf5 : w1.frozen? ⟨w.heap.size + 1, 5, none⟩ = false := BoxF.fz HY0.out 5
    have z6 : w1.cell? ⟨w.heap.size + 1, 6, none⟩ = some (.int .i64 0) := by have h := HY0.out; unfold BoxF at h; rw [Lib.cell_of_heap h]; rfl
    have zf6 : w1.frozen? ⟨w.heap.size + 1, 6, none⟩ = false := BoxF.fz HY0.out 6
    have z7 : w1.cell? ⟨w.heap.size + 1, 7, none⟩ = some (.bool false) := by have h := HY0.out; unfold BoxF at h; rw [Lib.cell_of_heap h]; rfl
    have zf7 : w1.frozen? ⟨w.heap.size + 1, 7, none⟩ = false := BoxF.fz HY0.out 7
    have z8 : w1.cell? ⟨w.heap.size + 1, 8, none⟩ = some (.slice none 0 0) := by have h := HY0.out; unfold BoxF at h; rw [Lib.cell_of_heap h]; rfl
    have zf8 : w1.frozen? ⟨w.heap.size + 1, 8, none⟩ = false := BoxF.fz HY0.out 8
    have z9 : w1.cell? ⟨w.heap.size + 1, 9, none⟩ = some (.slice none 0 0) := by have h := HY0.out; unfold BoxF at h; rw [Lib.cell_of_heap h]; rfl
    have zf9 : w1.frozen? ⟨w.heap.size + 1, 9, none⟩ = false := BoxF.fz HY0.out 9
    have HNE : Hid (¬ chkF f = 0) := hE
    clear hE
    generalize chkF f = CK at *
    go_wp2
    refine bodyPost_ret (by simp [results, Tryz.results18, go_sem, z0, z1, z2, z3, z4, z5, z6, z7, z8, z9]; try rfl) rfl ?_
    exact hPO1.out _ _ (hB1.trans (by go_grown)) HNE.out rfl
  have HG0 := HG.out hE
  have HE : Hid (chkF f = 0) := hE
  rw [hE]
  clear hE HG hPO1
  have hW0 : Hid (wfF f ∧ nodF f ≤ 256 ∧ lgF f) := HG0
  clear HG0
  go_wp2
  go_loopw [7] (fun v wr => ∃ (k : Nat) (g : Fm) (r : FQ), k ≤ n ∧ v = .int .i64 k ∧ Hid (partP f ns = partP g (ns.drop k)) ∧ Hid (wfF g ∧ nodF g ≤ 256 ∧ lgF g) ∧ Hid (QAt wB (g, r)) ∧ Hid (BoxF wr w.heap.size g r) ∧ Hid (BoxF wr (w.heap.size + 1) fm0 fq0) ∧ Below w.heap.size w wr) (fun v _ => n - (intOf v).toNat)
  case atStart => exact ⟨0, f, ⟨.slice pv f.vars.length cv, .slice pt f.terms.length ct, .slice ps f.subs.length cs, .slice pr f.rgx.length cr⟩, Nat.zero_le _, rfl, (show _ = _ by simp), hW0, HQ, HX0, HY0, hB1⟩
  case round =>
    obtain ⟨k, g, r, hk, rfl, hP, hW, hq, hX, hY, hB⟩ := hrel
    have hsz := hB.size
    have hz1 : w.heap.size + 1 < wr.heap.size := hY.out.lt
    obtain ⟨uv, ut, us, ur⟩ := r
    obtain ⟨h1, h2, h3, h4⟩ := hq.out
    dsimp only at h1 h2 h3 h4
    obtain ⟨-, pv, cv, rfl, -, -⟩ := h1
    obtain ⟨pt, ct, rfl, -⟩ := h2.form
    obtain ⟨ps, cs, rfl, -⟩ := h3.form
    obtain ⟨pr, cr, rfl, -⟩ := h4.form
    have cP1 : Hid (∀ W : World, Below w.heap.size w W → Calls Tryz.prog 47 #[.agg #[.int .i64 g.k, .string g.nm, .int .i64 g.op, .slice pv g.vars.length cv, .slice pt g.terms.length ct, .int .i64 g.lo, .int .i64 g.hi, .bool g.opn, .slice ps g.subs.length cs, .slice pr g.rgx.length cr]] W fun e w' => ∃ v, e = .returned v ∧ PtsAt wB w' v (ptsF g) ∧ Below W.heap.size W w') := fun W hW' => cP.out g ⟨.slice pv g.vars.length cv, .slice pt g.terms.length ct, .slice ps g.subs.length cs, .slice pr g.rgx.length cr⟩ W hq.out hW.out hW'
    have hBX : Hid (∀ W : World, W.heap[w.heap.size]? = wr.heap[w.heap.size]? → W.heap[w.heap.size]? = some (.cells #[.int .i64 g.k, .string g.nm, .int .i64 g.op, .slice pv g.vars.length cv, .slice pt g.terms.length ct, .int .i64 g.lo, .int .i64 g.hi, .bool g.opn, .slice ps g.subs.length cs, .slice pr g.rgx.length cr] 29 (0, 0))) := fun W h => h.trans hX.out
    have hPO4 : Hid (∀ r w' q, Below w.heap.size w w' → partP f ns = some g → r = .returned (.tuple #[.agg #[.int .i64 g.k, .string g.nm, .int .i64 g.op, q.v, q.t, .int .i64 g.lo, .int .i64 g.hi, .bool g.opn, q.s, q.r], .int .i64 0]) → QAt wB (g, q) → PO r w') := fun r w' q h1 h3 h4 h5 => hPO3.out r w' g q h1 HE.out h3 h4 h5
    have hput : Hid (∀ (W : World) (g' : Fm) (r' : FQ), W.heap[w.heap.size]? = wr.heap[w.heap.size]? → BoxF ((((((((((W.setCell ⟨w.heap.size, 0, none⟩ (Value.int .i64 g'.k)).setCell ⟨w.heap.size, 1, none⟩ (Value.string g'.nm)).setCell ⟨w.heap.size, 2, none⟩ (Value.int .i64 g'.op)).setCell ⟨w.heap.size, 3, none⟩ (r'.v)).setCell ⟨w.heap.size, 4, none⟩ (r'.t)).setCell ⟨w.heap.size, 5, none⟩ (Value.int .i64 g'.lo)).setCell ⟨w.heap.size, 6, none⟩ (Value.int .i64 g'.hi)).setCell ⟨w.heap.size, 7, none⟩ (Value.bool g'.opn)).setCell ⟨w.heap.size, 8, none⟩ (r'.s)).setCell ⟨w.heap.size, 9, none⟩ (r'.r)) w.heap.size g' r') := fun W g' r' h => BoxF.put (hX.out.at h)
    clear h2 h3 h4
    obtain ⟨nv, env⟩ : ∃ n : Nat, Hid (g.vars.length = n) := ⟨_, rfl⟩
    obtain ⟨nt, ent⟩ : ∃ n : Nat, Hid (g.terms.length = n) := ⟨_, rfl⟩
    obtain ⟨ns0, ens⟩ : ∃ n : Nat, Hid (g.subs.length = n) := ⟨_, rfl⟩
    obtain ⟨nr, enr⟩ : ∃ n : Nat, Hid (g.rgx.length = n) := ⟨_, rfl⟩
    rw [env.out, ent.out, ens.out, enr.out] at cP1 hBX
    generalize g.k = k0 at *
    generalize g.nm = nm at *
    generalize g.op = op at *
    generalize g.lo = lo at *
    generalize g.hi = hi at *
    generalize g.opn = o at *
    by_cases hlt : k < n
    case neg =>
      have c2 : ¬ (k : Int) < n := by omega
      have hP2 : Hid (partP f ns = some g) := by
        have h := hP.out
        rw [List.drop_eq_nil_of_le (by have := en.out; omega), partP] at h
        exact h
      have e0 : wr.cell? ⟨w.heap.size, 0, none⟩ = some (.int .i64 k0) := by rw [Lib.cell_of_heap (hBX.out wr rfl)]; rfl
      have e1 : wr.cell? ⟨w.heap.size, 1, none⟩ = some (.string nm) := by rw [Lib.cell_of_heap (hBX.out wr rfl)]; rfl
      have e2 : wr.cell? ⟨w.heap.size, 2, none⟩ = some (.int .i64 op) := by rw [Lib.cell_of_heap (hBX.out wr rfl)]; rfl
      have e3 : wr.cell? ⟨w.heap.size, 3, none⟩ = some (.slice pv nv cv) := by rw [Lib.cell_of_heap (hBX.out wr rfl)]; rfl
      have e4 : wr.cell? ⟨w.heap.size, 4, none⟩ = some (.slice pt nt ct) := by rw [Lib.cell_of_heap (hBX.out wr rfl)]; rfl
      have e5 : wr.cell? ⟨w.heap.size, 5, none⟩ = some (.int .i64 lo) := by rw [Lib.cell_of_heap (hBX.out wr rfl)]; rfl
      have e6 : wr.cell? ⟨w.heap.size, 6, none⟩ = some (.int .i64 hi) := by rw [Lib.cell_of_heap (hBX.out wr rfl)]; rfl
      have e7 : wr.cell? ⟨w.heap.size, 7, none⟩ = some (.bool o) := by rw [Lib.cell_of_heap (hBX.out wr rfl)]; rfl
      have e8 : wr.cell? ⟨w.heap.size, 8, none⟩ = some (.slice ps ns0 cs) := by rw [Lib.cell_of_heap (hBX.out wr rfl)]; rfl
      have e9 : wr.cell? ⟨w.heap.size, 9, none⟩ = some (.slice pr nr cr) := by rw [Lib.cell_of_heap (hBX.out wr rfl)]; rfl
      have z0 : wr.cell? ⟨w.heap.size + 1, 0, none⟩ = some (.int .i64 0) := by have h := hY.out; unfold BoxF at h; rw [Lib.cell_of_heap h]; rfl
      have zf0 : wr.frozen? ⟨w.heap.size + 1, 0, none⟩ = false := BoxF.fz hY.out 0
      have z1 : wr.cell? ⟨w.heap.size + 1, 1, none⟩ = some (.string ⟨#[]⟩) := by have h := hY.out; unfold BoxF at h; rw [Lib.cell_of_heap h]; rfl
      have zf1 : wr.frozen? ⟨w.heap.size + 1, 1, none⟩ = false := BoxF.fz hY.out 1
      have z2 : wr.cell? ⟨w.heap.size + 1, 2, none⟩ = some (.int .i64 0) := by have h := hY.out; unfold BoxF at h; rw [Lib.cell_of_heap h]; rfl
      have zf2 : wr.frozen? ⟨w.heap.size + 1, 2, none⟩ = false := BoxF.fz hY.out 2
      have z3 : wr.cell? ⟨w.heap.size + 1, 3, none⟩ = some (.slice none 0 0) := by have h := hY.out; unfold BoxF at h; rw [Lib.cell_of_heap h]; rfl
      have zf3 : wr.frozen? ⟨w.heap.size + 1, 3, none⟩ = false := BoxF.fz hY.out 3
      have z4 : wr.cell? ⟨w.heap.size + 1, 4, none⟩ = some (.slice none 0 0) := by have h := hY.out; unfold BoxF at h; rw [Lib.cell_of_heap h]; rfl
      have zf4 : wr.frozen? ⟨w.heap.size + 1, 4, none⟩ = false := BoxF.fz hY.out 4
      have z5 : wr.cell? ⟨w.heap.size + 1, 5, none⟩ = some (.int .i64 0) := by have h := hY.out; unfold BoxF at h; rw [Lib.cell_of_heap h]; rfl
      have zf5 : wr.frozen? ⟨w.heap.size + 1, 5, none⟩ = false := BoxF.fz hY.out 5
      have z6 : wr.cell? ⟨w.heap.size + 1, 6, none⟩ = some (.int .i64 0) := by have h := hY.out; unfold BoxF at h; rw [Lib.cell_of_heap h]; rfl
      have zf6 : wr.frozen? ⟨w.heap.size + 1, 6, none⟩ = false := BoxF.fz hY.out 6
      have z7 : wr.cell? ⟨w.heap.size + 1, 7, none⟩ = some (.bool false) := by have h := hY.out; unfold BoxF at h; rw [Lib.cell_of_heap h]; rfl
      have zf7 : wr.frozen? ⟨w.heap.size + 1, 7, none⟩ = false := BoxF.fz hY.out 7
      have z8 : wr.cell? ⟨w.heap.size + 1, 8, none⟩ = some (.slice none 0 0) := by have h := hY.out; unfold BoxF at h; rw [Lib.cell_of_heap h]; rfl
      have zf8 : wr.frozen? ⟨w.heap.size + 1, 8, none⟩ = false := BoxF.fz hY.out 8
      have z9 : wr.cell? ⟨w.heap.size + 1, 9, none⟩ = some (.slice none 0 0) := by have h := hY.out; unfold BoxF at h; rw [Lib.cell_of_heap h]; rfl
      have zf9 : wr.frozen? ⟨w.heap.size + 1, 9, none⟩ = false := BoxF.fz hY.out 9
      have HQ5 : Hid (QAt wB (g, ⟨.slice pv nv cv, .slice pt nt ct, .slice ps ns0 cs, .slice pr nr cr⟩)) := by
        have h := hq.out
        rw [env.out, ent.out, ens.out, enr.out] at h
        exact h
      clear cP1 hput hq
      go_wp2
      refine bodyPost_ret (by simp [results, Tryz.results18, go_sem, z0, z1, z2, z3, z4, z5, z6, z7, z8, z9]; try rfl) rfl ?_
      exact hPO4.out _ _ ⟨.slice pv nv cv, .slice pt nt ct, .slice ps ns0 cs, .slice pr nr cr⟩ (hB.trans (by go_grown)) hP2.out rfl HQ5.out
    have hlt' : (k : Int) < n := by omega
    have kx : k < ns.length := by have := en.out; omega
    obtain ⟨b, off, rfl, hb, a0⟩ := HX.out k kx
    have a1 := (hB.cell (p := ⟨b, off + k, none⟩) hb).trans a0
    have hP3 : Hid (partP f ns = partP g (ns[k] :: ns.drop (k + 1))) := by
      have h := hP.out
      rw [List.drop_eq_getElem_cons kx] at h
      exact h
    have A0 : Hid (w.cell? ⟨b, off + k, none⟩ = some (.int .i64 ns[k])) := a0
    clear hP a0 a1
    generalize ns[k] = i at *
    have e0 : wr.cell? ⟨w.heap.size, 0, none⟩ = some (.int .i64 k0) := by rw [Lib.cell_of_heap (hBX.out wr rfl)]; rfl
    have e1 : wr.cell? ⟨w.heap.size, 1, none⟩ = some (.string nm) := by rw [Lib.cell_of_heap (hBX.out wr rfl)]; rfl
    have e2 : wr.cell? ⟨w.heap.size, 2, none⟩ = some (.int .i64 op) := by rw [Lib.cell_of_heap (hBX.out wr rfl)]; rfl
    have e3 : wr.cell? ⟨w.heap.size, 3, none⟩ = some (.slice pv nv cv) := by rw [Lib.cell_of_heap (hBX.out wr rfl)]; rfl
    have e4 : wr.cell? ⟨w.heap.size, 4, none⟩ = some (.slice pt nt ct) := by rw [Lib.cell_of_heap (hBX.out wr rfl)]; rfl
    have e5 : wr.cell? ⟨w.heap.size, 5, none⟩ = some (.int .i64 lo) := by rw [Lib.cell_of_heap (hBX.out wr rfl)]; rfl
    have e6 : wr.cell? ⟨w.heap.size, 6, none⟩ = some (.int .i64 hi) := by rw [Lib.cell_of_heap (hBX.out wr rfl)]; rfl
    have e7 : wr.cell? ⟨w.heap.size, 7, none⟩ = some (.bool o) := by rw [Lib.cell_of_heap (hBX.out wr rfl)]; rfl
    have e8 : wr.cell? ⟨w.heap.size, 8, none⟩ = some (.slice ps ns0 cs) := by rw [Lib.cell_of_heap (hBX.out wr rfl)]; rfl
    have e9 : wr.cell? ⟨w.heap.size, 9, none⟩ = some (.slice pr nr cr) := by rw [Lib.cell_of_heap (hBX.out wr rfl)]; rfl
    go_wp2_with fail
    refine (cP1.out _ hB).mono ?_
    rintro e w2 ⟨v2, rfl, hPt, hb2⟩
    have hB2 : Below w.heap.size w w2 := hB.trans (hb2.mono hsz)
    have hn2 : w.heap.size + 1 < w2.heap.size := Nat.lt_of_lt_of_le hz1 hb2.size
    have a2 := (hB2.cell (p := ⟨b, off + k, none⟩) hb).trans A0.out
    have hY2 : Hid (BoxF w2 (w.heap.size + 1) fm0 fq0) := hY.out.bel hb2
    have hX2 : w2.heap[w.heap.size]? = wr.heap[w.heap.size]? := hb2.block _ (by omega)
    obtain ⟨pl, cl, rfl, ll, lc, HL0⟩ := hPt
    have HL : Hid (∀ i (hi : i < (ptsF g).length), ∃ b off q, pl = some ⟨b, off, none⟩ ∧ b < w2.heap.size ∧ FmC w2 b (off + i * 10) (ptsF g)[i] q.v q.t q.s q.r ∧ QAt wB ((ptsF g)[i], q)) := HL0
    have hfz : Hid (∀ i, w2.frozen? ⟨w.heap.size, i, none⟩ = false) := fun i => Lib.frozen_of_heap (hBX.out w2 hX2) i
    clear HL0 cP1 hb2 e0 e1 e2 e3 e4 e5 e6 e7 e8 e9
    obtain ⟨m, em⟩ : ∃ m : Nat, Hid ((ptsF g).length = m) := ⟨_, rfl⟩
    rw [em.out] at ll lc ⊢
    by_cases hi0 : i < 0
    · have hP4 : Hid (partP f ns = none) := hP3.out.trans (partP_neg hi0)
      have z0 : w2.cell? ⟨w.heap.size + 1, 0, none⟩ = some (.int .i64 0) := by have h := hY2.out; unfold BoxF at h; rw [Lib.cell_of_heap h]; rfl
      have zf0 : w2.frozen? ⟨w.heap.size + 1, 0, none⟩ = false := BoxF.fz hY2.out 0
      have z1 : w2.cell? ⟨w.heap.size + 1, 1, none⟩ = some (.string ⟨#[]⟩) := by have h := hY2.out; unfold BoxF at h; rw [Lib.cell_of_heap h]; rfl
      have zf1 : w2.frozen? ⟨w.heap.size + 1, 1, none⟩ = false := BoxF.fz hY2.out 1
      have z2 : w2.cell? ⟨w.heap.size + 1, 2, none⟩ = some (.int .i64 0) := by have h := hY2.out; unfold BoxF at h; rw [Lib.cell_of_heap h]; rfl
      have zf2 : w2.frozen? ⟨w.heap.size + 1, 2, none⟩ = false := BoxF.fz hY2.out 2
      have z3 : w2.cell? ⟨w.heap.size + 1, 3, none⟩ = some (.slice none 0 0) := by have h := hY2.out; unfold BoxF at h; rw [Lib.cell_of_heap h]; rfl
      have zf3 : w2.frozen? ⟨w.heap.size + 1, 3, none⟩ = false := BoxF.fz hY2.out 3
      have z4 : w2.cell? ⟨w.heap.size + 1, 4, none⟩ = some (.slice none 0 0) := by have h := hY2.out; unfold BoxF at h; rw [Lib.cell_of_heap h]; rfl
      have zf4 : w2.frozen? ⟨w.heap.size + 1, 4, none⟩ = false := BoxF.fz hY2.out 4
      have z5 : w2.cell? ⟨w.heap.size + 1, 5, none⟩ = some (.int .i64 0) := by have h := hY2.out; unfold BoxF at h; rw [Lib.cell_of_heap h]; rfl
      have zf5 : w2.frozen? ⟨w.heap.size + 1, 5, none⟩ = false := BoxF.fz hY2.out 5
      have z6 : w2.cell? ⟨w.heap.size + 1, 6, none⟩ = some (.int .i64 0) := by have h := hY2.out; unfold BoxF at h; rw [Lib.cell_of_heap h]; rfl
      have zf6 : w2.frozen? ⟨w.heap.size + 1, 6, none⟩ = false := BoxF.fz hY2.out 6
      have z7 : w2.cell? ⟨w.heap.size + 1, 7, none⟩ = some (.bool false) := by have h := hY2.out; unfold BoxF at h; rw [Lib.cell_of_heap h]; rfl
      have zf7 : w2.frozen? ⟨w.heap.size + 1, 7, none⟩ = false := BoxF.fz hY2.out 7
      have z8 : w2.cell? ⟨w.heap.size + 1, 8, none⟩ = some (.slice none 0 0) := by have h := hY2.out; unfold BoxF at h; rw [Lib.cell_of_heap h]; rfl
      have zf8 : w2.frozen? ⟨w.heap.size + 1, 8, none⟩ = false := BoxF.fz hY2.out 8
      have z9 : w2.cell? ⟨w.heap.size + 1, 9, none⟩ = some (.slice none 0 0) := by have h := hY2.out; unfold BoxF at h; rw [Lib.cell_of_heap h]; rfl
      have zf9 : w2.frozen? ⟨w.heap.size + 1, 9, none⟩ = false := BoxF.fz hY2.out 9
      go_wp2
      refine bodyPost_ret (by simp [results, Tryz.results18, go_sem, z0, z1, z2, z3, z4, z5, z6, z7, z8, z9]; try rfl) rfl ?_
      exact hPO2.out _ _ (hB2.trans (by go_grown)) HE.out hP4.out rfl
    by_cases him : (m : Int) ≤ i
    · have hP4 : Hid (partP f ns = none) := hP3.out.trans (partP_far hi0 (by rw [em.out]; exact him))
      have z0 : w2.cell? ⟨w.heap.size + 1, 0, none⟩ = some (.int .i64 0) := by have h := hY2.out; unfold BoxF at h; rw [Lib.cell_of_heap h]; rfl
      have zf0 : w2.frozen? ⟨w.heap.size + 1, 0, none⟩ = false := BoxF.fz hY2.out 0
      have z1 : w2.cell? ⟨w.heap.size + 1, 1, none⟩ = some (.string ⟨#[]⟩) := by have h := hY2.out; unfold BoxF at h; rw [Lib.cell_of_heap h]; rfl
      have zf1 : w2.frozen? ⟨w.heap.size + 1, 1, none⟩ = false := BoxF.fz hY2.out 1
      have z2 : w2.cell? ⟨w.heap.size + 1, 2, none⟩ = some (.int .i64 0) := by have h := hY2.out; unfold BoxF at h; rw [Lib.cell_of_heap h]; rfl
      have zf2 : w2.frozen? ⟨w.heap.size + 1, 2, none⟩ = false := BoxF.fz hY2.out 2
      have z3 : w2.cell? ⟨w.heap.size + 1, 3, none⟩ = some (.slice none 0 0) := by have h := hY2.out; unfold BoxF at h; rw [Lib.cell_of_heap h]; rfl
      have zf3 : w2.frozen? ⟨w.heap.size + 1, 3, none⟩ = false := BoxF.fz hY2.out 3
      have z4 : w2.cell? ⟨w.heap.size + 1, 4, none⟩ = some (.slice none 0 0) := by have h := hY2.out; unfold BoxF at h; rw [Lib.cell_of_heap h]; rfl
      have zf4 : w2.frozen? ⟨w.heap.size + 1, 4, none⟩ = false := BoxF.fz hY2.out 4
      have z5 : w2.cell? ⟨w.heap.size + 1, 5, none⟩ = some (.int .i64 0) := by have h := hY2.out; unfold BoxF at h; rw [Lib.cell_of_heap h]; rfl
      have zf5 : w2.frozen? ⟨w.heap.size + 1, 5, none⟩ = false := BoxF.fz hY2.out 5
      have z6 : w2.cell? ⟨w.heap.size + 1, 6, none⟩ = some (.int .i64 0) := by have h := hY2.out; unfold BoxF at h; rw [Lib.cell_of_heap h]; rfl
      have zf6 : w2.frozen? ⟨w.heap.size + 1, 6, none⟩ = false := BoxF.fz hY2.out 6
      have z7 : w2.cell? ⟨w.heap.size + 1, 7, none⟩ = some (.bool false) := by have h := hY2.out; unfold BoxF at h; rw [Lib.cell_of_heap h]; rfl
      have zf7 : w2.frozen? ⟨w.heap.size + 1, 7, none⟩ = false := BoxF.fz hY2.out 7
      have z8 : w2.cell? ⟨w.heap.size + 1, 8, none⟩ = some (.slice none 0 0) := by have h := hY2.out; unfold BoxF at h; rw [Lib.cell_of_heap h]; rfl
      have zf8 : w2.frozen? ⟨w.heap.size + 1, 8, none⟩ = false := BoxF.fz hY2.out 8
      have z9 : w2.cell? ⟨w.heap.size + 1, 9, none⟩ = some (.slice none 0 0) := by have h := hY2.out; unfold BoxF at h; rw [Lib.cell_of_heap h]; rfl
      have zf9 : w2.frozen? ⟨w.heap.size + 1, 9, none⟩ = false := BoxF.fz hY2.out 9
      go_wp2
      refine bodyPost_ret (by simp [results, Tryz.results18, go_sem, z0, z1, z2, z3, z4, z5, z6, z7, z8, z9]; try rfl) rfl ?_
      exact hPO2.out _ _ (hB2.trans (by go_grown)) HE.out hP4.out rfl
    obtain ⟨j, rfl⟩ : ∃ j : Nat, i = j := ⟨i.toNat, by omega⟩
    have jx : j < (ptsF g).length := by have := em.out; omega
    have hjm : (j : Int) < m := by omega
    obtain ⟨b2, off2, ⟨uv2, ut2, us2, ur2⟩, rfl, hb2, FC, hq2⟩ := HL.out j jx
    obtain ⟨c0, c1, c2, c3, c4, c5, c6, c7, c8, c9⟩ := FC
    have hP5 : Hid (partP f ns = partP (ptsF g)[j] (ns.drop (k + 1))) := hP3.out.trans (partP_in jx)
    have hW5 : Hid (wfF (ptsF g)[j] ∧ nodF (ptsF g)[j] ≤ 256 ∧ lgF (ptsF g)[j]) := by
      obtain ⟨x1, x2, x3⟩ := hW.out
      have y := pts_nod g
      have z := nodFs_get (ptsF g) j jx
      exact ⟨wfFs_get _ j jx (pts_ok x1), by omega, lgFs_get _ j jx (pts_lg x3)⟩
    have HQ5 : Hid (QAt wB ((ptsF g)[j], ⟨uv2, ut2, us2, ur2⟩)) := hq2
    obtain ⟨h1, h2, h3, h4⟩ := hq2
    dsimp only at h1 h2 h3 h4 c3 c4 c8 c9
    obtain ⟨-, pv2, cv2, rfl, -, -⟩ := h1
    obtain ⟨pt2, ct2, rfl, -⟩ := h2.form
    obtain ⟨ps2, cs2, rfl, -⟩ := h3.form
    obtain ⟨pr2, cr2, rfl, -⟩ := h4.form
    have hput2 : Hid (∀ W : World, W.heap[w.heap.size]? = wr.heap[w.heap.size]? → BoxF ((((((((((W.setCell ⟨w.heap.size, 0, none⟩ (Value.int .i64 (ptsF g)[j].k)).setCell ⟨w.heap.size, 1, none⟩ (Value.string (ptsF g)[j].nm)).setCell ⟨w.heap.size, 2, none⟩ (Value.int .i64 (ptsF g)[j].op)).setCell ⟨w.heap.size, 3, none⟩ (.slice pv2 (ptsF g)[j].vars.length cv2)).setCell ⟨w.heap.size, 4, none⟩ (.slice pt2 (ptsF g)[j].terms.length ct2)).setCell ⟨w.heap.size, 5, none⟩ (Value.int .i64 (ptsF g)[j].lo)).setCell ⟨w.heap.size, 6, none⟩ (Value.int .i64 (ptsF g)[j].hi)).setCell ⟨w.heap.size, 7, none⟩ (Value.bool (ptsF g)[j].opn)).setCell ⟨w.heap.size, 8, none⟩ (.slice ps2 (ptsF g)[j].subs.length cs2)).setCell ⟨w.heap.size, 9, none⟩ (.slice pr2 (ptsF g)[j].rgx.length cr2)) w.heap.size (ptsF g)[j] ⟨.slice pv2 (ptsF g)[j].vars.length cv2, .slice pt2 (ptsF g)[j].terms.length ct2, .slice ps2 (ptsF g)[j].subs.length cs2, .slice pr2 (ptsF g)[j].rgx.length cr2⟩) := fun W h => hput.out W (ptsF g)[j] ⟨.slice pv2 (ptsF g)[j].vars.length cv2, .slice pt2 (ptsF g)[j].terms.length ct2, .slice ps2 (ptsF g)[j].subs.length cs2, .slice pr2 (ptsF g)[j].rgx.length cr2⟩ h
    have d0 : w2.cell? ⟨w.heap.size, 0, none⟩ = some (.int .i64 k0) := by rw [Lib.cell_of_heap (hBX.out w2 hX2)]; rfl
    have d1 : w2.cell? ⟨w.heap.size, 1, none⟩ = some (.string nm) := by rw [Lib.cell_of_heap (hBX.out w2 hX2)]; rfl
    have d2 : w2.cell? ⟨w.heap.size, 2, none⟩ = some (.int .i64 op) := by rw [Lib.cell_of_heap (hBX.out w2 hX2)]; rfl
    have d3 : w2.cell? ⟨w.heap.size, 3, none⟩ = some (.slice pv nv cv) := by rw [Lib.cell_of_heap (hBX.out w2 hX2)]; rfl
    have d4 : w2.cell? ⟨w.heap.size, 4, none⟩ = some (.slice pt nt ct) := by rw [Lib.cell_of_heap (hBX.out w2 hX2)]; rfl
    have d5 : w2.cell? ⟨w.heap.size, 5, none⟩ = some (.int .i64 lo) := by rw [Lib.cell_of_heap (hBX.out w2 hX2)]; rfl
    have d6 : w2.cell? ⟨w.heap.size, 6, none⟩ = some (.int .i64 hi) := by rw [Lib.cell_of_heap (hBX.out w2 hX2)]; rfl
    have d7 : w2.cell? ⟨w.heap.size, 7, none⟩ = some (.bool o) := by rw [Lib.cell_of_heap (hBX.out w2 hX2)]; rfl
    have d8 : w2.cell? ⟨w.heap.size, 8, none⟩ = some (.slice ps ns0 cs) := by rw [Lib.cell_of_heap (hBX.out w2 hX2)]; rfl
    have d9 : w2.cell? ⟨w.heap.size, 9, none⟩ = some (.slice pr nr cr) := by rw [Lib.cell_of_heap (hBX.out w2 hX2)]; rfl
    clear h2 h3 h4 hput HL hBX hPO4 hP3 hW hq hX
    have ef0 : w2.frozen? ⟨w.heap.size, 0, none⟩ = false := hfz.out 0
    have ef1 : w2.frozen? ⟨w.heap.size, 1, none⟩ = false := hfz.out 1
    have ef2 : w2.frozen? ⟨w.heap.size, 2, none⟩ = false := hfz.out 2
    have ef3 : w2.frozen? ⟨w.heap.size, 3, none⟩ = false := hfz.out 3
    have ef4 : w2.frozen? ⟨w.heap.size, 4, none⟩ = false := hfz.out 4
    have ef5 : w2.frozen? ⟨w.heap.size, 5, none⟩ = false := hfz.out 5
    have ef6 : w2.frozen? ⟨w.heap.size, 6, none⟩ = false := hfz.out 6
    have ef7 : w2.frozen? ⟨w.heap.size, 7, none⟩ = false := hfz.out 7
    have ef8 : w2.frozen? ⟨w.heap.size, 8, none⟩ = false := hfz.out 8
    have ef9 : w2.frozen? ⟨w.heap.size, 9, none⟩ = false := hfz.out 9
    have hY5 : Hid (∀ W : World, W.heap[w.heap.size + 1]? = w2.heap[w.heap.size + 1]? → BoxF W (w.heap.size + 1) fm0 fq0) := fun W h => hY2.out.at h
    go_wp2
    refine ⟨⟨k + 1, (ptsF g)[j], ⟨.slice pv2 (ptsF g)[j].vars.length cv2, .slice pt2 (ptsF g)[j].terms.length ct2, .slice ps2 (ptsF g)[j].subs.length cs2, .slice pr2 (ptsF g)[j].rgx.length cr2⟩, by omega, by go_num, hP5, hW5, HQ5, hput2.out w2 hX2, hY5.out _ ?_, hB2.trans (by go_grown)⟩, by simp [intOf]; omega⟩
    (repeat rw [set_block (by omega)])

end Go.Proofs.YtfajjphfjilpnaaGreat

namespace Go.Proofs.YtfajjphfjilpnaaGreat
open Go.RowKit LX Go.Shelf
set_option linter.unusedVariables false

set_option maxRecDepth 100000 in
set_option maxHeartbeats 8000000 in
theorem part_fm2 (f : Fm) (q : FQ) (w : World) (hq : QAt w (f, q)) (V : Value) (ns : List Int) (hV : PthAt w V ns) :
    Calls Tryz.prog 17 #[.agg #[.int .i64 f.k, .string f.nm, .int .i64 f.op, q.v, q.t, .int .i64 f.lo, .int .i64 f.hi, .bool f.opn, q.s, q.r], V] w (PartOut w f ns) := by
  have cK : Hid (∀ W : World, Below w.heap.size w W → Calls Tryz.prog 8 #[.agg #[.int .i64 f.k, .string f.nm, .int .i64 f.op, q.v, q.t, .int .i64 f.lo, .int .i64 f.hi, .bool f.opn, q.s, q.r]] W fun r w' => r = .returned (.int .i64 (chkF f)) ∧ Below W.heap.size W w') := fun W hW => check_fm f q W (hq.below hW)
  have cP : Hid (∀ (g : Fm) (r : FQ) (W : World), QAt w (g, r) → wfF g ∧ nodF g ≤ 256 ∧ lgF g → Below w.heap.size w W → Calls Tryz.prog 46 #[.agg #[.int .i64 g.k, .string g.nm, .int .i64 g.op, r.v, r.t, .int .i64 g.lo, .int .i64 g.hi, .bool g.opn, r.s, r.r]] W fun e w' => ∃ v, e = .returned v ∧ PtsAt w w' v (ptsF g) ∧ Below W.heap.size W w') := fun g r W h1 h2 h3 => parts_src w g r h1 W h3 (by
    have a := (rtss_nod _ g.rgx (Nat.le_refl _)).1
    have b := nodFs_len (rtss g.rgx)
    have c := nodF_eq g
    omega)
  have cC : Hid (∀ (g : Fm) (r : FQ) (W : World), QAt w (g, r) → lgF g → Below w.heap.size w W → Calls Tryz.prog 7 #[.agg #[.int .i64 g.k, .string g.nm, .int .i64 g.op, r.v, r.t, .int .i64 g.lo, .int .i64 g.hi, .bool g.opn, r.s, r.r]] W fun e w' => ∃ qv dv qt dt qs ds qr dr, e = .returned (.agg #[.int .i64 g.k, .string g.nm, .int .i64 g.op, .slice qv g.vars.length dv, .slice qt g.terms.length dt, .int .i64 g.lo, .int .i64 g.hi, .bool g.opn, .slice qs g.subs.length ds, .slice qr g.rgx.length dr]) ∧ QOwn (fun b => W.heap.size ≤ b) w' (g, ⟨.slice qv g.vars.length dv, .slice qt g.terms.length dt, .slice qs g.subs.length ds, .slice qr g.rgx.length dr⟩) ∧ Below W.heap.size W w') := fun g r W h1 h2 h3 => (clone_fm g r W (h1.below h3) h2).mono fun e w' ⟨q, h1, h2, h3⟩ => by
    obtain ⟨v1, v2, v3, v4⟩ := q
    have hA := h2.at
    obtain ⟨x1, x2, x3, x4⟩ := hA
    dsimp only at x1 x2 x3 x4 h1
    obtain ⟨qv, dv, rfl, -⟩ := x1.form
    obtain ⟨qt, dt, rfl, -⟩ := x2.form
    obtain ⟨qs, ds, rfl, -⟩ := x3.form
    obtain ⟨qr, dr, rfl, -⟩ := x4.form
    exact ⟨qv, dv, qt, dt, qs, ds, qr, dr, h1, h2, h3⟩
  have HQ : Hid (QAt w (f, q)) := hq
  obtain ⟨lp, p, c, rfl, hc, HX0⟩ := hV
  have HX : Hid (∀ i (hi : i < ns.length), ∃ b off, p = some ⟨b, off, none⟩ ∧ b < w.heap.size ∧ w.cell? ⟨b, off + i, none⟩ = some (.int .i64 ns[i])) := HX0
  obtain ⟨PO, ePO⟩ : ∃ PO, Hid (PartOut w f ns = PO) := ⟨_, rfl⟩
  rw [ePO.out]
  have hPO1 : Hid (∀ r w', Below w.heap.size w w' → ¬ chkF f = 0 → r = .returned (.tuple #[.agg #[.int .i64 0, .string ⟨#[]⟩, .int .i64 0, .slice none 0 0, .slice none 0 0, .int .i64 0, .int .i64 0, .bool false, .slice none 0 0, .slice none 0 0], .int .i64 (chkF f)]) → PO r w') := fun r w' h1 h2 h3 => by
    rw [← ePO.out]
    exact ⟨h1, Or.inl ⟨h2, h3⟩⟩
  have hPO2 : Hid (∀ r w', Below w.heap.size w w' → chkF f = 0 → partP f ns = none → r = .returned (.tuple #[.agg #[.int .i64 0, .string ⟨#[]⟩, .int .i64 0, .slice none 0 0, .slice none 0 0, .int .i64 0, .int .i64 0, .bool false, .slice none 0 0, .slice none 0 0], .int .i64 5]) → PO r w') := fun r w' h1 h2 h3 h4 => by
    rw [← ePO.out]
    exact ⟨h1, Or.inr (Or.inl ⟨h2, h3, h4⟩)⟩
  have hPO3 : Hid (∀ r w' g q, Below w.heap.size w w' → chkF f = 0 → partP f ns = some g → r = .returned (.tuple #[.agg #[.int .i64 g.k, .string g.nm, .int .i64 g.op, q.v, q.t, .int .i64 g.lo, .int .i64 g.hi, .bool g.opn, q.s, q.r], .int .i64 0]) → QOwn (fun b => w.heap.size ≤ b) w' (g, q) → PO r w') := fun r w' g q h1 h2 h3 h4 h5 => by
    rw [← ePO.out]
    exact ⟨h1, Or.inr (Or.inr ⟨h2, g, q, h3, h4, h5⟩)⟩
  have HG : Hid (chkF f = 0 → wfF f ∧ nodF f ≤ 256 ∧ lgF f) := fun h => ⟨(chk_good h).1, (chk_good h).2, chk_lg h⟩
  clear HX0 hq ePO
  obtain ⟨uv, ut, us, ur⟩ := q
  obtain ⟨h1, h2, h3, h4⟩ := HQ.out
  dsimp only at h1 h2 h3 h4 cK ⊢
  obtain ⟨-, pv, cv, rfl, -, -⟩ := h1
  obtain ⟨pt, ct, rfl, -⟩ := h2.form
  obtain ⟨ps, cs, rfl, -⟩ := h3.form
  obtain ⟨pr, cr, rfl, -⟩ := h4.form
  clear h2 h3 h4
  obtain ⟨n, en⟩ : ∃ n : Nat, Hid (ns.length = n) := ⟨_, rfl⟩
  rw [en.out] at lp hc ⊢
  go_enter Tryz.func17, Tryz.ntmps17
  go_wp2_with fail
  refine (cK.out _ (by go_grown)).mono ?_
  rintro r w1 ⟨rfl, hb1⟩
  have hB1 : Below w.heap.size w w1 := Below.trans (by go_grown) (hb1.mono (by first | (simp; done) | (simp; omega)))
  have X0 : BoxF w1 w.heap.size f ⟨.slice pv f.vars.length cv, .slice pt f.terms.length ct, .slice ps f.subs.length cs, .slice pr f.rgx.length cr⟩ := (hb1.block w.heap.size (by simp; omega)).trans ((Below.heap_alloc _ _ _ (by simp)).trans (heap_allocA w _))
  have Y0 : BoxF w1 (w.heap.size + 1) fm0 fq0 := (hb1.block (w.heap.size + 1) (by simp)).trans (by have h := heap_allocA (w.alloc (Obj.cells #[.int .i64 f.k, .string f.nm, .int .i64 f.op, .slice pv f.vars.length cv, .slice pt f.terms.length ct, .int .i64 f.lo, .int .i64 f.hi, .bool f.opn, .slice ps f.subs.length cs, .slice pr f.rgx.length cr] 29)) (Obj.cells #[.int .i64 0, .string ⟨#[]⟩, .int .i64 0, .slice none 0 0, .slice none 0 0, .int .i64 0, .int .i64 0, .bool false, .slice none 0 0, .slice none 0 0] 29); rw [alloc_size] at h; exact h)
  have HX0 : Hid (BoxF w1 w.heap.size f ⟨.slice pv f.vars.length cv, .slice pt f.terms.length ct, .slice ps f.subs.length cs, .slice pr f.rgx.length cr⟩) := X0
  have HY0 : Hid (BoxF w1 (w.heap.size + 1) fm0 fq0) := Y0
  clear hb1 cK X0 Y0
  by_cases hE : chkF f = 0
  case neg =>
    have hE' : (chkF f != 0) = true := by simp [hE]
    have z0 : w1.cell? ⟨w.heap.size + 1, 0, none⟩ = some (.int .i64 0) := by have h := HY0.out; unfold BoxF at h; rw [Lib.cell_of_heap h]; rfl
    have zf0 : w1.frozen? ⟨w.heap.size + 1, 0, none⟩ = false := BoxF.fz HY0.out 0
    have z1 : w1.cell? ⟨w.heap.size + 1, 1, none⟩ = some (.string ⟨#[]⟩) := by have h := HY0.out; unfold BoxF at h; rw [Lib.cell_of_heap h]; rfl
    have zf1 : w1.frozen? ⟨w.heap.size + 1, 1, none⟩ = false := BoxF.fz HY0.out 1
    have z2 : w1.cell? ⟨w.heap.size + 1, 2, none⟩ = some (.int .i64 0) := by have h := HY0.out; unfold BoxF at h; rw [Lib.cell_of_heap h]; rfl
    have zf2 : w1.frozen? ⟨w.heap.size + 1, 2, none⟩ = false := BoxF.fz HY0.out 2
    have z3 : w1.cell? ⟨w.heap.size + 1, 3, none⟩ = some (.slice none 0 0) := by have h := HY0.out; unfold BoxF at h; rw [Lib.cell_of_heap h]; rfl
    have zf3 : w1.frozen? ⟨w.heap.size + 1, 3, none⟩ = false := BoxF.fz HY0.out 3
    have z4 : w1.cell? ⟨w.heap.size + 1, 4, none⟩ = some (.slice none 0 0) := by have h := HY0.out; unfold BoxF at h; rw [Lib.cell_of_heap h]; rfl
    have zf4 : w1.frozen? ⟨w.heap.size + 1, 4, none⟩ = false := BoxF.fz HY0.out 4
    have z5 : w1.cell? ⟨w.heap.size + 1, 5, none⟩ = some (.int .i64 0) := by have h := HY0.out; unfold BoxF at h; rw [Lib.cell_of_heap h]; rfl
    have zf5 : w1.frozen? ⟨w.heap.size + 1, 5, none⟩ = false := BoxF.fz HY0.out 5
    have z6 : w1.cell? ⟨w.heap.size + 1, 6, none⟩ = some (.int .i64 0) := by have h := HY0.out; unfold BoxF at h; rw [Lib.cell_of_heap h]; rfl
    have zf6 : w1.frozen? ⟨w.heap.size + 1, 6, none⟩ = false := BoxF.fz HY0.out 6
    have z7 : w1.cell? ⟨w.heap.size + 1, 7, none⟩ = some (.bool false) := by have h := HY0.out; unfold BoxF at h; rw [Lib.cell_of_heap h]; rfl
    have zf7 : w1.frozen? ⟨w.heap.size + 1, 7, none⟩ = false := BoxF.fz HY0.out 7
    have z8 : w1.cell? ⟨w.heap.size + 1, 8, none⟩ = some (.slice none 0 0) := by have h := HY0.out; unfold BoxF at h; rw [Lib.cell_of_heap h]; rfl
    have zf8 : w1.frozen? ⟨w.heap.size + 1, 8, none⟩ = false := BoxF.fz HY0.out 8
    have z9 : w1.cell? ⟨w.heap.size + 1, 9, none⟩ = some (.slice none 0 0) := by have h := HY0.out; unfold BoxF at h; rw [Lib.cell_of_heap h]; rfl
    have zf9 : w1.frozen? ⟨w.heap.size + 1, 9, none⟩ = false := BoxF.fz HY0.out 9
    have HNE : Hid (¬ chkF f = 0) := hE
    clear hE
    generalize chkF f = CK at *
    go_wp2
    refine bodyPost_ret (by simp [results, Tryz.results17, go_sem, z0, z1, z2, z3, z4, z5, z6, z7, z8, z9]; try rfl) rfl ?_
    exact hPO1.out _ _ (hB1.trans (by go_grown)) HNE.out rfl
  have HG0 := HG.out hE
  have HE : Hid (chkF f = 0) := hE
  rw [hE]
  clear hE HG hPO1
  have hW0 : Hid (wfF f ∧ nodF f ≤ 256 ∧ lgF f) := HG0
  clear HG0
  go_wp2
  go_loopw [18] (fun v wr => ∃ (k : Nat) (g : Fm) (r : FQ), k ≤ n ∧ v = .int .i64 k ∧ Hid (partP f ns = partP g (ns.drop k)) ∧ Hid (wfF g ∧ nodF g ≤ 256 ∧ lgF g) ∧ Hid (QAt w (g, r)) ∧ Hid (BoxF wr w.heap.size g r) ∧ Hid (BoxF wr (w.heap.size + 1) fm0 fq0) ∧ Below w.heap.size w wr) (fun v _ => n - (intOf v).toNat)
  case atStart => exact ⟨0, f, ⟨.slice pv f.vars.length cv, .slice pt f.terms.length ct, .slice ps f.subs.length cs, .slice pr f.rgx.length cr⟩, Nat.zero_le _, rfl, (show _ = _ by simp), hW0, HQ, HX0, HY0, hB1⟩
  case round =>
    obtain ⟨k, g, r, hk, rfl, hP, hW, hq, hX, hY, hB⟩ := hrel
    have hsz := hB.size
    have hz1 : w.heap.size + 1 < wr.heap.size := hY.out.lt
    obtain ⟨uv, ut, us, ur⟩ := r
    obtain ⟨h1, h2, h3, h4⟩ := hq.out
    dsimp only at h1 h2 h3 h4
    obtain ⟨-, pv, cv, rfl, -, -⟩ := h1
    obtain ⟨pt, ct, rfl, -⟩ := h2.form
    obtain ⟨ps, cs, rfl, -⟩ := h3.form
    obtain ⟨pr, cr, rfl, -⟩ := h4.form
    have cP1 : Hid (∀ W : World, Below w.heap.size w W → Calls Tryz.prog 46 #[.agg #[.int .i64 g.k, .string g.nm, .int .i64 g.op, .slice pv g.vars.length cv, .slice pt g.terms.length ct, .int .i64 g.lo, .int .i64 g.hi, .bool g.opn, .slice ps g.subs.length cs, .slice pr g.rgx.length cr]] W fun e w' => ∃ v, e = .returned v ∧ PtsAt w w' v (ptsF g) ∧ Below W.heap.size W w') := fun W hW' => cP.out g ⟨.slice pv g.vars.length cv, .slice pt g.terms.length ct, .slice ps g.subs.length cs, .slice pr g.rgx.length cr⟩ W hq.out hW.out hW'
    have cC1 : Hid (∀ W : World, Below w.heap.size w W → Calls Tryz.prog 7 #[.agg #[.int .i64 g.k, .string g.nm, .int .i64 g.op, .slice pv g.vars.length cv, .slice pt g.terms.length ct, .int .i64 g.lo, .int .i64 g.hi, .bool g.opn, .slice ps g.subs.length cs, .slice pr g.rgx.length cr]] W fun e w' => ∃ qv dv qt dt qs ds qr dr, e = .returned (.agg #[.int .i64 g.k, .string g.nm, .int .i64 g.op, .slice qv g.vars.length dv, .slice qt g.terms.length dt, .int .i64 g.lo, .int .i64 g.hi, .bool g.opn, .slice qs g.subs.length ds, .slice qr g.rgx.length dr]) ∧ QOwn (fun b => W.heap.size ≤ b) w' (g, ⟨.slice qv g.vars.length dv, .slice qt g.terms.length dt, .slice qs g.subs.length ds, .slice qr g.rgx.length dr⟩) ∧ Below W.heap.size W w') := fun W hW' => cC.out g ⟨.slice pv g.vars.length cv, .slice pt g.terms.length ct, .slice ps g.subs.length cs, .slice pr g.rgx.length cr⟩ W hq.out hW.out.2.2 hW'
    have hBX : Hid (∀ W : World, W.heap[w.heap.size]? = wr.heap[w.heap.size]? → W.heap[w.heap.size]? = some (.cells #[.int .i64 g.k, .string g.nm, .int .i64 g.op, .slice pv g.vars.length cv, .slice pt g.terms.length ct, .int .i64 g.lo, .int .i64 g.hi, .bool g.opn, .slice ps g.subs.length cs, .slice pr g.rgx.length cr] 29 (0, 0))) := fun W h => h.trans hX.out
    have hPO4 : Hid (∀ r w' q, Below w.heap.size w w' → partP f ns = some g → r = .returned (.tuple #[.agg #[.int .i64 g.k, .string g.nm, .int .i64 g.op, q.v, q.t, .int .i64 g.lo, .int .i64 g.hi, .bool g.opn, q.s, q.r], .int .i64 0]) → QOwn (fun b => w.heap.size ≤ b) w' (g, q) → PO r w') := fun r w' q h1 h3 h4 h5 => hPO3.out r w' g q h1 HE.out h3 h4 h5
    have hput : Hid (∀ (W : World) (g' : Fm) (r' : FQ), W.heap[w.heap.size]? = wr.heap[w.heap.size]? → BoxF ((((((((((W.setCell ⟨w.heap.size, 0, none⟩ (Value.int .i64 g'.k)).setCell ⟨w.heap.size, 1, none⟩ (Value.string g'.nm)).setCell ⟨w.heap.size, 2, none⟩ (Value.int .i64 g'.op)).setCell ⟨w.heap.size, 3, none⟩ (r'.v)).setCell ⟨w.heap.size, 4, none⟩ (r'.t)).setCell ⟨w.heap.size, 5, none⟩ (Value.int .i64 g'.lo)).setCell ⟨w.heap.size, 6, none⟩ (Value.int .i64 g'.hi)).setCell ⟨w.heap.size, 7, none⟩ (Value.bool g'.opn)).setCell ⟨w.heap.size, 8, none⟩ (r'.s)).setCell ⟨w.heap.size, 9, none⟩ (r'.r)) w.heap.size g' r') := fun W g' r' h => BoxF.put (hX.out.at h)
    clear h2 h3 h4
    obtain ⟨nv, env⟩ : ∃ n : Nat, Hid (g.vars.length = n) := ⟨_, rfl⟩
    obtain ⟨nt, ent⟩ : ∃ n : Nat, Hid (g.terms.length = n) := ⟨_, rfl⟩
    obtain ⟨ns0, ens⟩ : ∃ n : Nat, Hid (g.subs.length = n) := ⟨_, rfl⟩
    obtain ⟨nr, enr⟩ : ∃ n : Nat, Hid (g.rgx.length = n) := ⟨_, rfl⟩
    rw [env.out, ent.out, ens.out, enr.out] at cP1 cC1 hBX
    generalize g.k = k0 at *
    generalize g.nm = nm at *
    generalize g.op = op at *
    generalize g.lo = lo at *
    generalize g.hi = hi at *
    generalize g.opn = o at *
    by_cases hlt : k < n
    case neg =>
      have c2 : ¬ (k : Int) < n := by omega
      have hP2 : Hid (partP f ns = some g) := by
        have h := hP.out
        rw [List.drop_eq_nil_of_le (by have := en.out; omega), partP] at h
        exact h
      have e0 : wr.cell? ⟨w.heap.size, 0, none⟩ = some (.int .i64 k0) := by rw [Lib.cell_of_heap (hBX.out wr rfl)]; rfl
      have e1 : wr.cell? ⟨w.heap.size, 1, none⟩ = some (.string nm) := by rw [Lib.cell_of_heap (hBX.out wr rfl)]; rfl
      have e2 : wr.cell? ⟨w.heap.size, 2, none⟩ = some (.int .i64 op) := by rw [Lib.cell_of_heap (hBX.out wr rfl)]; rfl
      have e3 : wr.cell? ⟨w.heap.size, 3, none⟩ = some (.slice pv nv cv) := by rw [Lib.cell_of_heap (hBX.out wr rfl)]; rfl
      have e4 : wr.cell? ⟨w.heap.size, 4, none⟩ = some (.slice pt nt ct) := by rw [Lib.cell_of_heap (hBX.out wr rfl)]; rfl
      have e5 : wr.cell? ⟨w.heap.size, 5, none⟩ = some (.int .i64 lo) := by rw [Lib.cell_of_heap (hBX.out wr rfl)]; rfl
      have e6 : wr.cell? ⟨w.heap.size, 6, none⟩ = some (.int .i64 hi) := by rw [Lib.cell_of_heap (hBX.out wr rfl)]; rfl
      have e7 : wr.cell? ⟨w.heap.size, 7, none⟩ = some (.bool o) := by rw [Lib.cell_of_heap (hBX.out wr rfl)]; rfl
      have e8 : wr.cell? ⟨w.heap.size, 8, none⟩ = some (.slice ps ns0 cs) := by rw [Lib.cell_of_heap (hBX.out wr rfl)]; rfl
      have e9 : wr.cell? ⟨w.heap.size, 9, none⟩ = some (.slice pr nr cr) := by rw [Lib.cell_of_heap (hBX.out wr rfl)]; rfl
      go_wp2_with fail
      refine (cC1.out _ hB).mono ?_
      rintro e w2 ⟨qv, dv, qt, dt, qs, ds, qr, dr, rfl, hQ, hb2⟩
      have hB2 : Below w.heap.size w w2 := hB.trans (hb2.mono hsz)
      have hY2 : Hid (BoxF w2 (w.heap.size + 1) fm0 fq0) := hY.out.bel hb2
      have z0 : w2.cell? ⟨w.heap.size + 1, 0, none⟩ = some (.int .i64 0) := by have h := hY2.out; unfold BoxF at h; rw [Lib.cell_of_heap h]; rfl
      have zf0 : w2.frozen? ⟨w.heap.size + 1, 0, none⟩ = false := BoxF.fz hY2.out 0
      have z1 : w2.cell? ⟨w.heap.size + 1, 1, none⟩ = some (.string ⟨#[]⟩) := by have h := hY2.out; unfold BoxF at h; rw [Lib.cell_of_heap h]; rfl
      have zf1 : w2.frozen? ⟨w.heap.size + 1, 1, none⟩ = false := BoxF.fz hY2.out 1
      have z2 : w2.cell? ⟨w.heap.size + 1, 2, none⟩ = some (.int .i64 0) := by have h := hY2.out; unfold BoxF at h; rw [Lib.cell_of_heap h]; rfl
      have zf2 : w2.frozen? ⟨w.heap.size + 1, 2, none⟩ = false := BoxF.fz hY2.out 2
      have z3 : w2.cell? ⟨w.heap.size + 1, 3, none⟩ = some (.slice none 0 0) := by have h := hY2.out; unfold BoxF at h; rw [Lib.cell_of_heap h]; rfl
      have zf3 : w2.frozen? ⟨w.heap.size + 1, 3, none⟩ = false := BoxF.fz hY2.out 3
      have z4 : w2.cell? ⟨w.heap.size + 1, 4, none⟩ = some (.slice none 0 0) := by have h := hY2.out; unfold BoxF at h; rw [Lib.cell_of_heap h]; rfl
      have zf4 : w2.frozen? ⟨w.heap.size + 1, 4, none⟩ = false := BoxF.fz hY2.out 4
      have z5 : w2.cell? ⟨w.heap.size + 1, 5, none⟩ = some (.int .i64 0) := by have h := hY2.out; unfold BoxF at h; rw [Lib.cell_of_heap h]; rfl
      have zf5 : w2.frozen? ⟨w.heap.size + 1, 5, none⟩ = false := BoxF.fz hY2.out 5
      have z6 : w2.cell? ⟨w.heap.size + 1, 6, none⟩ = some (.int .i64 0) := by have h := hY2.out; unfold BoxF at h; rw [Lib.cell_of_heap h]; rfl
      have zf6 : w2.frozen? ⟨w.heap.size + 1, 6, none⟩ = false := BoxF.fz hY2.out 6
      have z7 : w2.cell? ⟨w.heap.size + 1, 7, none⟩ = some (.bool false) := by have h := hY2.out; unfold BoxF at h; rw [Lib.cell_of_heap h]; rfl
      have zf7 : w2.frozen? ⟨w.heap.size + 1, 7, none⟩ = false := BoxF.fz hY2.out 7
      have z8 : w2.cell? ⟨w.heap.size + 1, 8, none⟩ = some (.slice none 0 0) := by have h := hY2.out; unfold BoxF at h; rw [Lib.cell_of_heap h]; rfl
      have zf8 : w2.frozen? ⟨w.heap.size + 1, 8, none⟩ = false := BoxF.fz hY2.out 8
      have z9 : w2.cell? ⟨w.heap.size + 1, 9, none⟩ = some (.slice none 0 0) := by have h := hY2.out; unfold BoxF at h; rw [Lib.cell_of_heap h]; rfl
      have zf9 : w2.frozen? ⟨w.heap.size + 1, 9, none⟩ = false := BoxF.fz hY2.out 9
      have HQ2 : Hid (∀ W : World, (∀ q, w.heap.size + 2 ≤ q → W.heap[q]? = w2.heap[q]?) → QOwn (fun b => w.heap.size ≤ b) W (g, ⟨.slice qv nv dv, .slice qt nt dt, .slice qs ns0 ds, .slice qr nr dr⟩)) := fun W hW => ((hQ.mono (P' := fun q => w.heap.size + 2 ≤ q) fun q hq _ => by omega).keep (w' := W) fun q h1 _ => hW q h1).mono fun q h1 _ => by omega
      clear cC1 cP1 hb2 hQ e0 e1 e2 e3 e4 e5 e6 e7 e8 e9
      go_wp2
      refine bodyPost_ret (by simp [results, Tryz.results17, go_sem, z0, z1, z2, z3, z4, z5, z6, z7, z8, z9]; try rfl) rfl ?_
      refine hPO4.out _ _ ⟨.slice qv nv dv, .slice qt nt dt, .slice qs ns0 ds, .slice qr nr dr⟩ (hB2.trans (by go_grown)) hP2.out rfl (HQ2.out _ fun q hq => ?_)
      (repeat rw [set_block (by omega)])
    have hlt' : (k : Int) < n := by omega
    have kx : k < ns.length := by have := en.out; omega
    obtain ⟨b, off, rfl, hb, a0⟩ := HX.out k kx
    have a1 := (hB.cell (p := ⟨b, off + k, none⟩) hb).trans a0
    have hP3 : Hid (partP f ns = partP g (ns[k] :: ns.drop (k + 1))) := by
      have h := hP.out
      rw [List.drop_eq_getElem_cons kx] at h
      exact h
    clear hP a0 cC1
    generalize ns[k] = i at *
    have e0 : wr.cell? ⟨w.heap.size, 0, none⟩ = some (.int .i64 k0) := by rw [Lib.cell_of_heap (hBX.out wr rfl)]; rfl
    have e1 : wr.cell? ⟨w.heap.size, 1, none⟩ = some (.string nm) := by rw [Lib.cell_of_heap (hBX.out wr rfl)]; rfl
    have e2 : wr.cell? ⟨w.heap.size, 2, none⟩ = some (.int .i64 op) := by rw [Lib.cell_of_heap (hBX.out wr rfl)]; rfl
    have e3 : wr.cell? ⟨w.heap.size, 3, none⟩ = some (.slice pv nv cv) := by rw [Lib.cell_of_heap (hBX.out wr rfl)]; rfl
    have e4 : wr.cell? ⟨w.heap.size, 4, none⟩ = some (.slice pt nt ct) := by rw [Lib.cell_of_heap (hBX.out wr rfl)]; rfl
    have e5 : wr.cell? ⟨w.heap.size, 5, none⟩ = some (.int .i64 lo) := by rw [Lib.cell_of_heap (hBX.out wr rfl)]; rfl
    have e6 : wr.cell? ⟨w.heap.size, 6, none⟩ = some (.int .i64 hi) := by rw [Lib.cell_of_heap (hBX.out wr rfl)]; rfl
    have e7 : wr.cell? ⟨w.heap.size, 7, none⟩ = some (.bool o) := by rw [Lib.cell_of_heap (hBX.out wr rfl)]; rfl
    have e8 : wr.cell? ⟨w.heap.size, 8, none⟩ = some (.slice ps ns0 cs) := by rw [Lib.cell_of_heap (hBX.out wr rfl)]; rfl
    have e9 : wr.cell? ⟨w.heap.size, 9, none⟩ = some (.slice pr nr cr) := by rw [Lib.cell_of_heap (hBX.out wr rfl)]; rfl
    go_wp2_with fail
    refine (cP1.out _ hB).mono ?_
    rintro e w2 ⟨v2, rfl, hPt, hb2⟩
    have hB2 : Below w.heap.size w w2 := hB.trans (hb2.mono hsz)
    have hn2 : w.heap.size + 1 < w2.heap.size := Nat.lt_of_lt_of_le hz1 hb2.size
    have hY2 : Hid (BoxF w2 (w.heap.size + 1) fm0 fq0) := hY.out.bel hb2
    have hX2 : w2.heap[w.heap.size]? = wr.heap[w.heap.size]? := hb2.block _ (by omega)
    obtain ⟨pl, cl, rfl, ll, lc, HL0⟩ := hPt
    have HL : Hid (∀ i (hi : i < (ptsF g).length), ∃ b off q, pl = some ⟨b, off, none⟩ ∧ b < w2.heap.size ∧ FmC w2 b (off + i * 10) (ptsF g)[i] q.v q.t q.s q.r ∧ QAt w ((ptsF g)[i], q)) := HL0
    have hfz : Hid (∀ i, w2.frozen? ⟨w.heap.size, i, none⟩ = false) := fun i => Lib.frozen_of_heap (hBX.out w2 hX2) i
    clear HL0 cP1 hb2 e0 e1 e2 e3 e4 e5 e6 e7 e8 e9
    obtain ⟨m, em⟩ : ∃ m : Nat, Hid ((ptsF g).length = m) := ⟨_, rfl⟩
    rw [em.out] at ll lc ⊢
    by_cases hi0 : i < 0
    · have hP4 : Hid (partP f ns = none) := hP3.out.trans (partP_neg hi0)
      have z0 : w2.cell? ⟨w.heap.size + 1, 0, none⟩ = some (.int .i64 0) := by have h := hY2.out; unfold BoxF at h; rw [Lib.cell_of_heap h]; rfl
      have zf0 : w2.frozen? ⟨w.heap.size + 1, 0, none⟩ = false := BoxF.fz hY2.out 0
      have z1 : w2.cell? ⟨w.heap.size + 1, 1, none⟩ = some (.string ⟨#[]⟩) := by have h := hY2.out; unfold BoxF at h; rw [Lib.cell_of_heap h]; rfl
      have zf1 : w2.frozen? ⟨w.heap.size + 1, 1, none⟩ = false := BoxF.fz hY2.out 1
      have z2 : w2.cell? ⟨w.heap.size + 1, 2, none⟩ = some (.int .i64 0) := by have h := hY2.out; unfold BoxF at h; rw [Lib.cell_of_heap h]; rfl
      have zf2 : w2.frozen? ⟨w.heap.size + 1, 2, none⟩ = false := BoxF.fz hY2.out 2
      have z3 : w2.cell? ⟨w.heap.size + 1, 3, none⟩ = some (.slice none 0 0) := by have h := hY2.out; unfold BoxF at h; rw [Lib.cell_of_heap h]; rfl
      have zf3 : w2.frozen? ⟨w.heap.size + 1, 3, none⟩ = false := BoxF.fz hY2.out 3
      have z4 : w2.cell? ⟨w.heap.size + 1, 4, none⟩ = some (.slice none 0 0) := by have h := hY2.out; unfold BoxF at h; rw [Lib.cell_of_heap h]; rfl
      have zf4 : w2.frozen? ⟨w.heap.size + 1, 4, none⟩ = false := BoxF.fz hY2.out 4
      have z5 : w2.cell? ⟨w.heap.size + 1, 5, none⟩ = some (.int .i64 0) := by have h := hY2.out; unfold BoxF at h; rw [Lib.cell_of_heap h]; rfl
      have zf5 : w2.frozen? ⟨w.heap.size + 1, 5, none⟩ = false := BoxF.fz hY2.out 5
      have z6 : w2.cell? ⟨w.heap.size + 1, 6, none⟩ = some (.int .i64 0) := by have h := hY2.out; unfold BoxF at h; rw [Lib.cell_of_heap h]; rfl
      have zf6 : w2.frozen? ⟨w.heap.size + 1, 6, none⟩ = false := BoxF.fz hY2.out 6
      have z7 : w2.cell? ⟨w.heap.size + 1, 7, none⟩ = some (.bool false) := by have h := hY2.out; unfold BoxF at h; rw [Lib.cell_of_heap h]; rfl
      have zf7 : w2.frozen? ⟨w.heap.size + 1, 7, none⟩ = false := BoxF.fz hY2.out 7
      have z8 : w2.cell? ⟨w.heap.size + 1, 8, none⟩ = some (.slice none 0 0) := by have h := hY2.out; unfold BoxF at h; rw [Lib.cell_of_heap h]; rfl
      have zf8 : w2.frozen? ⟨w.heap.size + 1, 8, none⟩ = false := BoxF.fz hY2.out 8
      have z9 : w2.cell? ⟨w.heap.size + 1, 9, none⟩ = some (.slice none 0 0) := by have h := hY2.out; unfold BoxF at h; rw [Lib.cell_of_heap h]; rfl
      have zf9 : w2.frozen? ⟨w.heap.size + 1, 9, none⟩ = false := BoxF.fz hY2.out 9
      go_wp2
      refine bodyPost_ret (by simp [results, Tryz.results17, go_sem, z0, z1, z2, z3, z4, z5, z6, z7, z8, z9]; try rfl) rfl ?_
      exact hPO2.out _ _ (hB2.trans (by go_grown)) HE.out hP4.out rfl
    by_cases him : (m : Int) ≤ i
    · have hP4 : Hid (partP f ns = none) := hP3.out.trans (partP_far hi0 (by rw [em.out]; exact him))
      have z0 : w2.cell? ⟨w.heap.size + 1, 0, none⟩ = some (.int .i64 0) := by have h := hY2.out; unfold BoxF at h; rw [Lib.cell_of_heap h]; rfl
      have zf0 : w2.frozen? ⟨w.heap.size + 1, 0, none⟩ = false := BoxF.fz hY2.out 0
      have z1 : w2.cell? ⟨w.heap.size + 1, 1, none⟩ = some (.string ⟨#[]⟩) := by have h := hY2.out; unfold BoxF at h; rw [Lib.cell_of_heap h]; rfl
      have zf1 : w2.frozen? ⟨w.heap.size + 1, 1, none⟩ = false := BoxF.fz hY2.out 1
      have z2 : w2.cell? ⟨w.heap.size + 1, 2, none⟩ = some (.int .i64 0) := by have h := hY2.out; unfold BoxF at h; rw [Lib.cell_of_heap h]; rfl
      have zf2 : w2.frozen? ⟨w.heap.size + 1, 2, none⟩ = false := BoxF.fz hY2.out 2
      have z3 : w2.cell? ⟨w.heap.size + 1, 3, none⟩ = some (.slice none 0 0) := by have h := hY2.out; unfold BoxF at h; rw [Lib.cell_of_heap h]; rfl
      have zf3 : w2.frozen? ⟨w.heap.size + 1, 3, none⟩ = false := BoxF.fz hY2.out 3
      have z4 : w2.cell? ⟨w.heap.size + 1, 4, none⟩ = some (.slice none 0 0) := by have h := hY2.out; unfold BoxF at h; rw [Lib.cell_of_heap h]; rfl
      have zf4 : w2.frozen? ⟨w.heap.size + 1, 4, none⟩ = false := BoxF.fz hY2.out 4
      have z5 : w2.cell? ⟨w.heap.size + 1, 5, none⟩ = some (.int .i64 0) := by have h := hY2.out; unfold BoxF at h; rw [Lib.cell_of_heap h]; rfl
      have zf5 : w2.frozen? ⟨w.heap.size + 1, 5, none⟩ = false := BoxF.fz hY2.out 5
      have z6 : w2.cell? ⟨w.heap.size + 1, 6, none⟩ = some (.int .i64 0) := by have h := hY2.out; unfold BoxF at h; rw [Lib.cell_of_heap h]; rfl
      have zf6 : w2.frozen? ⟨w.heap.size + 1, 6, none⟩ = false := BoxF.fz hY2.out 6
      have z7 : w2.cell? ⟨w.heap.size + 1, 7, none⟩ = some (.bool false) := by have h := hY2.out; unfold BoxF at h; rw [Lib.cell_of_heap h]; rfl
      have zf7 : w2.frozen? ⟨w.heap.size + 1, 7, none⟩ = false := BoxF.fz hY2.out 7
      have z8 : w2.cell? ⟨w.heap.size + 1, 8, none⟩ = some (.slice none 0 0) := by have h := hY2.out; unfold BoxF at h; rw [Lib.cell_of_heap h]; rfl
      have zf8 : w2.frozen? ⟨w.heap.size + 1, 8, none⟩ = false := BoxF.fz hY2.out 8
      have z9 : w2.cell? ⟨w.heap.size + 1, 9, none⟩ = some (.slice none 0 0) := by have h := hY2.out; unfold BoxF at h; rw [Lib.cell_of_heap h]; rfl
      have zf9 : w2.frozen? ⟨w.heap.size + 1, 9, none⟩ = false := BoxF.fz hY2.out 9
      go_wp2
      refine bodyPost_ret (by simp [results, Tryz.results17, go_sem, z0, z1, z2, z3, z4, z5, z6, z7, z8, z9]; try rfl) rfl ?_
      exact hPO2.out _ _ (hB2.trans (by go_grown)) HE.out hP4.out rfl
    obtain ⟨j, rfl⟩ : ∃ j : Nat, i = j := ⟨i.toNat, by omega⟩
    have jx : j < (ptsF g).length := by have := em.out; omega
    have hjm : (j : Int) < m := by omega
    obtain ⟨b2, off2, ⟨uv2, ut2, us2, ur2⟩, rfl, hb2, FC, hq2⟩ := HL.out j jx
    obtain ⟨c0, c1, c2, c3, c4, c5, c6, c7, c8, c9⟩ := FC
    have hP5 : Hid (partP f ns = partP (ptsF g)[j] (ns.drop (k + 1))) := hP3.out.trans (partP_in jx)
    have hW5 : Hid (wfF (ptsF g)[j] ∧ nodF (ptsF g)[j] ≤ 256 ∧ lgF (ptsF g)[j]) := by
      obtain ⟨x1, x2, x3⟩ := hW.out
      have y := pts_nod g
      have z := nodFs_get (ptsF g) j jx
      exact ⟨wfFs_get _ j jx (pts_ok x1), by omega, lgFs_get _ j jx (pts_lg x3)⟩
    have HQ5 : Hid (QAt w ((ptsF g)[j], ⟨uv2, ut2, us2, ur2⟩)) := hq2
    obtain ⟨h1, h2, h3, h4⟩ := hq2
    dsimp only at h1 h2 h3 h4 c3 c4 c8 c9
    obtain ⟨-, pv2, cv2, rfl, -, -⟩ := h1
    obtain ⟨pt2, ct2, rfl, -⟩ := h2.form
    obtain ⟨ps2, cs2, rfl, -⟩ := h3.form
    obtain ⟨pr2, cr2, rfl, -⟩ := h4.form
    have hput2 : Hid (∀ W : World, W.heap[w.heap.size]? = wr.heap[w.heap.size]? → BoxF ((((((((((W.setCell ⟨w.heap.size, 0, none⟩ (Value.int .i64 (ptsF g)[j].k)).setCell ⟨w.heap.size, 1, none⟩ (Value.string (ptsF g)[j].nm)).setCell ⟨w.heap.size, 2, none⟩ (Value.int .i64 (ptsF g)[j].op)).setCell ⟨w.heap.size, 3, none⟩ (.slice pv2 (ptsF g)[j].vars.length cv2)).setCell ⟨w.heap.size, 4, none⟩ (.slice pt2 (ptsF g)[j].terms.length ct2)).setCell ⟨w.heap.size, 5, none⟩ (Value.int .i64 (ptsF g)[j].lo)).setCell ⟨w.heap.size, 6, none⟩ (Value.int .i64 (ptsF g)[j].hi)).setCell ⟨w.heap.size, 7, none⟩ (Value.bool (ptsF g)[j].opn)).setCell ⟨w.heap.size, 8, none⟩ (.slice ps2 (ptsF g)[j].subs.length cs2)).setCell ⟨w.heap.size, 9, none⟩ (.slice pr2 (ptsF g)[j].rgx.length cr2)) w.heap.size (ptsF g)[j] ⟨.slice pv2 (ptsF g)[j].vars.length cv2, .slice pt2 (ptsF g)[j].terms.length ct2, .slice ps2 (ptsF g)[j].subs.length cs2, .slice pr2 (ptsF g)[j].rgx.length cr2⟩) := fun W h => hput.out W (ptsF g)[j] ⟨.slice pv2 (ptsF g)[j].vars.length cv2, .slice pt2 (ptsF g)[j].terms.length ct2, .slice ps2 (ptsF g)[j].subs.length cs2, .slice pr2 (ptsF g)[j].rgx.length cr2⟩ h
    have d0 : w2.cell? ⟨w.heap.size, 0, none⟩ = some (.int .i64 k0) := by rw [Lib.cell_of_heap (hBX.out w2 hX2)]; rfl
    have d1 : w2.cell? ⟨w.heap.size, 1, none⟩ = some (.string nm) := by rw [Lib.cell_of_heap (hBX.out w2 hX2)]; rfl
    have d2 : w2.cell? ⟨w.heap.size, 2, none⟩ = some (.int .i64 op) := by rw [Lib.cell_of_heap (hBX.out w2 hX2)]; rfl
    have d3 : w2.cell? ⟨w.heap.size, 3, none⟩ = some (.slice pv nv cv) := by rw [Lib.cell_of_heap (hBX.out w2 hX2)]; rfl
    have d4 : w2.cell? ⟨w.heap.size, 4, none⟩ = some (.slice pt nt ct) := by rw [Lib.cell_of_heap (hBX.out w2 hX2)]; rfl
    have d5 : w2.cell? ⟨w.heap.size, 5, none⟩ = some (.int .i64 lo) := by rw [Lib.cell_of_heap (hBX.out w2 hX2)]; rfl
    have d6 : w2.cell? ⟨w.heap.size, 6, none⟩ = some (.int .i64 hi) := by rw [Lib.cell_of_heap (hBX.out w2 hX2)]; rfl
    have d7 : w2.cell? ⟨w.heap.size, 7, none⟩ = some (.bool o) := by rw [Lib.cell_of_heap (hBX.out w2 hX2)]; rfl
    have d8 : w2.cell? ⟨w.heap.size, 8, none⟩ = some (.slice ps ns0 cs) := by rw [Lib.cell_of_heap (hBX.out w2 hX2)]; rfl
    have d9 : w2.cell? ⟨w.heap.size, 9, none⟩ = some (.slice pr nr cr) := by rw [Lib.cell_of_heap (hBX.out w2 hX2)]; rfl
    clear h2 h3 h4 hput HL hBX hPO4 hP3 hW hq hX
    have ef0 : w2.frozen? ⟨w.heap.size, 0, none⟩ = false := hfz.out 0
    have ef1 : w2.frozen? ⟨w.heap.size, 1, none⟩ = false := hfz.out 1
    have ef2 : w2.frozen? ⟨w.heap.size, 2, none⟩ = false := hfz.out 2
    have ef3 : w2.frozen? ⟨w.heap.size, 3, none⟩ = false := hfz.out 3
    have ef4 : w2.frozen? ⟨w.heap.size, 4, none⟩ = false := hfz.out 4
    have ef5 : w2.frozen? ⟨w.heap.size, 5, none⟩ = false := hfz.out 5
    have ef6 : w2.frozen? ⟨w.heap.size, 6, none⟩ = false := hfz.out 6
    have ef7 : w2.frozen? ⟨w.heap.size, 7, none⟩ = false := hfz.out 7
    have ef8 : w2.frozen? ⟨w.heap.size, 8, none⟩ = false := hfz.out 8
    have ef9 : w2.frozen? ⟨w.heap.size, 9, none⟩ = false := hfz.out 9
    have hY5 : Hid (∀ W : World, W.heap[w.heap.size + 1]? = w2.heap[w.heap.size + 1]? → BoxF W (w.heap.size + 1) fm0 fq0) := fun W h => hY2.out.at h
    go_wp2
    refine ⟨⟨k + 1, (ptsF g)[j], ⟨.slice pv2 (ptsF g)[j].vars.length cv2, .slice pt2 (ptsF g)[j].terms.length ct2, .slice ps2 (ptsF g)[j].subs.length cs2, .slice pr2 (ptsF g)[j].rgx.length cr2⟩, by omega, by go_num, hP5, hW5, HQ5, hput2.out w2 hX2, hY5.out _ ?_, hB2.trans (by go_grown)⟩, by simp [intOf]; omega⟩
    (repeat rw [set_block (by omega)])

end Go.Proofs.YtfajjphfjilpnaaGreat
