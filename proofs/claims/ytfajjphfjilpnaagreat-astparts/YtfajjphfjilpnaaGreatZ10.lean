/- The law's spoil, at any formula of one's own. -/
import Derived.Test.YtfajjphfjilpnaaGreatZ08
import Derived.Test.YtfajjphfjilpnaaGreatZ09
import Derived.Test.YtfajjphfjilpnaaGreatZ07
import Derived.Test.YtfajjphfjilpnaaGreatZ05
import Derived.Test.YtfajjphfjilpnaaGreatZ06

namespace Go.Proofs.YtfajjphfjilpnaaGreat
open Go.RowKit LX Go.Shelf
set_option linter.unusedVariables false

set_option maxRecDepth 100000 in
set_option maxHeartbeats 8000000 in
theorem rregex_c3 (w0 : World) (q : Nat) (hq : w0.heap.size ≤ q) (r : Rx) (ut us : Value) (ht : FmsAt w0 ut r.test) (hs : RxsAt w0 us r.subs) (d : Int) (hd0 : 0 ≤ d) (hd1 : d ≤ 25)
    (IR : d ≤ 24 → ∀ (i : Nat) (hi : i < r.subs.length) (u1 u2 : Value), FmsAt w0 u1 r.subs[i].test → RxsAt w0 u2 r.subs[i].subs → Walks w0 q 59 (.agg #[.int .i64 r.subs[i].k, u1, u2]) (d + 1) (fun s => rrun (d + 1) s r.subs[i]))
    (IF : d ≤ 24 → ∀ (i : Nat) (hi : i < r.test.length) (y : FQ), QAt w0 (r.test[i], y) → Walks w0 q 30 (.agg #[.int .i64 r.test[i].k, .string r.test[i].nm, .int .i64 r.test[i].op, y.v, y.t, .int .i64 r.test[i].lo, .int .i64 r.test[i].hi, .bool r.test[i].opn, y.s, y.r]) (d + 1) (fun s => frun (d + 1) s r.test[i]))
    (hk : r.k = 3) (N M : Int) (w : World) (R : Int × (Int × Int)) (F : Int × Int → Int × (Int × Int)) (hw : Below w0.heap.size w0 w) (hK : WK w q N M 0) (ho : OkS (N, M)) (hR : R = andT (rrun d (N, M) r) F) :
    Calls Tryz.prog 59 #[.pointer (some ⟨q, 0, none⟩), .agg #[.int .i64 r.k, ut, us], .int .i64 d] w fun e w' => (∃ v, e = .returned v) ∧ Hid (KeepT q w w' ∧ WS w' q R F) := by
  obtain ⟨pt, ct, rfl, hlt0, hct, HXF0⟩ := ht.form
  have HXF : Hid (∀ i (hi : i < r.test.length), ∃ b off uv ut us ur, pt = some ⟨b, off, none⟩ ∧ b < w0.heap.size ∧ FmC w0 b (off + i * 10) r.test[i] uv ut us ur ∧ NmsAt w0 uv r.test[i].vars ∧ TmsAt w0 ut r.test[i].terms ∧ FmsAt w0 us r.test[i].subs ∧ RxsAt w0 ur r.test[i].rgx) := HXF0
  obtain ⟨ps, cs, rfl, hls, hcs, HXR0⟩ := hs.form
  have HXR : Hid (∀ i (hi : i < r.subs.length), ∃ b off ut us, ps = some ⟨b, off, none⟩ ∧ b < w0.heap.size ∧ RxC w0 b (off + i * 3) r.subs[i] ut us ∧ FmsAt w0 ut r.subs[i].test ∧ RxsAt w0 us r.subs[i].subs) := HXR0
  have HW : Hid (WK w q N M 0) := hK
  have HO : Hid (OkS (N, M)) := ho
  have hqw : q < w.heap.size := hK.lt
  have HR0 : Hid (R = andT (meetE d (N, M), meetS d (N, M)) fun s1 => andT (rxE r, s1) fun s1 => andT (fruns (d + 1) s1 r.test) fun s2 => andT (rruns (d + 1) s2 r.subs) F) := by
    have h := hR
    rw [rrun_eq] at h
    simp only [andT_assoc] at h
    exact h
  have HE : Hid (ndE d N = meetE d (N, M)) := nd_meet (s := (N, M)) HO.out
  have CR0 : Hid (_) := IR
  have CF0 : Hid (_) := IF
  clear IR IF ht hs HXF0 HXR0 hK ho hR
  obtain ⟨FE, hFE⟩ : ∃ FE, Hid (rxE r = FE) := ⟨_, rfl⟩
  have HD : Hid ((if r.k < 1 ∨ 5 < r.k then 20 else if r.test.length ≠ (if r.k = 2 then 1 else 0) ∨ r.subs.length ≠ (if r.k = 3 ∨ r.k = 4 then 2 else if r.k = 5 then 1 else 0) then 1 else 0) = FE) := hFE.out
  rw [hFE.out] at HR0
  clear hFE
  obtain ⟨nt, ent⟩ : ∃ n : Nat, Hid (r.test.length = n) := ⟨_, rfl⟩
  obtain ⟨ns, ens⟩ : ∃ n : Nat, Hid (r.subs.length = n) := ⟨_, rfl⟩
  rw [ent.out] at hlt0 hct HD ⊢
  rw [ens.out] at hls hcs HD ⊢
  generalize r.k = tk at *
  subst hk
  have hne : w.heap.size ≠ q := by omega
  go_enter Tryz.func59, Tryz.ntmps59
  go_wp2_with fail
  refine (rnode_any q N M d _ (HW.out.alloc _) ⟨HO.out.1, by have := HO.out.2.1; simp at this; omega⟩).mono ?_
  rintro r9 w1 ⟨rfl, h1⟩
  have hK1 : KeepT q w w1 := (KeepT.of ((Below.refl _ _).alloc (Nat.le_refl _) _)).trans h1.out.2.keep
  have W1 : Hid (WK w1 q (N + 1) (if M < d then d else M) (ndE d N)) := h1.out.1
  have B1 : Hid (w1.heap[w.heap.size]? = some (.cells #[.int .i64 3, .slice pt nt ct, .slice ps ns cs] 76 (0, 0))) := (h1.out.2.block w.heap.size (by simp) hne).trans (heap_allocA w _)
  clear h1
  by_cases hE : ndE d N = 0
  case neg =>
    have hE' : (ndE d N == 0) = false := by simpa using hE
    rw [hE']
    go_wp2
    refine bodyPost_ret (results_none rfl _ _ _) rfl ?_
    refine ⟨⟨_, rfl⟩, hK1, _, _, _, W1.out, fun e => absurd e hE, fun _ => ?_⟩
    have h := HR0.out
    rw [← HE.out] at h
    rw [h, andT_ne hE]
  have hE' : (ndE d N == 0) = true := by simpa using hE
  rw [hE']
  obtain ⟨N1, hN1⟩ : ∃ N1, Hid (N + 1 = N1) := ⟨_, rfl⟩
  obtain ⟨M1, hM1⟩ : ∃ M1, Hid ((if M < d then d else M) = M1) := ⟨_, rfl⟩
  have W1' : Hid (WK w1 q N1 M1 0) := by have h := W1.out; rw [hE, hN1.out, hM1.out] at h; exact h
  clear W1
  have hmS : Hid (meetS d (N, M) = (N1, M1)) := by
    have e : meetE d (N, M) = 0 := by rw [← HE.out]; exact hE
    unfold meetS
    rw [if_pos e, ← hN1.out, ← hM1.out, Int.max_def]
    show (N + 1, if M ≤ d then d else M) = (N + 1, if M < d then d else M)
    congr 1
    by_cases h : M < d
    · rw [if_pos h, if_pos (by omega)]
    · rw [if_neg h]; split <;> omega
  have HR1 : Hid (R = andT (FE, (N1, M1)) fun s1 => andT (fruns (d + 1) s1 r.test) fun s2 => andT (rruns (d + 1) s2 r.subs) F) := by
    have h := HR0.out
    rw [← HE.out, hE, andT_eq, hmS.out] at h
    exact h
  have hd24 : d ≤ 24 := meetE_le (s := (N, M)) (by rw [← HE.out]; exact hE)
  have HOk : Hid (OkS (N1, M1)) := by rw [← hmS.out]; exact meetS_ok HO.out hd0
  have CR := CR0.out hd24
  have CF := CF0.out hd24
  have CR : Hid (_) := CR
  have CF : Hid (_) := CF
  clear HR0 HE hE hE' hN1 hM1 hmS CR0 CF0
  have HNo : Hid (¬ FE = 0 → ∀ W : World, WK W q N1 M1 FE → WS W q R F) := by
    intro h W hW
    have hr := HR1.out
    rw [andT_ne h] at hr
    exact ⟨_, _, _, hW, fun e => absurd e h, fun _ => by rw [hr]⟩
  have e0 : w1.cell? ⟨w.heap.size, 0, none⟩ = some (.int .i64 3) := by rw [Lib.cell_of_heap B1.out]; rfl
  go_wp2_with fail
  refine (rwrong_any q N1 M1 0 20 _ w1 W1'.out).mono ?_
  rintro r9 w2 ⟨⟨v2, rfl⟩, h2⟩
  have W2 : Hid (WK w2 q N1 M1 0) := by have a := h2.out.1; first | exact a | (simp [wrE, hk] at a; exact a)
  have B2 : Hid (_) := h2.out.2.heap B1.out hne
  have hK2 : KeepT q w w2 := hK1.trans h2.out.2.keep
  clear h2 e0 B1 hK1 W1'
  have e0 : w2.cell? ⟨w.heap.size, 0, none⟩ = some (.int .i64 3) := by rw [Lib.cell_of_heap B2.out]; rfl
  have e1 : w2.cell? ⟨w.heap.size, 1, none⟩ = some (.slice pt nt ct) := by rw [Lib.cell_of_heap B2.out]; rfl
  have e2 : w2.cell? ⟨w.heap.size, 2, none⟩ = some (.slice ps ns cs) := by rw [Lib.cell_of_heap B2.out]; rfl
  by_cases hT : nt = 0
  case neg =>
    have t1 : ((nt : Int) == 0) = false := by simp; omega
    have t2 : ((nt : Int) != 0) = true := by simp; omega
    go_wp2_with fail
    refine (rwrong_any q N1 M1 _ 1 _ _ W2.out).mono ?_
    rintro r9 w9 ⟨⟨v9, rfl⟩, h9⟩
    have W9 : Hid (WK w9 q N1 M1 FE) := by have a := h9.out.1; have b := HD.out; simp [wrE, hT] at a b; first | (subst b; exact a) | (rw [← b]; exact a)
    have B9 : Hid (_) := h9.out.2.heap B2.out hne
    have hK9 : KeepT q w w9 := hK2.trans h9.out.2.keep
    have y2 : w9.cell? ⟨q, 2, none⟩ = some (.int .i64 FE) := W9.out.e
    clear h9 e0 e1 e2
    have tn : ¬ FE = 0 := by have b := HD.out; simp [hT] at b; omega
    have tn' : (FE == 0) = false := by simpa using tn
    have tn'' : (FE != 0) = true := by simpa using tn
    go_wp2
    refine bodyPost_ret (results_none rfl _ _ _) rfl ?_
    exact ⟨⟨_, rfl⟩, hK9, HNo.out tn _ W9.out⟩
  have t1 : ((nt : Int) == 0) = true := by simp; omega
  have t2 : ((nt : Int) != 0) = false := by simp; omega
  by_cases hS : ns = 2
  case neg =>
    have s1 : ((ns : Int) == 2) = false := by simp; omega
    have s2 : ((ns : Int) != 2) = true := by simp; omega
    go_wp2_with fail
    refine (rwrong_any q N1 M1 _ 1 _ _ W2.out).mono ?_
    rintro r9 w9 ⟨⟨v9, rfl⟩, h9⟩
    have W9 : Hid (WK w9 q N1 M1 FE) := by have a := h9.out.1; have b := HD.out; simp [wrE, hT, hS] at a b; first | (subst b; exact a) | (rw [← b]; exact a)
    have B9 : Hid (_) := h9.out.2.heap B2.out hne
    have hK9 : KeepT q w w9 := hK2.trans h9.out.2.keep
    have y2 : w9.cell? ⟨q, 2, none⟩ = some (.int .i64 FE) := W9.out.e
    clear h9 e0 e1 e2
    have tn : ¬ FE = 0 := by have b := HD.out; simp [hT, hS] at b; omega
    have tn' : (FE == 0) = false := by simpa using tn
    have tn'' : (FE != 0) = true := by simpa using tn
    go_wp2
    refine bodyPost_ret (results_none rfl _ _ _) rfl ?_
    exact ⟨⟨_, rfl⟩, hK9, HNo.out tn _ W9.out⟩
  have s1 : ((ns : Int) == 2) = true := by simp; omega
  have s2 : ((ns : Int) != 2) = false := by simp; omega
  go_wp2_with fail
  refine (rwrong_any q N1 M1 _ 1 _ _ W2.out).mono ?_
  rintro r9 w9 ⟨⟨v9, rfl⟩, h9⟩
  have W9 : Hid (WK w9 q N1 M1 FE) := by have a := h9.out.1; have b := HD.out; simp [wrE, hT, hS] at a b; first | (subst b; exact a) | (rw [← b]; exact a)
  have B9 : Hid (_) := h9.out.2.heap B2.out hne
  have hK9 : KeepT q w w9 := hK2.trans h9.out.2.keep
  have y2 : w9.cell? ⟨q, 2, none⟩ = some (.int .i64 FE) := W9.out.e
  clear h9 e0 e1 e2
  clear t1 t2 s1 s2
  have hz : FE = 0 := by have b := HD.out; simp [hT, hS] at b; omega
  subst hz
  have S9 : Hid (WS w9 q R (fun s1 => andT (fruns (d + 1) s1 r.test) fun s2 => andT (rruns (d + 1) s2 r.subs) F)) := WS.of W9.out HOk.out (by have h := HR1.out; rw [andT_eq] at h; exact h)
  clear HD HR1 HNo hT hS
  go_wp2
  go_loopw [9] (fun v wr => ∃ k : Nat, k ≤ nt ∧ v = .int .i64 k ∧ KeepT q w9 wr ∧ Hid (WS wr q R (fun s => andT (fruns (d + 1) s (r.test.drop k)) (fun s2 => andT (rruns (d + 1) s2 r.subs) F)))) (fun v _ => nt - (intOf v).toNat)
  case atStart => exact ⟨0, Nat.zero_le _, rfl, KeepT.refl _ _, by rw [List.drop_zero]; exact S9⟩
  case round =>
    obtain ⟨k, hk, rfl, hKr, hSr⟩ := hrel
    have Br : Hid (_) := (hKr.block w.heap.size (lt_heap B9.out) hne).trans B9.out
    have r6 : wr.cell? ⟨w.heap.size, 1, none⟩ = some (.slice pt nt ct) := by rw [Lib.cell_of_heap Br.out]; rfl
    by_cases hlt : k < nt
    case neg =>
      have c2 : ¬ (k : Int) < nt := by omega
      obtain ⟨w10, ew⟩ : ∃ W : World, W = wr := ⟨_, rfl⟩
      subst ew
      have S10 : Hid (WS w10 q R (fun s2 => andT (rruns (d + 1) s2 r.subs) F)) := hSr.out.cast (fun s => by rw [List.drop_eq_nil_of_le (by have := ent.out; omega), fruns_nil]; exact andT_eq)
      have hK10 : KeepT q w w10 := hK9.trans hKr
      have B10 : Hid (_) := Br.out
      clear hSr hKr Br
      go_wp2
      clear r6 c2 hk hlt
      go_loopw [10] (fun v wr => ∃ k : Nat, k ≤ ns ∧ v = .int .i64 k ∧ KeepT q w10 wr ∧ Hid (WS wr q R (fun s => andT (rruns (d + 1) s (r.subs.drop k)) F))) (fun v _ => ns - (intOf v).toNat)
      case atStart => exact ⟨0, Nat.zero_le _, rfl, KeepT.refl _ _, by rw [List.drop_zero]; exact S10⟩
      case round =>
        obtain ⟨k, hk, rfl, hKr, hSr⟩ := hrel
        have Br : Hid (_) := (hKr.block w.heap.size (lt_heap B10.out) hne).trans B10.out
        have r6 : wr.cell? ⟨w.heap.size, 2, none⟩ = some (.slice ps ns cs) := by rw [Lib.cell_of_heap Br.out]; rfl
        by_cases hlt : k < ns
        case neg =>
          have c2 : ¬ (k : Int) < ns := by omega
          have S11 : Hid (WS wr q R F) := hSr.out.cast (fun s => by rw [List.drop_eq_nil_of_le (by have := ens.out; omega), rruns_nil]; exact andT_eq)
          have hK11 : KeepT q w wr := hK10.trans hKr
          go_wp2
          go_end0
          exact ⟨⟨_, rfl⟩, hK11, S11.out⟩
        have hlt' : (k : Int) < ns := by omega
        have kx : k < r.subs.length := by have := ens.out; omega
        obtain ⟨b, off, u1, u2, rfl, hb, TC, N1t, N2t⟩ := HXR.out k kx
        have hBr : Below w0.heap.size w0 wr := hw.trans ((hK10.trans hKr).below (B := w0.heap.size) hq (Nat.le_of_lt hqw))
        obtain ⟨a0, a1, a2⟩ := TC.below hBr hb
        have wk := CR.out k kx u1 u2 N1t N2t
        have cW := wk wr R (fun s1 => andT (rruns (d + 1) s1 (r.subs.drop (k + 1))) F) hBr (hSr.out.cast (fun s => by rw [List.drop_eq_getElem_cons kx, rruns_and]))
        have HcW : Hid (Calls Tryz.prog 59 #[.pointer (some ⟨q, 0, none⟩), .agg #[.int .i64 r.subs[k].k, u1, u2], .int .i64 (d + 1)] wr fun e9 w' => (∃ v, e9 = .returned v) ∧ Hid (KeepT q wr w' ∧ WS w' q R (fun s1 => andT (rruns (d + 1) s1 (r.subs.drop (k + 1))) F))) := cW
        obtain ⟨p1, c1, rfl, -⟩ := N1t.form
        obtain ⟨p2, c2, rfl, -⟩ := N2t.form
        clear TC hSr wk cW N1t N2t
        generalize r.subs[k].k = X0 at *
        generalize r.subs[k].test.length = L1 at *
        generalize r.subs[k].subs.length = L2 at *
        have nw : IntKind.i64.wrap (d + 1) = d + 1 := by rw [IntKind.wrap_i64]; omega
        have nw2 : wrap64 (d + 1) = d + 1 := by unfold wrap64; omega
        go_wp2_with fail
        refine HcW.out.mono ?_
        rintro r w6 ⟨⟨v6, rfl⟩, h6⟩
        have hK6 : KeepT q w10 w6 := hKr.trans h6.out.1
        have HS6 : Hid (_) := h6.out.2
        clear h6 HcW
        go_wp2
        exact ⟨⟨k + 1, by omega, by go_num, hK6, HS6.out⟩, by simp [intOf]; omega⟩
    have hlt' : (k : Int) < nt := by omega
    have kx : k < r.test.length := by have := ent.out; omega
    obtain ⟨b, off, u1, u2, u3, u4, rfl, hb, TC, N1t, N2t, N3t, N4t⟩ := HXF.out k kx
    have hBr : Below w0.heap.size w0 wr := hw.trans ((hK9.trans hKr).below (B := w0.heap.size) hq (Nat.le_of_lt hqw))
    obtain ⟨a0, a1, a2, a3, a4, a5, a6, a7, a8, a9⟩ := TC.below hBr hb
    have wk := CF.out k kx ⟨u1, u2, u3, u4⟩ ⟨N1t, N2t, N3t, N4t⟩
    have cW := wk wr R (fun s1 => andT (fruns (d + 1) s1 (r.test.drop (k + 1))) (fun s2 => andT (rruns (d + 1) s2 r.subs) F)) hBr (hSr.out.cast (fun s => by rw [List.drop_eq_getElem_cons kx, fruns_and]))
    have HcW : Hid (Calls Tryz.prog 30 #[.pointer (some ⟨q, 0, none⟩), .agg #[.int .i64 r.test[k].k, .string r.test[k].nm, .int .i64 r.test[k].op, u1, u2, .int .i64 r.test[k].lo, .int .i64 r.test[k].hi, .bool r.test[k].opn, u3, u4], .int .i64 (d + 1)] wr fun e9 w' => (∃ v, e9 = .returned v) ∧ Hid (KeepT q wr w' ∧ WS w' q R (fun s1 => andT (fruns (d + 1) s1 (r.test.drop (k + 1))) (fun s2 => andT (rruns (d + 1) s2 r.subs) F)))) := cW
    obtain ⟨-, p1, c1, rfl, -⟩ := N1t
    obtain ⟨p2, c2, rfl, -⟩ := N2t.form
    obtain ⟨p3, c3, rfl, -⟩ := N3t.form
    obtain ⟨p4, c4, rfl, -⟩ := N4t.form
    clear TC hSr wk cW N2t N3t N4t
    generalize r.test[k].k = X0 at *
    generalize r.test[k].nm = X1 at *
    generalize r.test[k].op = X2 at *
    generalize r.test[k].lo = X3 at *
    generalize r.test[k].hi = X4 at *
    generalize r.test[k].opn = X5 at *
    generalize r.test[k].vars.length = L1 at *
    generalize r.test[k].terms.length = L2 at *
    generalize r.test[k].subs.length = L3 at *
    generalize r.test[k].rgx.length = L4 at *
    have nw : IntKind.i64.wrap (d + 1) = d + 1 := by rw [IntKind.wrap_i64]; omega
    have nw2 : wrap64 (d + 1) = d + 1 := by unfold wrap64; omega
    go_wp2_with fail
    refine HcW.out.mono ?_
    rintro r w6 ⟨⟨v6, rfl⟩, h6⟩
    have hK6 : KeepT q w9 w6 := hKr.trans h6.out.1
    have HS6 : Hid (_) := h6.out.2
    clear h6 HcW
    go_wp2
    exact ⟨⟨k + 1, by omega, by go_num, hK6, HS6.out⟩, by simp [intOf]; omega⟩
end Go.Proofs.YtfajjphfjilpnaaGreat

namespace Go.Proofs.YtfajjphfjilpnaaGreat
open Go.RowKit LX Go.Shelf
set_option linter.unusedVariables false

set_option maxRecDepth 100000 in
set_option maxHeartbeats 8000000 in
theorem rregex_c4 (w0 : World) (q : Nat) (hq : w0.heap.size ≤ q) (r : Rx) (ut us : Value) (ht : FmsAt w0 ut r.test) (hs : RxsAt w0 us r.subs) (d : Int) (hd0 : 0 ≤ d) (hd1 : d ≤ 25)
    (IR : d ≤ 24 → ∀ (i : Nat) (hi : i < r.subs.length) (u1 u2 : Value), FmsAt w0 u1 r.subs[i].test → RxsAt w0 u2 r.subs[i].subs → Walks w0 q 59 (.agg #[.int .i64 r.subs[i].k, u1, u2]) (d + 1) (fun s => rrun (d + 1) s r.subs[i]))
    (IF : d ≤ 24 → ∀ (i : Nat) (hi : i < r.test.length) (y : FQ), QAt w0 (r.test[i], y) → Walks w0 q 30 (.agg #[.int .i64 r.test[i].k, .string r.test[i].nm, .int .i64 r.test[i].op, y.v, y.t, .int .i64 r.test[i].lo, .int .i64 r.test[i].hi, .bool r.test[i].opn, y.s, y.r]) (d + 1) (fun s => frun (d + 1) s r.test[i]))
    (hk : r.k = 4) (N M : Int) (w : World) (R : Int × (Int × Int)) (F : Int × Int → Int × (Int × Int)) (hw : Below w0.heap.size w0 w) (hK : WK w q N M 0) (ho : OkS (N, M)) (hR : R = andT (rrun d (N, M) r) F) :
    Calls Tryz.prog 59 #[.pointer (some ⟨q, 0, none⟩), .agg #[.int .i64 r.k, ut, us], .int .i64 d] w fun e w' => (∃ v, e = .returned v) ∧ Hid (KeepT q w w' ∧ WS w' q R F) := by
  obtain ⟨pt, ct, rfl, hlt0, hct, HXF0⟩ := ht.form
  have HXF : Hid (∀ i (hi : i < r.test.length), ∃ b off uv ut us ur, pt = some ⟨b, off, none⟩ ∧ b < w0.heap.size ∧ FmC w0 b (off + i * 10) r.test[i] uv ut us ur ∧ NmsAt w0 uv r.test[i].vars ∧ TmsAt w0 ut r.test[i].terms ∧ FmsAt w0 us r.test[i].subs ∧ RxsAt w0 ur r.test[i].rgx) := HXF0
  obtain ⟨ps, cs, rfl, hls, hcs, HXR0⟩ := hs.form
  have HXR : Hid (∀ i (hi : i < r.subs.length), ∃ b off ut us, ps = some ⟨b, off, none⟩ ∧ b < w0.heap.size ∧ RxC w0 b (off + i * 3) r.subs[i] ut us ∧ FmsAt w0 ut r.subs[i].test ∧ RxsAt w0 us r.subs[i].subs) := HXR0
  have HW : Hid (WK w q N M 0) := hK
  have HO : Hid (OkS (N, M)) := ho
  have hqw : q < w.heap.size := hK.lt
  have HR0 : Hid (R = andT (meetE d (N, M), meetS d (N, M)) fun s1 => andT (rxE r, s1) fun s1 => andT (fruns (d + 1) s1 r.test) fun s2 => andT (rruns (d + 1) s2 r.subs) F) := by
    have h := hR
    rw [rrun_eq] at h
    simp only [andT_assoc] at h
    exact h
  have HE : Hid (ndE d N = meetE d (N, M)) := nd_meet (s := (N, M)) HO.out
  have CR0 : Hid (_) := IR
  have CF0 : Hid (_) := IF
  clear IR IF ht hs HXF0 HXR0 hK ho hR
  obtain ⟨FE, hFE⟩ : ∃ FE, Hid (rxE r = FE) := ⟨_, rfl⟩
  have HD : Hid ((if r.k < 1 ∨ 5 < r.k then 20 else if r.test.length ≠ (if r.k = 2 then 1 else 0) ∨ r.subs.length ≠ (if r.k = 3 ∨ r.k = 4 then 2 else if r.k = 5 then 1 else 0) then 1 else 0) = FE) := hFE.out
  rw [hFE.out] at HR0
  clear hFE
  obtain ⟨nt, ent⟩ : ∃ n : Nat, Hid (r.test.length = n) := ⟨_, rfl⟩
  obtain ⟨ns, ens⟩ : ∃ n : Nat, Hid (r.subs.length = n) := ⟨_, rfl⟩
  rw [ent.out] at hlt0 hct HD ⊢
  rw [ens.out] at hls hcs HD ⊢
  generalize r.k = tk at *
  subst hk
  have hne : w.heap.size ≠ q := by omega
  go_enter Tryz.func59, Tryz.ntmps59
  go_wp2_with fail
  refine (rnode_any q N M d _ (HW.out.alloc _) ⟨HO.out.1, by have := HO.out.2.1; simp at this; omega⟩).mono ?_
  rintro r9 w1 ⟨rfl, h1⟩
  have hK1 : KeepT q w w1 := (KeepT.of ((Below.refl _ _).alloc (Nat.le_refl _) _)).trans h1.out.2.keep
  have W1 : Hid (WK w1 q (N + 1) (if M < d then d else M) (ndE d N)) := h1.out.1
  have B1 : Hid (w1.heap[w.heap.size]? = some (.cells #[.int .i64 4, .slice pt nt ct, .slice ps ns cs] 76 (0, 0))) := (h1.out.2.block w.heap.size (by simp) hne).trans (heap_allocA w _)
  clear h1
  by_cases hE : ndE d N = 0
  case neg =>
    have hE' : (ndE d N == 0) = false := by simpa using hE
    rw [hE']
    go_wp2
    refine bodyPost_ret (results_none rfl _ _ _) rfl ?_
    refine ⟨⟨_, rfl⟩, hK1, _, _, _, W1.out, fun e => absurd e hE, fun _ => ?_⟩
    have h := HR0.out
    rw [← HE.out] at h
    rw [h, andT_ne hE]
  have hE' : (ndE d N == 0) = true := by simpa using hE
  rw [hE']
  obtain ⟨N1, hN1⟩ : ∃ N1, Hid (N + 1 = N1) := ⟨_, rfl⟩
  obtain ⟨M1, hM1⟩ : ∃ M1, Hid ((if M < d then d else M) = M1) := ⟨_, rfl⟩
  have W1' : Hid (WK w1 q N1 M1 0) := by have h := W1.out; rw [hE, hN1.out, hM1.out] at h; exact h
  clear W1
  have hmS : Hid (meetS d (N, M) = (N1, M1)) := by
    have e : meetE d (N, M) = 0 := by rw [← HE.out]; exact hE
    unfold meetS
    rw [if_pos e, ← hN1.out, ← hM1.out, Int.max_def]
    show (N + 1, if M ≤ d then d else M) = (N + 1, if M < d then d else M)
    congr 1
    by_cases h : M < d
    · rw [if_pos h, if_pos (by omega)]
    · rw [if_neg h]; split <;> omega
  have HR1 : Hid (R = andT (FE, (N1, M1)) fun s1 => andT (fruns (d + 1) s1 r.test) fun s2 => andT (rruns (d + 1) s2 r.subs) F) := by
    have h := HR0.out
    rw [← HE.out, hE, andT_eq, hmS.out] at h
    exact h
  have hd24 : d ≤ 24 := meetE_le (s := (N, M)) (by rw [← HE.out]; exact hE)
  have HOk : Hid (OkS (N1, M1)) := by rw [← hmS.out]; exact meetS_ok HO.out hd0
  have CR := CR0.out hd24
  have CF := CF0.out hd24
  have CR : Hid (_) := CR
  have CF : Hid (_) := CF
  clear HR0 HE hE hE' hN1 hM1 hmS CR0 CF0
  have HNo : Hid (¬ FE = 0 → ∀ W : World, WK W q N1 M1 FE → WS W q R F) := by
    intro h W hW
    have hr := HR1.out
    rw [andT_ne h] at hr
    exact ⟨_, _, _, hW, fun e => absurd e h, fun _ => by rw [hr]⟩
  have e0 : w1.cell? ⟨w.heap.size, 0, none⟩ = some (.int .i64 4) := by rw [Lib.cell_of_heap B1.out]; rfl
  go_wp2_with fail
  refine (rwrong_any q N1 M1 0 20 _ w1 W1'.out).mono ?_
  rintro r9 w2 ⟨⟨v2, rfl⟩, h2⟩
  have W2 : Hid (WK w2 q N1 M1 0) := by have a := h2.out.1; first | exact a | (simp [wrE, hk] at a; exact a)
  have B2 : Hid (_) := h2.out.2.heap B1.out hne
  have hK2 : KeepT q w w2 := hK1.trans h2.out.2.keep
  clear h2 e0 B1 hK1 W1'
  have e0 : w2.cell? ⟨w.heap.size, 0, none⟩ = some (.int .i64 4) := by rw [Lib.cell_of_heap B2.out]; rfl
  have e1 : w2.cell? ⟨w.heap.size, 1, none⟩ = some (.slice pt nt ct) := by rw [Lib.cell_of_heap B2.out]; rfl
  have e2 : w2.cell? ⟨w.heap.size, 2, none⟩ = some (.slice ps ns cs) := by rw [Lib.cell_of_heap B2.out]; rfl
  by_cases hT : nt = 0
  case neg =>
    have t1 : ((nt : Int) == 0) = false := by simp; omega
    have t2 : ((nt : Int) != 0) = true := by simp; omega
    go_wp2_with fail
    refine (rwrong_any q N1 M1 _ 1 _ _ W2.out).mono ?_
    rintro r9 w9 ⟨⟨v9, rfl⟩, h9⟩
    have W9 : Hid (WK w9 q N1 M1 FE) := by have a := h9.out.1; have b := HD.out; simp [wrE, hT] at a b; first | (subst b; exact a) | (rw [← b]; exact a)
    have B9 : Hid (_) := h9.out.2.heap B2.out hne
    have hK9 : KeepT q w w9 := hK2.trans h9.out.2.keep
    have y2 : w9.cell? ⟨q, 2, none⟩ = some (.int .i64 FE) := W9.out.e
    clear h9 e0 e1 e2
    have tn : ¬ FE = 0 := by have b := HD.out; simp [hT] at b; omega
    have tn' : (FE == 0) = false := by simpa using tn
    have tn'' : (FE != 0) = true := by simpa using tn
    go_wp2
    refine bodyPost_ret (results_none rfl _ _ _) rfl ?_
    exact ⟨⟨_, rfl⟩, hK9, HNo.out tn _ W9.out⟩
  have t1 : ((nt : Int) == 0) = true := by simp; omega
  have t2 : ((nt : Int) != 0) = false := by simp; omega
  by_cases hS : ns = 2
  case neg =>
    have s1 : ((ns : Int) == 2) = false := by simp; omega
    have s2 : ((ns : Int) != 2) = true := by simp; omega
    go_wp2_with fail
    refine (rwrong_any q N1 M1 _ 1 _ _ W2.out).mono ?_
    rintro r9 w9 ⟨⟨v9, rfl⟩, h9⟩
    have W9 : Hid (WK w9 q N1 M1 FE) := by have a := h9.out.1; have b := HD.out; simp [wrE, hT, hS] at a b; first | (subst b; exact a) | (rw [← b]; exact a)
    have B9 : Hid (_) := h9.out.2.heap B2.out hne
    have hK9 : KeepT q w w9 := hK2.trans h9.out.2.keep
    have y2 : w9.cell? ⟨q, 2, none⟩ = some (.int .i64 FE) := W9.out.e
    clear h9 e0 e1 e2
    have tn : ¬ FE = 0 := by have b := HD.out; simp [hT, hS] at b; omega
    have tn' : (FE == 0) = false := by simpa using tn
    have tn'' : (FE != 0) = true := by simpa using tn
    go_wp2
    refine bodyPost_ret (results_none rfl _ _ _) rfl ?_
    exact ⟨⟨_, rfl⟩, hK9, HNo.out tn _ W9.out⟩
  have s1 : ((ns : Int) == 2) = true := by simp; omega
  have s2 : ((ns : Int) != 2) = false := by simp; omega
  go_wp2_with fail
  refine (rwrong_any q N1 M1 _ 1 _ _ W2.out).mono ?_
  rintro r9 w9 ⟨⟨v9, rfl⟩, h9⟩
  have W9 : Hid (WK w9 q N1 M1 FE) := by have a := h9.out.1; have b := HD.out; simp [wrE, hT, hS] at a b; first | (subst b; exact a) | (rw [← b]; exact a)
  have B9 : Hid (_) := h9.out.2.heap B2.out hne
  have hK9 : KeepT q w w9 := hK2.trans h9.out.2.keep
  have y2 : w9.cell? ⟨q, 2, none⟩ = some (.int .i64 FE) := W9.out.e
  clear h9 e0 e1 e2
  clear t1 t2 s1 s2
  have hz : FE = 0 := by have b := HD.out; simp [hT, hS] at b; omega
  subst hz
  have S9 : Hid (WS w9 q R (fun s1 => andT (fruns (d + 1) s1 r.test) fun s2 => andT (rruns (d + 1) s2 r.subs) F)) := WS.of W9.out HOk.out (by have h := HR1.out; rw [andT_eq] at h; exact h)
  clear HD HR1 HNo hT hS
  go_wp2
  go_loopw [9] (fun v wr => ∃ k : Nat, k ≤ nt ∧ v = .int .i64 k ∧ KeepT q w9 wr ∧ Hid (WS wr q R (fun s => andT (fruns (d + 1) s (r.test.drop k)) (fun s2 => andT (rruns (d + 1) s2 r.subs) F)))) (fun v _ => nt - (intOf v).toNat)
  case atStart => exact ⟨0, Nat.zero_le _, rfl, KeepT.refl _ _, by rw [List.drop_zero]; exact S9⟩
  case round =>
    obtain ⟨k, hk, rfl, hKr, hSr⟩ := hrel
    have Br : Hid (_) := (hKr.block w.heap.size (lt_heap B9.out) hne).trans B9.out
    have r6 : wr.cell? ⟨w.heap.size, 1, none⟩ = some (.slice pt nt ct) := by rw [Lib.cell_of_heap Br.out]; rfl
    by_cases hlt : k < nt
    case neg =>
      have c2 : ¬ (k : Int) < nt := by omega
      obtain ⟨w10, ew⟩ : ∃ W : World, W = wr := ⟨_, rfl⟩
      subst ew
      have S10 : Hid (WS w10 q R (fun s2 => andT (rruns (d + 1) s2 r.subs) F)) := hSr.out.cast (fun s => by rw [List.drop_eq_nil_of_le (by have := ent.out; omega), fruns_nil]; exact andT_eq)
      have hK10 : KeepT q w w10 := hK9.trans hKr
      have B10 : Hid (_) := Br.out
      clear hSr hKr Br
      go_wp2
      clear r6 c2 hk hlt
      go_loopw [10] (fun v wr => ∃ k : Nat, k ≤ ns ∧ v = .int .i64 k ∧ KeepT q w10 wr ∧ Hid (WS wr q R (fun s => andT (rruns (d + 1) s (r.subs.drop k)) F))) (fun v _ => ns - (intOf v).toNat)
      case atStart => exact ⟨0, Nat.zero_le _, rfl, KeepT.refl _ _, by rw [List.drop_zero]; exact S10⟩
      case round =>
        obtain ⟨k, hk, rfl, hKr, hSr⟩ := hrel
        have Br : Hid (_) := (hKr.block w.heap.size (lt_heap B10.out) hne).trans B10.out
        have r6 : wr.cell? ⟨w.heap.size, 2, none⟩ = some (.slice ps ns cs) := by rw [Lib.cell_of_heap Br.out]; rfl
        by_cases hlt : k < ns
        case neg =>
          have c2 : ¬ (k : Int) < ns := by omega
          have S11 : Hid (WS wr q R F) := hSr.out.cast (fun s => by rw [List.drop_eq_nil_of_le (by have := ens.out; omega), rruns_nil]; exact andT_eq)
          have hK11 : KeepT q w wr := hK10.trans hKr
          go_wp2
          go_end0
          exact ⟨⟨_, rfl⟩, hK11, S11.out⟩
        have hlt' : (k : Int) < ns := by omega
        have kx : k < r.subs.length := by have := ens.out; omega
        obtain ⟨b, off, u1, u2, rfl, hb, TC, N1t, N2t⟩ := HXR.out k kx
        have hBr : Below w0.heap.size w0 wr := hw.trans ((hK10.trans hKr).below (B := w0.heap.size) hq (Nat.le_of_lt hqw))
        obtain ⟨a0, a1, a2⟩ := TC.below hBr hb
        have wk := CR.out k kx u1 u2 N1t N2t
        have cW := wk wr R (fun s1 => andT (rruns (d + 1) s1 (r.subs.drop (k + 1))) F) hBr (hSr.out.cast (fun s => by rw [List.drop_eq_getElem_cons kx, rruns_and]))
        have HcW : Hid (Calls Tryz.prog 59 #[.pointer (some ⟨q, 0, none⟩), .agg #[.int .i64 r.subs[k].k, u1, u2], .int .i64 (d + 1)] wr fun e9 w' => (∃ v, e9 = .returned v) ∧ Hid (KeepT q wr w' ∧ WS w' q R (fun s1 => andT (rruns (d + 1) s1 (r.subs.drop (k + 1))) F))) := cW
        obtain ⟨p1, c1, rfl, -⟩ := N1t.form
        obtain ⟨p2, c2, rfl, -⟩ := N2t.form
        clear TC hSr wk cW N1t N2t
        generalize r.subs[k].k = X0 at *
        generalize r.subs[k].test.length = L1 at *
        generalize r.subs[k].subs.length = L2 at *
        have nw : IntKind.i64.wrap (d + 1) = d + 1 := by rw [IntKind.wrap_i64]; omega
        have nw2 : wrap64 (d + 1) = d + 1 := by unfold wrap64; omega
        go_wp2_with fail
        refine HcW.out.mono ?_
        rintro r w6 ⟨⟨v6, rfl⟩, h6⟩
        have hK6 : KeepT q w10 w6 := hKr.trans h6.out.1
        have HS6 : Hid (_) := h6.out.2
        clear h6 HcW
        go_wp2
        exact ⟨⟨k + 1, by omega, by go_num, hK6, HS6.out⟩, by simp [intOf]; omega⟩
    have hlt' : (k : Int) < nt := by omega
    have kx : k < r.test.length := by have := ent.out; omega
    obtain ⟨b, off, u1, u2, u3, u4, rfl, hb, TC, N1t, N2t, N3t, N4t⟩ := HXF.out k kx
    have hBr : Below w0.heap.size w0 wr := hw.trans ((hK9.trans hKr).below (B := w0.heap.size) hq (Nat.le_of_lt hqw))
    obtain ⟨a0, a1, a2, a3, a4, a5, a6, a7, a8, a9⟩ := TC.below hBr hb
    have wk := CF.out k kx ⟨u1, u2, u3, u4⟩ ⟨N1t, N2t, N3t, N4t⟩
    have cW := wk wr R (fun s1 => andT (fruns (d + 1) s1 (r.test.drop (k + 1))) (fun s2 => andT (rruns (d + 1) s2 r.subs) F)) hBr (hSr.out.cast (fun s => by rw [List.drop_eq_getElem_cons kx, fruns_and]))
    have HcW : Hid (Calls Tryz.prog 30 #[.pointer (some ⟨q, 0, none⟩), .agg #[.int .i64 r.test[k].k, .string r.test[k].nm, .int .i64 r.test[k].op, u1, u2, .int .i64 r.test[k].lo, .int .i64 r.test[k].hi, .bool r.test[k].opn, u3, u4], .int .i64 (d + 1)] wr fun e9 w' => (∃ v, e9 = .returned v) ∧ Hid (KeepT q wr w' ∧ WS w' q R (fun s1 => andT (fruns (d + 1) s1 (r.test.drop (k + 1))) (fun s2 => andT (rruns (d + 1) s2 r.subs) F)))) := cW
    obtain ⟨-, p1, c1, rfl, -⟩ := N1t
    obtain ⟨p2, c2, rfl, -⟩ := N2t.form
    obtain ⟨p3, c3, rfl, -⟩ := N3t.form
    obtain ⟨p4, c4, rfl, -⟩ := N4t.form
    clear TC hSr wk cW N2t N3t N4t
    generalize r.test[k].k = X0 at *
    generalize r.test[k].nm = X1 at *
    generalize r.test[k].op = X2 at *
    generalize r.test[k].lo = X3 at *
    generalize r.test[k].hi = X4 at *
    generalize r.test[k].opn = X5 at *
    generalize r.test[k].vars.length = L1 at *
    generalize r.test[k].terms.length = L2 at *
    generalize r.test[k].subs.length = L3 at *
    generalize r.test[k].rgx.length = L4 at *
    have nw : IntKind.i64.wrap (d + 1) = d + 1 := by rw [IntKind.wrap_i64]; omega
    have nw2 : wrap64 (d + 1) = d + 1 := by unfold wrap64; omega
    go_wp2_with fail
    refine HcW.out.mono ?_
    rintro r w6 ⟨⟨v6, rfl⟩, h6⟩
    have hK6 : KeepT q w9 w6 := hKr.trans h6.out.1
    have HS6 : Hid (_) := h6.out.2
    clear h6 HcW
    go_wp2
    exact ⟨⟨k + 1, by omega, by go_num, hK6, HS6.out⟩, by simp [intOf]; omega⟩
end Go.Proofs.YtfajjphfjilpnaaGreat

namespace Go.Proofs.YtfajjphfjilpnaaGreat
open Go.RowKit LX Go.Shelf
set_option linter.unusedVariables false

set_option maxRecDepth 100000 in
set_option maxHeartbeats 8000000 in
theorem rregex_c5 (w0 : World) (q : Nat) (hq : w0.heap.size ≤ q) (r : Rx) (ut us : Value) (ht : FmsAt w0 ut r.test) (hs : RxsAt w0 us r.subs) (d : Int) (hd0 : 0 ≤ d) (hd1 : d ≤ 25)
    (IR : d ≤ 24 → ∀ (i : Nat) (hi : i < r.subs.length) (u1 u2 : Value), FmsAt w0 u1 r.subs[i].test → RxsAt w0 u2 r.subs[i].subs → Walks w0 q 59 (.agg #[.int .i64 r.subs[i].k, u1, u2]) (d + 1) (fun s => rrun (d + 1) s r.subs[i]))
    (IF : d ≤ 24 → ∀ (i : Nat) (hi : i < r.test.length) (y : FQ), QAt w0 (r.test[i], y) → Walks w0 q 30 (.agg #[.int .i64 r.test[i].k, .string r.test[i].nm, .int .i64 r.test[i].op, y.v, y.t, .int .i64 r.test[i].lo, .int .i64 r.test[i].hi, .bool r.test[i].opn, y.s, y.r]) (d + 1) (fun s => frun (d + 1) s r.test[i]))
    (hk : r.k = 5) (N M : Int) (w : World) (R : Int × (Int × Int)) (F : Int × Int → Int × (Int × Int)) (hw : Below w0.heap.size w0 w) (hK : WK w q N M 0) (ho : OkS (N, M)) (hR : R = andT (rrun d (N, M) r) F) :
    Calls Tryz.prog 59 #[.pointer (some ⟨q, 0, none⟩), .agg #[.int .i64 r.k, ut, us], .int .i64 d] w fun e w' => (∃ v, e = .returned v) ∧ Hid (KeepT q w w' ∧ WS w' q R F) := by
  obtain ⟨pt, ct, rfl, hlt0, hct, HXF0⟩ := ht.form
  have HXF : Hid (∀ i (hi : i < r.test.length), ∃ b off uv ut us ur, pt = some ⟨b, off, none⟩ ∧ b < w0.heap.size ∧ FmC w0 b (off + i * 10) r.test[i] uv ut us ur ∧ NmsAt w0 uv r.test[i].vars ∧ TmsAt w0 ut r.test[i].terms ∧ FmsAt w0 us r.test[i].subs ∧ RxsAt w0 ur r.test[i].rgx) := HXF0
  obtain ⟨ps, cs, rfl, hls, hcs, HXR0⟩ := hs.form
  have HXR : Hid (∀ i (hi : i < r.subs.length), ∃ b off ut us, ps = some ⟨b, off, none⟩ ∧ b < w0.heap.size ∧ RxC w0 b (off + i * 3) r.subs[i] ut us ∧ FmsAt w0 ut r.subs[i].test ∧ RxsAt w0 us r.subs[i].subs) := HXR0
  have HW : Hid (WK w q N M 0) := hK
  have HO : Hid (OkS (N, M)) := ho
  have hqw : q < w.heap.size := hK.lt
  have HR0 : Hid (R = andT (meetE d (N, M), meetS d (N, M)) fun s1 => andT (rxE r, s1) fun s1 => andT (fruns (d + 1) s1 r.test) fun s2 => andT (rruns (d + 1) s2 r.subs) F) := by
    have h := hR
    rw [rrun_eq] at h
    simp only [andT_assoc] at h
    exact h
  have HE : Hid (ndE d N = meetE d (N, M)) := nd_meet (s := (N, M)) HO.out
  have CR0 : Hid (_) := IR
  have CF0 : Hid (_) := IF
  clear IR IF ht hs HXF0 HXR0 hK ho hR
  obtain ⟨FE, hFE⟩ : ∃ FE, Hid (rxE r = FE) := ⟨_, rfl⟩
  have HD : Hid ((if r.k < 1 ∨ 5 < r.k then 20 else if r.test.length ≠ (if r.k = 2 then 1 else 0) ∨ r.subs.length ≠ (if r.k = 3 ∨ r.k = 4 then 2 else if r.k = 5 then 1 else 0) then 1 else 0) = FE) := hFE.out
  rw [hFE.out] at HR0
  clear hFE
  obtain ⟨nt, ent⟩ : ∃ n : Nat, Hid (r.test.length = n) := ⟨_, rfl⟩
  obtain ⟨ns, ens⟩ : ∃ n : Nat, Hid (r.subs.length = n) := ⟨_, rfl⟩
  rw [ent.out] at hlt0 hct HD ⊢
  rw [ens.out] at hls hcs HD ⊢
  generalize r.k = tk at *
  subst hk
  have hne : w.heap.size ≠ q := by omega
  go_enter Tryz.func59, Tryz.ntmps59
  go_wp2_with fail
  refine (rnode_any q N M d _ (HW.out.alloc _) ⟨HO.out.1, by have := HO.out.2.1; simp at this; omega⟩).mono ?_
  rintro r9 w1 ⟨rfl, h1⟩
  have hK1 : KeepT q w w1 := (KeepT.of ((Below.refl _ _).alloc (Nat.le_refl _) _)).trans h1.out.2.keep
  have W1 : Hid (WK w1 q (N + 1) (if M < d then d else M) (ndE d N)) := h1.out.1
  have B1 : Hid (w1.heap[w.heap.size]? = some (.cells #[.int .i64 5, .slice pt nt ct, .slice ps ns cs] 76 (0, 0))) := (h1.out.2.block w.heap.size (by simp) hne).trans (heap_allocA w _)
  clear h1
  by_cases hE : ndE d N = 0
  case neg =>
    have hE' : (ndE d N == 0) = false := by simpa using hE
    rw [hE']
    go_wp2
    refine bodyPost_ret (results_none rfl _ _ _) rfl ?_
    refine ⟨⟨_, rfl⟩, hK1, _, _, _, W1.out, fun e => absurd e hE, fun _ => ?_⟩
    have h := HR0.out
    rw [← HE.out] at h
    rw [h, andT_ne hE]
  have hE' : (ndE d N == 0) = true := by simpa using hE
  rw [hE']
  obtain ⟨N1, hN1⟩ : ∃ N1, Hid (N + 1 = N1) := ⟨_, rfl⟩
  obtain ⟨M1, hM1⟩ : ∃ M1, Hid ((if M < d then d else M) = M1) := ⟨_, rfl⟩
  have W1' : Hid (WK w1 q N1 M1 0) := by have h := W1.out; rw [hE, hN1.out, hM1.out] at h; exact h
  clear W1
  have hmS : Hid (meetS d (N, M) = (N1, M1)) := by
    have e : meetE d (N, M) = 0 := by rw [← HE.out]; exact hE
    unfold meetS
    rw [if_pos e, ← hN1.out, ← hM1.out, Int.max_def]
    show (N + 1, if M ≤ d then d else M) = (N + 1, if M < d then d else M)
    congr 1
    by_cases h : M < d
    · rw [if_pos h, if_pos (by omega)]
    · rw [if_neg h]; split <;> omega
  have HR1 : Hid (R = andT (FE, (N1, M1)) fun s1 => andT (fruns (d + 1) s1 r.test) fun s2 => andT (rruns (d + 1) s2 r.subs) F) := by
    have h := HR0.out
    rw [← HE.out, hE, andT_eq, hmS.out] at h
    exact h
  have hd24 : d ≤ 24 := meetE_le (s := (N, M)) (by rw [← HE.out]; exact hE)
  have HOk : Hid (OkS (N1, M1)) := by rw [← hmS.out]; exact meetS_ok HO.out hd0
  have CR := CR0.out hd24
  have CF := CF0.out hd24
  have CR : Hid (_) := CR
  have CF : Hid (_) := CF
  clear HR0 HE hE hE' hN1 hM1 hmS CR0 CF0
  have HNo : Hid (¬ FE = 0 → ∀ W : World, WK W q N1 M1 FE → WS W q R F) := by
    intro h W hW
    have hr := HR1.out
    rw [andT_ne h] at hr
    exact ⟨_, _, _, hW, fun e => absurd e h, fun _ => by rw [hr]⟩
  have e0 : w1.cell? ⟨w.heap.size, 0, none⟩ = some (.int .i64 5) := by rw [Lib.cell_of_heap B1.out]; rfl
  go_wp2_with fail
  refine (rwrong_any q N1 M1 0 20 _ w1 W1'.out).mono ?_
  rintro r9 w2 ⟨⟨v2, rfl⟩, h2⟩
  have W2 : Hid (WK w2 q N1 M1 0) := by have a := h2.out.1; first | exact a | (simp [wrE, hk] at a; exact a)
  have B2 : Hid (_) := h2.out.2.heap B1.out hne
  have hK2 : KeepT q w w2 := hK1.trans h2.out.2.keep
  clear h2 e0 B1 hK1 W1'
  have e0 : w2.cell? ⟨w.heap.size, 0, none⟩ = some (.int .i64 5) := by rw [Lib.cell_of_heap B2.out]; rfl
  have e1 : w2.cell? ⟨w.heap.size, 1, none⟩ = some (.slice pt nt ct) := by rw [Lib.cell_of_heap B2.out]; rfl
  have e2 : w2.cell? ⟨w.heap.size, 2, none⟩ = some (.slice ps ns cs) := by rw [Lib.cell_of_heap B2.out]; rfl
  by_cases hT : nt = 0
  case neg =>
    have t1 : ((nt : Int) == 0) = false := by simp; omega
    have t2 : ((nt : Int) != 0) = true := by simp; omega
    go_wp2_with fail
    refine (rwrong_any q N1 M1 _ 1 _ _ W2.out).mono ?_
    rintro r9 w9 ⟨⟨v9, rfl⟩, h9⟩
    have W9 : Hid (WK w9 q N1 M1 FE) := by have a := h9.out.1; have b := HD.out; simp [wrE, hT] at a b; first | (subst b; exact a) | (rw [← b]; exact a)
    have B9 : Hid (_) := h9.out.2.heap B2.out hne
    have hK9 : KeepT q w w9 := hK2.trans h9.out.2.keep
    have y2 : w9.cell? ⟨q, 2, none⟩ = some (.int .i64 FE) := W9.out.e
    clear h9 e0 e1 e2
    have tn : ¬ FE = 0 := by have b := HD.out; simp [hT] at b; omega
    have tn' : (FE == 0) = false := by simpa using tn
    have tn'' : (FE != 0) = true := by simpa using tn
    go_wp2
    refine bodyPost_ret (results_none rfl _ _ _) rfl ?_
    exact ⟨⟨_, rfl⟩, hK9, HNo.out tn _ W9.out⟩
  have t1 : ((nt : Int) == 0) = true := by simp; omega
  have t2 : ((nt : Int) != 0) = false := by simp; omega
  by_cases hS : ns = 1
  case neg =>
    have s1 : ((ns : Int) == 1) = false := by simp; omega
    have s2 : ((ns : Int) != 1) = true := by simp; omega
    go_wp2_with fail
    refine (rwrong_any q N1 M1 _ 1 _ _ W2.out).mono ?_
    rintro r9 w9 ⟨⟨v9, rfl⟩, h9⟩
    have W9 : Hid (WK w9 q N1 M1 FE) := by have a := h9.out.1; have b := HD.out; simp [wrE, hT, hS] at a b; first | (subst b; exact a) | (rw [← b]; exact a)
    have B9 : Hid (_) := h9.out.2.heap B2.out hne
    have hK9 : KeepT q w w9 := hK2.trans h9.out.2.keep
    have y2 : w9.cell? ⟨q, 2, none⟩ = some (.int .i64 FE) := W9.out.e
    clear h9 e0 e1 e2
    have tn : ¬ FE = 0 := by have b := HD.out; simp [hT, hS] at b; omega
    have tn' : (FE == 0) = false := by simpa using tn
    have tn'' : (FE != 0) = true := by simpa using tn
    go_wp2
    refine bodyPost_ret (results_none rfl _ _ _) rfl ?_
    exact ⟨⟨_, rfl⟩, hK9, HNo.out tn _ W9.out⟩
  have s1 : ((ns : Int) == 1) = true := by simp; omega
  have s2 : ((ns : Int) != 1) = false := by simp; omega
  go_wp2_with fail
  refine (rwrong_any q N1 M1 _ 1 _ _ W2.out).mono ?_
  rintro r9 w9 ⟨⟨v9, rfl⟩, h9⟩
  have W9 : Hid (WK w9 q N1 M1 FE) := by have a := h9.out.1; have b := HD.out; simp [wrE, hT, hS] at a b; first | (subst b; exact a) | (rw [← b]; exact a)
  have B9 : Hid (_) := h9.out.2.heap B2.out hne
  have hK9 : KeepT q w w9 := hK2.trans h9.out.2.keep
  have y2 : w9.cell? ⟨q, 2, none⟩ = some (.int .i64 FE) := W9.out.e
  clear h9 e0 e1 e2
  clear t1 t2 s1 s2
  have hz : FE = 0 := by have b := HD.out; simp [hT, hS] at b; omega
  subst hz
  have S9 : Hid (WS w9 q R (fun s1 => andT (fruns (d + 1) s1 r.test) fun s2 => andT (rruns (d + 1) s2 r.subs) F)) := WS.of W9.out HOk.out (by have h := HR1.out; rw [andT_eq] at h; exact h)
  clear HD HR1 HNo hT hS
  go_wp2
  go_loopw [9] (fun v wr => ∃ k : Nat, k ≤ nt ∧ v = .int .i64 k ∧ KeepT q w9 wr ∧ Hid (WS wr q R (fun s => andT (fruns (d + 1) s (r.test.drop k)) (fun s2 => andT (rruns (d + 1) s2 r.subs) F)))) (fun v _ => nt - (intOf v).toNat)
  case atStart => exact ⟨0, Nat.zero_le _, rfl, KeepT.refl _ _, by rw [List.drop_zero]; exact S9⟩
  case round =>
    obtain ⟨k, hk, rfl, hKr, hSr⟩ := hrel
    have Br : Hid (_) := (hKr.block w.heap.size (lt_heap B9.out) hne).trans B9.out
    have r6 : wr.cell? ⟨w.heap.size, 1, none⟩ = some (.slice pt nt ct) := by rw [Lib.cell_of_heap Br.out]; rfl
    by_cases hlt : k < nt
    case neg =>
      have c2 : ¬ (k : Int) < nt := by omega
      obtain ⟨w10, ew⟩ : ∃ W : World, W = wr := ⟨_, rfl⟩
      subst ew
      have S10 : Hid (WS w10 q R (fun s2 => andT (rruns (d + 1) s2 r.subs) F)) := hSr.out.cast (fun s => by rw [List.drop_eq_nil_of_le (by have := ent.out; omega), fruns_nil]; exact andT_eq)
      have hK10 : KeepT q w w10 := hK9.trans hKr
      have B10 : Hid (_) := Br.out
      clear hSr hKr Br
      go_wp2
      clear r6 c2 hk hlt
      go_loopw [10] (fun v wr => ∃ k : Nat, k ≤ ns ∧ v = .int .i64 k ∧ KeepT q w10 wr ∧ Hid (WS wr q R (fun s => andT (rruns (d + 1) s (r.subs.drop k)) F))) (fun v _ => ns - (intOf v).toNat)
      case atStart => exact ⟨0, Nat.zero_le _, rfl, KeepT.refl _ _, by rw [List.drop_zero]; exact S10⟩
      case round =>
        obtain ⟨k, hk, rfl, hKr, hSr⟩ := hrel
        have Br : Hid (_) := (hKr.block w.heap.size (lt_heap B10.out) hne).trans B10.out
        have r6 : wr.cell? ⟨w.heap.size, 2, none⟩ = some (.slice ps ns cs) := by rw [Lib.cell_of_heap Br.out]; rfl
        by_cases hlt : k < ns
        case neg =>
          have c2 : ¬ (k : Int) < ns := by omega
          have S11 : Hid (WS wr q R F) := hSr.out.cast (fun s => by rw [List.drop_eq_nil_of_le (by have := ens.out; omega), rruns_nil]; exact andT_eq)
          have hK11 : KeepT q w wr := hK10.trans hKr
          go_wp2
          go_end0
          exact ⟨⟨_, rfl⟩, hK11, S11.out⟩
        have hlt' : (k : Int) < ns := by omega
        have kx : k < r.subs.length := by have := ens.out; omega
        obtain ⟨b, off, u1, u2, rfl, hb, TC, N1t, N2t⟩ := HXR.out k kx
        have hBr : Below w0.heap.size w0 wr := hw.trans ((hK10.trans hKr).below (B := w0.heap.size) hq (Nat.le_of_lt hqw))
        obtain ⟨a0, a1, a2⟩ := TC.below hBr hb
        have wk := CR.out k kx u1 u2 N1t N2t
        have cW := wk wr R (fun s1 => andT (rruns (d + 1) s1 (r.subs.drop (k + 1))) F) hBr (hSr.out.cast (fun s => by rw [List.drop_eq_getElem_cons kx, rruns_and]))
        have HcW : Hid (Calls Tryz.prog 59 #[.pointer (some ⟨q, 0, none⟩), .agg #[.int .i64 r.subs[k].k, u1, u2], .int .i64 (d + 1)] wr fun e9 w' => (∃ v, e9 = .returned v) ∧ Hid (KeepT q wr w' ∧ WS w' q R (fun s1 => andT (rruns (d + 1) s1 (r.subs.drop (k + 1))) F))) := cW
        obtain ⟨p1, c1, rfl, -⟩ := N1t.form
        obtain ⟨p2, c2, rfl, -⟩ := N2t.form
        clear TC hSr wk cW N1t N2t
        generalize r.subs[k].k = X0 at *
        generalize r.subs[k].test.length = L1 at *
        generalize r.subs[k].subs.length = L2 at *
        have nw : IntKind.i64.wrap (d + 1) = d + 1 := by rw [IntKind.wrap_i64]; omega
        have nw2 : wrap64 (d + 1) = d + 1 := by unfold wrap64; omega
        go_wp2_with fail
        refine HcW.out.mono ?_
        rintro r w6 ⟨⟨v6, rfl⟩, h6⟩
        have hK6 : KeepT q w10 w6 := hKr.trans h6.out.1
        have HS6 : Hid (_) := h6.out.2
        clear h6 HcW
        go_wp2
        exact ⟨⟨k + 1, by omega, by go_num, hK6, HS6.out⟩, by simp [intOf]; omega⟩
    have hlt' : (k : Int) < nt := by omega
    have kx : k < r.test.length := by have := ent.out; omega
    obtain ⟨b, off, u1, u2, u3, u4, rfl, hb, TC, N1t, N2t, N3t, N4t⟩ := HXF.out k kx
    have hBr : Below w0.heap.size w0 wr := hw.trans ((hK9.trans hKr).below (B := w0.heap.size) hq (Nat.le_of_lt hqw))
    obtain ⟨a0, a1, a2, a3, a4, a5, a6, a7, a8, a9⟩ := TC.below hBr hb
    have wk := CF.out k kx ⟨u1, u2, u3, u4⟩ ⟨N1t, N2t, N3t, N4t⟩
    have cW := wk wr R (fun s1 => andT (fruns (d + 1) s1 (r.test.drop (k + 1))) (fun s2 => andT (rruns (d + 1) s2 r.subs) F)) hBr (hSr.out.cast (fun s => by rw [List.drop_eq_getElem_cons kx, fruns_and]))
    have HcW : Hid (Calls Tryz.prog 30 #[.pointer (some ⟨q, 0, none⟩), .agg #[.int .i64 r.test[k].k, .string r.test[k].nm, .int .i64 r.test[k].op, u1, u2, .int .i64 r.test[k].lo, .int .i64 r.test[k].hi, .bool r.test[k].opn, u3, u4], .int .i64 (d + 1)] wr fun e9 w' => (∃ v, e9 = .returned v) ∧ Hid (KeepT q wr w' ∧ WS w' q R (fun s1 => andT (fruns (d + 1) s1 (r.test.drop (k + 1))) (fun s2 => andT (rruns (d + 1) s2 r.subs) F)))) := cW
    obtain ⟨-, p1, c1, rfl, -⟩ := N1t
    obtain ⟨p2, c2, rfl, -⟩ := N2t.form
    obtain ⟨p3, c3, rfl, -⟩ := N3t.form
    obtain ⟨p4, c4, rfl, -⟩ := N4t.form
    clear TC hSr wk cW N2t N3t N4t
    generalize r.test[k].k = X0 at *
    generalize r.test[k].nm = X1 at *
    generalize r.test[k].op = X2 at *
    generalize r.test[k].lo = X3 at *
    generalize r.test[k].hi = X4 at *
    generalize r.test[k].opn = X5 at *
    generalize r.test[k].vars.length = L1 at *
    generalize r.test[k].terms.length = L2 at *
    generalize r.test[k].subs.length = L3 at *
    generalize r.test[k].rgx.length = L4 at *
    have nw : IntKind.i64.wrap (d + 1) = d + 1 := by rw [IntKind.wrap_i64]; omega
    have nw2 : wrap64 (d + 1) = d + 1 := by unfold wrap64; omega
    go_wp2_with fail
    refine HcW.out.mono ?_
    rintro r w6 ⟨⟨v6, rfl⟩, h6⟩
    have hK6 : KeepT q w9 w6 := hKr.trans h6.out.1
    have HS6 : Hid (_) := h6.out.2
    clear h6 HcW
    go_wp2
    exact ⟨⟨k + 1, by omega, by go_num, hK6, HS6.out⟩, by simp [intOf]; omega⟩
end Go.Proofs.YtfajjphfjilpnaaGreat

namespace Go.Proofs.YtfajjphfjilpnaaGreat
open Go.RowKit LX Go.Shelf
set_option linter.unusedVariables false

theorem rboth_walks (w0 : World) (q : Nat) (hq : w0.heap.size ≤ q) : ∀ m : Nat, (∀ (f : Fm) (y : FQ) (d : Int), SizeOf.sizeOf f ≤ m → QAt w0 (f, y) → 0 ≤ d → d ≤ 25 → Walks w0 q 30 (.agg #[.int .i64 f.k, .string f.nm, .int .i64 f.op, y.v, y.t, .int .i64 f.lo, .int .i64 f.hi, .bool f.opn, y.s, y.r]) d (fun s => frun d s f)) ∧ (∀ (r : Rx) (u1 u2 : Value) (d : Int), SizeOf.sizeOf r ≤ m → FmsAt w0 u1 r.test → RxsAt w0 u2 r.subs → 0 ≤ d → d ≤ 25 → Walks w0 q 59 (.agg #[.int .i64 r.k, u1, u2]) d (fun s => rrun d s r)) := by
  intro m
  induction m with
  | zero => exact ⟨fun f y d hm => by cases f; simp at hm, fun r u1 u2 d hm => by cases r; simp at hm⟩
  | succ m ih =>
    refine ⟨fun f y d hm hQ h0 h1 W R F hW hS => ?_, fun r u1 u2 d hm ht hs h0 h1 W R F hW hS => ?_⟩
    · obtain ⟨N, M, E, h, g1, g2⟩ := hS
      by_cases hE : E = 0
      case neg =>
        refine (rformula_no q N M E d _ _ _ _ _ _ y.v y.t y.s y.r W h hE).mono ?_
        rintro r w' ⟨hv, g⟩
        exact ⟨hv, KeepT.of g.out.1, N, M, E, g.out.2, fun e => absurd e hE, g2⟩
      subst hE
      obtain ⟨ho, hR⟩ := g1 rfl
      have IT : d ≤ 24 → ∀ (i : Nat) (hi : i < f.terms.length) (u : Value), TmsAt w0 u f.terms[i].subs → f.terms[i].v.Fits → Walks w0 q 58 (.agg #[.int .i64 f.terms[i].k, .string f.terms[i].nm, .int .i64 f.terms[i].v.k, .int .i64 f.terms[i].v.n, .int .i64 f.terms[i].v.d, .string f.terms[i].v.s, u]) (d + 1) (fun s => trun (d + 1) s f.terms[i]) := fun h i hi u hu hf => rterm_walks w0 q hq _ u hu hf (d + 1) (by omega) (by omega)
      have IR : d ≤ 24 → ∀ (i : Nat) (hi : i < f.rgx.length) (u1 u2 : Value), FmsAt w0 u1 f.rgx[i].test → RxsAt w0 u2 f.rgx[i].subs → Walks w0 q 59 (.agg #[.int .i64 f.rgx[i].k, u1, u2]) (d + 1) (fun s => rrun (d + 1) s f.rgx[i]) := fun h i hi u1 u2 a b => ih.2 _ u1 u2 (d + 1) (by have a := mem_lt i hi; have b := f.rgx_lt; omega) a b (by omega) (by omega)
      have IF : d ≤ 24 → ∀ (i : Nat) (hi : i < f.subs.length) (y : FQ), QAt w0 (f.subs[i], y) → Walks w0 q 30 (.agg #[.int .i64 f.subs[i].k, .string f.subs[i].nm, .int .i64 f.subs[i].op, y.v, y.t, .int .i64 f.subs[i].lo, .int .i64 f.subs[i].hi, .bool f.subs[i].opn, y.s, y.r]) (d + 1) (fun s => frun (d + 1) s f.subs[i]) := fun h i hi y a => ih.1 _ y (d + 1) (by have a := mem_lt i hi; have b := f.subs_lt; omega) a (by omega) (by omega)
      by_cases k0 : f.k < 1
      · exact rformula_cA w0 q hq f y.v y.t y.s y.r hQ d h0 h1 IT IR IF k0 N M W R F hW h ho hR
      by_cases k22 : 22 < f.k
      · exact rformula_cB w0 q hq f y.v y.t y.s y.r hQ d h0 h1 IT IR IF k22 N M W R F hW h ho hR
      by_cases k19 : f.k = 19
      · exact rformula_cD w0 q hq f y.v y.t y.s y.r hQ d h0 h1 IT IR IF k19 N M W R F hW h ho hR
      · exact rformula_cC w0 q hq f y.v y.t y.s y.r hQ d h0 h1 IT IR IF ⟨by omega, k19⟩ N M W R F hW h ho hR
    · obtain ⟨N, M, E, h, g1, g2⟩ := hS
      by_cases hE : E = 0
      case neg =>
        refine (rregex_no q N M E d _ u1 u2 W h hE).mono ?_
        rintro r w' ⟨hv, g⟩
        exact ⟨hv, KeepT.of g.out.1, N, M, E, g.out.2, fun e => absurd e hE, g2⟩
      subst hE
      obtain ⟨ho, hR⟩ := g1 rfl
      have IR : d ≤ 24 → ∀ (i : Nat) (hi : i < r.subs.length) (u1 u2 : Value), FmsAt w0 u1 r.subs[i].test → RxsAt w0 u2 r.subs[i].subs → Walks w0 q 59 (.agg #[.int .i64 r.subs[i].k, u1, u2]) (d + 1) (fun s => rrun (d + 1) s r.subs[i]) := fun h i hi u1 u2 a b => ih.2 _ u1 u2 (d + 1) (by have a := mem_lt i hi; have b := r.subs_lt; omega) a b (by omega) (by omega)
      have IF : d ≤ 24 → ∀ (i : Nat) (hi : i < r.test.length) (y : FQ), QAt w0 (r.test[i], y) → Walks w0 q 30 (.agg #[.int .i64 r.test[i].k, .string r.test[i].nm, .int .i64 r.test[i].op, y.v, y.t, .int .i64 r.test[i].lo, .int .i64 r.test[i].hi, .bool r.test[i].opn, y.s, y.r]) (d + 1) (fun s => frun (d + 1) s r.test[i]) := fun h i hi y a => ih.1 _ y (d + 1) (by have a := mem_lt i hi; have b := r.test_lt; omega) a (by omega) (by omega)
      have h7 : r.k < 1 ∨ 5 < r.k ∨ r.k = 1 ∨ r.k = 2 ∨ r.k = 3 ∨ r.k = 4 ∨ r.k = 5 := by omega
      rcases h7 with h7 | h7 | h7 | h7 | h7 | h7 | h7
      · exact rregex_clo w0 q hq r u1 u2 ht hs d h0 h1 IR IF h7 N M W R F hW h ho hR
      · exact rregex_chi w0 q hq r u1 u2 ht hs d h0 h1 IR IF h7 N M W R F hW h ho hR
      · exact rregex_c1 w0 q hq r u1 u2 ht hs d h0 h1 IR IF h7 N M W R F hW h ho hR
      · exact rregex_c2 w0 q hq r u1 u2 ht hs d h0 h1 IR IF h7 N M W R F hW h ho hR
      · exact rregex_c3 w0 q hq r u1 u2 ht hs d h0 h1 IR IF h7 N M W R F hW h ho hR
      · exact rregex_c4 w0 q hq r u1 u2 ht hs d h0 h1 IR IF h7 N M W R F hW h ho hR
      · exact rregex_c5 w0 q hq r u1 u2 ht hs d h0 h1 IR IF h7 N M W R F hW h ho hR
theorem rformula_walk (w0 : World) (q : Nat) (hq : w0.heap.size ≤ q) (f : Fm) (y : FQ) (hQ : QAt w0 (f, y)) (W : World) (hW : Below w0.heap.size w0 W) (h : WK W q 0 0 0) :
    Calls Tryz.prog 30 #[.pointer (some ⟨q, 0, none⟩), .agg #[.int .i64 f.k, .string f.nm, .int .i64 f.op, y.v, y.t, .int .i64 f.lo, .int .i64 f.hi, .bool f.opn, y.s, y.r], .int .i64 1] W fun r w' => (∃ v, r = .returned v) ∧ Hid (KeepT q W w' ∧ WQ w' q (frun 1 (0, 0) f)) := by
  refine ((rboth_walks w0 q hq (SizeOf.sizeOf f)).1 f y 1 (Nat.le_refl _) hQ (by decide) (by decide) W (frun 1 (0, 0) f) (fun s => (0, s)) hW (WS.of h ⟨by decide, by decide, by decide, by decide⟩ ?_)).mono ?_
  · show _ = andT _ _
    unfold andT
    by_cases hz : (frun 1 (0, 0) f).1 = 0
    · rw [if_pos hz]; exact Prod.ext hz rfl
    · rw [if_neg hz]
  · rintro r w' ⟨hv, g⟩
    exact ⟨hv, g.out.1, g.out.2.wq⟩
end Go.Proofs.YtfajjphfjilpnaaGreat

namespace Go.Proofs.YtfajjphfjilpnaaGreat
open Go.RowKit LX Go.Shelf
set_option linter.unusedVariables false

theorem few_iff (f : Fm) : ((fre f).2 ≤ 8) ↔ (fre f).1.length ≤ 8 ∧ ∀ i (hi : i < (ptsF f).length), (fre (ptsF f)[i]).2 ≤ 8 := by
  rw [fre_eq]
  show max _ _ ≤ 8 ↔ (freO f _).length ≤ 8 ∧ _
  constructor
  · intro h
    refine ⟨by omega, fun i hi => ?_⟩
    have := mx_ge (l := (ptsF f).map fun g => (fre g).2) (x := (fre (ptsF f)[i]).2) (List.mem_map.2 ⟨_, List.getElem_mem hi, rfl⟩)
    omega
  · rintro ⟨h1, h2⟩
    have : mx ((ptsF f).map fun g => (fre g).2) ≤ 8 := mx_le fun x hx => by
      obtain ⟨g, hg, rfl⟩ := List.mem_map.1 hx
      obtain ⟨i, hi, e⟩ := List.getElem_of_mem hg
      rw [← e]
      exact h2 i hi
    omega
theorem run_good {f : Fm} (h0 : (frun 1 (0, 0) f).1 = 0) : wfF f ∧ nodF f ≤ 256 := by
  have h1 := fruns_good (fs := [f]) (dep := 1) (s := (0, 0)) (by rw [fruns_one]; exact pair0 h0)
  rw [wfFs_cons, nodFs_cons, nodFs_nil] at h1
  have h2 : OkS (frun 1 (0, 0) f).2 := frun_okS f
  have h3 : ((frun 1 (0, 0) f).2).1 ≤ 256 := h2.2.1
  refine ⟨h1.1.1, ?_⟩
  have := h1.2
  simp at this
  omega
set_option maxRecDepth 100000 in
set_option maxHeartbeats 8000000 in
theorem rfew_any (w0 : World) : ∀ (m : Nat) (f : Fm) (y : FQ) (w : World), nodF f < m → nodF f ≤ 256 → wfF f → QAt w0 (f, y) → Below w0.heap.size w0 w →
    Calls Tryz.prog 31 #[.agg #[.int .i64 f.k, .string f.nm, .int .i64 f.op, y.v, y.t, .int .i64 f.lo, .int .i64 f.hi, .bool f.opn, y.s, y.r]] w fun e w' => e = .returned (.bool (decide ((fre f).2 ≤ 8))) ∧ Below w.heap.size w w' := by
  intro m
  induction m with
  | zero => intro f y w hm; omega
  | succ m ih =>
    intro f y w hm hn hok hQ hw
    have hE : fmE f = 0 := by rw [wfF_eq] at hok; exact hok.1
    have hpa := pts_app hE
    have hpn := pts_nod f
    have hpo := pts_ok hok
    have hpl : (ptsF f).length ≤ 256 := by have := nodFs_len (ptsF f); omega
    have hfl : (fre f).1.length ≤ 5000 := by have := fre_len _ f (Nat.le_refl _) hok; omega
    have cV : Hid (∀ W : World, Below w0.heap.size w0 W → Calls Tryz.prog 41 #[.agg #[.int .i64 f.k, .string f.nm, .int .i64 f.op, y.v, y.t, .int .i64 f.lo, .int .i64 f.hi, .bool f.opn, y.s, y.r]] W fun e w' => ∃ v, e = .returned v ∧ OwnN W.heap.size v (fre f).1 w' ∧ Below W.heap.size W w') := fun W hW => rvars_any w0 _ f y W (Nat.lt_succ_self _) hn hok hQ hW
    have cPt : Hid (∀ W : World, Below w0.heap.size w0 W → Calls Tryz.prog 47 #[.agg #[.int .i64 f.k, .string f.nm, .int .i64 f.op, y.v, y.t, .int .i64 f.lo, .int .i64 f.hi, .bool f.opn, y.s, y.r]] W fun e w' => ∃ v, e = .returned v ∧ OwnF w0 (W.heap.size + 1) v (ptsF f) w' ∧ Below W.heap.size W w') := fun W hW => by
      have h := rparts_any w0 f y hQ W hW (by rw [← List.length_append, hpa]; omega)
      rw [hpa] at h
      exact h
    have IHp : Hid (∀ (i : Nat) (hi : i < (ptsF f).length) (z : FQ) (W : World), QAt w0 ((ptsF f)[i], z) → Below w0.heap.size w0 W → Calls Tryz.prog 31 #[.agg #[.int .i64 (ptsF f)[i].k, .string (ptsF f)[i].nm, .int .i64 (ptsF f)[i].op, z.v, z.t, .int .i64 (ptsF f)[i].lo, .int .i64 (ptsF f)[i].hi, .bool (ptsF f)[i].opn, z.s, z.r]] W fun e w' => e = .returned (.bool (decide ((fre (ptsF f)[i]).2 ≤ 8))) ∧ Below W.heap.size W w') := fun i hi z W h1 h2 => ih _ z W (by have := nodFs_get (ptsF f) i hi; omega) (by have := nodFs_get (ptsF f) i hi; omega) (wfFs_get _ i hi hpo) h1 h2
    have HI : Hid (((fre f).2 ≤ 8) ↔ (fre f).1.length ≤ 8 ∧ ∀ i (hi : i < (ptsF f).length), (fre (ptsF f)[i]).2 ≤ 8) := few_iff f
    have hw0 := hw.size
    obtain ⟨np, enp⟩ : ∃ n : Nat, Hid ((ptsF f).length = n) := ⟨_, rfl⟩
    obtain ⟨FV0, eXQ⟩ : ∃ F : List ByteArray, Hid ((fre f).1 = F) := ⟨_, rfl⟩
    rw [eXQ.out] at cV HI hfl
    obtain ⟨BB, eBB⟩ : ∃ B : Bool, Hid (decide ((fre f).2 ≤ 8) = B) := ⟨_, rfl⟩
    rw [eBB.out]
    have HI2 : Hid (BB = true ↔ FV0.length ≤ 8 ∧ ∀ i (hi : i < (ptsF f).length), (fre (ptsF f)[i]).2 ≤ 8) := by
      rw [← eBB.out, decide_eq_true_eq]
      exact HI.out
    rw [enp.out] at hpl
    clear HI eBB eXQ ih hm hn hok hE hpa hpn hpo
    obtain ⟨uv, ut, us, ur⟩ := y
    obtain ⟨h1, h2, h3, h4⟩ := hQ
    dsimp only at h1 h2 h3 h4 cV cPt ⊢
    obtain ⟨-, pv, cv, rfl, -, -⟩ := h1
    obtain ⟨pt, ct, rfl, -⟩ := h2.form
    obtain ⟨ps, cs, rfl, -⟩ := h3.form
    obtain ⟨pr, cr, rfl, -⟩ := h4.form
    clear h2 h3 h4
    generalize f.vars.length = nv at *
    generalize f.terms.length = nt at *
    generalize f.subs.length = ns at *
    generalize f.rgx.length = nr at *
    generalize f.lo = lo at *
    generalize f.hi = fhi at *
    generalize f.nm = nm at *
    generalize f.opn = o at *
    generalize f.op = op at *
    generalize f.k = fk at *
    go_enter Tryz.func31, Tryz.ntmps31
    go_wp2_with fail
    refine (cV.out _ (hw.alloc hw0 _)).mono ?_
    rintro e w1 ⟨v1, rfl, h1, hb1⟩
    have X1 : Hid (w1.heap[w.heap.size]? = some (.cells #[.int .i64 fk, .string nm, .int .i64 op, .slice pv nv cv, .slice pt nt ct, .int .i64 lo, .int .i64 fhi, .bool o, .slice ps ns cs, .slice pr nr cr] 29 (0, 0))) := (hb1.block w.heap.size (by simp)).trans (heap_allocA w _)
    have B1 : Below w.heap.size w w1 := ((Below.refl _ _).alloc (Nat.le_refl _) _).trans (hb1.mono (by simp))
    have B10 : Below w0.heap.size w0 w1 := hw.trans (B1.mono hw0)
    obtain ⟨p1, c1, rfl, -⟩ := h1.cap
    obtain ⟨nf, enf⟩ : ∃ n : Nat, Hid (FV0.length = n) := ⟨_, rfl⟩
    rw [enf.out] at HI2 hfl ⊢
    clear h1 hb1 cV
    by_cases h8 : nf ≤ 8
    case neg =>
      have h8' : (8 : Int) < nf := by omega
      have hB : Hid (BB = false) := by
        have h := HI2.out
        cases hbb : BB with
        | false => exact rfl
        | true => rw [hbb] at h; exact absurd (h.1 rfl).1 h8
      go_wp2
      go_ret
      exact ⟨ret_bool hB.out.symm, B1⟩
    have h8' : ¬ (8 : Int) < nf := by omega
    obtain ⟨e0, e1, e2, e3, e4, e5, e6, e7, e8, e9⟩ := box10 X1.out
    go_wp2_with fail
    refine (cPt.out _ B10).mono ?_
    rintro e w3 ⟨v6, rfl, h6, hb6⟩
    have P3 : Hid (PtsAt w0 w3 v6 (ptsF f)) := h6.pts (by have := enp.out; omega)
    have B3 : Below w.heap.size w w3 := B1.trans (hb6.mono B1.size)
    clear h6 hb6 X1 B1 B10 cPt e0 e1 e2 e3 e4 e5 e6 e7 e8 e9
    obtain ⟨p6, c6, rfl, hl6, hc6, HP6⟩ := P3.out
    have HPP : Hid (_) := HP6
    clear P3 HP6
    rw [enp.out] at hl6 hc6 ⊢
    go_wp2
    go_loopw [5] (fun v wr => ∃ k : Nat, k ≤ np ∧ v = .int .i64 k ∧ Hid (∀ i (hi : i < (ptsF f).length), i < k → (fre (ptsF f)[i]).2 ≤ 8) ∧ Hid (Below w3.heap.size w3 wr)) (fun v _ => np - (intOf v).toNat)
    case atStart => exact ⟨0, Nat.zero_le _, rfl, (fun i hi h => by omega), Below.refl _ _⟩
    case round =>
      obtain ⟨k, hk, rfl, hAll, hBr⟩ := hrel
      have Bw : Below w.heap.size w wr := B3.trans (hBr.out.mono B3.size)
      by_cases hlt : k < np
      case neg =>
        have c2 : ¬ (k : Int) < np := by omega
        have hB : Hid (BB = true) := HI2.out.2 ⟨h8, fun i hi => hAll.out i hi (by have := enp.out; omega)⟩
        go_wp2
        go_ret
        exact ⟨ret_bool hB.out.symm, Bw⟩
      have hlt' : (k : Int) < np := by omega
      have kx : k < (ptsF f).length := by have := enp.out; omega
      obtain ⟨b, off, z, rfl, hb, TC, QZ⟩ := HPP.out k kx
      have B0r : Below w0.heap.size w0 wr := hw.trans (Bw.mono hw0)
      obtain ⟨a0, a1, a2, a3, a4, a5, a6, a7, a8, a9⟩ := TC.below hBr.out hb
      have cI := IHp.out k kx z wr QZ B0r
      obtain ⟨N1, N2, N3, N4⟩ := QZ
      obtain ⟨zv, zt, zs, zr⟩ := z
      dsimp only at N1 N2 N3 N4 a0 a1 a2 a3 a4 a5 a6 a7 a8 a9
      have HN : Hid ((fre (ptsF f)[k]).2 ≤ 8 → ∀ i (hi : i < (ptsF f).length), i < k + 1 → (fre (ptsF f)[i]).2 ≤ 8) := fun h i hi hik => by
        by_cases e : i = k
        · subst e; exact h
        · exact hAll.out i hi (by omega)
      have HNo : Hid (¬ (fre (ptsF f)[k]).2 ≤ 8 → BB = false) := fun h => by
        have h2 := HI2.out
        cases hbb : BB with
        | false => exact rfl
        | true => rw [hbb] at h2; exact absurd ((h2.1 rfl).2 k kx) h
      obtain ⟨q8, eq8⟩ : ∃ q : Nat, Hid ((fre (ptsF f)[k]).2 = q) := ⟨(fre (ptsF f)[k]).2, (show _ = _ from rfl)⟩
      rw [eq8.out] at HN HNo
      have CI : Hid (Calls Tryz.prog 31 #[.agg #[.int .i64 (ptsF f)[k].k, .string (ptsF f)[k].nm, .int .i64 (ptsF f)[k].op, zv, zt, .int .i64 (ptsF f)[k].lo, .int .i64 (ptsF f)[k].hi, .bool (ptsF f)[k].opn, zs, zr]] wr fun e w' => e = .returned (.bool (decide (q8 ≤ 8))) ∧ Below wr.heap.size wr w') := by rw [← eq8.out]; exact cI
      obtain ⟨-, q1, d1, rfl, -⟩ := N1
      obtain ⟨q2, d2, rfl, -⟩ := N2.form
      obtain ⟨q3, d3, rfl, -⟩ := N3.form
      obtain ⟨q4, d4, rfl, -⟩ := N4.form
      clear TC N2 N3 N4 cI eq8 hAll
      generalize (ptsF f)[k].k = Y0 at *
      generalize (ptsF f)[k].nm = Y1 at *
      generalize (ptsF f)[k].op = Y2 at *
      generalize (ptsF f)[k].lo = Y3 at *
      generalize (ptsF f)[k].hi = Y4 at *
      generalize (ptsF f)[k].opn = Y5 at *
      generalize (ptsF f)[k].vars.length = L1 at *
      generalize (ptsF f)[k].terms.length = L2 at *
      generalize (ptsF f)[k].subs.length = L3 at *
      generalize (ptsF f)[k].rgx.length = L4 at *
      go_wp2_with fail
      refine CI.out.mono ?_
      rintro e w4 ⟨rfl, hb4⟩
      have K4 : Hid (Below w3.heap.size w3 w4) := hBr.out.trans (hb4.mono hBr.out.size)
      have B4 : Below w.heap.size w w4 := Bw.trans (hb4.mono Bw.size)
      clear CI hb4 hBr a0 a1 a2 a3 a4 a5 a6 a7 a8 a9
      by_cases hq : q8 ≤ 8
      · have e8 : decide (q8 ≤ 8) = true := decide_eq_true hq
        rw [e8]
        have hA : Hid (_) := HN.out hq
        go_wp2
        exact ⟨⟨k + 1, by omega, by go_num, hA, K4⟩, by simp [intOf]; omega⟩
      · have e8 : decide (q8 ≤ 8) = false := decide_eq_false hq
        rw [e8]
        have hB := HNo.out hq
        have HB : Hid (BB = false) := hB
        clear hB
        go_wp2
        go_ret
        exact ⟨ret_bool HB.out.symm, B4⟩
set_option maxRecDepth 100000 in
set_option maxHeartbeats 8000000 in
theorem rcheck_fm (f : Fm) (y : FQ) (w : World) (hQ : QAt w (f, y)) :
    Calls Tryz.prog 9 #[.agg #[.int .i64 f.k, .string f.nm, .int .i64 f.op, y.v, y.t, .int .i64 f.lo, .int .i64 f.hi, .bool f.opn, y.s, y.r]] w fun e w' => e = .returned (.int .i64 (chkF f)) ∧ Below w.heap.size w w' := by
  have HQ : Hid (QAt w (f, y)) := hQ
  have cF : Hid (∀ (W : World) (q : Nat), Below w.heap.size w W → w.heap.size ≤ q → WK W q 0 0 0 → Calls Tryz.prog 30 #[.pointer (some ⟨q, 0, none⟩), .agg #[.int .i64 f.k, .string f.nm, .int .i64 f.op, y.v, y.t, .int .i64 f.lo, .int .i64 f.hi, .bool f.opn, y.s, y.r], .int .i64 1] W fun r w' => (∃ v, r = .returned v) ∧ Hid (KeepT q W w' ∧ WQ w' q (frun 1 (0, 0) f))) := fun W q hW hq h => rformula_walk w q hq f y HQ.out W hW h
  have cW : Hid ((frun 1 (0, 0) f).1 = 0 → ∀ W : World, Below w.heap.size w W → Calls Tryz.prog 31 #[.agg #[.int .i64 f.k, .string f.nm, .int .i64 f.op, y.v, y.t, .int .i64 f.lo, .int .i64 f.hi, .bool f.opn, y.s, y.r]] W fun e w' => e = .returned (.bool (decide ((fre f).2 ≤ 8))) ∧ Below W.heap.size W w') := fun h W hW => rfew_any w _ f y W (Nat.lt_succ_self _) (run_good h).2 (run_good h).1 HQ.out hW
  have HC : Hid (chkF f = if (frun 1 (0, 0) f).1 = 0 then (if 8 < (fre f).2 then 30 else 0) else (frun 1 (0, 0) f).1) := rfl
  obtain ⟨RR, eRR⟩ : ∃ R : Int × (Int × Int), Hid (frun 1 (0, 0) f = R) := ⟨_, rfl⟩
  rw [eRR.out] at cF cW HC
  obtain ⟨CK, eCK⟩ : ∃ C : Int, Hid (chkF f = C) := ⟨_, rfl⟩
  rw [eCK.out] at HC ⊢
  obtain ⟨F2, eF2⟩ : ∃ n : Nat, Hid ((fre f).2 = n) := ⟨_, rfl⟩
  rw [eF2.out] at HC cW
  clear eRR eCK eF2
  obtain ⟨uv, ut, us, ur⟩ := y
  obtain ⟨h1, h2, h3, h4⟩ := hQ
  dsimp only at h1 h2 h3 h4 cF cW ⊢
  obtain ⟨-, pv, cv, rfl, -, -⟩ := h1
  obtain ⟨pt, ct, rfl, -⟩ := h2.form
  obtain ⟨ps, cs, rfl, -⟩ := h3.form
  obtain ⟨pr, cr, rfl, -⟩ := h4.form
  clear h2 h3 h4
  generalize f.vars.length = nv at *
  generalize f.terms.length = nt at *
  generalize f.subs.length = ns at *
  generalize f.rgx.length = nr at *
  generalize f.lo = lo at *
  generalize f.hi = fhi at *
  generalize f.nm = nm at *
  generalize f.opn = o at *
  generalize f.op = op at *
  generalize f.k = fk at *
  obtain ⟨w1, ew1⟩ : ∃ w1, w1 = (w.alloc (.cells #[.int .i64 fk, .string nm, .int .i64 op, .slice pv nv cv, .slice pt nt ct, .int .i64 lo, .int .i64 fhi, .bool o, .slice ps ns cs, .slice pr nr cr] 29)).alloc (.cells #[.int .i64 0, .int .i64 0, .int .i64 0] 61) := ⟨_, rfl⟩
  have X1 : Hid (w1.heap[w.heap.size]? = some (.cells #[.int .i64 fk, .string nm, .int .i64 op, .slice pv nv cv, .slice pt nt ct, .int .i64 lo, .int .i64 fhi, .bool o, .slice ps ns cs, .slice pr nr cr] 29 (0, 0))) := by rw [ew1]; exact (Below.heap_alloc _ _ _ (by simp)).trans (heap_allocA w _)
  have K1 : Hid (WK w1 (w.heap.size + 1) 0 0 0) := by
    rw [ew1]
    have h := heap_allocA (w.alloc (.cells #[.int .i64 fk, .string nm, .int .i64 op, .slice pv nv cv, .slice pt nt ct, .int .i64 lo, .int .i64 fhi, .bool o, .slice ps ns cs, .slice pr nr cr] 29)) (.cells #[.int .i64 0, .int .i64 0, .int .i64 0] 61)
    simp only [World.size_alloc] at h
    exact h
  have B1 : Below w.heap.size w w1 := by rw [ew1]; exact ((Below.refl _ _).alloc (Nat.le_refl _) _).alloc (by simp) _
  go_enter Tryz.func9, Tryz.ntmps9
  go_upto_region 2 with fail
  rw [← ew1]
  clear ew1
  obtain ⟨e0, e1, e2, e3, e4, e5, e6, e7, e8, e9⟩ := box10 X1.out
  go_wp2_with fail
  refine (cF.out w1 (w.heap.size + 1) B1 (by omega) K1.out).mono ?_
  rintro r w2 ⟨⟨v2, rfl⟩, h2⟩
  obtain ⟨hK2, N, M, hW2, hNM⟩ := h2.out
  have HW2 : Hid (WK w2 (w.heap.size + 1) N M RR.1) := hW2
  have hsz1 : w.heap.size < w1.heap.size := blkL X1.out
  have X2 : Hid (_) := (hK2.block w.heap.size hsz1 (by omega)).trans X1.out
  have B2 : Below w.heap.size w w2 := B1.trans (hK2.below (by omega) (by have := hW2.lt; have := K1.out.lt; omega))
  clear h2 hK2 hW2 hNM cF K1 X1 B1 e0 e1 e2 e3 e4 e5 e6 e7 e8 e9 hsz1
  have y2 : w2.cell? ⟨w.heap.size + 1, 2, none⟩ = some (.int .i64 RR.1) := HW2.out.e
  obtain ⟨E, eE⟩ : ∃ E : Int, Hid (RR.1 = E) := ⟨_, rfl⟩
  rw [eE.out] at y2 cW HC
  clear HW2 eE
  by_cases hE : E = 0
  case neg =>
    have hE' : (E == 0) = false := by simpa using hE
    have hE'' : (E != 0) = true := by simpa using hE
    have hR : Hid (CK = E) := by have h := HC.out; rw [if_neg hE] at h; exact h
    go_wp2
    go_ret
    exact ⟨retI hR.out.symm, B2⟩
  subst hE
  have CW := cW.out rfl
  have CW : Hid (_) := CW
  have HC2 : Hid (CK = if 8 < F2 then 30 else 0) := by have h := HC.out; rw [if_pos rfl] at h; exact h
  clear cW HC
  obtain ⟨e0, e1, e2, e3, e4, e5, e6, e7, e8, e9⟩ := box10 X2.out
  go_wp2_with fail
  refine (CW.out w2 B2).mono ?_
  rintro e w3 ⟨rfl, hb3⟩
  have B3 : Below w.heap.size w w3 := B2.trans (hb3.mono B2.size)
  clear hb3 CW B2 X2 e0 e1 e2 e3 e4 e5 e6 e7 e8 e9 y2
  by_cases hF : F2 ≤ 8
  · have eF : decide (F2 ≤ 8) = true := decide_eq_true hF
    rw [eF]
    have hR : Hid (CK = 0) := by have h := HC2.out; rw [if_neg (by omega)] at h; exact h
    go_wp2
    go_ret
    exact ⟨retI hR.out.symm, B3⟩
  · have eF : decide (F2 ≤ 8) = false := decide_eq_false hF
    rw [eF]
    have hR : Hid (CK = 30) := by have h := HC2.out; rw [if_pos (by omega)] at h; exact h
    go_wp2
    go_ret
    exact ⟨retI hR.out.symm, B3⟩
end Go.Proofs.YtfajjphfjilpnaaGreat

namespace Go.Proofs.YtfajjphfjilpnaaGreat
open Go.RowKit LX Go.Shelf
set_option linter.unusedVariables false

/-- What the document's Part tells: what it tells lies where the formula's parts lie. -/
def RPartOut (wB w : World) (f : Fm) (ns : List Int) (r : Ending) (w' : World) : Prop := Below w.heap.size w w' ∧ ((¬ chkF f = 0 ∧ r = .returned (.tuple #[.agg #[.int .i64 0, .string ⟨#[]⟩, .int .i64 0, .slice none 0 0, .slice none 0 0, .int .i64 0, .int .i64 0, .bool false, .slice none 0 0, .slice none 0 0], .int .i64 (chkF f)])) ∨
  (chkF f = 0 ∧ partP f ns = none ∧ r = .returned (.tuple #[.agg #[.int .i64 0, .string ⟨#[]⟩, .int .i64 0, .slice none 0 0, .slice none 0 0, .int .i64 0, .int .i64 0, .bool false, .slice none 0 0, .slice none 0 0], .int .i64 5])) ∨
  (chkF f = 0 ∧ ∃ g q, partP f ns = some g ∧ r = .returned (.tuple #[.agg #[.int .i64 g.k, .string g.nm, .int .i64 g.op, q.v, q.t, .int .i64 g.lo, .int .i64 g.hi, .bool g.opn, q.s, q.r], .int .i64 0]) ∧ QAt wB (g, q)))
set_option maxRecDepth 100000 in
set_option maxHeartbeats 8000000 in
theorem rpart_fm (wB : World) (f : Fm) (q : FQ) (w : World) (hB0 : Below wB.heap.size wB w) (hq : QAt wB (f, q)) (V : Value) (ns : List Int) (hV : PthAt w V ns) :
    Calls Tryz.prog 18 #[.agg #[.int .i64 f.k, .string f.nm, .int .i64 f.op, q.v, q.t, .int .i64 f.lo, .int .i64 f.hi, .bool f.opn, q.s, q.r], V] w (RPartOut wB w f ns) := by
  have cK : Hid (∀ W : World, Below w.heap.size w W → Calls Tryz.prog 9 #[.agg #[.int .i64 f.k, .string f.nm, .int .i64 f.op, q.v, q.t, .int .i64 f.lo, .int .i64 f.hi, .bool f.opn, q.s, q.r]] W fun r w' => r = .returned (.int .i64 (chkF f)) ∧ Below W.heap.size W w') := fun W hW => rcheck_fm f q W (hq.below (hB0.trans (hW.mono hB0.size)))
  have cP : Hid (∀ (g : Fm) (r : FQ) (W : World), QAt wB (g, r) → wfF g ∧ nodF g ≤ 256 ∧ lgF g → Below w.heap.size w W → Calls Tryz.prog 47 #[.agg #[.int .i64 g.k, .string g.nm, .int .i64 g.op, r.v, r.t, .int .i64 g.lo, .int .i64 g.hi, .bool g.opn, r.s, r.r]] W fun e w' => ∃ v, e = .returned v ∧ PtsAt wB w' v (ptsF g) ∧ Below W.heap.size W w') := fun g r W h1 h2 hW => by
    have hE : fmE g = 0 := by have h := h2.1; rw [wfF_eq] at h; exact h.1
    have hpa := pts_app hE
    have hpl : (ptsF g).length ≤ 256 := by have := nodFs_len (ptsF g); have := pts_nod g; omega
    have h := rparts_any wB g r h1 W (hB0.trans (hW.mono hB0.size)) (by rw [← List.length_append, hpa]; omega)
    rw [hpa] at h
    refine h.mono ?_
    rintro e w' ⟨v, e1, h3, h4⟩
    exact ⟨v, e1, h3.pts (by omega), h4⟩
  have HQ : Hid (QAt wB (f, q)) := hq
  obtain ⟨lp, p, c, rfl, hc, HX0⟩ := hV
  have HX : Hid (∀ i (hi : i < ns.length), ∃ b off, p = some ⟨b, off, none⟩ ∧ b < w.heap.size ∧ w.cell? ⟨b, off + i, none⟩ = some (.int .i64 ns[i])) := HX0
  obtain ⟨PO, ePO⟩ : ∃ PO, Hid (RPartOut wB w f ns = PO) := ⟨_, rfl⟩
  rw [ePO.out]
  have hPO1 : Hid (∀ r w', Below w.heap.size w w' → ¬ chkF f = 0 → r = .returned (.tuple #[.agg #[.int .i64 0, .string ⟨#[]⟩, .int .i64 0, .slice none 0 0, .slice none 0 0, .int .i64 0, .int .i64 0, .bool false, .slice none 0 0, .slice none 0 0], .int .i64 (chkF f)]) → PO r w') := fun r w' h1 h2 h3 => by
    rw [← ePO.out]
    exact ⟨h1, Or.inl ⟨h2, h3⟩⟩
  have hPO2 : Hid (∀ r w', Below w.heap.size w w' → chkF f = 0 → partP f ns = none → r = .returned (.tuple #[.agg #[.int .i64 0, .string ⟨#[]⟩, .int .i64 0, .slice none 0 0, .slice none 0 0, .int .i64 0, .int .i64 0, .bool false, .slice none 0 0, .slice none 0 0], .int .i64 5]) → PO r w') := fun r w' h1 h2 h3 h4 => by
    rw [← ePO.out]
    exact ⟨h1, Or.inr (Or.inl ⟨h2, h3, h4⟩)⟩
  have hPO3 : Hid (∀ r w' g q, Below w.heap.size w w' → chkF f = 0 → partP f ns = some g → r = .returned (.tuple #[.agg #[.int .i64 g.k, .string g.nm, .int .i64 g.op, q.v, q.t, .int .i64 g.lo, .int .i64 g.hi, .bool g.opn, q.s, q.r], .int .i64 0]) → QAt wB (g, q) → PO r w') := fun r w' g q h1 h2 h3 h4 h5 => by
    rw [← ePO.out]
    exact ⟨h1, Or.inr (Or.inr ⟨h2, g, q, h3, h4, h5⟩)⟩
  have HG : Hid (chkF f = 0 → wfF f ∧ nodF f ≤ 256 ∧ lgF f) := fun h => ⟨(chk_good h).1, (chk_good h).2, chk_lg h⟩
  clear HX0 hq ePO
  obtain ⟨uv, ut, us, ur⟩ := q
  obtain ⟨h1, h2, h3, h4⟩ := HQ.out
  dsimp only at h1 h2 h3 h4 cK ⊢
  obtain ⟨-, pv, cv, rfl, -, -⟩ := h1
  obtain ⟨pt, ct, rfl, -⟩ := h2.form
  obtain ⟨ps, cs, rfl, -⟩ := h3.form
  obtain ⟨pr, cr, rfl, -⟩ := h4.form
  clear h2 h3 h4
  obtain ⟨n, en⟩ : ∃ n : Nat, Hid (ns.length = n) := ⟨_, rfl⟩
  rw [en.out] at lp hc ⊢
  go_enter Tryz.func18, Tryz.ntmps18
  go_wp2_with fail
  refine (cK.out _ (by go_grown)).mono ?_
  rintro r w1 ⟨rfl, hb1⟩
  have hB1 : Below w.heap.size w w1 := Below.trans (by go_grown) (hb1.mono (by first | (simp; done) | (simp; omega)))
  have X0 : BoxF w1 w.heap.size f ⟨.slice pv f.vars.length cv, .slice pt f.terms.length ct, .slice ps f.subs.length cs, .slice pr f.rgx.length cr⟩ := (hb1.block w.heap.size (by simp; omega)).trans ((Below.heap_alloc _ _ _ (by simp)).trans (heap_allocA w _))
  have Y0 : BoxF w1 (w.heap.size + 1) fm0 fq0 := (hb1.block (w.heap.size + 1) (by simp)).trans (by have h := heap_allocA (w.alloc (Obj.cells #[.int .i64 f.k, .string f.nm, .int .i64 f.op, .slice pv f.vars.length cv, .slice pt f.terms.length ct, .int .i64 f.lo, .int .i64 f.hi, .bool f.opn, .slice ps f.subs.length cs, .slice pr f.rgx.length cr] 29)) (Obj.cells #[.int .i64 0, .string ⟨#[]⟩, .int .i64 0, .slice none 0 0, .slice none 0 0, .int .i64 0, .int .i64 0, .bool false, .slice none 0 0, .slice none 0 0] 29); rw [alloc_size] at h; exact h)
  have HX0 : Hid (BoxF w1 w.heap.size f ⟨.slice pv f.vars.length cv, .slice pt f.terms.length ct, .slice ps f.subs.length cs, .slice pr f.rgx.length cr⟩) := X0
  have HY0 : Hid (BoxF w1 (w.heap.size + 1) fm0 fq0) := Y0
  clear hb1 cK X0 Y0
  by_cases hE : chkF f = 0
  case neg =>
    have hE' : (chkF f != 0) = true := by simp [hE]
    obtain ⟨z0, z1, z2, z3, z4, z5, z6, z7, z8, z9⟩ := box10 (show w1.heap[w.heap.size + 1]? = some (.cells #[.int .i64 0, .string ⟨#[]⟩, .int .i64 0, .slice none 0 0, .slice none 0 0, .int .i64 0, .int .i64 0, .bool false, .slice none 0 0, .slice none 0 0] 29 (0, 0)) from HY0.out)
    obtain ⟨zf0, zf1, zf2, zf3, zf4, zf5, zf6, zf7, zf8, zf9⟩ := frz10 (fun i => BoxF.fz HY0.out i)
    have HNE : Hid (¬ chkF f = 0) := hE
    clear hE
    generalize chkF f = CK at *
    go_wp2
    refine bodyPost_ret (by simp [results, Tryz.results18, go_sem, z0, z1, z2, z3, z4, z5, z6, z7, z8, z9]; try rfl) rfl ?_
    exact hPO1.out _ _ (hB1.trans (by go_grown)) HNE.out rfl
  have HG0 := HG.out hE
  have HE : Hid (chkF f = 0) := hE
  rw [hE]
  clear hE HG hPO1
  have hW0 : Hid (wfF f ∧ nodF f ≤ 256 ∧ lgF f) := HG0
  clear HG0
  go_wp2
  go_loopw [7] (fun v wr => ∃ (k : Nat) (g : Fm) (r : FQ), k ≤ n ∧ v = .int .i64 k ∧ Hid (partP f ns = partP g (ns.drop k)) ∧ Hid (wfF g ∧ nodF g ≤ 256 ∧ lgF g) ∧ Hid (QAt wB (g, r)) ∧ Hid (BoxF wr w.heap.size g r) ∧ Hid (BoxF wr (w.heap.size + 1) fm0 fq0) ∧ Below w.heap.size w wr) (fun v _ => n - (intOf v).toNat)
  case atStart => exact ⟨0, f, ⟨.slice pv f.vars.length cv, .slice pt f.terms.length ct, .slice ps f.subs.length cs, .slice pr f.rgx.length cr⟩, Nat.zero_le _, rfl, (show _ = _ by simp), hW0, HQ, HX0, HY0, hB1⟩
  case round =>
    obtain ⟨k, g, r, hk, rfl, hP, hW, hq, hX, hY, hB⟩ := hrel
    have hsz := hB.size
    have hz1 : w.heap.size + 1 < wr.heap.size := hY.out.lt
    obtain ⟨uv, ut, us, ur⟩ := r
    obtain ⟨h1, h2, h3, h4⟩ := hq.out
    dsimp only at h1 h2 h3 h4
    obtain ⟨-, pv, cv, rfl, -, -⟩ := h1
    obtain ⟨pt, ct, rfl, -⟩ := h2.form
    obtain ⟨ps, cs, rfl, -⟩ := h3.form
    obtain ⟨pr, cr, rfl, -⟩ := h4.form
    have cP1 : Hid (∀ W : World, Below w.heap.size w W → Calls Tryz.prog 47 #[.agg #[.int .i64 g.k, .string g.nm, .int .i64 g.op, .slice pv g.vars.length cv, .slice pt g.terms.length ct, .int .i64 g.lo, .int .i64 g.hi, .bool g.opn, .slice ps g.subs.length cs, .slice pr g.rgx.length cr]] W fun e w' => ∃ v, e = .returned v ∧ PtsAt wB w' v (ptsF g) ∧ Below W.heap.size W w') := fun W hW' => cP.out g ⟨.slice pv g.vars.length cv, .slice pt g.terms.length ct, .slice ps g.subs.length cs, .slice pr g.rgx.length cr⟩ W hq.out hW.out hW'
    have hBX : Hid (∀ W : World, W.heap[w.heap.size]? = wr.heap[w.heap.size]? → W.heap[w.heap.size]? = some (.cells #[.int .i64 g.k, .string g.nm, .int .i64 g.op, .slice pv g.vars.length cv, .slice pt g.terms.length ct, .int .i64 g.lo, .int .i64 g.hi, .bool g.opn, .slice ps g.subs.length cs, .slice pr g.rgx.length cr] 29 (0, 0))) := fun W h => h.trans hX.out
    have hPO4 : Hid (∀ r w' q, Below w.heap.size w w' → partP f ns = some g → r = .returned (.tuple #[.agg #[.int .i64 g.k, .string g.nm, .int .i64 g.op, q.v, q.t, .int .i64 g.lo, .int .i64 g.hi, .bool g.opn, q.s, q.r], .int .i64 0]) → QAt wB (g, q) → PO r w') := fun r w' q h1 h3 h4 h5 => hPO3.out r w' g q h1 HE.out h3 h4 h5
    have hput : Hid (∀ (W : World) (g' : Fm) (r' : FQ), W.heap[w.heap.size]? = wr.heap[w.heap.size]? → BoxF ((((((((((W.setCell ⟨w.heap.size, 0, none⟩ (Value.int .i64 g'.k)).setCell ⟨w.heap.size, 1, none⟩ (Value.string g'.nm)).setCell ⟨w.heap.size, 2, none⟩ (Value.int .i64 g'.op)).setCell ⟨w.heap.size, 3, none⟩ (r'.v)).setCell ⟨w.heap.size, 4, none⟩ (r'.t)).setCell ⟨w.heap.size, 5, none⟩ (Value.int .i64 g'.lo)).setCell ⟨w.heap.size, 6, none⟩ (Value.int .i64 g'.hi)).setCell ⟨w.heap.size, 7, none⟩ (Value.bool g'.opn)).setCell ⟨w.heap.size, 8, none⟩ (r'.s)).setCell ⟨w.heap.size, 9, none⟩ (r'.r)) w.heap.size g' r') := fun W g' r' h => BoxF.put (hX.out.at h)
    clear h2 h3 h4
    obtain ⟨nv, env⟩ : ∃ n : Nat, Hid (g.vars.length = n) := ⟨_, rfl⟩
    obtain ⟨nt, ent⟩ : ∃ n : Nat, Hid (g.terms.length = n) := ⟨_, rfl⟩
    obtain ⟨ns0, ens⟩ : ∃ n : Nat, Hid (g.subs.length = n) := ⟨_, rfl⟩
    obtain ⟨nr, enr⟩ : ∃ n : Nat, Hid (g.rgx.length = n) := ⟨_, rfl⟩
    rw [env.out, ent.out, ens.out, enr.out] at cP1 hBX
    generalize g.k = k0 at *
    generalize g.nm = nm at *
    generalize g.op = op at *
    generalize g.lo = lo at *
    generalize g.hi = hi at *
    generalize g.opn = o at *
    by_cases hlt : k < n
    case neg =>
      have c2 : ¬ (k : Int) < n := by omega
      have hP2 : Hid (partP f ns = some g) := by
        have h := hP.out
        rw [List.drop_eq_nil_of_le (by have := en.out; omega), partP] at h
        exact h
      obtain ⟨e0, e1, e2, e3, e4, e5, e6, e7, e8, e9⟩ := box10 (hBX.out wr rfl)
      obtain ⟨z0, z1, z2, z3, z4, z5, z6, z7, z8, z9⟩ := box10 (show wr.heap[w.heap.size + 1]? = some (.cells #[.int .i64 0, .string ⟨#[]⟩, .int .i64 0, .slice none 0 0, .slice none 0 0, .int .i64 0, .int .i64 0, .bool false, .slice none 0 0, .slice none 0 0] 29 (0, 0)) from hY.out)
      obtain ⟨zf0, zf1, zf2, zf3, zf4, zf5, zf6, zf7, zf8, zf9⟩ := frz10 (fun i => BoxF.fz hY.out i)
      have HQ5 : Hid (QAt wB (g, ⟨.slice pv nv cv, .slice pt nt ct, .slice ps ns0 cs, .slice pr nr cr⟩)) := by
        have h := hq.out
        rw [env.out, ent.out, ens.out, enr.out] at h
        exact h
      clear cP1 hput hq
      go_wp2
      refine bodyPost_ret (by simp [results, Tryz.results18, go_sem, z0, z1, z2, z3, z4, z5, z6, z7, z8, z9]; try rfl) rfl ?_
      exact hPO4.out _ _ ⟨.slice pv nv cv, .slice pt nt ct, .slice ps ns0 cs, .slice pr nr cr⟩ (hB.trans (by go_grown)) hP2.out rfl HQ5.out
    have hlt' : (k : Int) < n := by omega
    have kx : k < ns.length := by have := en.out; omega
    obtain ⟨b, off, rfl, hb, a0⟩ := HX.out k kx
    have a1 := (hB.cell (p := ⟨b, off + k, none⟩) hb).trans a0
    have hP3 : Hid (partP f ns = partP g (ns[k] :: ns.drop (k + 1))) := by
      have h := hP.out
      rw [List.drop_eq_getElem_cons kx] at h
      exact h
    have A0 : Hid (w.cell? ⟨b, off + k, none⟩ = some (.int .i64 ns[k])) := a0
    clear hP a0 a1
    generalize ns[k] = i at *
    obtain ⟨e0, e1, e2, e3, e4, e5, e6, e7, e8, e9⟩ := box10 (hBX.out wr rfl)
    go_wp2_with fail
    refine (cP1.out _ hB).mono ?_
    rintro e w2 ⟨v2, rfl, hPt, hb2⟩
    have hB2 : Below w.heap.size w w2 := hB.trans (hb2.mono hsz)
    have hn2 : w.heap.size + 1 < w2.heap.size := Nat.lt_of_lt_of_le hz1 hb2.size
    have a2 := (hB2.cell (p := ⟨b, off + k, none⟩) hb).trans A0.out
    have hY2 : Hid (BoxF w2 (w.heap.size + 1) fm0 fq0) := hY.out.bel hb2
    have hX2 : w2.heap[w.heap.size]? = wr.heap[w.heap.size]? := hb2.block _ (by omega)
    obtain ⟨pl, cl, rfl, ll, lc, HL0⟩ := hPt
    have HL : Hid (∀ i (hi : i < (ptsF g).length), ∃ b off q, pl = some ⟨b, off, none⟩ ∧ b < w2.heap.size ∧ FmC w2 b (off + i * 10) (ptsF g)[i] q.v q.t q.s q.r ∧ QAt wB ((ptsF g)[i], q)) := HL0
    have hfz : Hid (∀ i, w2.frozen? ⟨w.heap.size, i, none⟩ = false) := fun i => Lib.frozen_of_heap (hBX.out w2 hX2) i
    clear HL0 cP1 hb2 e0 e1 e2 e3 e4 e5 e6 e7 e8 e9
    obtain ⟨m, em⟩ : ∃ m : Nat, Hid ((ptsF g).length = m) := ⟨_, rfl⟩
    rw [em.out] at ll lc ⊢
    by_cases hi0 : i < 0
    · have hP4 : Hid (partP f ns = none) := hP3.out.trans (partP_neg hi0)
      obtain ⟨z0, z1, z2, z3, z4, z5, z6, z7, z8, z9⟩ := box10 (show w2.heap[w.heap.size + 1]? = some (.cells #[.int .i64 0, .string ⟨#[]⟩, .int .i64 0, .slice none 0 0, .slice none 0 0, .int .i64 0, .int .i64 0, .bool false, .slice none 0 0, .slice none 0 0] 29 (0, 0)) from hY2.out)
      obtain ⟨zf0, zf1, zf2, zf3, zf4, zf5, zf6, zf7, zf8, zf9⟩ := frz10 (fun i => BoxF.fz hY2.out i)
      go_wp2
      refine bodyPost_ret (by simp [results, Tryz.results18, go_sem, z0, z1, z2, z3, z4, z5, z6, z7, z8, z9]; try rfl) rfl ?_
      exact hPO2.out _ _ (hB2.trans (by go_grown)) HE.out hP4.out rfl
    by_cases him : (m : Int) ≤ i
    · have hP4 : Hid (partP f ns = none) := hP3.out.trans (partP_far hi0 (by rw [em.out]; exact him))
      obtain ⟨z0, z1, z2, z3, z4, z5, z6, z7, z8, z9⟩ := box10 (show w2.heap[w.heap.size + 1]? = some (.cells #[.int .i64 0, .string ⟨#[]⟩, .int .i64 0, .slice none 0 0, .slice none 0 0, .int .i64 0, .int .i64 0, .bool false, .slice none 0 0, .slice none 0 0] 29 (0, 0)) from hY2.out)
      obtain ⟨zf0, zf1, zf2, zf3, zf4, zf5, zf6, zf7, zf8, zf9⟩ := frz10 (fun i => BoxF.fz hY2.out i)
      go_wp2
      refine bodyPost_ret (by simp [results, Tryz.results18, go_sem, z0, z1, z2, z3, z4, z5, z6, z7, z8, z9]; try rfl) rfl ?_
      exact hPO2.out _ _ (hB2.trans (by go_grown)) HE.out hP4.out rfl
    obtain ⟨j, rfl⟩ : ∃ j : Nat, i = j := ⟨i.toNat, by omega⟩
    have jx : j < (ptsF g).length := by have := em.out; omega
    have hjm : (j : Int) < m := by omega
    obtain ⟨b2, off2, ⟨uv2, ut2, us2, ur2⟩, rfl, hb2, FC, hq2⟩ := HL.out j jx
    obtain ⟨c0, c1, c2, c3, c4, c5, c6, c7, c8, c9⟩ := FC
    have hP5 : Hid (partP f ns = partP (ptsF g)[j] (ns.drop (k + 1))) := hP3.out.trans (partP_in jx)
    have hW5 : Hid (wfF (ptsF g)[j] ∧ nodF (ptsF g)[j] ≤ 256 ∧ lgF (ptsF g)[j]) := by
      obtain ⟨x1, x2, x3⟩ := hW.out
      have y := pts_nod g
      have z := nodFs_get (ptsF g) j jx
      exact ⟨wfFs_get _ j jx (pts_ok x1), by omega, lgFs_get _ j jx (pts_lg x3)⟩
    have HQ5 : Hid (QAt wB ((ptsF g)[j], ⟨uv2, ut2, us2, ur2⟩)) := hq2
    obtain ⟨h1, h2, h3, h4⟩ := hq2
    dsimp only at h1 h2 h3 h4 c3 c4 c8 c9
    obtain ⟨-, pv2, cv2, rfl, -, -⟩ := h1
    obtain ⟨pt2, ct2, rfl, -⟩ := h2.form
    obtain ⟨ps2, cs2, rfl, -⟩ := h3.form
    obtain ⟨pr2, cr2, rfl, -⟩ := h4.form
    have hput2 : Hid (∀ W : World, W.heap[w.heap.size]? = wr.heap[w.heap.size]? → BoxF ((((((((((W.setCell ⟨w.heap.size, 0, none⟩ (Value.int .i64 (ptsF g)[j].k)).setCell ⟨w.heap.size, 1, none⟩ (Value.string (ptsF g)[j].nm)).setCell ⟨w.heap.size, 2, none⟩ (Value.int .i64 (ptsF g)[j].op)).setCell ⟨w.heap.size, 3, none⟩ (.slice pv2 (ptsF g)[j].vars.length cv2)).setCell ⟨w.heap.size, 4, none⟩ (.slice pt2 (ptsF g)[j].terms.length ct2)).setCell ⟨w.heap.size, 5, none⟩ (Value.int .i64 (ptsF g)[j].lo)).setCell ⟨w.heap.size, 6, none⟩ (Value.int .i64 (ptsF g)[j].hi)).setCell ⟨w.heap.size, 7, none⟩ (Value.bool (ptsF g)[j].opn)).setCell ⟨w.heap.size, 8, none⟩ (.slice ps2 (ptsF g)[j].subs.length cs2)).setCell ⟨w.heap.size, 9, none⟩ (.slice pr2 (ptsF g)[j].rgx.length cr2)) w.heap.size (ptsF g)[j] ⟨.slice pv2 (ptsF g)[j].vars.length cv2, .slice pt2 (ptsF g)[j].terms.length ct2, .slice ps2 (ptsF g)[j].subs.length cs2, .slice pr2 (ptsF g)[j].rgx.length cr2⟩) := fun W h => hput.out W (ptsF g)[j] ⟨.slice pv2 (ptsF g)[j].vars.length cv2, .slice pt2 (ptsF g)[j].terms.length ct2, .slice ps2 (ptsF g)[j].subs.length cs2, .slice pr2 (ptsF g)[j].rgx.length cr2⟩ h
    obtain ⟨d0, d1, d2, d3, d4, d5, d6, d7, d8, d9⟩ := box10 (hBX.out w2 hX2)
    clear h2 h3 h4 hput HL hBX hPO4 hP3 hW hq hX
    obtain ⟨ef0, ef1, ef2, ef3, ef4, ef5, ef6, ef7, ef8, ef9⟩ := frz10 hfz.out
    have hY5 : Hid (∀ W : World, W.heap[w.heap.size + 1]? = w2.heap[w.heap.size + 1]? → BoxF W (w.heap.size + 1) fm0 fq0) := fun W h => hY2.out.at h
    go_wp2
    refine ⟨⟨k + 1, (ptsF g)[j], ⟨.slice pv2 (ptsF g)[j].vars.length cv2, .slice pt2 (ptsF g)[j].terms.length ct2, .slice ps2 (ptsF g)[j].subs.length cs2, .slice pr2 (ptsF g)[j].rgx.length cr2⟩, by omega, by go_num, hP5, hW5, HQ5, hput2.out w2 hX2, hY5.out _ ?_, hB2.trans (by go_grown)⟩, by simp [intOf]; omega⟩
    (repeat rw [set_block (by omega)])

end Go.Proofs.YtfajjphfjilpnaaGreat

namespace Go.Proofs.YtfajjphfjilpnaaGreat
open Go.RowKit LX Go.Shelf
set_option linter.unusedVariables false

/-- A wiped formula's ten cells; a wiped regex's three. -/
def fzV : List Value := [.int .i64 77, .string ⟨#[]⟩, .int .i64 0, .slice none 0 0, .slice none 0 0, .int .i64 0, .int .i64 0, .bool false, .slice none 0 0, .slice none 0 0]
def rzV : List Value := [.int .i64 77, .slice none 0 0, .slice none 0 0]
/-- Cells written one behind the other. -/
def putCells (w : World) (k : Nat) : Nat → List Value → World
  | _, [] => w
  | o, v :: l => putCells (w.setCell ⟨k, o, none⟩ v) k (o + 1) l
def putA (c : Array Value) : Nat → List Value → Array Value
  | _, [] => c
  | o, v :: l => putA (c.setIfInBounds o v) (o + 1) l
theorem putA_size : ∀ (l : List Value) (c : Array Value) (o : Nat), (putA c o l).size = c.size
  | [], c, o => rfl
  | v :: l, c, o => by rw [putA, putA_size l]; simp
theorem putA_low : ∀ (l : List Value) (c : Array Value) (o m : Nat), m < o → (putA c o l)[m]? = c[m]?
  | [], c, o, m, _ => rfl
  | v :: l, c, o, m, h => by
    rw [putA, putA_low l _ _ _ (by omega), Array.getElem?_setIfInBounds_ne (by omega)]
theorem putA_high : ∀ (l : List Value) (c : Array Value) (o m : Nat), o + l.length ≤ m → (putA c o l)[m]? = c[m]?
  | [], c, o, m, _ => rfl
  | v :: l, c, o, m, h => by
    rw [List.length_cons] at h
    rw [putA, putA_high l _ _ _ (by omega), Array.getElem?_setIfInBounds_ne (by omega)]
theorem putA_in : ∀ (l : List Value) (c : Array Value) (o i : Nat), i < l.length → o + l.length ≤ c.size → (putA c o l)[o + i]? = l[i]?
  | [], c, o, i, h, _ => by simp at h
  | v :: l, c, o, 0, h, hs => by
    rw [List.length_cons] at hs
    rw [putA, putA_low l _ _ _ (by omega), Nat.add_zero, Array.getElem?_setIfInBounds_self_of_lt (by omega)]
    rfl
  | v :: l, c, o, i + 1, h, hs => by
    rw [List.length_cons] at h hs
    rw [putA, show o + (i + 1) = o + 1 + i by omega, putA_in l _ (o + 1) i (by omega) (by simp; omega)]
    simp
theorem put_heap : ∀ (l : List Value) (w : World) (k o : Nat) (c : Array Value) (T : Nat), w.heap[k]? = some (.cells c T (0, 0)) → (putCells w k o l).heap[k]? = some (.cells (putA c o l) T (0, 0))
  | [], w, k, o, c, T, h => h
  | v :: l, w, k, o, c, T, h => put_heap l _ k (o + 1) _ T (set_heapA h)
theorem put_other : ∀ (l : List Value) (w : World) (k o k' : Nat), k' ≠ k → (putCells w k o l).heap[k']? = w.heap[k']?
  | [], w, k, o, k', h => rfl
  | v :: l, w, k, o, k', h => (put_other l _ k (o + 1) k' h).trans (Below.heap_setCell _ _ _ _ h)
theorem put_fr : ∀ (l : List Value) (P : Nat → Prop) (a w : World) (k o : Nat), Fr P a w → P k → Fr P a (putCells w k o l)
  | [], P, a, w, k, o, h, hk => h
  | v :: l, P, a, w, k, o, h, hk => put_fr l P a _ k (o + 1) (h.setCell (Or.inl hk) v) hk
/-- What was there from B on, written over. -/
structure Spt (B : Nat) (w0 w : World) : Prop where
  fr : Fr (fun k => B ≤ k ∧ k < w0.heap.size) w0 w
  row : ∀ (k : Nat) (cur : Array Value) (T : Nat), B ≤ k → w0.heap[k]? = some (.cells cur T (0, 0)) → ∃ cur' : Array Value, w.heap[k]? = some (.cells cur' T (0, 0)) ∧ cur'.size = cur.size ∧ (T = 29 → ∀ j, (∀ i, i < 10 → cur'[j * 10 + i]? = cur[j * 10 + i]?) ∨ (∀ i, i < 10 → cur'[j * 10 + i]? = fzV[i]?)) ∧ (T = 76 → ∀ j, (∀ i, i < 3 → cur'[j * 3 + i]? = cur[j * 3 + i]?) ∨ (∀ i, i < 3 → cur'[j * 3 + i]? = rzV[i]?))
theorem Spt.refl (B : Nat) (w : World) : Spt B w w := ⟨Fr.refl _ _, fun k cur T _ h => ⟨cur, h, rfl, fun _ j => Or.inl fun _ _ => rfl, fun _ j => Or.inl fun _ _ => rfl⟩⟩
/-- New blocks don't matter. -/
theorem Spt.new {B : Nat} {w0 w w' : World} (h : Spt B w0 w) (hb : Below w.heap.size w w') : Spt B w0 w' :=
  ⟨h.fr.trans (Fr.of_below hb) (Q := fun _ => False) (fun i h => h.elim), fun k cur T hB h0 => by
    obtain ⟨c, h1, h2⟩ := h.row k cur T hB h0
    exact ⟨c, (hb.block k (lt_heap h1)).trans h1, h2⟩⟩
/-- Cells of another kind of row. -/
theorem Spt.put1 {B : Nat} {w0 w : World} (h : Spt B w0 w) {k o T : Nat} {c0 : Array Value} {l : List Value} (h0 : w0.heap[k]? = some (.cells c0 T (0, 0))) (hB : B ≤ k) (hF : T ≠ 29) (hR : T ≠ 76) : Spt B w0 (putCells w k o l) := by
  refine ⟨put_fr l _ _ _ k o h.fr ⟨hB, lt_heap h0⟩, fun k' cur T' hB' h0' => ?_⟩
  obtain ⟨c, h1, h2, h3, h4⟩ := h.row k' cur T' hB' h0'
  by_cases e : k' = k
  · subst e
    rw [h0] at h0'
    injection h0' with h0'
    injection h0' with e1 e2
    subst e2
    exact ⟨_, put_heap l _ _ o c T h1, by rw [putA_size, h2], fun e => absurd e hF, fun e => absurd e hR⟩
  · exact ⟨c, (put_other l _ _ _ _ e).trans h1, h2, h3, h4⟩
/-- A formula wiped. -/
theorem Spt.putF {B : Nat} {w0 w : World} (h : Spt B w0 w) {k j : Nat} {c0 : Array Value} (h0 : w0.heap[k]? = some (.cells c0 29 (0, 0))) (hB : B ≤ k) (hj : j * 10 + 10 ≤ c0.size) : Spt B w0 (putCells w k (j * 10) fzV) := by
  refine ⟨put_fr fzV _ _ _ k _ h.fr ⟨hB, lt_heap h0⟩, fun k' cur T' hB' h0' => ?_⟩
  obtain ⟨c, h1, h2, h3, h4⟩ := h.row k' cur T' hB' h0'
  by_cases e : k' = k
  · subst e
    rw [h0] at h0'
    injection h0' with h0'
    injection h0' with e1 e2
    subst e1 e2
    refine ⟨_, put_heap fzV _ _ _ c _ h1, by rw [putA_size, h2], fun e j' => ?_, fun e => absurd e (by decide)⟩
    have hl : fzV.length = 10 := rfl
    by_cases ej : j' = j
    · subst ej
      exact Or.inr fun i hi => putA_in fzV c _ i (by omega) (by rw [h2]; omega)
    · have hs : ∀ i, i < 10 → (putA c (j * 10) fzV)[j' * 10 + i]? = c[j' * 10 + i]? := fun i hi => by
        by_cases hlt : j' < j
        · exact putA_low fzV c _ _ (by omega)
        · exact putA_high fzV c _ _ (by omega)
      rcases h3 rfl j' with g | g
      · exact Or.inl fun i hi => (hs i hi).trans (g i hi)
      · exact Or.inr fun i hi => (hs i hi).trans (g i hi)
  · exact ⟨c, (put_other fzV _ _ _ _ e).trans h1, h2, h3, h4⟩
theorem Spt.putR {B : Nat} {w0 w : World} (h : Spt B w0 w) {k j : Nat} {c0 : Array Value} (h0 : w0.heap[k]? = some (.cells c0 76 (0, 0))) (hB : B ≤ k) (hj : j * 3 + 3 ≤ c0.size) : Spt B w0 (putCells w k (j * 3) rzV) := by
  refine ⟨put_fr rzV _ _ _ k _ h.fr ⟨hB, lt_heap h0⟩, fun k' cur T' hB' h0' => ?_⟩
  obtain ⟨c, h1, h2, h3, h4⟩ := h.row k' cur T' hB' h0'
  by_cases e : k' = k
  · subst e
    rw [h0] at h0'
    injection h0' with h0'
    injection h0' with e1 e2
    subst e1 e2
    refine ⟨_, put_heap rzV _ _ _ c _ h1, by rw [putA_size, h2], fun e => absurd e (by decide), fun e j' => ?_⟩
    have hl : rzV.length = 3 := rfl
    by_cases ej : j' = j
    · subst ej
      exact Or.inr fun i hi => putA_in rzV c _ i (by omega) (by rw [h2]; omega)
    · have hs : ∀ i, i < 3 → (putA c (j * 3) rzV)[j' * 3 + i]? = c[j' * 3 + i]? := fun i hi => by
        by_cases hlt : j' < j
        · exact putA_low rzV c _ _ (by omega)
        · exact putA_high rzV c _ _ (by omega)
      rcases h4 rfl j' with g | g
      · exact Or.inl fun i hi => (hs i hi).trans (g i hi)
      · exact Or.inr fun i hi => (hs i hi).trans (g i hi)
  · exact ⟨c, (put_other rzV _ _ _ _ e).trans h1, h2, h3, h4⟩
/-- A row of one's own: nothing, or a block. -/
theorem rowS_form {w : World} {e size n B : Nat} {v : Value} {xs : List Value} (h : w.ownsRow 0 e size v n xs) (pl : ∀ q, v.ownBlock = some q → B ≤ q) : ∃ p c, v = .slice p n c ∧ n ≤ c ∧ ∀ i, i < n → ∃ g cur, p = some ⟨g, 0, none⟩ ∧ B ≤ g ∧ w.heap[g]? = some (.cells cur e (0, 0)) ∧ n * size ≤ cur.size ∧ ∀ m, m < n * size → cur[m]? = xs[m]? := by
  obtain ⟨hl, ⟨e1, e2⟩ | ⟨g, cap, cur, rfl, -, hg, hn, -, hs, ht⟩⟩ := h
  · exact ⟨none, 0, by rw [e1, e2], by omega, fun i hi => by omega⟩
  · refine ⟨_, cap, rfl, hn, fun i hi => ⟨g, cur, rfl, pl g rfl, hg, ?_, fun m hm => ?_⟩⟩
    · rw [hs]; exact Nat.mul_le_mul_right _ hn
    · rw [← ht, List.getElem?_take, if_pos hm, Array.getElem?_toList]
end Go.Proofs.YtfajjphfjilpnaaGreat

namespace Go.Proofs.YtfajjphfjilpnaaGreat
open Go.RowKit LX Go.Shelf
set_option linter.unusedVariables false

/-- What spoil leaves behind it. -/
def SpOut (B : Nat) (w0 w : World) (e : Ending) (w' : World) : Prop := (∃ v, e = .returned v) ∧ Hid (Spt B w0 w' ∧ Fr (fun k => B ≤ k ∧ k < w0.heap.size) w w')
set_option maxRecDepth 100000 in
set_option maxHeartbeats 8000000 in
theorem spoil_no (B : Nat) (w0 w : World) (h : Spt B w0 w) : Calls Tryz.prog 19 #[.agg #[.int .i64 77, .string ⟨#[]⟩, .int .i64 0, .slice none 0 0, .slice none 0 0, .int .i64 0, .int .i64 0, .bool false, .slice none 0 0, .slice none 0 0]] w (SpOut B w0 w) := by
  have H : Hid (Spt B w0 w) := h
  clear h
  obtain ⟨w1, ew1⟩ : ∃ W, W = w.alloc (.cells #[.int .i64 77, .string ⟨#[]⟩, .int .i64 0, .slice none 0 0, .slice none 0 0, .int .i64 0, .int .i64 0, .bool false, .slice none 0 0, .slice none 0 0] 29) := ⟨_, rfl⟩
  have X1 : Hid (w1.heap[w.heap.size]? = some (.cells #[.int .i64 77, .string ⟨#[]⟩, .int .i64 0, .slice none 0 0, .slice none 0 0, .int .i64 0, .int .i64 0, .bool false, .slice none 0 0, .slice none 0 0] 29 (0, 0))) := by rw [ew1]; exact heap_allocA w _
  have H1 : Hid (Spt B w0 w1 ∧ Fr (fun k => B ≤ k ∧ k < w0.heap.size) w w1) := by rw [ew1]; exact ⟨H.out.new ((Below.refl _ _).alloc (Nat.le_refl _) _), Fr.of_below ((Below.refl _ _).alloc (Nat.le_refl _) _)⟩
  have e3 : w1.cell? ⟨w.heap.size, 3, none⟩ = some (.slice none 0 0) := by rw [Lib.cell_of_heap X1.out]; rfl
  have e4 : w1.cell? ⟨w.heap.size, 4, none⟩ = some (.slice none 0 0) := by rw [Lib.cell_of_heap X1.out]; rfl
  have e8 : w1.cell? ⟨w.heap.size, 8, none⟩ = some (.slice none 0 0) := by rw [Lib.cell_of_heap X1.out]; rfl
  have e9 : w1.cell? ⟨w.heap.size, 9, none⟩ = some (.slice none 0 0) := by rw [Lib.cell_of_heap X1.out]; rfl
  go_enter Tryz.func19, Tryz.ntmps19
  go_upto_region 1 with fail
  rw [← ew1]
  clear ew1 X1 H
  go_wp2
  go_loopw [2] (fun v wr => v = .int .i64 0 ∧ wr = w1) (fun _ _ => 0)
  case atStart => exact ⟨rfl, rfl⟩
  case round =>
    obtain ⟨rfl, rfl⟩ := hrel
    go_wp2
    go_loopw [3] (fun v wx => v = .int .i64 0 ∧ wx = wr) (fun _ _ => 0)
    case atStart => exact ⟨rfl, rfl⟩
    case round =>
      obtain ⟨rfl, rfl⟩ := hrel
      go_wp2
      go_loopw [4] (fun v wx => v = .int .i64 0 ∧ wx = wr) (fun _ _ => 0)
      case atStart => exact ⟨rfl, rfl⟩
      case round =>
        obtain ⟨rfl, rfl⟩ := hrel
        go_wp2
        go_loopw [6] (fun v wx => v = .int .i64 0 ∧ wx = wr) (fun _ _ => 0)
        case atStart => exact ⟨rfl, rfl⟩
        case round =>
          obtain ⟨rfl, rfl⟩ := hrel
          go_wp2
          go_end0
          exact ⟨⟨_, rfl⟩, H1.out⟩
end Go.Proofs.YtfajjphfjilpnaaGreat

namespace Go.Proofs.YtfajjphfjilpnaaGreat
open Go.RowKit LX Go.Shelf
set_option linter.unusedVariables false

set_option maxRecDepth 100000 in
set_option maxHeartbeats 8000000 in
theorem spoil_any (B : Nat) (w0 : World) : ∀ (m : Nat) (f : Fm) (y : FQ) (w : World), SizeOf.sizeOf f ≤ m → QOwn (fun b => B ≤ b) w0 (f, y) → Spt B w0 w → Calls Tryz.prog 19 #[.agg #[.int .i64 f.k, .string f.nm, .int .i64 f.op, y.v, y.t, .int .i64 f.lo, .int .i64 f.hi, .bool f.opn, y.s, y.r]] w (SpOut B w0 w) := by
  intro m
  induction m with
  | zero => intro f y w hm; cases f; simp at hm
  | succ m ih =>
    intro f y w hm hQ hS
    obtain ⟨uv, ut, us, ur⟩ := y
    obtain ⟨h1, h2, h3, h4⟩ := hQ
    dsimp only at h1 h2 h3 h4 ⊢
    obtain ⟨pv, cv, rfl, hcv, HV0⟩ := rowS_form (B := B) h1.1 h1.2.2
    have hlv := h1.2.1
    obtain ⟨pst, est, hlt0, -, rowt, plt, -⟩ := h2
    obtain ⟨pt, ct, rfl, hct, HT0⟩ := rowS_form (B := B) rowt plt
    obtain ⟨pss, ess, hls, rows, pls, sv, stt, ss, sr⟩ := h3
    obtain ⟨ps, cs, rfl, hcs, HF0⟩ := rowS_form (B := B) rows pls
    obtain ⟨psr, esr, hlr, rowr, plr, rt, rs⟩ := h4
    obtain ⟨pr, cr, rfl, hcr, HR0⟩ := rowS_form (B := B) rowr plr
    have HM : Hid (SizeOf.sizeOf f ≤ m + 1) := hm
    have HSL : Hid (SizeOf.sizeOf f.subs < SizeOf.sizeOf f) := f.subs_lt
    have IH : Hid (_) := ih
    have HES : Hid (pss.map Prod.fst = f.subs) := ess
    have HER : Hid (psr.map Prod.fst = f.rgx) := esr
    have HQS : Hid (∀ x ∈ pss, QOwn (fun b => B ≤ b) w0 x) := fun x hx => ⟨sv x hx, stt x hx, ss x hx, sr x hx⟩
    have HRT : Hid (∀ x ∈ psr, FmsOwn (fun b => B ≤ b) w0 x.2.1 x.1.test) := rt
    obtain ⟨nv, env⟩ : ∃ n : Nat, Hid (f.vars.length = n) := ⟨_, rfl⟩
    obtain ⟨nt, ent⟩ : ∃ n : Nat, Hid (f.terms.length = n) := ⟨_, rfl⟩
    obtain ⟨ns, ens⟩ : ∃ n : Nat, Hid (f.subs.length = n) := ⟨_, rfl⟩
    obtain ⟨nr, enr⟩ : ∃ n : Nat, Hid (f.rgx.length = n) := ⟨_, rfl⟩
    rw [env.out] at hcv HV0 hlv ⊢
    rw [ent.out] at hct HT0 hlt0 ⊢
    rw [ens.out] at hcs HF0 hls ⊢
    rw [enr.out] at hcr HR0 hlr ⊢
    have HV : Hid (∀ i, i < nv → ∃ g cur, pv = some ⟨g, 0, none⟩ ∧ B ≤ g ∧ w0.heap[g]? = some (.cells cur 9 (0, 0)) ∧ nv * 1 ≤ cur.size ∧ ∀ m, m < nv * 1 → cur[m]? = (f.vars.map Value.string)[m]?) := HV0
    have HT : Hid (∀ i, i < nt → ∃ g cur, pt = some ⟨g, 0, none⟩ ∧ B ≤ g ∧ w0.heap[g]? = some (.cells cur 39 (0, 0)) ∧ nt * 7 ≤ cur.size ∧ ∀ m, m < nt * 7 → cur[m]? = (flatTm pst)[m]?) := HT0
    have HF : Hid (∀ i, i < ns → ∃ g cur, ps = some ⟨g, 0, none⟩ ∧ B ≤ g ∧ w0.heap[g]? = some (.cells cur 29 (0, 0)) ∧ ns * 10 ≤ cur.size ∧ ∀ m, m < ns * 10 → cur[m]? = (flatF pss)[m]?) := HF0
    have HR : Hid (∀ i, i < nr → ∃ g cur, pr = some ⟨g, 0, none⟩ ∧ B ≤ g ∧ w0.heap[g]? = some (.cells cur 76 (0, 0)) ∧ nr * 3 ≤ cur.size ∧ ∀ m, m < nr * 3 → cur[m]? = (flatR psr)[m]?) := HR0
    clear h1 HV0 HT0 HF0 HR0 rowt plt rows pls rowr plr sv stt ss sr rt rs est ess esr hm ih
    generalize f.lo = lo at *
    generalize f.hi = fhi at *
    generalize f.nm = nm at *
    generalize f.opn = o at *
    generalize f.op = op at *
    generalize f.k = fk at *
    have hw0 : w0.heap.size ≤ w.heap.size := hS.fr.size
    obtain ⟨w1, ew1⟩ : ∃ W, W = w.alloc (.cells #[.int .i64 fk, .string nm, .int .i64 op, .slice pv nv cv, .slice pt nt ct, .int .i64 lo, .int .i64 fhi, .bool o, .slice ps ns cs, .slice pr nr cr] 29) := ⟨_, rfl⟩
    have Xw1 : Hid (w1.heap[w.heap.size]? = some (.cells #[.int .i64 fk, .string nm, .int .i64 op, .slice pv nv cv, .slice pt nt ct, .int .i64 lo, .int .i64 fhi, .bool o, .slice ps ns cs, .slice pr nr cr] 29 (0, 0))) := by rw [ew1]; exact heap_allocA w _
    have Gw1 : Hid (Fr (fun k => B ≤ k ∧ k < w0.heap.size) w w1) := by rw [ew1]; exact Fr.of_below ((Below.refl _ _).alloc (Nat.le_refl _) _)
    have Sw1 : Hid (Spt B w0 w1 ∧ Fr (fun k => B ≤ k ∧ k < w0.heap.size) w1 w1) := by rw [ew1]; exact ⟨hS.new ((Below.refl _ _).alloc (Nat.le_refl _) _), Fr.refl _ _⟩
    clear hS
    go_enter Tryz.func19, Tryz.ntmps19
    go_upto_region 1 with fail
    rw [← ew1]
    clear ew1
    go_wp2
    go_loopw [2] (fun v wr => ∃ k : Nat, k ≤ nv ∧ v = .int .i64 k ∧ Hid (Spt B w0 wr ∧ Fr (fun k => B ≤ k ∧ k < w0.heap.size) w1 wr)) (fun v _ => nv - (intOf v).toNat)
    case atStart => exact ⟨0, Nat.zero_le _, rfl, Sw1⟩
    case round =>
      obtain ⟨k, hk, rfl, hS⟩ := hrel
      have Br : Hid (_) := hS.out.2.heap Xw1.out (fun h => by omega)
      have r6 : wr.cell? ⟨w.heap.size, 3, none⟩ = some (.slice pv nv cv) := by rw [Lib.cell_of_heap Br.out]; rfl
      by_cases hlt : k < nv
      case neg =>
        have c2 : ¬ (k : Int) < nv := by omega
        obtain ⟨w2, ew⟩ : ∃ W : World, W = wr := ⟨_, rfl⟩
        subst ew
        have Sw2 : Hid (Spt B w0 w2 ∧ Fr (fun k => B ≤ k ∧ k < w0.heap.size) w2 w2) := ⟨hS.out.1, Fr.refl _ _⟩
        have Xw2 : Hid (_) := Br.out
        have Gw2 : Hid (Fr (fun k => B ≤ k ∧ k < w0.heap.size) w w2) := Gw1.out.trans hS.out.2 (fun i h => Or.inl h)
        clear hS Br
        go_wp2
        go_loopw [3] (fun v wr => ∃ k : Nat, k ≤ nt ∧ v = .int .i64 k ∧ Hid (Spt B w0 wr ∧ Fr (fun k => B ≤ k ∧ k < w0.heap.size) w2 wr)) (fun v _ => nt - (intOf v).toNat)
        case atStart => exact ⟨0, Nat.zero_le _, rfl, Sw2⟩
        case round =>
          obtain ⟨k, hk, rfl, hS⟩ := hrel
          have Br : Hid (_) := hS.out.2.heap Xw2.out (fun h => by omega)
          have r6 : wr.cell? ⟨w.heap.size, 4, none⟩ = some (.slice pt nt ct) := by rw [Lib.cell_of_heap Br.out]; rfl
          by_cases hlt : k < nt
          case neg =>
            have c2 : ¬ (k : Int) < nt := by omega
            obtain ⟨w3, ew⟩ : ∃ W : World, W = wr := ⟨_, rfl⟩
            subst ew
            have Sw3 : Hid (Spt B w0 w3 ∧ Fr (fun k => B ≤ k ∧ k < w0.heap.size) w3 w3) := ⟨hS.out.1, Fr.refl _ _⟩
            have Xw3 : Hid (_) := Br.out
            have Gw3 : Hid (Fr (fun k => B ≤ k ∧ k < w0.heap.size) w w3) := Gw2.out.trans hS.out.2 (fun i h => Or.inl h)
            clear hS Br
            go_wp2
            go_loopw [4] (fun v wr => ∃ k : Nat, k ≤ nr ∧ v = .int .i64 k ∧ Hid (Spt B w0 wr ∧ Fr (fun k => B ≤ k ∧ k < w0.heap.size) w3 wr)) (fun v _ => nr - (intOf v).toNat)
            case atStart => exact ⟨0, Nat.zero_le _, rfl, Sw3⟩
            case round =>
              obtain ⟨k, hk, rfl, hS⟩ := hrel
              have Br : Hid (_) := hS.out.2.heap Xw3.out (fun h => by omega)
              have r6 : wr.cell? ⟨w.heap.size, 9, none⟩ = some (.slice pr nr cr) := by rw [Lib.cell_of_heap Br.out]; rfl
              by_cases hlt : k < nr
              case neg =>
                have c2 : ¬ (k : Int) < nr := by omega
                obtain ⟨w4, ew⟩ : ∃ W : World, W = wr := ⟨_, rfl⟩
                subst ew
                have Sw4 : Hid (Spt B w0 w4 ∧ Fr (fun k => B ≤ k ∧ k < w0.heap.size) w4 w4) := ⟨hS.out.1, Fr.refl _ _⟩
                have Xw4 : Hid (_) := Br.out
                have Gw4 : Hid (Fr (fun k => B ≤ k ∧ k < w0.heap.size) w w4) := Gw3.out.trans hS.out.2 (fun i h => Or.inl h)
                clear hS Br
                go_wp2
                go_loopw [6] (fun v wr => ∃ k : Nat, k ≤ ns ∧ v = .int .i64 k ∧ Hid (Spt B w0 wr ∧ Fr (fun k => B ≤ k ∧ k < w0.heap.size) w4 wr)) (fun v _ => ns - (intOf v).toNat)
                case atStart => exact ⟨0, Nat.zero_le _, rfl, Sw4⟩
                case round =>
                  obtain ⟨k, hk, rfl, hS⟩ := hrel
                  have Br : Hid (_) := hS.out.2.heap Xw4.out (fun h => by omega)
                  have r6 : wr.cell? ⟨w.heap.size, 8, none⟩ = some (.slice ps ns cs) := by rw [Lib.cell_of_heap Br.out]; rfl
                  by_cases hlt : k < ns
                  case neg =>
                    have c2 : ¬ (k : Int) < ns := by omega
                    have HE : Hid (Spt B w0 wr ∧ Fr (fun k => B ≤ k ∧ k < w0.heap.size) w wr) := ⟨hS.out.1, Gw4.out.trans hS.out.2 (fun i h => Or.inl h)⟩
                    go_wp2
                    go_end0
                    exact ⟨⟨_, rfl⟩, HE.out⟩
                  have hlt' : (k : Int) < ns := by omega
                  have k0 : (0 : Int) ≤ k := by omega
                  obtain ⟨g, cur, rfl, hg, h0, hsz, hxs⟩ := HF.out k hlt
                  obtain ⟨c, hc, hcs, hcF, hcR⟩ := hS.out.1.row g cur _ hg h0
                  have kb : k * 10 + 10 ≤ cur.size := by have : (k + 1) * 10 ≤ ns * 10 := Nat.mul_le_mul_right _ hlt; omega
                  obtain ⟨z0, z1, z2, pz3, nz3, cz3, pz4, nz4, cz4, z5, z6, z7, pz8, nz8, cz8, pz9, nz9, cz9, hcel, hcal⟩ : ∃ (z0 : Int) (z1 : ByteArray) (z2 : Int) (pz3 : Option Addr) (nz3 cz3 : Nat) (pz4 : Option Addr) (nz4 cz4 : Nat) (z5 z6 : Int) (z7 : Bool) (pz8 : Option Addr) (nz8 cz8 : Nat) (pz9 : Option Addr) (nz9 cz9 : Nat), (∀ i, i < 10 → c[k * 10 + i]? = [Value.int .i64 z0, .string z1, .int .i64 z2, .slice pz3 nz3 cz3, .slice pz4 nz4 cz4, .int .i64 z5, .int .i64 z6, .bool z7, .slice pz8 nz8 cz8, .slice pz9 nz9 cz9][i]?) ∧ Calls Tryz.prog 19 #[.agg #[.int .i64 z0, .string z1, .int .i64 z2, .slice pz3 nz3 cz3, .slice pz4 nz4 cz4, .int .i64 z5, .int .i64 z6, .bool z7, .slice pz8 nz8 cz8, .slice pz9 nz9 cz9]] wr (SpOut B w0 wr) := by
                    rcases hcF rfl k with hh | hh
                    · have kx : k < pss.length := by have h1 := HES.out; have h2 := ens.out; have := congrArg List.length h1; simp at this; omega
                      have hq := HQS.out pss[k] (List.getElem_mem kx)
                      have hmem : pss[k].1 ∈ f.subs := by rw [← HES.out]; exact List.mem_map.2 ⟨_, List.getElem_mem kx, rfl⟩
                      have hc2 := IH.out pss[k].1 pss[k].2 wr (by have a := List.sizeOf_lt_of_mem hmem; have b := HSL.out; have d := HM.out; omega) hq hS.out.1
                      have hall : ∀ i, i < 10 → c[k * 10 + i]? = (fcs pss[k])[i]? := fun i hi => by rw [hh i hi, hxs (k * 10 + i) (by omega), flatF_get pss k i kx hi]
                      obtain ⟨-, q1, d1, e3, -⟩ := hq.at.1
                      obtain ⟨q2, d2, e4, -⟩ := hq.at.2.1.form
                      obtain ⟨q3, d3, e8, -⟩ := hq.at.2.2.1.form
                      obtain ⟨q4, d4, e9, -⟩ := hq.at.2.2.2.form
                      refine ⟨pss[k].1.k, pss[k].1.nm, pss[k].1.op, q1, pss[k].1.vars.length, d1, q2, pss[k].1.terms.length, d2, pss[k].1.lo, pss[k].1.hi, pss[k].1.opn, q3, pss[k].1.subs.length, d3, q4, pss[k].1.rgx.length, d4, fun i hi => ?_, ?_⟩
                      · rw [hall i hi, ← e3, ← e4, ← e8, ← e9]; rfl
                      · rw [← e3, ← e4, ← e8, ← e9]; exact hc2
                    · exact ⟨77, ⟨#[]⟩, 0, none, 0, 0, none, 0, 0, 0, 0, false, none, 0, 0, none, 0, 0, hh, spoil_no B w0 wr hS.out.1⟩
                  have HCAL : Hid (Calls Tryz.prog 19 #[.agg #[.int .i64 z0, .string z1, .int .i64 z2, .slice pz3 nz3 cz3, .slice pz4 nz4 cz4, .int .i64 z5, .int .i64 z6, .bool z7, .slice pz8 nz8 cz8, .slice pz9 nz9 cz9]] wr (SpOut B w0 wr)) := hcal
                  have a0 : wr.cell? ⟨g, k * 10, none⟩ = some (.int .i64 z0) := by rw [Lib.cell_of_heap hc]; exact hcel 0 (by omega)
                  have a1 : wr.cell? ⟨g, k * 10 + 1, none⟩ = some (.string z1) := by rw [Lib.cell_of_heap hc]; exact hcel 1 (by omega)
                  have a2 : wr.cell? ⟨g, k * 10 + 2, none⟩ = some (.int .i64 z2) := by rw [Lib.cell_of_heap hc]; exact hcel 2 (by omega)
                  have a3 : wr.cell? ⟨g, k * 10 + 3, none⟩ = some (.slice pz3 nz3 cz3) := by rw [Lib.cell_of_heap hc]; exact hcel 3 (by omega)
                  have a4 : wr.cell? ⟨g, k * 10 + 4, none⟩ = some (.slice pz4 nz4 cz4) := by rw [Lib.cell_of_heap hc]; exact hcel 4 (by omega)
                  have a5 : wr.cell? ⟨g, k * 10 + 5, none⟩ = some (.int .i64 z5) := by rw [Lib.cell_of_heap hc]; exact hcel 5 (by omega)
                  have a6 : wr.cell? ⟨g, k * 10 + 6, none⟩ = some (.int .i64 z6) := by rw [Lib.cell_of_heap hc]; exact hcel 6 (by omega)
                  have a7 : wr.cell? ⟨g, k * 10 + 7, none⟩ = some (.bool z7) := by rw [Lib.cell_of_heap hc]; exact hcel 7 (by omega)
                  have a8 : wr.cell? ⟨g, k * 10 + 8, none⟩ = some (.slice pz8 nz8 cz8) := by rw [Lib.cell_of_heap hc]; exact hcel 8 (by omega)
                  have a9 : wr.cell? ⟨g, k * 10 + 9, none⟩ = some (.slice pz9 nz9 cz9) := by rw [Lib.cell_of_heap hc]; exact hcel 9 (by omega)
                  clear hc hcs hcF hcR hxs hsz hcel hcal
                  go_wp2_with fail
                  refine HCAL.out.mono ?_
                  rintro e w5 ⟨⟨v5, rfl⟩, h5⟩
                  have hS5 : Hid (Spt B w0 w5 ∧ Fr (fun k => B ≤ k ∧ k < w0.heap.size) w4 w5) := ⟨h5.out.1, hS.out.2.trans h5.out.2 (fun i h => Or.inl h)⟩
                  have B5 : Hid (_) := hS5.out.2.heap Xw4.out (fun h => by omega)
                  clear h5 HCAL hS Br r6 a0 a1 a2 a3 a4 a5 a6 a7 a8 a9
                  have r6 : w5.cell? ⟨w.heap.size, 8, none⟩ = some (.slice (some ⟨g, 0, none⟩) ns cs) := by rw [Lib.cell_of_heap B5.out]; rfl
                  obtain ⟨c, hc, hcs, hcF, hcR⟩ := hS5.out.1.row g cur _ hg h0
                  have Hc : Hid (w5.heap[g]? = some (.cells c 29 (0, 0))) := hc
                  have kb2 : k * 10 + 10 ≤ c.size := by omega
                  obtain ⟨xq0, q0⟩ : ∃ x, w5.cell? ⟨g, k * 10, none⟩ = some x := ⟨c[k * 10]'(by omega), by rw [Lib.cell_of_heap Hc.out]; exact Array.getElem?_eq_getElem _⟩
                  have fq0 : w5.frozen? ⟨g, k * 10, none⟩ = false := Lib.frozen_of_heap Hc.out _
                  obtain ⟨xq1, q1⟩ : ∃ x, w5.cell? ⟨g, k * 10 + 1, none⟩ = some x := ⟨c[k * 10 + 1]'(by omega), by rw [Lib.cell_of_heap Hc.out]; exact Array.getElem?_eq_getElem _⟩
                  have fq1 : w5.frozen? ⟨g, k * 10 + 1, none⟩ = false := Lib.frozen_of_heap Hc.out _
                  obtain ⟨xq2, q2⟩ : ∃ x, w5.cell? ⟨g, k * 10 + 2, none⟩ = some x := ⟨c[k * 10 + 2]'(by omega), by rw [Lib.cell_of_heap Hc.out]; exact Array.getElem?_eq_getElem _⟩
                  have fq2 : w5.frozen? ⟨g, k * 10 + 2, none⟩ = false := Lib.frozen_of_heap Hc.out _
                  obtain ⟨xq3, q3⟩ : ∃ x, w5.cell? ⟨g, k * 10 + 3, none⟩ = some x := ⟨c[k * 10 + 3]'(by omega), by rw [Lib.cell_of_heap Hc.out]; exact Array.getElem?_eq_getElem _⟩
                  have fq3 : w5.frozen? ⟨g, k * 10 + 3, none⟩ = false := Lib.frozen_of_heap Hc.out _
                  obtain ⟨xq4, q4⟩ : ∃ x, w5.cell? ⟨g, k * 10 + 4, none⟩ = some x := ⟨c[k * 10 + 4]'(by omega), by rw [Lib.cell_of_heap Hc.out]; exact Array.getElem?_eq_getElem _⟩
                  have fq4 : w5.frozen? ⟨g, k * 10 + 4, none⟩ = false := Lib.frozen_of_heap Hc.out _
                  obtain ⟨xq5, q5⟩ : ∃ x, w5.cell? ⟨g, k * 10 + 5, none⟩ = some x := ⟨c[k * 10 + 5]'(by omega), by rw [Lib.cell_of_heap Hc.out]; exact Array.getElem?_eq_getElem _⟩
                  have fq5 : w5.frozen? ⟨g, k * 10 + 5, none⟩ = false := Lib.frozen_of_heap Hc.out _
                  obtain ⟨xq6, q6⟩ : ∃ x, w5.cell? ⟨g, k * 10 + 6, none⟩ = some x := ⟨c[k * 10 + 6]'(by omega), by rw [Lib.cell_of_heap Hc.out]; exact Array.getElem?_eq_getElem _⟩
                  have fq6 : w5.frozen? ⟨g, k * 10 + 6, none⟩ = false := Lib.frozen_of_heap Hc.out _
                  obtain ⟨xq7, q7⟩ : ∃ x, w5.cell? ⟨g, k * 10 + 7, none⟩ = some x := ⟨c[k * 10 + 7]'(by omega), by rw [Lib.cell_of_heap Hc.out]; exact Array.getElem?_eq_getElem _⟩
                  have fq7 : w5.frozen? ⟨g, k * 10 + 7, none⟩ = false := Lib.frozen_of_heap Hc.out _
                  obtain ⟨xq8, q8⟩ : ∃ x, w5.cell? ⟨g, k * 10 + 8, none⟩ = some x := ⟨c[k * 10 + 8]'(by omega), by rw [Lib.cell_of_heap Hc.out]; exact Array.getElem?_eq_getElem _⟩
                  have fq8 : w5.frozen? ⟨g, k * 10 + 8, none⟩ = false := Lib.frozen_of_heap Hc.out _
                  obtain ⟨xq9, q9⟩ : ∃ x, w5.cell? ⟨g, k * 10 + 9, none⟩ = some x := ⟨c[k * 10 + 9]'(by omega), by rw [Lib.cell_of_heap Hc.out]; exact Array.getElem?_eq_getElem _⟩
                  have fq9 : w5.frozen? ⟨g, k * 10 + 9, none⟩ = false := Lib.frozen_of_heap Hc.out _
                  have HN : Hid (Spt B w0 (putCells w5 g (k * 10) [.int .i64 77, .string ⟨#[]⟩, .int .i64 0, .slice none 0 0, .slice none 0 0, .int .i64 0, .int .i64 0, .bool false, .slice none 0 0, .slice none 0 0]) ∧ Fr (fun k => B ≤ k ∧ k < w0.heap.size) w4 (putCells w5 g (k * 10) [.int .i64 77, .string ⟨#[]⟩, .int .i64 0, .slice none 0 0, .slice none 0 0, .int .i64 0, .int .i64 0, .bool false, .slice none 0 0, .slice none 0 0])) := by
                    have h1 := hS5.out
                    exact ⟨h1.1.putF h0 hg (by omega), put_fr _ _ _ _ _ _ h1.2 ⟨hg, lt_heap h0⟩⟩
                  clear hc hcs hcF hcR Hc hS5 kb kb2 h0
                  go_wp2
                  exact ⟨⟨k + 1, by omega, by go_num, HN⟩, by simp [intOf]; omega⟩
              have hlt' : (k : Int) < nr := by omega
              have k0 : (0 : Int) ≤ k := by omega
              obtain ⟨g, cur, rfl, hg, h0, hsz, hxs⟩ := HR.out k hlt
              obtain ⟨c, hc, hcs, hcF, hcR⟩ := hS.out.1.row g cur _ hg h0
              have kb : k * 3 + 3 ≤ cur.size := by have : (k + 1) * 3 ≤ nr * 3 := Nat.mul_le_mul_right _ hlt; omega
              obtain ⟨p1, n1, c1, hC1, hn1, hcc1, hX1⟩ : ∃ (p1 : Option Addr) (n1 c1 : Nat), c[k * 3 + 1]? = some (.slice p1 n1 c1) ∧ n1 ≤ 9223372036854775807 ∧ n1 ≤ c1 ∧ ∀ i, i < n1 → ∃ g cur, p1 = some ⟨g, 0, none⟩ ∧ B ≤ g ∧ w0.heap[g]? = some (.cells cur 29 (0, 0)) ∧ n1 * 10 ≤ cur.size := by
                rcases hcR rfl k with hh | hh
                · have kx : k < psr.length := by have h1 := HER.out; have h2 := enr.out; have := congrArg List.length h1; simp at this; omega
                  have h1 := hh 1 (by omega)
                  rw [hxs (k * 3 + 1) (by omega), flatR_get psr k 1 kx (by omega)] at h1
                  have h2 := HRT.out psr[k] (List.getElem_mem kx)
                  obtain ⟨pz, ez, hlz, rowz, plz, -, -, -, -⟩ := h2
                  obtain ⟨p1, c1, e1, hcz, hz⟩ := rowS_form (B := B) rowz plz
                  refine ⟨p1, _, c1, ?_, hlz, hcz, fun i hi => ?_⟩
                  · rw [h1, ← e1]; rfl
                  · obtain ⟨g, cur, x1, x2, x3, x4, -⟩ := hz i hi
                    exact ⟨g, cur, x1, x2, x3, x4⟩
                · exact ⟨none, 0, 0, hh 1 (by omega), by omega, by omega, fun i hi => by omega⟩
              have HC1 : Hid (wr.cell? ⟨g, k * 3 + 1, none⟩ = some (.slice p1 n1 c1)) := by rw [Lib.cell_of_heap hc]; exact hC1
              have HX1 : Hid (∀ i, i < n1 → ∃ g cur, p1 = some ⟨g, 0, none⟩ ∧ B ≤ g ∧ w0.heap[g]? = some (.cells cur 29 (0, 0)) ∧ n1 * 10 ≤ cur.size) := hX1
              clear hc hcs hcF hcR hxs hsz hC1 hX1
              go_wp2
              go_loopw [5] (fun v wx => ∃ k2 : Nat, k2 ≤ n1 ∧ v = .int .i64 k2 ∧ Hid (Spt B w0 wx ∧ Fr (fun k => B ≤ k ∧ k < w0.heap.size) w3 wx) ∧ Hid (wx.cell? ⟨g, k * 3 + 1, none⟩ = some (.slice p1 n1 c1))) (fun v _ => n1 - (intOf v).toNat)
              case atStart => exact ⟨0, Nat.zero_le _, rfl, hS, HC1⟩
              case round =>
                clear Br r6
                obtain ⟨k2, hk2, rfl, hS2, hC2⟩ := hrel
                have Br : Hid (_) := hS2.out.2.heap Xw3.out (fun h => by omega)
                have r6 : wr.cell? ⟨w.heap.size, 9, none⟩ = some (.slice (some ⟨g, 0, none⟩) nr cr) := by rw [Lib.cell_of_heap Br.out]; rfl
                have q1 : wr.cell? ⟨g, k * 3 + 1, none⟩ = some (.slice p1 n1 c1) := hC2.out
                by_cases hlt2 : k2 < n1
                case neg =>
                  have c3 : ¬ (k2 : Int) < n1 := by omega
                  obtain ⟨c, hc, hcs, hcF, hcR⟩ := hS2.out.1.row g cur _ hg h0
                  have Hc : Hid (wr.heap[g]? = some (.cells c 76 (0, 0))) := hc
                  have kb2 : k * 3 + 3 ≤ c.size := by omega
                  obtain ⟨xr0, q0⟩ : ∃ x, wr.cell? ⟨g, k * 3, none⟩ = some x := ⟨c[k * 3]'(by omega), by rw [Lib.cell_of_heap Hc.out]; exact Array.getElem?_eq_getElem _⟩
                  have fq0 : wr.frozen? ⟨g, k * 3, none⟩ = false := Lib.frozen_of_heap Hc.out _
                  have fq1 : wr.frozen? ⟨g, k * 3 + 1, none⟩ = false := Lib.frozen_of_heap Hc.out _
                  obtain ⟨xr2, q2⟩ : ∃ x, wr.cell? ⟨g, k * 3 + 2, none⟩ = some x := ⟨c[k * 3 + 2]'(by omega), by rw [Lib.cell_of_heap Hc.out]; exact Array.getElem?_eq_getElem _⟩
                  have fq2 : wr.frozen? ⟨g, k * 3 + 2, none⟩ = false := Lib.frozen_of_heap Hc.out _
                  have HN : Hid (Spt B w0 (putCells wr g (k * 3) [.int .i64 77, .slice none 0 0, .slice none 0 0]) ∧ Fr (fun k => B ≤ k ∧ k < w0.heap.size) w3 (putCells wr g (k * 3) [.int .i64 77, .slice none 0 0, .slice none 0 0])) := by
                    have h1 := hS2.out
                    exact ⟨h1.1.putR h0 hg (by omega), put_fr _ _ _ _ _ _ h1.2 ⟨hg, lt_heap h0⟩⟩
                  clear hc hcs hcF hcR Hc hS2 kb2 h0 hC2 hS HC1 HX1
                  go_wp2
                  exact ⟨⟨k + 1, by omega, by go_num, HN⟩, by simp [intOf]; omega⟩
                have hlt3 : (k2 : Int) < n1 := by omega
                have k20 : (0 : Int) ≤ k2 := by omega
                obtain ⟨g2, cur2, rfl, hg2, h02, hsz2⟩ := HX1.out k2 hlt2
                obtain ⟨c, hc, hcs, hcF, hcR⟩ := hS2.out.1.row g2 cur2 _ hg2 h02
                have Hc : Hid (wr.heap[g2]? = some (.cells c 29 (0, 0))) := hc
                have kb3 : k2 * 10 + 10 ≤ cur2.size := by have : (k2 + 1) * 10 ≤ n1 * 10 := Nat.mul_le_mul_right _ hlt2; omega
                have kb4 : k2 * 10 + 10 ≤ c.size := by omega
                obtain ⟨xp0, p0⟩ : ∃ x, wr.cell? ⟨g2, k2 * 10, none⟩ = some x := ⟨c[k2 * 10]'(by omega), by rw [Lib.cell_of_heap Hc.out]; exact Array.getElem?_eq_getElem _⟩
                have fp0 : wr.frozen? ⟨g2, k2 * 10, none⟩ = false := Lib.frozen_of_heap Hc.out _
                obtain ⟨xp1, pp1⟩ : ∃ x, wr.cell? ⟨g2, k2 * 10 + 1, none⟩ = some x := ⟨c[k2 * 10 + 1]'(by omega), by rw [Lib.cell_of_heap Hc.out]; exact Array.getElem?_eq_getElem _⟩
                have fp1 : wr.frozen? ⟨g2, k2 * 10 + 1, none⟩ = false := Lib.frozen_of_heap Hc.out _
                obtain ⟨xp2, p2⟩ : ∃ x, wr.cell? ⟨g2, k2 * 10 + 2, none⟩ = some x := ⟨c[k2 * 10 + 2]'(by omega), by rw [Lib.cell_of_heap Hc.out]; exact Array.getElem?_eq_getElem _⟩
                have fp2 : wr.frozen? ⟨g2, k2 * 10 + 2, none⟩ = false := Lib.frozen_of_heap Hc.out _
                obtain ⟨xp3, p3⟩ : ∃ x, wr.cell? ⟨g2, k2 * 10 + 3, none⟩ = some x := ⟨c[k2 * 10 + 3]'(by omega), by rw [Lib.cell_of_heap Hc.out]; exact Array.getElem?_eq_getElem _⟩
                have fp3 : wr.frozen? ⟨g2, k2 * 10 + 3, none⟩ = false := Lib.frozen_of_heap Hc.out _
                obtain ⟨xp4, p4⟩ : ∃ x, wr.cell? ⟨g2, k2 * 10 + 4, none⟩ = some x := ⟨c[k2 * 10 + 4]'(by omega), by rw [Lib.cell_of_heap Hc.out]; exact Array.getElem?_eq_getElem _⟩
                have fp4 : wr.frozen? ⟨g2, k2 * 10 + 4, none⟩ = false := Lib.frozen_of_heap Hc.out _
                obtain ⟨xp5, p5⟩ : ∃ x, wr.cell? ⟨g2, k2 * 10 + 5, none⟩ = some x := ⟨c[k2 * 10 + 5]'(by omega), by rw [Lib.cell_of_heap Hc.out]; exact Array.getElem?_eq_getElem _⟩
                have fp5 : wr.frozen? ⟨g2, k2 * 10 + 5, none⟩ = false := Lib.frozen_of_heap Hc.out _
                obtain ⟨xp6, p6⟩ : ∃ x, wr.cell? ⟨g2, k2 * 10 + 6, none⟩ = some x := ⟨c[k2 * 10 + 6]'(by omega), by rw [Lib.cell_of_heap Hc.out]; exact Array.getElem?_eq_getElem _⟩
                have fp6 : wr.frozen? ⟨g2, k2 * 10 + 6, none⟩ = false := Lib.frozen_of_heap Hc.out _
                obtain ⟨xp7, p7⟩ : ∃ x, wr.cell? ⟨g2, k2 * 10 + 7, none⟩ = some x := ⟨c[k2 * 10 + 7]'(by omega), by rw [Lib.cell_of_heap Hc.out]; exact Array.getElem?_eq_getElem _⟩
                have fp7 : wr.frozen? ⟨g2, k2 * 10 + 7, none⟩ = false := Lib.frozen_of_heap Hc.out _
                obtain ⟨xp8, p8⟩ : ∃ x, wr.cell? ⟨g2, k2 * 10 + 8, none⟩ = some x := ⟨c[k2 * 10 + 8]'(by omega), by rw [Lib.cell_of_heap Hc.out]; exact Array.getElem?_eq_getElem _⟩
                have fp8 : wr.frozen? ⟨g2, k2 * 10 + 8, none⟩ = false := Lib.frozen_of_heap Hc.out _
                obtain ⟨xp9, p9⟩ : ∃ x, wr.cell? ⟨g2, k2 * 10 + 9, none⟩ = some x := ⟨c[k2 * 10 + 9]'(by omega), by rw [Lib.cell_of_heap Hc.out]; exact Array.getElem?_eq_getElem _⟩
                have fp9 : wr.frozen? ⟨g2, k2 * 10 + 9, none⟩ = false := Lib.frozen_of_heap Hc.out _
                have hgg : g ≠ g2 := fun e => by
                  subst e
                  rw [h0] at h02
                  injection h02 with h02
                  injection h02 with _ h02
                  exact absurd h02 (by decide)
                have HN : Hid (Spt B w0 (putCells wr g2 (k2 * 10) [.int .i64 77, .string ⟨#[]⟩, .int .i64 0, .slice none 0 0, .slice none 0 0, .int .i64 0, .int .i64 0, .bool false, .slice none 0 0, .slice none 0 0]) ∧ Fr (fun k => B ≤ k ∧ k < w0.heap.size) w3 (putCells wr g2 (k2 * 10) [.int .i64 77, .string ⟨#[]⟩, .int .i64 0, .slice none 0 0, .slice none 0 0, .int .i64 0, .int .i64 0, .bool false, .slice none 0 0, .slice none 0 0])) := by
                  have h1 := hS2.out
                  exact ⟨h1.1.putF h02 hg2 (by omega), put_fr _ _ _ _ _ _ h1.2 ⟨hg2, lt_heap h02⟩⟩
                have HN2 : Hid ((putCells wr g2 (k2 * 10) [.int .i64 77, .string ⟨#[]⟩, .int .i64 0, .slice none 0 0, .slice none 0 0, .int .i64 0, .int .i64 0, .bool false, .slice none 0 0, .slice none 0 0]).cell? ⟨g, k * 3 + 1, none⟩ = some (.slice (some ⟨g2, 0, none⟩) n1 c1)) := (World.cell?_of_block (put_other _ _ _ _ g hgg)).trans hC2.out
                clear hc hcs hcF hcR hsz2 Hc hS2 kb3 kb4 h02 hC2 hS HC1 HX1 h0
                go_wp2
                exact ⟨⟨k2 + 1, by omega, by go_num, HN, HN2⟩, by simp [intOf]; omega⟩
          have hlt' : (k : Int) < nt := by omega
          have k0 : (0 : Int) ≤ k := by omega
          obtain ⟨g, cur, rfl, hg, h0, hsz, hxs⟩ := HT.out k hlt
          obtain ⟨c, hc, hcs, hcF, hcR⟩ := hS.out.1.row g cur _ hg h0
          have Hc : Hid (wr.heap[g]? = some (.cells c 39 (0, 0))) := hc
          have kb : k * 7 + 7 ≤ cur.size := by have : (k + 1) * 7 ≤ nt * 7 := Nat.mul_le_mul_right _ hlt; omega
          have kb2 : k * 7 + 7 ≤ c.size := by omega
          obtain ⟨xq0, q0⟩ : ∃ x, wr.cell? ⟨g, k * 7, none⟩ = some x := ⟨c[k * 7]'(by omega), by rw [Lib.cell_of_heap Hc.out]; exact Array.getElem?_eq_getElem _⟩
          have fq0 : wr.frozen? ⟨g, k * 7, none⟩ = false := Lib.frozen_of_heap Hc.out _
          obtain ⟨xq1, q1⟩ : ∃ x, wr.cell? ⟨g, k * 7 + 1, none⟩ = some x := ⟨c[k * 7 + 1]'(by omega), by rw [Lib.cell_of_heap Hc.out]; exact Array.getElem?_eq_getElem _⟩
          have fq1 : wr.frozen? ⟨g, k * 7 + 1, none⟩ = false := Lib.frozen_of_heap Hc.out _
          obtain ⟨xq2, q2⟩ : ∃ x, wr.cell? ⟨g, k * 7 + 2, none⟩ = some x := ⟨c[k * 7 + 2]'(by omega), by rw [Lib.cell_of_heap Hc.out]; exact Array.getElem?_eq_getElem _⟩
          have fq2 : wr.frozen? ⟨g, k * 7 + 2, none⟩ = false := Lib.frozen_of_heap Hc.out _
          obtain ⟨xq3, q3⟩ : ∃ x, wr.cell? ⟨g, k * 7 + 3, none⟩ = some x := ⟨c[k * 7 + 3]'(by omega), by rw [Lib.cell_of_heap Hc.out]; exact Array.getElem?_eq_getElem _⟩
          have fq3 : wr.frozen? ⟨g, k * 7 + 3, none⟩ = false := Lib.frozen_of_heap Hc.out _
          obtain ⟨xq4, q4⟩ : ∃ x, wr.cell? ⟨g, k * 7 + 4, none⟩ = some x := ⟨c[k * 7 + 4]'(by omega), by rw [Lib.cell_of_heap Hc.out]; exact Array.getElem?_eq_getElem _⟩
          have fq4 : wr.frozen? ⟨g, k * 7 + 4, none⟩ = false := Lib.frozen_of_heap Hc.out _
          obtain ⟨xq5, q5⟩ : ∃ x, wr.cell? ⟨g, k * 7 + 5, none⟩ = some x := ⟨c[k * 7 + 5]'(by omega), by rw [Lib.cell_of_heap Hc.out]; exact Array.getElem?_eq_getElem _⟩
          have fq5 : wr.frozen? ⟨g, k * 7 + 5, none⟩ = false := Lib.frozen_of_heap Hc.out _
          obtain ⟨xq6, q6⟩ : ∃ x, wr.cell? ⟨g, k * 7 + 6, none⟩ = some x := ⟨c[k * 7 + 6]'(by omega), by rw [Lib.cell_of_heap Hc.out]; exact Array.getElem?_eq_getElem _⟩
          have fq6 : wr.frozen? ⟨g, k * 7 + 6, none⟩ = false := Lib.frozen_of_heap Hc.out _
          have HN : Hid (Spt B w0 (putCells wr g (k * 7) [.int .i64 77, .string ⟨#[]⟩, .int .i64 0, .int .i64 0, .int .i64 0, .string ⟨#[]⟩, .slice none 0 0]) ∧ Fr (fun k => B ≤ k ∧ k < w0.heap.size) w2 (putCells wr g (k * 7) [.int .i64 77, .string ⟨#[]⟩, .int .i64 0, .int .i64 0, .int .i64 0, .string ⟨#[]⟩, .slice none 0 0])) := by
            have h1 := hS.out
            exact ⟨h1.1.put1 h0 hg (by decide) (by decide), put_fr _ _ _ _ _ _ h1.2 ⟨hg, lt_heap h0⟩⟩
          clear hc hcs hcF hcR hxs hsz Hc hS kb kb2 h0
          go_wp2
          exact ⟨⟨k + 1, by omega, by go_num, HN⟩, by simp [intOf]; omega⟩
      have hlt' : (k : Int) < nv := by omega
      have k0 : (0 : Int) ≤ k := by omega
      obtain ⟨g, cur, rfl, hg, h0, hsz, hxs⟩ := HV.out k hlt
      obtain ⟨c, hc, hcs, hcF, hcR⟩ := hS.out.1.row g cur _ hg h0
      have Hc : Hid (wr.heap[g]? = some (.cells c 9 (0, 0))) := hc
      have kb : k * 1 + 1 ≤ cur.size := by have : (k + 1) * 1 ≤ nv * 1 := Nat.mul_le_mul_right _ hlt; omega
      have kb2 : k * 1 + 1 ≤ c.size := by omega
      obtain ⟨xq0, q0⟩ : ∃ x, wr.cell? ⟨g, k, none⟩ = some x := ⟨c[k]'(by omega), by rw [Lib.cell_of_heap Hc.out]; exact Array.getElem?_eq_getElem _⟩
      have fq0 : wr.frozen? ⟨g, k, none⟩ = false := Lib.frozen_of_heap Hc.out _
      have HN : Hid (Spt B w0 (putCells wr g (k) [.string ⟨#[64]⟩]) ∧ Fr (fun k => B ≤ k ∧ k < w0.heap.size) w1 (putCells wr g (k) [.string ⟨#[64]⟩])) := by
        have h1 := hS.out
        exact ⟨h1.1.put1 h0 hg (by decide) (by decide), put_fr _ _ _ _ _ _ h1.2 ⟨hg, lt_heap h0⟩⟩
      clear hc hcs hcF hcR hxs hsz Hc hS kb kb2 h0
      go_wp2
      exact ⟨⟨k + 1, by omega, by go_num, HN⟩, by simp [intOf]; omega⟩
end Go.Proofs.YtfajjphfjilpnaaGreat
