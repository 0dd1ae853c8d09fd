/- The law AstFrees at any formula and any term that is not too great. -/
import Derived.Test.YtfajjphfjilpnaaGreatZ08
import Derived.Test.YtfajjphfjilpnaaGreatZ09
import Derived.Test.YtfajjphfjilpnaaGreatZ07
import Derived.Test.YtfajjphfjilpnaaGreatZ06

namespace Go.Proofs.YtfajjphfjilpnaaGreat
open Go.RowKit LX Go.Shelf
set_option linter.unusedVariables false

set_option maxRecDepth 100000 in
set_option maxHeartbeats 8000000 in
theorem rregex_c2 (w0 : World) (q : Nat) (hq : w0.heap.size ≤ q) (r : Rx) (ut us : Value) (ht : FmsAt w0 ut r.test) (hs : RxsAt w0 us r.subs) (d : Int) (hd0 : 0 ≤ d) (hd1 : d ≤ 25)
    (IR : d ≤ 24 → ∀ (i : Nat) (hi : i < r.subs.length) (u1 u2 : Value), FmsAt w0 u1 r.subs[i].test → RxsAt w0 u2 r.subs[i].subs → Walks w0 q 59 (.agg #[.int .i64 r.subs[i].k, u1, u2]) (d + 1) (fun s => rrun (d + 1) s r.subs[i]))
    (IF : d ≤ 24 → ∀ (i : Nat) (hi : i < r.test.length) (y : FQ), QAt w0 (r.test[i], y) → Walks w0 q 30 (.agg #[.int .i64 r.test[i].k, .string r.test[i].nm, .int .i64 r.test[i].op, y.v, y.t, .int .i64 r.test[i].lo, .int .i64 r.test[i].hi, .bool r.test[i].opn, y.s, y.r]) (d + 1) (fun s => frun (d + 1) s r.test[i]))
    (hk : r.k = 2) (N M : Int) (w : World) (R : Int × (Int × Int)) (F : Int × Int → Int × (Int × Int)) (hw : Below w0.heap.size w0 w) (hK : WK w q N M 0) (ho : OkS (N, M)) (hR : R = andT (rrun d (N, M) r) F) :
    Calls Tryz.prog 59 #[.pointer (some ⟨q, 0, none⟩), .agg #[.int .i64 r.k, ut, us], .int .i64 d] w fun e w' => (∃ v, e = .returned v) ∧ Hid (KeepT q w w' ∧ WS w' q R F) := by
  obtain ⟨pt, ct, rfl, hlt0, hct, HXF0⟩ := ht.form
  have HXF : Hid (∀ i (hi : i < r.test.length), ∃ b off uv ut us ur, pt = some ⟨b, off, none⟩ ∧ b < w0.heap.size ∧ FmC w0 b (off + i * 10) r.test[i] uv ut us ur ∧ NmsAt w0 uv r.test[i].vars ∧ TmsAt w0 ut r.test[i].terms ∧ FmsAt w0 us r.test[i].subs ∧ RxsAt w0 ur r.test[i].rgx) := HXF0
  obtain ⟨ps, cs, rfl, hls, hcs, HXR0⟩ := hs.form
  have HXR : Hid (∀ i (hi : i < r.subs.length), ∃ b off ut us, ps = some ⟨b, off, none⟩ ∧ b < w0.heap.size ∧ RxC w0 b (off + i * 3) r.subs[i] ut us ∧ FmsAt w0 ut r.subs[i].test ∧ RxsAt w0 us r.subs[i].subs) := HXR0
  have HW : Hid (WK w q N M 0) := hK
  have HO : Hid (OkS (N, M)) := ho
  have hqw : q < w.heap.size := hK.lt
  have HR0 : Hid (R = andT (meetE d (N, M), meetS d (N, M)) fun s1 => andT (rxE r, s1) fun s1 => andT (fruns (d + 1) s1 r.test) fun s2 => andT (rruns (d + 1) s2 r.subs) F) := by
    have h := hR
    rw [rrun_eq] at h
    simp only [andT_assoc] at h
    exact h
  have HE : Hid (ndE d N = meetE d (N, M)) := nd_meet (s := (N, M)) HO.out
  have CR0 : Hid (_) := IR
  have CF0 : Hid (_) := IF
  clear IR IF ht hs HXF0 HXR0 hK ho hR
  obtain ⟨FE, hFE⟩ : ∃ FE, Hid (rxE r = FE) := ⟨_, rfl⟩
  have HD : Hid ((if r.k < 1 ∨ 5 < r.k then 20 else if r.test.length ≠ (if r.k = 2 then 1 else 0) ∨ r.subs.length ≠ (if r.k = 3 ∨ r.k = 4 then 2 else if r.k = 5 then 1 else 0) then 1 else 0) = FE) := hFE.out
  rw [hFE.out] at HR0
  clear hFE
  obtain ⟨nt, ent⟩ : ∃ n : Nat, Hid (r.test.length = n) := ⟨_, rfl⟩
  obtain ⟨ns, ens⟩ : ∃ n : Nat, Hid (r.subs.length = n) := ⟨_, rfl⟩
  rw [ent.out] at hlt0 hct HD ⊢
  rw [ens.out] at hls hcs HD ⊢
  generalize r.k = tk at *
  subst hk
  have hne : w.heap.size ≠ q := by omega
  go_enter Tryz.func59, Tryz.ntmps59
  go_wp2_with fail
  refine (rnode_any q N M d _ (HW.out.alloc _) ⟨HO.out.1, by have := HO.out.2.1; simp at this; omega⟩).mono ?_
  rintro r9 w1 ⟨rfl, h1⟩
  have hK1 : KeepT q w w1 := (KeepT.of ((Below.refl _ _).alloc (Nat.le_refl _) _)).trans h1.out.2.keep
  have W1 : Hid (WK w1 q (N + 1) (if M < d then d else M) (ndE d N)) := h1.out.1
  have B1 : Hid (w1.heap[w.heap.size]? = some (.cells #[.int .i64 2, .slice pt nt ct, .slice ps ns cs] 76 (0, 0))) := (h1.out.2.block w.heap.size (by simp) hne).trans (heap_allocA w _)
  clear h1
  by_cases hE : ndE d N = 0
  case neg =>
    have hE' : (ndE d N == 0) = false := by simpa using hE
    rw [hE']
    go_wp2
    refine bodyPost_ret (results_none rfl _ _ _) rfl ?_
    refine ⟨⟨_, rfl⟩, hK1, _, _, _, W1.out, fun e => absurd e hE, fun _ => ?_⟩
    have h := HR0.out
    rw [← HE.out] at h
    rw [h, andT_ne hE]
  have hE' : (ndE d N == 0) = true := by simpa using hE
  rw [hE']
  obtain ⟨N1, hN1⟩ : ∃ N1, Hid (N + 1 = N1) := ⟨_, rfl⟩
  obtain ⟨M1, hM1⟩ : ∃ M1, Hid ((if M < d then d else M) = M1) := ⟨_, rfl⟩
  have W1' : Hid (WK w1 q N1 M1 0) := by have h := W1.out; rw [hE, hN1.out, hM1.out] at h; exact h
  clear W1
  have hmS : Hid (meetS d (N, M) = (N1, M1)) := by
    have e : meetE d (N, M) = 0 := by rw [← HE.out]; exact hE
    unfold meetS
    rw [if_pos e, ← hN1.out, ← hM1.out, Int.max_def]
    show (N + 1, if M ≤ d then d else M) = (N + 1, if M < d then d else M)
    congr 1
    by_cases h : M < d
    · rw [if_pos h, if_pos (by omega)]
    · rw [if_neg h]; split <;> omega
  have HR1 : Hid (R = andT (FE, (N1, M1)) fun s1 => andT (fruns (d + 1) s1 r.test) fun s2 => andT (rruns (d + 1) s2 r.subs) F) := by
    have h := HR0.out
    rw [← HE.out, hE, andT_eq, hmS.out] at h
    exact h
  have hd24 : d ≤ 24 := meetE_le (s := (N, M)) (by rw [← HE.out]; exact hE)
  have HOk : Hid (OkS (N1, M1)) := by rw [← hmS.out]; exact meetS_ok HO.out hd0
  have CR := CR0.out hd24
  have CF := CF0.out hd24
  have CR : Hid (_) := CR
  have CF : Hid (_) := CF
  clear HR0 HE hE hE' hN1 hM1 hmS CR0 CF0
  have HNo : Hid (¬ FE = 0 → ∀ W : World, WK W q N1 M1 FE → WS W q R F) := by
    intro h W hW
    have hr := HR1.out
    rw [andT_ne h] at hr
    exact ⟨_, _, _, hW, fun e => absurd e h, fun _ => by rw [hr]⟩
  have e0 : w1.cell? ⟨w.heap.size, 0, none⟩ = some (.int .i64 2) := by rw [Lib.cell_of_heap B1.out]; rfl
  go_wp2_with fail
  refine (rwrong_any q N1 M1 0 20 _ w1 W1'.out).mono ?_
  rintro r9 w2 ⟨⟨v2, rfl⟩, h2⟩
  have W2 : Hid (WK w2 q N1 M1 0) := by have a := h2.out.1; first | exact a | (simp [wrE, hk] at a; exact a)
  have B2 : Hid (_) := h2.out.2.heap B1.out hne
  have hK2 : KeepT q w w2 := hK1.trans h2.out.2.keep
  clear h2 e0 B1 hK1 W1'
  have e0 : w2.cell? ⟨w.heap.size, 0, none⟩ = some (.int .i64 2) := by rw [Lib.cell_of_heap B2.out]; rfl
  have e1 : w2.cell? ⟨w.heap.size, 1, none⟩ = some (.slice pt nt ct) := by rw [Lib.cell_of_heap B2.out]; rfl
  have e2 : w2.cell? ⟨w.heap.size, 2, none⟩ = some (.slice ps ns cs) := by rw [Lib.cell_of_heap B2.out]; rfl
  by_cases hT : nt = 1
  case neg =>
    have t1 : ((nt : Int) == 1) = false := by simp; omega
    have t2 : ((nt : Int) != 1) = true := by simp; omega
    go_wp2_with fail
    refine (rwrong_any q N1 M1 _ 1 _ _ W2.out).mono ?_
    rintro r9 w9 ⟨⟨v9, rfl⟩, h9⟩
    have W9 : Hid (WK w9 q N1 M1 FE) := by have a := h9.out.1; have b := HD.out; simp [wrE, hT] at a b; first | (subst b; exact a) | (rw [← b]; exact a)
    have B9 : Hid (_) := h9.out.2.heap B2.out hne
    have hK9 : KeepT q w w9 := hK2.trans h9.out.2.keep
    have y2 : w9.cell? ⟨q, 2, none⟩ = some (.int .i64 FE) := W9.out.e
    clear h9 e0 e1 e2
    have tn : ¬ FE = 0 := by have b := HD.out; simp [hT] at b; omega
    have tn' : (FE == 0) = false := by simpa using tn
    have tn'' : (FE != 0) = true := by simpa using tn
    go_wp2
    refine bodyPost_ret (results_none rfl _ _ _) rfl ?_
    exact ⟨⟨_, rfl⟩, hK9, HNo.out tn _ W9.out⟩
  have t1 : ((nt : Int) == 1) = true := by simp; omega
  have t2 : ((nt : Int) != 1) = false := by simp; omega
  by_cases hS : ns = 0
  case neg =>
    have s1 : ((ns : Int) == 0) = false := by simp; omega
    have s2 : ((ns : Int) != 0) = true := by simp; omega
    go_wp2_with fail
    refine (rwrong_any q N1 M1 _ 1 _ _ W2.out).mono ?_
    rintro r9 w9 ⟨⟨v9, rfl⟩, h9⟩
    have W9 : Hid (WK w9 q N1 M1 FE) := by have a := h9.out.1; have b := HD.out; simp [wrE, hT, hS] at a b; first | (subst b; exact a) | (rw [← b]; exact a)
    have B9 : Hid (_) := h9.out.2.heap B2.out hne
    have hK9 : KeepT q w w9 := hK2.trans h9.out.2.keep
    have y2 : w9.cell? ⟨q, 2, none⟩ = some (.int .i64 FE) := W9.out.e
    clear h9 e0 e1 e2
    have tn : ¬ FE = 0 := by have b := HD.out; simp [hT, hS] at b; omega
    have tn' : (FE == 0) = false := by simpa using tn
    have tn'' : (FE != 0) = true := by simpa using tn
    go_wp2
    refine bodyPost_ret (results_none rfl _ _ _) rfl ?_
    exact ⟨⟨_, rfl⟩, hK9, HNo.out tn _ W9.out⟩
  have s1 : ((ns : Int) == 0) = true := by simp; omega
  have s2 : ((ns : Int) != 0) = false := by simp; omega
  go_wp2_with fail
  refine (rwrong_any q N1 M1 _ 1 _ _ W2.out).mono ?_
  rintro r9 w9 ⟨⟨v9, rfl⟩, h9⟩
  have W9 : Hid (WK w9 q N1 M1 FE) := by have a := h9.out.1; have b := HD.out; simp [wrE, hT, hS] at a b; first | (subst b; exact a) | (rw [← b]; exact a)
  have B9 : Hid (_) := h9.out.2.heap B2.out hne
  have hK9 : KeepT q w w9 := hK2.trans h9.out.2.keep
  have y2 : w9.cell? ⟨q, 2, none⟩ = some (.int .i64 FE) := W9.out.e
  clear h9 e0 e1 e2
  clear t1 t2 s1 s2
  have hz : FE = 0 := by have b := HD.out; simp [hT, hS] at b; omega
  subst hz
  have S9 : Hid (WS w9 q R (fun s1 => andT (fruns (d + 1) s1 r.test) fun s2 => andT (rruns (d + 1) s2 r.subs) F)) := WS.of W9.out HOk.out (by have h := HR1.out; rw [andT_eq] at h; exact h)
  clear HD HR1 HNo hT hS
  go_wp2
  go_loopw [9] (fun v wr => ∃ k : Nat, k ≤ nt ∧ v = .int .i64 k ∧ KeepT q w9 wr ∧ Hid (WS wr q R (fun s => andT (fruns (d + 1) s (r.test.drop k)) (fun s2 => andT (rruns (d + 1) s2 r.subs) F)))) (fun v _ => nt - (intOf v).toNat)
  case atStart => exact ⟨0, Nat.zero_le _, rfl, KeepT.refl _ _, by rw [List.drop_zero]; exact S9⟩
  case round =>
    obtain ⟨k, hk, rfl, hKr, hSr⟩ := hrel
    have Br : Hid (_) := (hKr.block w.heap.size (lt_heap B9.out) hne).trans B9.out
    have r6 : wr.cell? ⟨w.heap.size, 1, none⟩ = some (.slice pt nt ct) := by rw [Lib.cell_of_heap Br.out]; rfl
    by_cases hlt : k < nt
    case neg =>
      have c2 : ¬ (k : Int) < nt := by omega
      obtain ⟨w10, ew⟩ : ∃ W : World, W = wr := ⟨_, rfl⟩
      subst ew
      have S10 : Hid (WS w10 q R (fun s2 => andT (rruns (d + 1) s2 r.subs) F)) := hSr.out.cast (fun s => by rw [List.drop_eq_nil_of_le (by have := ent.out; omega), fruns_nil]; exact andT_eq)
      have hK10 : KeepT q w w10 := hK9.trans hKr
      have B10 : Hid (_) := Br.out
      clear hSr hKr Br
      go_wp2
      clear r6 c2 hk hlt
      go_loopw [10] (fun v wr => ∃ k : Nat, k ≤ ns ∧ v = .int .i64 k ∧ KeepT q w10 wr ∧ Hid (WS wr q R (fun s => andT (rruns (d + 1) s (r.subs.drop k)) F))) (fun v _ => ns - (intOf v).toNat)
      case atStart => exact ⟨0, Nat.zero_le _, rfl, KeepT.refl _ _, by rw [List.drop_zero]; exact S10⟩
      case round =>
        obtain ⟨k, hk, rfl, hKr, hSr⟩ := hrel
        have Br : Hid (_) := (hKr.block w.heap.size (lt_heap B10.out) hne).trans B10.out
        have r6 : wr.cell? ⟨w.heap.size, 2, none⟩ = some (.slice ps ns cs) := by rw [Lib.cell_of_heap Br.out]; rfl
        by_cases hlt : k < ns
        case neg =>
          have c2 : ¬ (k : Int) < ns := by omega
          have S11 : Hid (WS wr q R F) := hSr.out.cast (fun s => by rw [List.drop_eq_nil_of_le (by have := ens.out; omega), rruns_nil]; exact andT_eq)
          have hK11 : KeepT q w wr := hK10.trans hKr
          go_wp2
          go_end0
          exact ⟨⟨_, rfl⟩, hK11, S11.out⟩
        have hlt' : (k : Int) < ns := by omega
        have kx : k < r.subs.length := by have := ens.out; omega
        obtain ⟨b, off, u1, u2, rfl, hb, TC, N1t, N2t⟩ := HXR.out k kx
        have hBr : Below w0.heap.size w0 wr := hw.trans ((hK10.trans hKr).below (B := w0.heap.size) hq (Nat.le_of_lt hqw))
        obtain ⟨a0, a1, a2⟩ := TC.below hBr hb
        have wk := CR.out k kx u1 u2 N1t N2t
        have cW := wk wr R (fun s1 => andT (rruns (d + 1) s1 (r.subs.drop (k + 1))) F) hBr (hSr.out.cast (fun s => by rw [List.drop_eq_getElem_cons kx, rruns_and]))
        have HcW : Hid (Calls Tryz.prog 59 #[.pointer (some ⟨q, 0, none⟩), .agg #[.int .i64 r.subs[k].k, u1, u2], .int .i64 (d + 1)] wr fun e9 w' => (∃ v, e9 = .returned v) ∧ Hid (KeepT q wr w' ∧ WS w' q R (fun s1 => andT (rruns (d + 1) s1 (r.subs.drop (k + 1))) F))) := cW
        obtain ⟨p1, c1, rfl, -⟩ := N1t.form
        obtain ⟨p2, c2, rfl, -⟩ := N2t.form
        clear TC hSr wk cW N1t N2t
        generalize r.subs[k].k = X0 at *
        generalize r.subs[k].test.length = L1 at *
        generalize r.subs[k].subs.length = L2 at *
        have nw : IntKind.i64.wrap (d + 1) = d + 1 := by rw [IntKind.wrap_i64]; omega
        have nw2 : wrap64 (d + 1) = d + 1 := by unfold wrap64; omega
        go_wp2_with fail
        refine HcW.out.mono ?_
        rintro r w6 ⟨⟨v6, rfl⟩, h6⟩
        have hK6 : KeepT q w10 w6 := hKr.trans h6.out.1
        have HS6 : Hid (_) := h6.out.2
        clear h6 HcW
        go_wp2
        exact ⟨⟨k + 1, by omega, by go_num, hK6, HS6.out⟩, by simp [intOf]; omega⟩
    have hlt' : (k : Int) < nt := by omega
    have kx : k < r.test.length := by have := ent.out; omega
    obtain ⟨b, off, u1, u2, u3, u4, rfl, hb, TC, N1t, N2t, N3t, N4t⟩ := HXF.out k kx
    have hBr : Below w0.heap.size w0 wr := hw.trans ((hK9.trans hKr).below (B := w0.heap.size) hq (Nat.le_of_lt hqw))
    obtain ⟨a0, a1, a2, a3, a4, a5, a6, a7, a8, a9⟩ := TC.below hBr hb
    have wk := CF.out k kx ⟨u1, u2, u3, u4⟩ ⟨N1t, N2t, N3t, N4t⟩
    have cW := wk wr R (fun s1 => andT (fruns (d + 1) s1 (r.test.drop (k + 1))) (fun s2 => andT (rruns (d + 1) s2 r.subs) F)) hBr (hSr.out.cast (fun s => by rw [List.drop_eq_getElem_cons kx, fruns_and]))
    have HcW : Hid (Calls Tryz.prog 30 #[.pointer (some ⟨q, 0, none⟩), .agg #[.int .i64 r.test[k].k, .string r.test[k].nm, .int .i64 r.test[k].op, u1, u2, .int .i64 r.test[k].lo, .int .i64 r.test[k].hi, .bool r.test[k].opn, u3, u4], .int .i64 (d + 1)] wr fun e9 w' => (∃ v, e9 = .returned v) ∧ Hid (KeepT q wr w' ∧ WS w' q R (fun s1 => andT (fruns (d + 1) s1 (r.test.drop (k + 1))) (fun s2 => andT (rruns (d + 1) s2 r.subs) F)))) := cW
    obtain ⟨-, p1, c1, rfl, -⟩ := N1t
    obtain ⟨p2, c2, rfl, -⟩ := N2t.form
    obtain ⟨p3, c3, rfl, -⟩ := N3t.form
    obtain ⟨p4, c4, rfl, -⟩ := N4t.form
    clear TC hSr wk cW N2t N3t N4t
    generalize r.test[k].k = X0 at *
    generalize r.test[k].nm = X1 at *
    generalize r.test[k].op = X2 at *
    generalize r.test[k].lo = X3 at *
    generalize r.test[k].hi = X4 at *
    generalize r.test[k].opn = X5 at *
    generalize r.test[k].vars.length = L1 at *
    generalize r.test[k].terms.length = L2 at *
    generalize r.test[k].subs.length = L3 at *
    generalize r.test[k].rgx.length = L4 at *
    have nw : IntKind.i64.wrap (d + 1) = d + 1 := by rw [IntKind.wrap_i64]; omega
    have nw2 : wrap64 (d + 1) = d + 1 := by unfold wrap64; omega
    go_wp2_with fail
    refine HcW.out.mono ?_
    rintro r w6 ⟨⟨v6, rfl⟩, h6⟩
    have hK6 : KeepT q w9 w6 := hKr.trans h6.out.1
    have HS6 : Hid (_) := h6.out.2
    clear h6 HcW
    go_wp2
    exact ⟨⟨k + 1, by omega, by go_num, hK6, HS6.out⟩, by simp [intOf]; omega⟩
end Go.Proofs.YtfajjphfjilpnaaGreat

namespace Go.Proofs.YtfajjphfjilpnaaGreat
open Go.RowKit LX Go.Shelf
set_option linter.unusedVariables false

set_option maxRecDepth 100000 in
set_option maxHeartbeats 8000000 in
theorem rregex_c3 (w0 : World) (q : Nat) (hq : w0.heap.size ≤ q) (r : Rx) (ut us : Value) (ht : FmsAt w0 ut r.test) (hs : RxsAt w0 us r.subs) (d : Int) (hd0 : 0 ≤ d) (hd1 : d ≤ 25)
    (IR : d ≤ 24 → ∀ (i : Nat) (hi : i < r.subs.length) (u1 u2 : Value), FmsAt w0 u1 r.subs[i].test → RxsAt w0 u2 r.subs[i].subs → Walks w0 q 59 (.agg #[.int .i64 r.subs[i].k, u1, u2]) (d + 1) (fun s => rrun (d + 1) s r.subs[i]))
    (IF : d ≤ 24 → ∀ (i : Nat) (hi : i < r.test.length) (y : FQ), QAt w0 (r.test[i], y) → Walks w0 q 30 (.agg #[.int .i64 r.test[i].k, .string r.test[i].nm, .int .i64 r.test[i].op, y.v, y.t, .int .i64 r.test[i].lo, .int .i64 r.test[i].hi, .bool r.test[i].opn, y.s, y.r]) (d + 1) (fun s => frun (d + 1) s r.test[i]))
    (hk : r.k = 3) (N M : Int) (w : World) (R : Int × (Int × Int)) (F : Int × Int → Int × (Int × Int)) (hw : Below w0.heap.size w0 w) (hK : WK w q N M 0) (ho : OkS (N, M)) (hR : R = andT (rrun d (N, M) r) F) :
    Calls Tryz.prog 59 #[.pointer (some ⟨q, 0, none⟩), .agg #[.int .i64 r.k, ut, us], .int .i64 d] w fun e w' => (∃ v, e = .returned v) ∧ Hid (KeepT q w w' ∧ WS w' q R F) := by
  obtain ⟨pt, ct, rfl, hlt0, hct, HXF0⟩ := ht.form
  have HXF : Hid (∀ i (hi : i < r.test.length), ∃ b off uv ut us ur, pt = some ⟨b, off, none⟩ ∧ b < w0.heap.size ∧ FmC w0 b (off + i * 10) r.test[i] uv ut us ur ∧ NmsAt w0 uv r.test[i].vars ∧ TmsAt w0 ut r.test[i].terms ∧ FmsAt w0 us r.test[i].subs ∧ RxsAt w0 ur r.test[i].rgx) := HXF0
  obtain ⟨ps, cs, rfl, hls, hcs, HXR0⟩ := hs.form
  have HXR : Hid (∀ i (hi : i < r.subs.length), ∃ b off ut us, ps = some ⟨b, off, none⟩ ∧ b < w0.heap.size ∧ RxC w0 b (off + i * 3) r.subs[i] ut us ∧ FmsAt w0 ut r.subs[i].test ∧ RxsAt w0 us r.subs[i].subs) := HXR0
  have HW : Hid (WK w q N M 0) := hK
  have HO : Hid (OkS (N, M)) := ho
  have hqw : q < w.heap.size := hK.lt
  have HR0 : Hid (R = andT (meetE d (N, M), meetS d (N, M)) fun s1 => andT (rxE r, s1) fun s1 => andT (fruns (d + 1) s1 r.test) fun s2 => andT (rruns (d + 1) s2 r.subs) F) := by
    have h := hR
    rw [rrun_eq] at h
    simp only [andT_assoc] at h
    exact h
  have HE : Hid (ndE d N = meetE d (N, M)) := nd_meet (s := (N, M)) HO.out
  have CR0 : Hid (_) := IR
  have CF0 : Hid (_) := IF
  clear IR IF ht hs HXF0 HXR0 hK ho hR
  obtain ⟨FE, hFE⟩ : ∃ FE, Hid (rxE r = FE) := ⟨_, rfl⟩
  have HD : Hid ((if r.k < 1 ∨ 5 < r.k then 20 else if r.test.length ≠ (if r.k = 2 then 1 else 0) ∨ r.subs.length ≠ (if r.k = 3 ∨ r.k = 4 then 2 else if r.k = 5 then 1 else 0) then 1 else 0) = FE) := hFE.out
  rw [hFE.out] at HR0
  clear hFE
  obtain ⟨nt, ent⟩ : ∃ n : Nat, Hid (r.test.length = n) := ⟨_, rfl⟩
  obtain ⟨ns, ens⟩ : ∃ n : Nat, Hid (r.subs.length = n) := ⟨_, rfl⟩
  rw [ent.out] at hlt0 hct HD ⊢
  rw [ens.out] at hls hcs HD ⊢
  generalize r.k = tk at *
  subst hk
  have hne : w.heap.size ≠ q := by omega
  go_enter Tryz.func59, Tryz.ntmps59
  go_wp2_with fail
  refine (rnode_any q N M d _ (HW.out.alloc _) ⟨HO.out.1, by have := HO.out.2.1; simp at this; omega⟩).mono ?_
  rintro r9 w1 ⟨rfl, h1⟩
  have hK1 : KeepT q w w1 := (KeepT.of ((Below.refl _ _).alloc (Nat.le_refl _) _)).trans h1.out.2.keep
  have W1 : Hid (WK w1 q (N + 1) (if M < d then d else M) (ndE d N)) := h1.out.1
  have B1 : Hid (w1.heap[w.heap.size]? = some (.cells #[.int .i64 3, .slice pt nt ct, .slice ps ns cs] 76 (0, 0))) := (h1.out.2.block w.heap.size (by simp) hne).trans (heap_allocA w _)
  clear h1
  by_cases hE : ndE d N = 0
  case neg =>
    have hE' : (ndE d N == 0) = false := by simpa using hE
    rw [hE']
    go_wp2
    refine bodyPost_ret (results_none rfl _ _ _) rfl ?_
    refine ⟨⟨_, rfl⟩, hK1, _, _, _, W1.out, fun e => absurd e hE, fun _ => ?_⟩
    have h := HR0.out
    rw [← HE.out] at h
    rw [h, andT_ne hE]
  have hE' : (ndE d N == 0) = true := by simpa using hE
  rw [hE']
  obtain ⟨N1, hN1⟩ : ∃ N1, Hid (N + 1 = N1) := ⟨_, rfl⟩
  obtain ⟨M1, hM1⟩ : ∃ M1, Hid ((if M < d then d else M) = M1) := ⟨_, rfl⟩
  have W1' : Hid (WK w1 q N1 M1 0) := by have h := W1.out; rw [hE, hN1.out, hM1.out] at h; exact h
  clear W1
  have hmS : Hid (meetS d (N, M) = (N1, M1)) := by
    have e : meetE d (N, M) = 0 := by rw [← HE.out]; exact hE
    unfold meetS
    rw [if_pos e, ← hN1.out, ← hM1.out, Int.max_def]
    show (N + 1, if M ≤ d then d else M) = (N + 1, if M < d then d else M)
    congr 1
    by_cases h : M < d
    · rw [if_pos h, if_pos (by omega)]
    · rw [if_neg h]; split <;> omega
  have HR1 : Hid (R = andT (FE, (N1, M1)) fun s1 => andT (fruns (d + 1) s1 r.test) fun s2 => andT (rruns (d + 1) s2 r.subs) F) := by
    have h := HR0.out
    rw [← HE.out, hE, andT_eq, hmS.out] at h
    exact h
  have hd24 : d ≤ 24 := meetE_le (s := (N, M)) (by rw [← HE.out]; exact hE)
  have HOk : Hid (OkS (N1, M1)) := by rw [← hmS.out]; exact meetS_ok HO.out hd0
  have CR := CR0.out hd24
  have CF := CF0.out hd24
  have CR : Hid (_) := CR
  have CF : Hid (_) := CF
  clear HR0 HE hE hE' hN1 hM1 hmS CR0 CF0
  have HNo : Hid (¬ FE = 0 → ∀ W : World, WK W q N1 M1 FE → WS W q R F) := by
    intro h W hW
    have hr := HR1.out
    rw [andT_ne h] at hr
    exact ⟨_, _, _, hW, fun e => absurd e h, fun _ => by rw [hr]⟩
  have e0 : w1.cell? ⟨w.heap.size, 0, none⟩ = some (.int .i64 3) := by rw [Lib.cell_of_heap B1.out]; rfl
  go_wp2_with fail
  refine (rwrong_any q N1 M1 0 20 _ w1 W1'.out).mono ?_
  rintro r9 w2 ⟨⟨v2, rfl⟩, h2⟩
  have W2 : Hid (WK w2 q N1 M1 0) := by have a := h2.out.1; first | exact a | (simp [wrE, hk] at a; exact a)
  have B2 : Hid (_) := h2.out.2.heap B1.out hne
  have hK2 : KeepT q w w2 := hK1.trans h2.out.2.keep
  clear h2 e0 B1 hK1 W1'
  have e0 : w2.cell? ⟨w.heap.size, 0, none⟩ = some (.int .i64 3) := by rw [Lib.cell_of_heap B2.out]; rfl
  have e1 : w2.cell? ⟨w.heap.size, 1, none⟩ = some (.slice pt nt ct) := by rw [Lib.cell_of_heap B2.out]; rfl
  have e2 : w2.cell? ⟨w.heap.size, 2, none⟩ = some (.slice ps ns cs) := by rw [Lib.cell_of_heap B2.out]; rfl
  by_cases hT : nt = 0
  case neg =>
    have t1 : ((nt : Int) == 0) = false := by simp; omega
    have t2 : ((nt : Int) != 0) = true := by simp; omega
    go_wp2_with fail
    refine (rwrong_any q N1 M1 _ 1 _ _ W2.out).mono ?_
    rintro r9 w9 ⟨⟨v9, rfl⟩, h9⟩
    have W9 : Hid (WK w9 q N1 M1 FE) := by have a := h9.out.1; have b := HD.out; simp [wrE, hT] at a b; first | (subst b; exact a) | (rw [← b]; exact a)
    have B9 : Hid (_) := h9.out.2.heap B2.out hne
    have hK9 : KeepT q w w9 := hK2.trans h9.out.2.keep
    have y2 : w9.cell? ⟨q, 2, none⟩ = some (.int .i64 FE) := W9.out.e
    clear h9 e0 e1 e2
    have tn : ¬ FE = 0 := by have b := HD.out; simp [hT] at b; omega
    have tn' : (FE == 0) = false := by simpa using tn
    have tn'' : (FE != 0) = true := by simpa using tn
    go_wp2
    refine bodyPost_ret (results_none rfl _ _ _) rfl ?_
    exact ⟨⟨_, rfl⟩, hK9, HNo.out tn _ W9.out⟩
  have t1 : ((nt : Int) == 0) = true := by simp; omega
  have t2 : ((nt : Int) != 0) = false := by simp; omega
  by_cases hS : ns = 2
  case neg =>
    have s1 : ((ns : Int) == 2) = false := by simp; omega
    have s2 : ((ns : Int) != 2) = true := by simp; omega
    go_wp2_with fail
    refine (rwrong_any q N1 M1 _ 1 _ _ W2.out).mono ?_
    rintro r9 w9 ⟨⟨v9, rfl⟩, h9⟩
    have W9 : Hid (WK w9 q N1 M1 FE) := by have a := h9.out.1; have b := HD.out; simp [wrE, hT, hS] at a b; first | (subst b; exact a) | (rw [← b]; exact a)
    have B9 : Hid (_) := h9.out.2.heap B2.out hne
    have hK9 : KeepT q w w9 := hK2.trans h9.out.2.keep
    have y2 : w9.cell? ⟨q, 2, none⟩ = some (.int .i64 FE) := W9.out.e
    clear h9 e0 e1 e2
    have tn : ¬ FE = 0 := by have b := HD.out; simp [hT, hS] at b; omega
    have tn' : (FE == 0) = false := by simpa using tn
    have tn'' : (FE != 0) = true := by simpa using tn
    go_wp2
    refine bodyPost_ret (results_none rfl _ _ _) rfl ?_
    exact ⟨⟨_, rfl⟩, hK9, HNo.out tn _ W9.out⟩
  have s1 : ((ns : Int) == 2) = true := by simp; omega
  have s2 : ((ns : Int) != 2) = false := by simp; omega
  go_wp2_with fail
  refine (rwrong_any q N1 M1 _ 1 _ _ W2.out).mono ?_
  rintro r9 w9 ⟨⟨v9, rfl⟩, h9⟩
  have W9 : Hid (WK w9 q N1 M1 FE) := by have a := h9.out.1; have b := HD.out; simp [wrE, hT, hS] at a b; first | (subst b; exact a) | (rw [← b]; exact a)
  have B9 : Hid (_) := h9.out.2.heap B2.out hne
  have hK9 : KeepT q w w9 := hK2.trans h9.out.2.keep
  have y2 : w9.cell? ⟨q, 2, none⟩ = some (.int .i64 FE) := W9.out.e
  clear h9 e0 e1 e2
  clear t1 t2 s1 s2
  have hz : FE = 0 := by have b := HD.out; simp [hT, hS] at b; omega
  subst hz
  have S9 : Hid (WS w9 q R (fun s1 => andT (fruns (d + 1) s1 r.test) fun s2 => andT (rruns (d + 1) s2 r.subs) F)) := WS.of W9.out HOk.out (by have h := HR1.out; rw [andT_eq] at h; exact h)
  clear HD HR1 HNo hT hS
  go_wp2
  go_loopw [9] (fun v wr => ∃ k : Nat, k ≤ nt ∧ v = .int .i64 k ∧ KeepT q w9 wr ∧ Hid (WS wr q R (fun s => andT (fruns (d + 1) s (r.test.drop k)) (fun s2 => andT (rruns (d + 1) s2 r.subs) F)))) (fun v _ => nt - (intOf v).toNat)
  case atStart => exact ⟨0, Nat.zero_le _, rfl, KeepT.refl _ _, by rw [List.drop_zero]; exact S9⟩
  case round =>
    obtain ⟨k, hk, rfl, hKr, hSr⟩ := hrel
    have Br : Hid (_) := (hKr.block w.heap.size (lt_heap B9.out) hne).trans B9.out
    have r6 : wr.cell? ⟨w.heap.size, 1, none⟩ = some (.slice pt nt ct) := by rw [Lib.cell_of_heap Br.out]; rfl
    by_cases hlt : k < nt
    case neg =>
      have c2 : ¬ (k : Int) < nt := by omega
      obtain ⟨w10, ew⟩ : ∃ W : World, W = wr := ⟨_, rfl⟩
      subst ew
      have S10 : Hid (WS w10 q R (fun s2 => andT (rruns (d + 1) s2 r.subs) F)) := hSr.out.cast (fun s => by rw [List.drop_eq_nil_of_le (by have := ent.out; omega), fruns_nil]; exact andT_eq)
      have hK10 : KeepT q w w10 := hK9.trans hKr
      have B10 : Hid (_) := Br.out
      clear hSr hKr Br
      go_wp2
      clear r6 c2 hk hlt
      go_loopw [10] (fun v wr => ∃ k : Nat, k ≤ ns ∧ v = .int .i64 k ∧ KeepT q w10 wr ∧ Hid (WS wr q R (fun s => andT (rruns (d + 1) s (r.subs.drop k)) F))) (fun v _ => ns - (intOf v).toNat)
      case atStart => exact ⟨0, Nat.zero_le _, rfl, KeepT.refl _ _, by rw [List.drop_zero]; exact S10⟩
      case round =>
        obtain ⟨k, hk, rfl, hKr, hSr⟩ := hrel
        have Br : Hid (_) := (hKr.block w.heap.size (lt_heap B10.out) hne).trans B10.out
        have r6 : wr.cell? ⟨w.heap.size, 2, none⟩ = some (.slice ps ns cs) := by rw [Lib.cell_of_heap Br.out]; rfl
        by_cases hlt : k < ns
        case neg =>
          have c2 : ¬ (k : Int) < ns := by omega
          have S11 : Hid (WS wr q R F) := hSr.out.cast (fun s => by rw [List.drop_eq_nil_of_le (by have := ens.out; omega), rruns_nil]; exact andT_eq)
          have hK11 : KeepT q w wr := hK10.trans hKr
          go_wp2
          go_end0
          exact ⟨⟨_, rfl⟩, hK11, S11.out⟩
        have hlt' : (k : Int) < ns := by omega
        have kx : k < r.subs.length := by have := ens.out; omega
        obtain ⟨b, off, u1, u2, rfl, hb, TC, N1t, N2t⟩ := HXR.out k kx
        have hBr : Below w0.heap.size w0 wr := hw.trans ((hK10.trans hKr).below (B := w0.heap.size) hq (Nat.le_of_lt hqw))
        obtain ⟨a0, a1, a2⟩ := TC.below hBr hb
        have wk := CR.out k kx u1 u2 N1t N2t
        have cW := wk wr R (fun s1 => andT (rruns (d + 1) s1 (r.subs.drop (k + 1))) F) hBr (hSr.out.cast (fun s => by rw [List.drop_eq_getElem_cons kx, rruns_and]))
        have HcW : Hid (Calls Tryz.prog 59 #[.pointer (some ⟨q, 0, none⟩), .agg #[.int .i64 r.subs[k].k, u1, u2], .int .i64 (d + 1)] wr fun e9 w' => (∃ v, e9 = .returned v) ∧ Hid (KeepT q wr w' ∧ WS w' q R (fun s1 => andT (rruns (d + 1) s1 (r.subs.drop (k + 1))) F))) := cW
        obtain ⟨p1, c1, rfl, -⟩ := N1t.form
        obtain ⟨p2, c2, rfl, -⟩ := N2t.form
        clear TC hSr wk cW N1t N2t
        generalize r.subs[k].k = X0 at *
        generalize r.subs[k].test.length = L1 at *
        generalize r.subs[k].subs.length = L2 at *
        have nw : IntKind.i64.wrap (d + 1) = d + 1 := by rw [IntKind.wrap_i64]; omega
        have nw2 : wrap64 (d + 1) = d + 1 := by unfold wrap64; omega
        go_wp2_with fail
        refine HcW.out.mono ?_
        rintro r w6 ⟨⟨v6, rfl⟩, h6⟩
        have hK6 : KeepT q w10 w6 := hKr.trans h6.out.1
        have HS6 : Hid (_) := h6.out.2
        clear h6 HcW
        go_wp2
        exact ⟨⟨k + 1, by omega, by go_num, hK6, HS6.out⟩, by simp [intOf]; omega⟩
    have hlt' : (k : Int) < nt := by omega
    have kx : k < r.test.length := by have := ent.out; omega
    obtain ⟨b, off, u1, u2, u3, u4, rfl, hb, TC, N1t, N2t, N3t, N4t⟩ := HXF.out k kx
    have hBr : Below w0.heap.size w0 wr := hw.trans ((hK9.trans hKr).below (B := w0.heap.size) hq (Nat.le_of_lt hqw))
    obtain ⟨a0, a1, a2, a3, a4, a5, a6, a7, a8, a9⟩ := TC.below hBr hb
    have wk := CF.out k kx ⟨u1, u2, u3, u4⟩ ⟨N1t, N2t, N3t, N4t⟩
    have cW := wk wr R (fun s1 => andT (fruns (d + 1) s1 (r.test.drop (k + 1))) (fun s2 => andT (rruns (d + 1) s2 r.subs) F)) hBr (hSr.out.cast (fun s => by rw [List.drop_eq_getElem_cons kx, fruns_and]))
    have HcW : Hid (Calls Tryz.prog 30 #[.pointer (some ⟨q, 0, none⟩), .agg #[.int .i64 r.test[k].k, .string r.test[k].nm, .int .i64 r.test[k].op, u1, u2, .int .i64 r.test[k].lo, .int .i64 r.test[k].hi, .bool r.test[k].opn, u3, u4], .int .i64 (d + 1)] wr fun e9 w' => (∃ v, e9 = .returned v) ∧ Hid (KeepT q wr w' ∧ WS w' q R (fun s1 => andT (fruns (d + 1) s1 (r.test.drop (k + 1))) (fun s2 => andT (rruns (d + 1) s2 r.subs) F)))) := cW
    obtain ⟨-, p1, c1, rfl, -⟩ := N1t
    obtain ⟨p2, c2, rfl, -⟩ := N2t.form
    obtain ⟨p3, c3, rfl, -⟩ := N3t.form
    obtain ⟨p4, c4, rfl, -⟩ := N4t.form
    clear TC hSr wk cW N2t N3t N4t
    generalize r.test[k].k = X0 at *
    generalize r.test[k].nm = X1 at *
    generalize r.test[k].op = X2 at *
    generalize r.test[k].lo = X3 at *
    generalize r.test[k].hi = X4 at *
    generalize r.test[k].opn = X5 at *
    generalize r.test[k].vars.length = L1 at *
    generalize r.test[k].terms.length = L2 at *
    generalize r.test[k].subs.length = L3 at *
    generalize r.test[k].rgx.length = L4 at *
    have nw : IntKind.i64.wrap (d + 1) = d + 1 := by rw [IntKind.wrap_i64]; omega
    have nw2 : wrap64 (d + 1) = d + 1 := by unfold wrap64; omega
    go_wp2_with fail
    refine HcW.out.mono ?_
    rintro r w6 ⟨⟨v6, rfl⟩, h6⟩
    have hK6 : KeepT q w9 w6 := hKr.trans h6.out.1
    have HS6 : Hid (_) := h6.out.2
    clear h6 HcW
    go_wp2
    exact ⟨⟨k + 1, by omega, by go_num, hK6, HS6.out⟩, by simp [intOf]; omega⟩
end Go.Proofs.YtfajjphfjilpnaaGreat

namespace Go.Proofs.YtfajjphfjilpnaaGreat
open Go.RowKit LX Go.Shelf
set_option linter.unusedVariables false

set_option maxRecDepth 100000 in
set_option maxHeartbeats 8000000 in
theorem rregex_c4 (w0 : World) (q : Nat) (hq : w0.heap.size ≤ q) (r : Rx) (ut us : Value) (ht : FmsAt w0 ut r.test) (hs : RxsAt w0 us r.subs) (d : Int) (hd0 : 0 ≤ d) (hd1 : d ≤ 25)
    (IR : d ≤ 24 → ∀ (i : Nat) (hi : i < r.subs.length) (u1 u2 : Value), FmsAt w0 u1 r.subs[i].test → RxsAt w0 u2 r.subs[i].subs → Walks w0 q 59 (.agg #[.int .i64 r.subs[i].k, u1, u2]) (d + 1) (fun s => rrun (d + 1) s r.subs[i]))
    (IF : d ≤ 24 → ∀ (i : Nat) (hi : i < r.test.length) (y : FQ), QAt w0 (r.test[i], y) → Walks w0 q 30 (.agg #[.int .i64 r.test[i].k, .string r.test[i].nm, .int .i64 r.test[i].op, y.v, y.t, .int .i64 r.test[i].lo, .int .i64 r.test[i].hi, .bool r.test[i].opn, y.s, y.r]) (d + 1) (fun s => frun (d + 1) s r.test[i]))
    (hk : r.k = 4) (N M : Int) (w : World) (R : Int × (Int × Int)) (F : Int × Int → Int × (Int × Int)) (hw : Below w0.heap.size w0 w) (hK : WK w q N M 0) (ho : OkS (N, M)) (hR : R = andT (rrun d (N, M) r) F) :
    Calls Tryz.prog 59 #[.pointer (some ⟨q, 0, none⟩), .agg #[.int .i64 r.k, ut, us], .int .i64 d] w fun e w' => (∃ v, e = .returned v) ∧ Hid (KeepT q w w' ∧ WS w' q R F) := by
  obtain ⟨pt, ct, rfl, hlt0, hct, HXF0⟩ := ht.form
  have HXF : Hid (∀ i (hi : i < r.test.length), ∃ b off uv ut us ur, pt = some ⟨b, off, none⟩ ∧ b < w0.heap.size ∧ FmC w0 b (off + i * 10) r.test[i] uv ut us ur ∧ NmsAt w0 uv r.test[i].vars ∧ TmsAt w0 ut r.test[i].terms ∧ FmsAt w0 us r.test[i].subs ∧ RxsAt w0 ur r.test[i].rgx) := HXF0
  obtain ⟨ps, cs, rfl, hls, hcs, HXR0⟩ := hs.form
  have HXR : Hid (∀ i (hi : i < r.subs.length), ∃ b off ut us, ps = some ⟨b, off, none⟩ ∧ b < w0.heap.size ∧ RxC w0 b (off + i * 3) r.subs[i] ut us ∧ FmsAt w0 ut r.subs[i].test ∧ RxsAt w0 us r.subs[i].subs) := HXR0
  have HW : Hid (WK w q N M 0) := hK
  have HO : Hid (OkS (N, M)) := ho
  have hqw : q < w.heap.size := hK.lt
  have HR0 : Hid (R = andT (meetE d (N, M), meetS d (N, M)) fun s1 => andT (rxE r, s1) fun s1 => andT (fruns (d + 1) s1 r.test) fun s2 => andT (rruns (d + 1) s2 r.subs) F) := by
    have h := hR
    rw [rrun_eq] at h
    simp only [andT_assoc] at h
    exact h
  have HE : Hid (ndE d N = meetE d (N, M)) := nd_meet (s := (N, M)) HO.out
  have CR0 : Hid (_) := IR
  have CF0 : Hid (_) := IF
  clear IR IF ht hs HXF0 HXR0 hK ho hR
  obtain ⟨FE, hFE⟩ : ∃ FE, Hid (rxE r = FE) := ⟨_, rfl⟩
  have HD : Hid ((if r.k < 1 ∨ 5 < r.k then 20 else if r.test.length ≠ (if r.k = 2 then 1 else 0) ∨ r.subs.length ≠ (if r.k = 3 ∨ r.k = 4 then 2 else if r.k = 5 then 1 else 0) then 1 else 0) = FE) := hFE.out
  rw [hFE.out] at HR0
  clear hFE
  obtain ⟨nt, ent⟩ : ∃ n : Nat, Hid (r.test.length = n) := ⟨_, rfl⟩
  obtain ⟨ns, ens⟩ : ∃ n : Nat, Hid (r.subs.length = n) := ⟨_, rfl⟩
  rw [ent.out] at hlt0 hct HD ⊢
  rw [ens.out] at hls hcs HD ⊢
  generalize r.k = tk at *
  subst hk
  have hne : w.heap.size ≠ q := by omega
  go_enter Tryz.func59, Tryz.ntmps59
  go_wp2_with fail
  refine (rnode_any q N M d _ (HW.out.alloc _) ⟨HO.out.1, by have := HO.out.2.1; simp at this; omega⟩).mono ?_
  rintro r9 w1 ⟨rfl, h1⟩
  have hK1 : KeepT q w w1 := (KeepT.of ((Below.refl _ _).alloc (Nat.le_refl _) _)).trans h1.out.2.keep
  have W1 : Hid (WK w1 q (N + 1) (if M < d then d else M) (ndE d N)) := h1.out.1
  have B1 : Hid (w1.heap[w.heap.size]? = some (.cells #[.int .i64 4, .slice pt nt ct, .slice ps ns cs] 76 (0, 0))) := (h1.out.2.block w.heap.size (by simp) hne).trans (heap_allocA w _)
  clear h1
  by_cases hE : ndE d N = 0
  case neg =>
    have hE' : (ndE d N == 0) = false := by simpa using hE
    rw [hE']
    go_wp2
    refine bodyPost_ret (results_none rfl _ _ _) rfl ?_
    refine ⟨⟨_, rfl⟩, hK1, _, _, _, W1.out, fun e => absurd e hE, fun _ => ?_⟩
    have h := HR0.out
    rw [← HE.out] at h
    rw [h, andT_ne hE]
  have hE' : (ndE d N == 0) = true := by simpa using hE
  rw [hE']
  obtain ⟨N1, hN1⟩ : ∃ N1, Hid (N + 1 = N1) := ⟨_, rfl⟩
  obtain ⟨M1, hM1⟩ : ∃ M1, Hid ((if M < d then d else M) = M1) := ⟨_, rfl⟩
  have W1' : Hid (WK w1 q N1 M1 0) := by have h := W1.out; rw [hE, hN1.out, hM1.out] at h; exact h
  clear W1
  have hmS : Hid (meetS d (N, M) = (N1, M1)) := by
    have e : meetE d (N, M) = 0 := by rw [← HE.out]; exact hE
    unfold meetS
    rw [if_pos e, ← hN1.out, ← hM1.out, Int.max_def]
    show (N + 1, if M ≤ d then d else M) = (N + 1, if M < d then d else M)
    congr 1
    by_cases h : M < d
    · rw [if_pos h, if_pos (by omega)]
    · rw [if_neg h]; split <;> omega
  have HR1 : Hid (R = andT (FE, (N1, M1)) fun s1 => andT (fruns (d + 1) s1 r.test) fun s2 => andT (rruns (d + 1) s2 r.subs) F) := by
    have h := HR0.out
    rw [← HE.out, hE, andT_eq, hmS.out] at h
    exact h
  have hd24 : d ≤ 24 := meetE_le (s := (N, M)) (by rw [← HE.out]; exact hE)
  have HOk : Hid (OkS (N1, M1)) := by rw [← hmS.out]; exact meetS_ok HO.out hd0
  have CR := CR0.out hd24
  have CF := CF0.out hd24
  have CR : Hid (_) := CR
  have CF : Hid (_) := CF
  clear HR0 HE hE hE' hN1 hM1 hmS CR0 CF0
  have HNo : Hid (¬ FE = 0 → ∀ W : World, WK W q N1 M1 FE → WS W q R F) := by
    intro h W hW
    have hr := HR1.out
    rw [andT_ne h] at hr
    exact ⟨_, _, _, hW, fun e => absurd e h, fun _ => by rw [hr]⟩
  have e0 : w1.cell? ⟨w.heap.size, 0, none⟩ = some (.int .i64 4) := by rw [Lib.cell_of_heap B1.out]; rfl
  go_wp2_with fail
  refine (rwrong_any q N1 M1 0 20 _ w1 W1'.out).mono ?_
  rintro r9 w2 ⟨⟨v2, rfl⟩, h2⟩
  have W2 : Hid (WK w2 q N1 M1 0) := by have a := h2.out.1; first | exact a | (simp [wrE, hk] at a; exact a)
  have B2 : Hid (_) := h2.out.2.heap B1.out hne
  have hK2 : KeepT q w w2 := hK1.trans h2.out.2.keep
  clear h2 e0 B1 hK1 W1'
  have e0 : w2.cell? ⟨w.heap.size, 0, none⟩ = some (.int .i64 4) := by rw [Lib.cell_of_heap B2.out]; rfl
  have e1 : w2.cell? ⟨w.heap.size, 1, none⟩ = some (.slice pt nt ct) := by rw [Lib.cell_of_heap B2.out]; rfl
  have e2 : w2.cell? ⟨w.heap.size, 2, none⟩ = some (.slice ps ns cs) := by rw [Lib.cell_of_heap B2.out]; rfl
  by_cases hT : nt = 0
  case neg =>
    have t1 : ((nt : Int) == 0) = false := by simp; omega
    have t2 : ((nt : Int) != 0) = true := by simp; omega
    go_wp2_with fail
    refine (rwrong_any q N1 M1 _ 1 _ _ W2.out).mono ?_
    rintro r9 w9 ⟨⟨v9, rfl⟩, h9⟩
    have W9 : Hid (WK w9 q N1 M1 FE) := by have a := h9.out.1; have b := HD.out; simp [wrE, hT] at a b; first | (subst b; exact a) | (rw [← b]; exact a)
    have B9 : Hid (_) := h9.out.2.heap B2.out hne
    have hK9 : KeepT q w w9 := hK2.trans h9.out.2.keep
    have y2 : w9.cell? ⟨q, 2, none⟩ = some (.int .i64 FE) := W9.out.e
    clear h9 e0 e1 e2
    have tn : ¬ FE = 0 := by have b := HD.out; simp [hT] at b; omega
    have tn' : (FE == 0) = false := by simpa using tn
    have tn'' : (FE != 0) = true := by simpa using tn
    go_wp2
    refine bodyPost_ret (results_none rfl _ _ _) rfl ?_
    exact ⟨⟨_, rfl⟩, hK9, HNo.out tn _ W9.out⟩
  have t1 : ((nt : Int) == 0) = true := by simp; omega
  have t2 : ((nt : Int) != 0) = false := by simp; omega
  by_cases hS : ns = 2
  case neg =>
    have s1 : ((ns : Int) == 2) = false := by simp; omega
    have s2 : ((ns : Int) != 2) = true := by simp; omega
    go_wp2_with fail
    refine (rwrong_any q N1 M1 _ 1 _ _ W2.out).mono ?_
    rintro r9 w9 ⟨⟨v9, rfl⟩, h9⟩
    have W9 : Hid (WK w9 q N1 M1 FE) := by have a := h9.out.1; have b := HD.out; simp [wrE, hT, hS] at a b; first | (subst b; exact a) | (rw [← b]; exact a)
    have B9 : Hid (_) := h9.out.2.heap B2.out hne
    have hK9 : KeepT q w w9 := hK2.trans h9.out.2.keep
    have y2 : w9.cell? ⟨q, 2, none⟩ = some (.int .i64 FE) := W9.out.e
    clear h9 e0 e1 e2
    have tn : ¬ FE = 0 := by have b := HD.out; simp [hT, hS] at b; omega
    have tn' : (FE == 0) = false := by simpa using tn
    have tn'' : (FE != 0) = true := by simpa using tn
    go_wp2
    refine bodyPost_ret (results_none rfl _ _ _) rfl ?_
    exact ⟨⟨_, rfl⟩, hK9, HNo.out tn _ W9.out⟩
  have s1 : ((ns : Int) == 2) = true := by simp; omega
  have s2 : ((ns : Int) != 2) = false := by simp; omega
  go_wp2_with fail
  refine (rwrong_any q N1 M1 _ 1 _ _ W2.out).mono ?_
  rintro r9 w9 ⟨⟨v9, rfl⟩, h9⟩
  have W9 : Hid (WK w9 q N1 M1 FE) := by have a := h9.out.1; have b := HD.out; simp [wrE, hT, hS] at a b; first | (subst b; exact a) | (rw [← b]; exact a)
  have B9 : Hid (_) := h9.out.2.heap B2.out hne
  have hK9 : KeepT q w w9 := hK2.trans h9.out.2.keep
  have y2 : w9.cell? ⟨q, 2, none⟩ = some (.int .i64 FE) := W9.out.e
  clear h9 e0 e1 e2
  clear t1 t2 s1 s2
  have hz : FE = 0 := by have b := HD.out; simp [hT, hS] at b; omega
  subst hz
  have S9 : Hid (WS w9 q R (fun s1 => andT (fruns (d + 1) s1 r.test) fun s2 => andT (rruns (d + 1) s2 r.subs) F)) := WS.of W9.out HOk.out (by have h := HR1.out; rw [andT_eq] at h; exact h)
  clear HD HR1 HNo hT hS
  go_wp2
  go_loopw [9] (fun v wr => ∃ k : Nat, k ≤ nt ∧ v = .int .i64 k ∧ KeepT q w9 wr ∧ Hid (WS wr q R (fun s => andT (fruns (d + 1) s (r.test.drop k)) (fun s2 => andT (rruns (d + 1) s2 r.subs) F)))) (fun v _ => nt - (intOf v).toNat)
  case atStart => exact ⟨0, Nat.zero_le _, rfl, KeepT.refl _ _, by rw [List.drop_zero]; exact S9⟩
  case round =>
    obtain ⟨k, hk, rfl, hKr, hSr⟩ := hrel
    have Br : Hid (_) := (hKr.block w.heap.size (lt_heap B9.out) hne).trans B9.out
    have r6 : wr.cell? ⟨w.heap.size, 1, none⟩ = some (.slice pt nt ct) := by rw [Lib.cell_of_heap Br.out]; rfl
    by_cases hlt : k < nt
    case neg =>
      have c2 : ¬ (k : Int) < nt := by omega
      obtain ⟨w10, ew⟩ : ∃ W : World, W = wr := ⟨_, rfl⟩
      subst ew
      have S10 : Hid (WS w10 q R (fun s2 => andT (rruns (d + 1) s2 r.subs) F)) := hSr.out.cast (fun s => by rw [List.drop_eq_nil_of_le (by have := ent.out; omega), fruns_nil]; exact andT_eq)
      have hK10 : KeepT q w w10 := hK9.trans hKr
      have B10 : Hid (_) := Br.out
      clear hSr hKr Br
      go_wp2
      clear r6 c2 hk hlt
      go_loopw [10] (fun v wr => ∃ k : Nat, k ≤ ns ∧ v = .int .i64 k ∧ KeepT q w10 wr ∧ Hid (WS wr q R (fun s => andT (rruns (d + 1) s (r.subs.drop k)) F))) (fun v _ => ns - (intOf v).toNat)
      case atStart => exact ⟨0, Nat.zero_le _, rfl, KeepT.refl _ _, by rw [List.drop_zero]; exact S10⟩
      case round =>
        obtain ⟨k, hk, rfl, hKr, hSr⟩ := hrel
        have Br : Hid (_) := (hKr.block w.heap.size (lt_heap B10.out) hne).trans B10.out
        have r6 : wr.cell? ⟨w.heap.size, 2, none⟩ = some (.slice ps ns cs) := by rw [Lib.cell_of_heap Br.out]; rfl
        by_cases hlt : k < ns
        case neg =>
          have c2 : ¬ (k : Int) < ns := by omega
          have S11 : Hid (WS wr q R F) := hSr.out.cast (fun s => by rw [List.drop_eq_nil_of_le (by have := ens.out; omega), rruns_nil]; exact andT_eq)
          have hK11 : KeepT q w wr := hK10.trans hKr
          go_wp2
          go_end0
          exact ⟨⟨_, rfl⟩, hK11, S11.out⟩
        have hlt' : (k : Int) < ns := by omega
        have kx : k < r.subs.length := by have := ens.out; omega
        obtain ⟨b, off, u1, u2, rfl, hb, TC, N1t, N2t⟩ := HXR.out k kx
        have hBr : Below w0.heap.size w0 wr := hw.trans ((hK10.trans hKr).below (B := w0.heap.size) hq (Nat.le_of_lt hqw))
        obtain ⟨a0, a1, a2⟩ := TC.below hBr hb
        have wk := CR.out k kx u1 u2 N1t N2t
        have cW := wk wr R (fun s1 => andT (rruns (d + 1) s1 (r.subs.drop (k + 1))) F) hBr (hSr.out.cast (fun s => by rw [List.drop_eq_getElem_cons kx, rruns_and]))
        have HcW : Hid (Calls Tryz.prog 59 #[.pointer (some ⟨q, 0, none⟩), .agg #[.int .i64 r.subs[k].k, u1, u2], .int .i64 (d + 1)] wr fun e9 w' => (∃ v, e9 = .returned v) ∧ Hid (KeepT q wr w' ∧ WS w' q R (fun s1 => andT (rruns (d + 1) s1 (r.subs.drop (k + 1))) F))) := cW
        obtain ⟨p1, c1, rfl, -⟩ := N1t.form
        obtain ⟨p2, c2, rfl, -⟩ := N2t.form
        clear TC hSr wk cW N1t N2t
        generalize r.subs[k].k = X0 at *
        generalize r.subs[k].test.length = L1 at *
        generalize r.subs[k].subs.length = L2 at *
        have nw : IntKind.i64.wrap (d + 1) = d + 1 := by rw [IntKind.wrap_i64]; omega
        have nw2 : wrap64 (d + 1) = d + 1 := by unfold wrap64; omega
        go_wp2_with fail
        refine HcW.out.mono ?_
        rintro r w6 ⟨⟨v6, rfl⟩, h6⟩
        have hK6 : KeepT q w10 w6 := hKr.trans h6.out.1
        have HS6 : Hid (_) := h6.out.2
        clear h6 HcW
        go_wp2
        exact ⟨⟨k + 1, by omega, by go_num, hK6, HS6.out⟩, by simp [intOf]; omega⟩
    have hlt' : (k : Int) < nt := by omega
    have kx : k < r.test.length := by have := ent.out; omega
    obtain ⟨b, off, u1, u2, u3, u4, rfl, hb, TC, N1t, N2t, N3t, N4t⟩ := HXF.out k kx
    have hBr : Below w0.heap.size w0 wr := hw.trans ((hK9.trans hKr).below (B := w0.heap.size) hq (Nat.le_of_lt hqw))
    obtain ⟨a0, a1, a2, a3, a4, a5, a6, a7, a8, a9⟩ := TC.below hBr hb
    have wk := CF.out k kx ⟨u1, u2, u3, u4⟩ ⟨N1t, N2t, N3t, N4t⟩
    have cW := wk wr R (fun s1 => andT (fruns (d + 1) s1 (r.test.drop (k + 1))) (fun s2 => andT (rruns (d + 1) s2 r.subs) F)) hBr (hSr.out.cast (fun s => by rw [List.drop_eq_getElem_cons kx, fruns_and]))
    have HcW : Hid (Calls Tryz.prog 30 #[.pointer (some ⟨q, 0, none⟩), .agg #[.int .i64 r.test[k].k, .string r.test[k].nm, .int .i64 r.test[k].op, u1, u2, .int .i64 r.test[k].lo, .int .i64 r.test[k].hi, .bool r.test[k].opn, u3, u4], .int .i64 (d + 1)] wr fun e9 w' => (∃ v, e9 = .returned v) ∧ Hid (KeepT q wr w' ∧ WS w' q R (fun s1 => andT (fruns (d + 1) s1 (r.test.drop (k + 1))) (fun s2 => andT (rruns (d + 1) s2 r.subs) F)))) := cW
    obtain ⟨-, p1, c1, rfl, -⟩ := N1t
    obtain ⟨p2, c2, rfl, -⟩ := N2t.form
    obtain ⟨p3, c3, rfl, -⟩ := N3t.form
    obtain ⟨p4, c4, rfl, -⟩ := N4t.form
    clear TC hSr wk cW N2t N3t N4t
    generalize r.test[k].k = X0 at *
    generalize r.test[k].nm = X1 at *
    generalize r.test[k].op = X2 at *
    generalize r.test[k].lo = X3 at *
    generalize r.test[k].hi = X4 at *
    generalize r.test[k].opn = X5 at *
    generalize r.test[k].vars.length = L1 at *
    generalize r.test[k].terms.length = L2 at *
    generalize r.test[k].subs.length = L3 at *
    generalize r.test[k].rgx.length = L4 at *
    have nw : IntKind.i64.wrap (d + 1) = d + 1 := by rw [IntKind.wrap_i64]; omega
    have nw2 : wrap64 (d + 1) = d + 1 := by unfold wrap64; omega
    go_wp2_with fail
    refine HcW.out.mono ?_
    rintro r w6 ⟨⟨v6, rfl⟩, h6⟩
    have hK6 : KeepT q w9 w6 := hKr.trans h6.out.1
    have HS6 : Hid (_) := h6.out.2
    clear h6 HcW
    go_wp2
    exact ⟨⟨k + 1, by omega, by go_num, hK6, HS6.out⟩, by simp [intOf]; omega⟩
end Go.Proofs.YtfajjphfjilpnaaGreat

namespace Go.Proofs.YtfajjphfjilpnaaGreat
open Go.RowKit LX Go.Shelf
set_option linter.unusedVariables false

set_option maxRecDepth 100000 in
set_option maxHeartbeats 8000000 in
theorem rregex_c5 (w0 : World) (q : Nat) (hq : w0.heap.size ≤ q) (r : Rx) (ut us : Value) (ht : FmsAt w0 ut r.test) (hs : RxsAt w0 us r.subs) (d : Int) (hd0 : 0 ≤ d) (hd1 : d ≤ 25)
    (IR : d ≤ 24 → ∀ (i : Nat) (hi : i < r.subs.length) (u1 u2 : Value), FmsAt w0 u1 r.subs[i].test → RxsAt w0 u2 r.subs[i].subs → Walks w0 q 59 (.agg #[.int .i64 r.subs[i].k, u1, u2]) (d + 1) (fun s => rrun (d + 1) s r.subs[i]))
    (IF : d ≤ 24 → ∀ (i : Nat) (hi : i < r.test.length) (y : FQ), QAt w0 (r.test[i], y) → Walks w0 q 30 (.agg #[.int .i64 r.test[i].k, .string r.test[i].nm, .int .i64 r.test[i].op, y.v, y.t, .int .i64 r.test[i].lo, .int .i64 r.test[i].hi, .bool r.test[i].opn, y.s, y.r]) (d + 1) (fun s => frun (d + 1) s r.test[i]))
    (hk : r.k = 5) (N M : Int) (w : World) (R : Int × (Int × Int)) (F : Int × Int → Int × (Int × Int)) (hw : Below w0.heap.size w0 w) (hK : WK w q N M 0) (ho : OkS (N, M)) (hR : R = andT (rrun d (N, M) r) F) :
    Calls Tryz.prog 59 #[.pointer (some ⟨q, 0, none⟩), .agg #[.int .i64 r.k, ut, us], .int .i64 d] w fun e w' => (∃ v, e = .returned v) ∧ Hid (KeepT q w w' ∧ WS w' q R F) := by
  obtain ⟨pt, ct, rfl, hlt0, hct, HXF0⟩ := ht.form
  have HXF : Hid (∀ i (hi : i < r.test.length), ∃ b off uv ut us ur, pt = some ⟨b, off, none⟩ ∧ b < w0.heap.size ∧ FmC w0 b (off + i * 10) r.test[i] uv ut us ur ∧ NmsAt w0 uv r.test[i].vars ∧ TmsAt w0 ut r.test[i].terms ∧ FmsAt w0 us r.test[i].subs ∧ RxsAt w0 ur r.test[i].rgx) := HXF0
  obtain ⟨ps, cs, rfl, hls, hcs, HXR0⟩ := hs.form
  have HXR : Hid (∀ i (hi : i < r.subs.length), ∃ b off ut us, ps = some ⟨b, off, none⟩ ∧ b < w0.heap.size ∧ RxC w0 b (off + i * 3) r.subs[i] ut us ∧ FmsAt w0 ut r.subs[i].test ∧ RxsAt w0 us r.subs[i].subs) := HXR0
  have HW : Hid (WK w q N M 0) := hK
  have HO : Hid (OkS (N, M)) := ho
  have hqw : q < w.heap.size := hK.lt
  have HR0 : Hid (R = andT (meetE d (N, M), meetS d (N, M)) fun s1 => andT (rxE r, s1) fun s1 => andT (fruns (d + 1) s1 r.test) fun s2 => andT (rruns (d + 1) s2 r.subs) F) := by
    have h := hR
    rw [rrun_eq] at h
    simp only [andT_assoc] at h
    exact h
  have HE : Hid (ndE d N = meetE d (N, M)) := nd_meet (s := (N, M)) HO.out
  have CR0 : Hid (_) := IR
  have CF0 : Hid (_) := IF
  clear IR IF ht hs HXF0 HXR0 hK ho hR
  obtain ⟨FE, hFE⟩ : ∃ FE, Hid (rxE r = FE) := ⟨_, rfl⟩
  have HD : Hid ((if r.k < 1 ∨ 5 < r.k then 20 else if r.test.length ≠ (if r.k = 2 then 1 else 0) ∨ r.subs.length ≠ (if r.k = 3 ∨ r.k = 4 then 2 else if r.k = 5 then 1 else 0) then 1 else 0) = FE) := hFE.out
  rw [hFE.out] at HR0
  clear hFE
  obtain ⟨nt, ent⟩ : ∃ n : Nat, Hid (r.test.length = n) := ⟨_, rfl⟩
  obtain ⟨ns, ens⟩ : ∃ n : Nat, Hid (r.subs.length = n) := ⟨_, rfl⟩
  rw [ent.out] at hlt0 hct HD ⊢
  rw [ens.out] at hls hcs HD ⊢
  generalize r.k = tk at *
  subst hk
  have hne : w.heap.size ≠ q := by omega
  go_enter Tryz.func59, Tryz.ntmps59
  go_wp2_with fail
  refine (rnode_any q N M d _ (HW.out.alloc _) ⟨HO.out.1, by have := HO.out.2.1; simp at this; omega⟩).mono ?_
  rintro r9 w1 ⟨rfl, h1⟩
  have hK1 : KeepT q w w1 := (KeepT.of ((Below.refl _ _).alloc (Nat.le_refl _) _)).trans h1.out.2.keep
  have W1 : Hid (WK w1 q (N + 1) (if M < d then d else M) (ndE d N)) := h1.out.1
  have B1 : Hid (w1.heap[w.heap.size]? = some (.cells #[.int .i64 5, .slice pt nt ct, .slice ps ns cs] 76 (0, 0))) := (h1.out.2.block w.heap.size (by simp) hne).trans (heap_allocA w _)
  clear h1
  by_cases hE : ndE d N = 0
  case neg =>
    have hE' : (ndE d N == 0) = false := by simpa using hE
    rw [hE']
    go_wp2
    refine bodyPost_ret (results_none rfl _ _ _) rfl ?_
    refine ⟨⟨_, rfl⟩, hK1, _, _, _, W1.out, fun e => absurd e hE, fun _ => ?_⟩
    have h := HR0.out
    rw [← HE.out] at h
    rw [h, andT_ne hE]
  have hE' : (ndE d N == 0) = true := by simpa using hE
  rw [hE']
  obtain ⟨N1, hN1⟩ : ∃ N1, Hid (N + 1 = N1) := ⟨_, rfl⟩
  obtain ⟨M1, hM1⟩ : ∃ M1, Hid ((if M < d then d else M) = M1) := ⟨_, rfl⟩
  have W1' : Hid (WK w1 q N1 M1 0) := by have h := W1.out; rw [hE, hN1.out, hM1.out] at h; exact h
  clear W1
  have hmS : Hid (meetS d (N, M) = (N1, M1)) := by
    have e : meetE d (N, M) = 0 := by rw [← HE.out]; exact hE
    unfold meetS
    rw [if_pos e, ← hN1.out, ← hM1.out, Int.max_def]
    show (N + 1, if M ≤ d then d else M) = (N + 1, if M < d then d else M)
    congr 1
    by_cases h : M < d
    · rw [if_pos h, if_pos (by omega)]
    · rw [if_neg h]; split <;> omega
  have HR1 : Hid (R = andT (FE, (N1, M1)) fun s1 => andT (fruns (d + 1) s1 r.test) fun s2 => andT (rruns (d + 1) s2 r.subs) F) := by
    have h := HR0.out
    rw [← HE.out, hE, andT_eq, hmS.out] at h
    exact h
  have hd24 : d ≤ 24 := meetE_le (s := (N, M)) (by rw [← HE.out]; exact hE)
  have HOk : Hid (OkS (N1, M1)) := by rw [← hmS.out]; exact meetS_ok HO.out hd0
  have CR := CR0.out hd24
  have CF := CF0.out hd24
  have CR : Hid (_) := CR
  have CF : Hid (_) := CF
  clear HR0 HE hE hE' hN1 hM1 hmS CR0 CF0
  have HNo : Hid (¬ FE = 0 → ∀ W : World, WK W q N1 M1 FE → WS W q R F) := by
    intro h W hW
    have hr := HR1.out
    rw [andT_ne h] at hr
    exact ⟨_, _, _, hW, fun e => absurd e h, fun _ => by rw [hr]⟩
  have e0 : w1.cell? ⟨w.heap.size, 0, none⟩ = some (.int .i64 5) := by rw [Lib.cell_of_heap B1.out]; rfl
  go_wp2_with fail
  refine (rwrong_any q N1 M1 0 20 _ w1 W1'.out).mono ?_
  rintro r9 w2 ⟨⟨v2, rfl⟩, h2⟩
  have W2 : Hid (WK w2 q N1 M1 0) := by have a := h2.out.1; first | exact a | (simp [wrE, hk] at a; exact a)
  have B2 : Hid (_) := h2.out.2.heap B1.out hne
  have hK2 : KeepT q w w2 := hK1.trans h2.out.2.keep
  clear h2 e0 B1 hK1 W1'
  have e0 : w2.cell? ⟨w.heap.size, 0, none⟩ = some (.int .i64 5) := by rw [Lib.cell_of_heap B2.out]; rfl
  have e1 : w2.cell? ⟨w.heap.size, 1, none⟩ = some (.slice pt nt ct) := by rw [Lib.cell_of_heap B2.out]; rfl
  have e2 : w2.cell? ⟨w.heap.size, 2, none⟩ = some (.slice ps ns cs) := by rw [Lib.cell_of_heap B2.out]; rfl
  by_cases hT : nt = 0
  case neg =>
    have t1 : ((nt : Int) == 0) = false := by simp; omega
    have t2 : ((nt : Int) != 0) = true := by simp; omega
    go_wp2_with fail
    refine (rwrong_any q N1 M1 _ 1 _ _ W2.out).mono ?_
    rintro r9 w9 ⟨⟨v9, rfl⟩, h9⟩
    have W9 : Hid (WK w9 q N1 M1 FE) := by have a := h9.out.1; have b := HD.out; simp [wrE, hT] at a b; first | (subst b; exact a) | (rw [← b]; exact a)
    have B9 : Hid (_) := h9.out.2.heap B2.out hne
    have hK9 : KeepT q w w9 := hK2.trans h9.out.2.keep
    have y2 : w9.cell? ⟨q, 2, none⟩ = some (.int .i64 FE) := W9.out.e
    clear h9 e0 e1 e2
    have tn : ¬ FE = 0 := by have b := HD.out; simp [hT] at b; omega
    have tn' : (FE == 0) = false := by simpa using tn
    have tn'' : (FE != 0) = true := by simpa using tn
    go_wp2
    refine bodyPost_ret (results_none rfl _ _ _) rfl ?_
    exact ⟨⟨_, rfl⟩, hK9, HNo.out tn _ W9.out⟩
  have t1 : ((nt : Int) == 0) = true := by simp; omega
  have t2 : ((nt : Int) != 0) = false := by simp; omega
  by_cases hS : ns = 1
  case neg =>
    have s1 : ((ns : Int) == 1) = false := by simp; omega
    have s2 : ((ns : Int) != 1) = true := by simp; omega
    go_wp2_with fail
    refine (rwrong_any q N1 M1 _ 1 _ _ W2.out).mono ?_
    rintro r9 w9 ⟨⟨v9, rfl⟩, h9⟩
    have W9 : Hid (WK w9 q N1 M1 FE) := by have a := h9.out.1; have b := HD.out; simp [wrE, hT, hS] at a b; first | (subst b; exact a) | (rw [← b]; exact a)
    have B9 : Hid (_) := h9.out.2.heap B2.out hne
    have hK9 : KeepT q w w9 := hK2.trans h9.out.2.keep
    have y2 : w9.cell? ⟨q, 2, none⟩ = some (.int .i64 FE) := W9.out.e
    clear h9 e0 e1 e2
    have tn : ¬ FE = 0 := by have b := HD.out; simp [hT, hS] at b; omega
    have tn' : (FE == 0) = false := by simpa using tn
    have tn'' : (FE != 0) = true := by simpa using tn
    go_wp2
    refine bodyPost_ret (results_none rfl _ _ _) rfl ?_
    exact ⟨⟨_, rfl⟩, hK9, HNo.out tn _ W9.out⟩
  have s1 : ((ns : Int) == 1) = true := by simp; omega
  have s2 : ((ns : Int) != 1) = false := by simp; omega
  go_wp2_with fail
  refine (rwrong_any q N1 M1 _ 1 _ _ W2.out).mono ?_
  rintro r9 w9 ⟨⟨v9, rfl⟩, h9⟩
  have W9 : Hid (WK w9 q N1 M1 FE) := by have a := h9.out.1; have b := HD.out; simp [wrE, hT, hS] at a b; first | (subst b; exact a) | (rw [← b]; exact a)
  have B9 : Hid (_) := h9.out.2.heap B2.out hne
  have hK9 : KeepT q w w9 := hK2.trans h9.out.2.keep
  have y2 : w9.cell? ⟨q, 2, none⟩ = some (.int .i64 FE) := W9.out.e
  clear h9 e0 e1 e2
  clear t1 t2 s1 s2
  have hz : FE = 0 := by have b := HD.out; simp [hT, hS] at b; omega
  subst hz
  have S9 : Hid (WS w9 q R (fun s1 => andT (fruns (d + 1) s1 r.test) fun s2 => andT (rruns (d + 1) s2 r.subs) F)) := WS.of W9.out HOk.out (by have h := HR1.out; rw [andT_eq] at h; exact h)
  clear HD HR1 HNo hT hS
  go_wp2
  go_loopw [9] (fun v wr => ∃ k : Nat, k ≤ nt ∧ v = .int .i64 k ∧ KeepT q w9 wr ∧ Hid (WS wr q R (fun s => andT (fruns (d + 1) s (r.test.drop k)) (fun s2 => andT (rruns (d + 1) s2 r.subs) F)))) (fun v _ => nt - (intOf v).toNat)
  case atStart => exact ⟨0, Nat.zero_le _, rfl, KeepT.refl _ _, by rw [List.drop_zero]; exact S9⟩
  case round =>
    obtain ⟨k, hk, rfl, hKr, hSr⟩ := hrel
    have Br : Hid (_) := (hKr.block w.heap.size (lt_heap B9.out) hne).trans B9.out
    have r6 : wr.cell? ⟨w.heap.size, 1, none⟩ = some (.slice pt nt ct) := by rw [Lib.cell_of_heap Br.out]; rfl
    by_cases hlt : k < nt
    case neg =>
      have c2 : ¬ (k : Int) < nt := by omega
      obtain ⟨w10, ew⟩ : ∃ W : World, W = wr := ⟨_, rfl⟩
      subst ew
      have S10 : Hid (WS w10 q R (fun s2 => andT (rruns (d + 1) s2 r.subs) F)) := hSr.out.cast (fun s => by rw [List.drop_eq_nil_of_le (by have := ent.out; omega), fruns_nil]; exact andT_eq)
      have hK10 : KeepT q w w10 := hK9.trans hKr
      have B10 : Hid (_) := Br.out
      clear hSr hKr Br
      go_wp2
      clear r6 c2 hk hlt
      go_loopw [10] (fun v wr => ∃ k : Nat, k ≤ ns ∧ v = .int .i64 k ∧ KeepT q w10 wr ∧ Hid (WS wr q R (fun s => andT (rruns (d + 1) s (r.subs.drop k)) F))) (fun v _ => ns - (intOf v).toNat)
      case atStart => exact ⟨0, Nat.zero_le _, rfl, KeepT.refl _ _, by rw [List.drop_zero]; exact S10⟩
      case round =>
        obtain ⟨k, hk, rfl, hKr, hSr⟩ := hrel
        have Br : Hid (_) := (hKr.block w.heap.size (lt_heap B10.out) hne).trans B10.out
        have r6 : wr.cell? ⟨w.heap.size, 2, none⟩ = some (.slice ps ns cs) := by rw [Lib.cell_of_heap Br.out]; rfl
        by_cases hlt : k < ns
        case neg =>
          have c2 : ¬ (k : Int) < ns := by omega
          have S11 : Hid (WS wr q R F) := hSr.out.cast (fun s => by rw [List.drop_eq_nil_of_le (by have := ens.out; omega), rruns_nil]; exact andT_eq)
          have hK11 : KeepT q w wr := hK10.trans hKr
          go_wp2
          go_end0
          exact ⟨⟨_, rfl⟩, hK11, S11.out⟩
        have hlt' : (k : Int) < ns := by omega
        have kx : k < r.subs.length := by have := ens.out; omega
        obtain ⟨b, off, u1, u2, rfl, hb, TC, N1t, N2t⟩ := HXR.out k kx
        have hBr : Below w0.heap.size w0 wr := hw.trans ((hK10.trans hKr).below (B := w0.heap.size) hq (Nat.le_of_lt hqw))
        obtain ⟨a0, a1, a2⟩ := TC.below hBr hb
        have wk := CR.out k kx u1 u2 N1t N2t
        have cW := wk wr R (fun s1 => andT (rruns (d + 1) s1 (r.subs.drop (k + 1))) F) hBr (hSr.out.cast (fun s => by rw [List.drop_eq_getElem_cons kx, rruns_and]))
        have HcW : Hid (Calls Tryz.prog 59 #[.pointer (some ⟨q, 0, none⟩), .agg #[.int .i64 r.subs[k].k, u1, u2], .int .i64 (d + 1)] wr fun e9 w' => (∃ v, e9 = .returned v) ∧ Hid (KeepT q wr w' ∧ WS w' q R (fun s1 => andT (rruns (d + 1) s1 (r.subs.drop (k + 1))) F))) := cW
        obtain ⟨p1, c1, rfl, -⟩ := N1t.form
        obtain ⟨p2, c2, rfl, -⟩ := N2t.form
        clear TC hSr wk cW N1t N2t
        generalize r.subs[k].k = X0 at *
        generalize r.subs[k].test.length = L1 at *
        generalize r.subs[k].subs.length = L2 at *
        have nw : IntKind.i64.wrap (d + 1) = d + 1 := by rw [IntKind.wrap_i64]; omega
        have nw2 : wrap64 (d + 1) = d + 1 := by unfold wrap64; omega
        go_wp2_with fail
        refine HcW.out.mono ?_
        rintro r w6 ⟨⟨v6, rfl⟩, h6⟩
        have hK6 : KeepT q w10 w6 := hKr.trans h6.out.1
        have HS6 : Hid (_) := h6.out.2
        clear h6 HcW
        go_wp2
        exact ⟨⟨k + 1, by omega, by go_num, hK6, HS6.out⟩, by simp [intOf]; omega⟩
    have hlt' : (k : Int) < nt := by omega
    have kx : k < r.test.length := by have := ent.out; omega
    obtain ⟨b, off, u1, u2, u3, u4, rfl, hb, TC, N1t, N2t, N3t, N4t⟩ := HXF.out k kx
    have hBr : Below w0.heap.size w0 wr := hw.trans ((hK9.trans hKr).below (B := w0.heap.size) hq (Nat.le_of_lt hqw))
    obtain ⟨a0, a1, a2, a3, a4, a5, a6, a7, a8, a9⟩ := TC.below hBr hb
    have wk := CF.out k kx ⟨u1, u2, u3, u4⟩ ⟨N1t, N2t, N3t, N4t⟩
    have cW := wk wr R (fun s1 => andT (fruns (d + 1) s1 (r.test.drop (k + 1))) (fun s2 => andT (rruns (d + 1) s2 r.subs) F)) hBr (hSr.out.cast (fun s => by rw [List.drop_eq_getElem_cons kx, fruns_and]))
    have HcW : Hid (Calls Tryz.prog 30 #[.pointer (some ⟨q, 0, none⟩), .agg #[.int .i64 r.test[k].k, .string r.test[k].nm, .int .i64 r.test[k].op, u1, u2, .int .i64 r.test[k].lo, .int .i64 r.test[k].hi, .bool r.test[k].opn, u3, u4], .int .i64 (d + 1)] wr fun e9 w' => (∃ v, e9 = .returned v) ∧ Hid (KeepT q wr w' ∧ WS w' q R (fun s1 => andT (fruns (d + 1) s1 (r.test.drop (k + 1))) (fun s2 => andT (rruns (d + 1) s2 r.subs) F)))) := cW
    obtain ⟨-, p1, c1, rfl, -⟩ := N1t
    obtain ⟨p2, c2, rfl, -⟩ := N2t.form
    obtain ⟨p3, c3, rfl, -⟩ := N3t.form
    obtain ⟨p4, c4, rfl, -⟩ := N4t.form
    clear TC hSr wk cW N2t N3t N4t
    generalize r.test[k].k = X0 at *
    generalize r.test[k].nm = X1 at *
    generalize r.test[k].op = X2 at *
    generalize r.test[k].lo = X3 at *
    generalize r.test[k].hi = X4 at *
    generalize r.test[k].opn = X5 at *
    generalize r.test[k].vars.length = L1 at *
    generalize r.test[k].terms.length = L2 at *
    generalize r.test[k].subs.length = L3 at *
    generalize r.test[k].rgx.length = L4 at *
    have nw : IntKind.i64.wrap (d + 1) = d + 1 := by rw [IntKind.wrap_i64]; omega
    have nw2 : wrap64 (d + 1) = d + 1 := by unfold wrap64; omega
    go_wp2_with fail
    refine HcW.out.mono ?_
    rintro r w6 ⟨⟨v6, rfl⟩, h6⟩
    have hK6 : KeepT q w9 w6 := hKr.trans h6.out.1
    have HS6 : Hid (_) := h6.out.2
    clear h6 HcW
    go_wp2
    exact ⟨⟨k + 1, by omega, by go_num, hK6, HS6.out⟩, by simp [intOf]; omega⟩
end Go.Proofs.YtfajjphfjilpnaaGreat

namespace Go.Proofs.YtfajjphfjilpnaaGreat
open Go.RowKit LX Go.Shelf
set_option linter.unusedVariables false

theorem rboth_walks (w0 : World) (q : Nat) (hq : w0.heap.size ≤ q) : ∀ m : Nat, (∀ (f : Fm) (y : FQ) (d : Int), SizeOf.sizeOf f ≤ m → QAt w0 (f, y) → 0 ≤ d → d ≤ 25 → Walks w0 q 30 (.agg #[.int .i64 f.k, .string f.nm, .int .i64 f.op, y.v, y.t, .int .i64 f.lo, .int .i64 f.hi, .bool f.opn, y.s, y.r]) d (fun s => frun d s f)) ∧ (∀ (r : Rx) (u1 u2 : Value) (d : Int), SizeOf.sizeOf r ≤ m → FmsAt w0 u1 r.test → RxsAt w0 u2 r.subs → 0 ≤ d → d ≤ 25 → Walks w0 q 59 (.agg #[.int .i64 r.k, u1, u2]) d (fun s => rrun d s r)) := by
  intro m
  induction m with
  | zero => exact ⟨fun f y d hm => by cases f; simp at hm, fun r u1 u2 d hm => by cases r; simp at hm⟩
  | succ m ih =>
    refine ⟨fun f y d hm hQ h0 h1 W R F hW hS => ?_, fun r u1 u2 d hm ht hs h0 h1 W R F hW hS => ?_⟩
    · obtain ⟨N, M, E, h, g1, g2⟩ := hS
      by_cases hE : E = 0
      case neg =>
        refine (rformula_no q N M E d _ _ _ _ _ _ y.v y.t y.s y.r W h hE).mono ?_
        rintro r w' ⟨hv, g⟩
        exact ⟨hv, KeepT.of g.out.1, N, M, E, g.out.2, fun e => absurd e hE, g2⟩
      subst hE
      obtain ⟨ho, hR⟩ := g1 rfl
      have IT : d ≤ 24 → ∀ (i : Nat) (hi : i < f.terms.length) (u : Value), TmsAt w0 u f.terms[i].subs → f.terms[i].v.Fits → Walks w0 q 58 (.agg #[.int .i64 f.terms[i].k, .string f.terms[i].nm, .int .i64 f.terms[i].v.k, .int .i64 f.terms[i].v.n, .int .i64 f.terms[i].v.d, .string f.terms[i].v.s, u]) (d + 1) (fun s => trun (d + 1) s f.terms[i]) := fun h i hi u hu hf => rterm_walks w0 q hq _ u hu hf (d + 1) (by omega) (by omega)
      have IR : d ≤ 24 → ∀ (i : Nat) (hi : i < f.rgx.length) (u1 u2 : Value), FmsAt w0 u1 f.rgx[i].test → RxsAt w0 u2 f.rgx[i].subs → Walks w0 q 59 (.agg #[.int .i64 f.rgx[i].k, u1, u2]) (d + 1) (fun s => rrun (d + 1) s f.rgx[i]) := fun h i hi u1 u2 a b => ih.2 _ u1 u2 (d + 1) (by have a := mem_lt i hi; have b := f.rgx_lt; omega) a b (by omega) (by omega)
      have IF : d ≤ 24 → ∀ (i : Nat) (hi : i < f.subs.length) (y : FQ), QAt w0 (f.subs[i], y) → Walks w0 q 30 (.agg #[.int .i64 f.subs[i].k, .string f.subs[i].nm, .int .i64 f.subs[i].op, y.v, y.t, .int .i64 f.subs[i].lo, .int .i64 f.subs[i].hi, .bool f.subs[i].opn, y.s, y.r]) (d + 1) (fun s => frun (d + 1) s f.subs[i]) := fun h i hi y a => ih.1 _ y (d + 1) (by have a := mem_lt i hi; have b := f.subs_lt; omega) a (by omega) (by omega)
      by_cases k0 : f.k < 1
      · exact rformula_cA w0 q hq f y.v y.t y.s y.r hQ d h0 h1 IT IR IF k0 N M W R F hW h ho hR
      by_cases k22 : 22 < f.k
      · exact rformula_cB w0 q hq f y.v y.t y.s y.r hQ d h0 h1 IT IR IF k22 N M W R F hW h ho hR
      by_cases k19 : f.k = 19
      · exact rformula_cD w0 q hq f y.v y.t y.s y.r hQ d h0 h1 IT IR IF k19 N M W R F hW h ho hR
      · exact rformula_cC w0 q hq f y.v y.t y.s y.r hQ d h0 h1 IT IR IF ⟨by omega, k19⟩ N M W R F hW h ho hR
    · obtain ⟨N, M, E, h, g1, g2⟩ := hS
      by_cases hE : E = 0
      case neg =>
        refine (rregex_no q N M E d _ u1 u2 W h hE).mono ?_
        rintro r w' ⟨hv, g⟩
        exact ⟨hv, KeepT.of g.out.1, N, M, E, g.out.2, fun e => absurd e hE, g2⟩
      subst hE
      obtain ⟨ho, hR⟩ := g1 rfl
      have IR : d ≤ 24 → ∀ (i : Nat) (hi : i < r.subs.length) (u1 u2 : Value), FmsAt w0 u1 r.subs[i].test → RxsAt w0 u2 r.subs[i].subs → Walks w0 q 59 (.agg #[.int .i64 r.subs[i].k, u1, u2]) (d + 1) (fun s => rrun (d + 1) s r.subs[i]) := fun h i hi u1 u2 a b => ih.2 _ u1 u2 (d + 1) (by have a := mem_lt i hi; have b := r.subs_lt; omega) a b (by omega) (by omega)
      have IF : d ≤ 24 → ∀ (i : Nat) (hi : i < r.test.length) (y : FQ), QAt w0 (r.test[i], y) → Walks w0 q 30 (.agg #[.int .i64 r.test[i].k, .string r.test[i].nm, .int .i64 r.test[i].op, y.v, y.t, .int .i64 r.test[i].lo, .int .i64 r.test[i].hi, .bool r.test[i].opn, y.s, y.r]) (d + 1) (fun s => frun (d + 1) s r.test[i]) := fun h i hi y a => ih.1 _ y (d + 1) (by have a := mem_lt i hi; have b := r.test_lt; omega) a (by omega) (by omega)
      have h7 : r.k < 1 ∨ 5 < r.k ∨ r.k = 1 ∨ r.k = 2 ∨ r.k = 3 ∨ r.k = 4 ∨ r.k = 5 := by omega
      rcases h7 with h7 | h7 | h7 | h7 | h7 | h7 | h7
      · exact rregex_clo w0 q hq r u1 u2 ht hs d h0 h1 IR IF h7 N M W R F hW h ho hR
      · exact rregex_chi w0 q hq r u1 u2 ht hs d h0 h1 IR IF h7 N M W R F hW h ho hR
      · exact rregex_c1 w0 q hq r u1 u2 ht hs d h0 h1 IR IF h7 N M W R F hW h ho hR
      · exact rregex_c2 w0 q hq r u1 u2 ht hs d h0 h1 IR IF h7 N M W R F hW h ho hR
      · exact rregex_c3 w0 q hq r u1 u2 ht hs d h0 h1 IR IF h7 N M W R F hW h ho hR
      · exact rregex_c4 w0 q hq r u1 u2 ht hs d h0 h1 IR IF h7 N M W R F hW h ho hR
      · exact rregex_c5 w0 q hq r u1 u2 ht hs d h0 h1 IR IF h7 N M W R F hW h ho hR
theorem rformula_walk (w0 : World) (q : Nat) (hq : w0.heap.size ≤ q) (f : Fm) (y : FQ) (hQ : QAt w0 (f, y)) (W : World) (hW : Below w0.heap.size w0 W) (h : WK W q 0 0 0) :
    Calls Tryz.prog 30 #[.pointer (some ⟨q, 0, none⟩), .agg #[.int .i64 f.k, .string f.nm, .int .i64 f.op, y.v, y.t, .int .i64 f.lo, .int .i64 f.hi, .bool f.opn, y.s, y.r], .int .i64 1] W fun r w' => (∃ v, r = .returned v) ∧ Hid (KeepT q W w' ∧ WQ w' q (frun 1 (0, 0) f)) := by
  refine ((rboth_walks w0 q hq (SizeOf.sizeOf f)).1 f y 1 (Nat.le_refl _) hQ (by decide) (by decide) W (frun 1 (0, 0) f) (fun s => (0, s)) hW (WS.of h ⟨by decide, by decide, by decide, by decide⟩ ?_)).mono ?_
  · show _ = andT _ _
    unfold andT
    by_cases hz : (frun 1 (0, 0) f).1 = 0
    · rw [if_pos hz]; exact Prod.ext hz rfl
    · rw [if_neg hz]
  · rintro r w' ⟨hv, g⟩
    exact ⟨hv, g.out.1, g.out.2.wq⟩
end Go.Proofs.YtfajjphfjilpnaaGreat

namespace Go.Proofs.YtfajjphfjilpnaaGreat
open Go.RowKit LX Go.Shelf
set_option linter.unusedVariables false

theorem few_iff (f : Fm) : ((fre f).2 ≤ 8) ↔ (fre f).1.length ≤ 8 ∧ ∀ i (hi : i < (ptsF f).length), (fre (ptsF f)[i]).2 ≤ 8 := by
  rw [fre_eq]
  show max _ _ ≤ 8 ↔ (freO f _).length ≤ 8 ∧ _
  constructor
  · intro h
    refine ⟨by omega, fun i hi => ?_⟩
    have := mx_ge (l := (ptsF f).map fun g => (fre g).2) (x := (fre (ptsF f)[i]).2) (List.mem_map.2 ⟨_, List.getElem_mem hi, rfl⟩)
    omega
  · rintro ⟨h1, h2⟩
    have : mx ((ptsF f).map fun g => (fre g).2) ≤ 8 := mx_le fun x hx => by
      obtain ⟨g, hg, rfl⟩ := List.mem_map.1 hx
      obtain ⟨i, hi, e⟩ := List.getElem_of_mem hg
      rw [← e]
      exact h2 i hi
    omega
theorem run_good {f : Fm} (h0 : (frun 1 (0, 0) f).1 = 0) : wfF f ∧ nodF f ≤ 256 := by
  have h1 := fruns_good (fs := [f]) (dep := 1) (s := (0, 0)) (by rw [fruns_one]; exact pair0 h0)
  rw [wfFs_cons, nodFs_cons, nodFs_nil] at h1
  have h2 : OkS (frun 1 (0, 0) f).2 := frun_okS f
  have h3 : ((frun 1 (0, 0) f).2).1 ≤ 256 := h2.2.1
  refine ⟨h1.1.1, ?_⟩
  have := h1.2
  simp at this
  omega
set_option maxRecDepth 100000 in
set_option maxHeartbeats 8000000 in
theorem rfew_any (w0 : World) : ∀ (m : Nat) (f : Fm) (y : FQ) (w : World), nodF f < m → nodF f ≤ 256 → wfF f → QAt w0 (f, y) → Below w0.heap.size w0 w →
    Calls Tryz.prog 31 #[.agg #[.int .i64 f.k, .string f.nm, .int .i64 f.op, y.v, y.t, .int .i64 f.lo, .int .i64 f.hi, .bool f.opn, y.s, y.r]] w fun e w' => e = .returned (.bool (decide ((fre f).2 ≤ 8))) ∧ Below w.heap.size w w' := by
  intro m
  induction m with
  | zero => intro f y w hm; omega
  | succ m ih =>
    intro f y w hm hn hok hQ hw
    have hE : fmE f = 0 := by rw [wfF_eq] at hok; exact hok.1
    have hpa := pts_app hE
    have hpn := pts_nod f
    have hpo := pts_ok hok
    have hpl : (ptsF f).length ≤ 256 := by have := nodFs_len (ptsF f); omega
    have hfl : (fre f).1.length ≤ 5000 := by have := fre_len _ f (Nat.le_refl _) hok; omega
    have cV : Hid (∀ W : World, Below w0.heap.size w0 W → Calls Tryz.prog 41 #[.agg #[.int .i64 f.k, .string f.nm, .int .i64 f.op, y.v, y.t, .int .i64 f.lo, .int .i64 f.hi, .bool f.opn, y.s, y.r]] W fun e w' => ∃ v, e = .returned v ∧ OwnN W.heap.size v (fre f).1 w' ∧ Below W.heap.size W w') := fun W hW => rvars_any w0 _ f y W (Nat.lt_succ_self _) hn hok hQ hW
    have cPt : Hid (∀ W : World, Below w0.heap.size w0 W → Calls Tryz.prog 47 #[.agg #[.int .i64 f.k, .string f.nm, .int .i64 f.op, y.v, y.t, .int .i64 f.lo, .int .i64 f.hi, .bool f.opn, y.s, y.r]] W fun e w' => ∃ v, e = .returned v ∧ OwnF w0 (W.heap.size + 1) v (ptsF f) w' ∧ Below W.heap.size W w') := fun W hW => by
      have h := rparts_any w0 f y hQ W hW (by rw [← List.length_append, hpa]; omega)
      rw [hpa] at h
      exact h
    have IHp : Hid (∀ (i : Nat) (hi : i < (ptsF f).length) (z : FQ) (W : World), QAt w0 ((ptsF f)[i], z) → Below w0.heap.size w0 W → Calls Tryz.prog 31 #[.agg #[.int .i64 (ptsF f)[i].k, .string (ptsF f)[i].nm, .int .i64 (ptsF f)[i].op, z.v, z.t, .int .i64 (ptsF f)[i].lo, .int .i64 (ptsF f)[i].hi, .bool (ptsF f)[i].opn, z.s, z.r]] W fun e w' => e = .returned (.bool (decide ((fre (ptsF f)[i]).2 ≤ 8))) ∧ Below W.heap.size W w') := fun i hi z W h1 h2 => ih _ z W (by have := nodFs_get (ptsF f) i hi; omega) (by have := nodFs_get (ptsF f) i hi; omega) (wfFs_get _ i hi hpo) h1 h2
    have HI : Hid (((fre f).2 ≤ 8) ↔ (fre f).1.length ≤ 8 ∧ ∀ i (hi : i < (ptsF f).length), (fre (ptsF f)[i]).2 ≤ 8) := few_iff f
    have hw0 := hw.size
    obtain ⟨np, enp⟩ : ∃ n : Nat, Hid ((ptsF f).length = n) := ⟨_, rfl⟩
    obtain ⟨FV0, eXQ⟩ : ∃ F : List ByteArray, Hid ((fre f).1 = F) := ⟨_, rfl⟩
    rw [eXQ.out] at cV HI hfl
    obtain ⟨BB, eBB⟩ : ∃ B : Bool, Hid (decide ((fre f).2 ≤ 8) = B) := ⟨_, rfl⟩
    rw [eBB.out]
    have HI2 : Hid (BB = true ↔ FV0.length ≤ 8 ∧ ∀ i (hi : i < (ptsF f).length), (fre (ptsF f)[i]).2 ≤ 8) := by
      rw [← eBB.out, decide_eq_true_eq]
      exact HI.out
    rw [enp.out] at hpl
    clear HI eBB eXQ ih hm hn hok hE hpa hpn hpo
    obtain ⟨uv, ut, us, ur⟩ := y
    obtain ⟨h1, h2, h3, h4⟩ := hQ
    dsimp only at h1 h2 h3 h4 cV cPt ⊢
    obtain ⟨-, pv, cv, rfl, -, -⟩ := h1
    obtain ⟨pt, ct, rfl, -⟩ := h2.form
    obtain ⟨ps, cs, rfl, -⟩ := h3.form
    obtain ⟨pr, cr, rfl, -⟩ := h4.form
    clear h2 h3 h4
    generalize f.vars.length = nv at *
    generalize f.terms.length = nt at *
    generalize f.subs.length = ns at *
    generalize f.rgx.length = nr at *
    generalize f.lo = lo at *
    generalize f.hi = fhi at *
    generalize f.nm = nm at *
    generalize f.opn = o at *
    generalize f.op = op at *
    generalize f.k = fk at *
    go_enter Tryz.func31, Tryz.ntmps31
    go_wp2_with fail
    refine (cV.out _ (hw.alloc hw0 _)).mono ?_
    rintro e w1 ⟨v1, rfl, h1, hb1⟩
    have X1 : Hid (w1.heap[w.heap.size]? = some (.cells #[.int .i64 fk, .string nm, .int .i64 op, .slice pv nv cv, .slice pt nt ct, .int .i64 lo, .int .i64 fhi, .bool o, .slice ps ns cs, .slice pr nr cr] 29 (0, 0))) := (hb1.block w.heap.size (by simp)).trans (heap_allocA w _)
    have B1 : Below w.heap.size w w1 := ((Below.refl _ _).alloc (Nat.le_refl _) _).trans (hb1.mono (by simp))
    have B10 : Below w0.heap.size w0 w1 := hw.trans (B1.mono hw0)
    obtain ⟨p1, c1, rfl, -⟩ := h1.cap
    obtain ⟨nf, enf⟩ : ∃ n : Nat, Hid (FV0.length = n) := ⟨_, rfl⟩
    rw [enf.out] at HI2 hfl ⊢
    clear h1 hb1 cV
    by_cases h8 : nf ≤ 8
    case neg =>
      have h8' : (8 : Int) < nf := by omega
      have hB : Hid (BB = false) := by
        have h := HI2.out
        cases hbb : BB with
        | false => exact rfl
        | true => rw [hbb] at h; exact absurd (h.1 rfl).1 h8
      go_wp2
      go_ret
      exact ⟨ret_bool hB.out.symm, B1⟩
    have h8' : ¬ (8 : Int) < nf := by omega
    have e0 : w1.cell? ⟨w.heap.size, 0, none⟩ = some (.int .i64 fk) := by rw [Lib.cell_of_heap X1.out]; rfl
    have e1 : w1.cell? ⟨w.heap.size, 1, none⟩ = some (.string nm) := by rw [Lib.cell_of_heap X1.out]; rfl
    have e2 : w1.cell? ⟨w.heap.size, 2, none⟩ = some (.int .i64 op) := by rw [Lib.cell_of_heap X1.out]; rfl
    have e3 : w1.cell? ⟨w.heap.size, 3, none⟩ = some (.slice pv nv cv) := by rw [Lib.cell_of_heap X1.out]; rfl
    have e4 : w1.cell? ⟨w.heap.size, 4, none⟩ = some (.slice pt nt ct) := by rw [Lib.cell_of_heap X1.out]; rfl
    have e5 : w1.cell? ⟨w.heap.size, 5, none⟩ = some (.int .i64 lo) := by rw [Lib.cell_of_heap X1.out]; rfl
    have e6 : w1.cell? ⟨w.heap.size, 6, none⟩ = some (.int .i64 fhi) := by rw [Lib.cell_of_heap X1.out]; rfl
    have e7 : w1.cell? ⟨w.heap.size, 7, none⟩ = some (.bool o) := by rw [Lib.cell_of_heap X1.out]; rfl
    have e8 : w1.cell? ⟨w.heap.size, 8, none⟩ = some (.slice ps ns cs) := by rw [Lib.cell_of_heap X1.out]; rfl
    have e9 : w1.cell? ⟨w.heap.size, 9, none⟩ = some (.slice pr nr cr) := by rw [Lib.cell_of_heap X1.out]; rfl
    go_wp2_with fail
    refine (cPt.out _ B10).mono ?_
    rintro e w3 ⟨v6, rfl, h6, hb6⟩
    have P3 : Hid (PtsAt w0 w3 v6 (ptsF f)) := h6.pts (by have := enp.out; omega)
    have B3 : Below w.heap.size w w3 := B1.trans (hb6.mono B1.size)
    clear h6 hb6 X1 B1 B10 cPt e0 e1 e2 e3 e4 e5 e6 e7 e8 e9
    obtain ⟨p6, c6, rfl, hl6, hc6, HP6⟩ := P3.out
    have HPP : Hid (_) := HP6
    clear P3 HP6
    rw [enp.out] at hl6 hc6 ⊢
    go_wp2
    go_loopw [5] (fun v wr => ∃ k : Nat, k ≤ np ∧ v = .int .i64 k ∧ Hid (∀ i (hi : i < (ptsF f).length), i < k → (fre (ptsF f)[i]).2 ≤ 8) ∧ Hid (Below w3.heap.size w3 wr)) (fun v _ => np - (intOf v).toNat)
    case atStart => exact ⟨0, Nat.zero_le _, rfl, (fun i hi h => by omega), Below.refl _ _⟩
    case round =>
      obtain ⟨k, hk, rfl, hAll, hBr⟩ := hrel
      have Bw : Below w.heap.size w wr := B3.trans (hBr.out.mono B3.size)
      by_cases hlt : k < np
      case neg =>
        have c2 : ¬ (k : Int) < np := by omega
        have hB : Hid (BB = true) := HI2.out.2 ⟨h8, fun i hi => hAll.out i hi (by have := enp.out; omega)⟩
        go_wp2
        go_ret
        exact ⟨ret_bool hB.out.symm, Bw⟩
      have hlt' : (k : Int) < np := by omega
      have kx : k < (ptsF f).length := by have := enp.out; omega
      obtain ⟨b, off, z, rfl, hb, TC, QZ⟩ := HPP.out k kx
      have B0r : Below w0.heap.size w0 wr := hw.trans (Bw.mono hw0)
      obtain ⟨a0, a1, a2, a3, a4, a5, a6, a7, a8, a9⟩ := TC.below hBr.out hb
      have cI := IHp.out k kx z wr QZ B0r
      obtain ⟨N1, N2, N3, N4⟩ := QZ
      obtain ⟨zv, zt, zs, zr⟩ := z
      dsimp only at N1 N2 N3 N4 a0 a1 a2 a3 a4 a5 a6 a7 a8 a9
      have HN : Hid ((fre (ptsF f)[k]).2 ≤ 8 → ∀ i (hi : i < (ptsF f).length), i < k + 1 → (fre (ptsF f)[i]).2 ≤ 8) := fun h i hi hik => by
        by_cases e : i = k
        · subst e; exact h
        · exact hAll.out i hi (by omega)
      have HNo : Hid (¬ (fre (ptsF f)[k]).2 ≤ 8 → BB = false) := fun h => by
        have h2 := HI2.out
        cases hbb : BB with
        | false => exact rfl
        | true => rw [hbb] at h2; exact absurd ((h2.1 rfl).2 k kx) h
      obtain ⟨q8, eq8⟩ : ∃ q : Nat, Hid ((fre (ptsF f)[k]).2 = q) := ⟨(fre (ptsF f)[k]).2, (show _ = _ from rfl)⟩
      rw [eq8.out] at HN HNo
      have CI : Hid (Calls Tryz.prog 31 #[.agg #[.int .i64 (ptsF f)[k].k, .string (ptsF f)[k].nm, .int .i64 (ptsF f)[k].op, zv, zt, .int .i64 (ptsF f)[k].lo, .int .i64 (ptsF f)[k].hi, .bool (ptsF f)[k].opn, zs, zr]] wr fun e w' => e = .returned (.bool (decide (q8 ≤ 8))) ∧ Below wr.heap.size wr w') := by rw [← eq8.out]; exact cI
      obtain ⟨-, q1, d1, rfl, -⟩ := N1
      obtain ⟨q2, d2, rfl, -⟩ := N2.form
      obtain ⟨q3, d3, rfl, -⟩ := N3.form
      obtain ⟨q4, d4, rfl, -⟩ := N4.form
      clear TC N2 N3 N4 cI eq8 hAll
      generalize (ptsF f)[k].k = Y0 at *
      generalize (ptsF f)[k].nm = Y1 at *
      generalize (ptsF f)[k].op = Y2 at *
      generalize (ptsF f)[k].lo = Y3 at *
      generalize (ptsF f)[k].hi = Y4 at *
      generalize (ptsF f)[k].opn = Y5 at *
      generalize (ptsF f)[k].vars.length = L1 at *
      generalize (ptsF f)[k].terms.length = L2 at *
      generalize (ptsF f)[k].subs.length = L3 at *
      generalize (ptsF f)[k].rgx.length = L4 at *
      go_wp2_with fail
      refine CI.out.mono ?_
      rintro e w4 ⟨rfl, hb4⟩
      have K4 : Hid (Below w3.heap.size w3 w4) := hBr.out.trans (hb4.mono hBr.out.size)
      have B4 : Below w.heap.size w w4 := Bw.trans (hb4.mono Bw.size)
      clear CI hb4 hBr a0 a1 a2 a3 a4 a5 a6 a7 a8 a9
      by_cases hq : q8 ≤ 8
      · have e8 : decide (q8 ≤ 8) = true := decide_eq_true hq
        rw [e8]
        have hA : Hid (_) := HN.out hq
        go_wp2
        exact ⟨⟨k + 1, by omega, by go_num, hA, K4⟩, by simp [intOf]; omega⟩
      · have e8 : decide (q8 ≤ 8) = false := decide_eq_false hq
        rw [e8]
        have hB := HNo.out hq
        have HB : Hid (BB = false) := hB
        clear hB
        go_wp2
        go_ret
        exact ⟨ret_bool HB.out.symm, B4⟩
set_option maxRecDepth 100000 in
set_option maxHeartbeats 8000000 in
theorem rcheck_fm (f : Fm) (y : FQ) (w : World) (hQ : QAt w (f, y)) :
    Calls Tryz.prog 9 #[.agg #[.int .i64 f.k, .string f.nm, .int .i64 f.op, y.v, y.t, .int .i64 f.lo, .int .i64 f.hi, .bool f.opn, y.s, y.r]] w fun e w' => e = .returned (.int .i64 (chkF f)) ∧ Below w.heap.size w w' := by
  have HQ : Hid (QAt w (f, y)) := hQ
  have cF : Hid (∀ (W : World) (q : Nat), Below w.heap.size w W → w.heap.size ≤ q → WK W q 0 0 0 → Calls Tryz.prog 30 #[.pointer (some ⟨q, 0, none⟩), .agg #[.int .i64 f.k, .string f.nm, .int .i64 f.op, y.v, y.t, .int .i64 f.lo, .int .i64 f.hi, .bool f.opn, y.s, y.r], .int .i64 1] W fun r w' => (∃ v, r = .returned v) ∧ Hid (KeepT q W w' ∧ WQ w' q (frun 1 (0, 0) f))) := fun W q hW hq h => rformula_walk w q hq f y HQ.out W hW h
  have cW : Hid ((frun 1 (0, 0) f).1 = 0 → ∀ W : World, Below w.heap.size w W → Calls Tryz.prog 31 #[.agg #[.int .i64 f.k, .string f.nm, .int .i64 f.op, y.v, y.t, .int .i64 f.lo, .int .i64 f.hi, .bool f.opn, y.s, y.r]] W fun e w' => e = .returned (.bool (decide ((fre f).2 ≤ 8))) ∧ Below W.heap.size W w') := fun h W hW => rfew_any w _ f y W (Nat.lt_succ_self _) (run_good h).2 (run_good h).1 HQ.out hW
  have HC : Hid (chkF f = if (frun 1 (0, 0) f).1 = 0 then (if 8 < (fre f).2 then 30 else 0) else (frun 1 (0, 0) f).1) := rfl
  obtain ⟨RR, eRR⟩ : ∃ R : Int × (Int × Int), Hid (frun 1 (0, 0) f = R) := ⟨_, rfl⟩
  rw [eRR.out] at cF cW HC
  obtain ⟨CK, eCK⟩ : ∃ C : Int, Hid (chkF f = C) := ⟨_, rfl⟩
  rw [eCK.out] at HC ⊢
  obtain ⟨F2, eF2⟩ : ∃ n : Nat, Hid ((fre f).2 = n) := ⟨_, rfl⟩
  rw [eF2.out] at HC cW
  clear eRR eCK eF2
  obtain ⟨uv, ut, us, ur⟩ := y
  obtain ⟨h1, h2, h3, h4⟩ := hQ
  dsimp only at h1 h2 h3 h4 cF cW ⊢
  obtain ⟨-, pv, cv, rfl, -, -⟩ := h1
  obtain ⟨pt, ct, rfl, -⟩ := h2.form
  obtain ⟨ps, cs, rfl, -⟩ := h3.form
  obtain ⟨pr, cr, rfl, -⟩ := h4.form
  clear h2 h3 h4
  generalize f.vars.length = nv at *
  generalize f.terms.length = nt at *
  generalize f.subs.length = ns at *
  generalize f.rgx.length = nr at *
  generalize f.lo = lo at *
  generalize f.hi = fhi at *
  generalize f.nm = nm at *
  generalize f.opn = o at *
  generalize f.op = op at *
  generalize f.k = fk at *
  obtain ⟨w1, ew1⟩ : ∃ w1, w1 = (w.alloc (.cells #[.int .i64 fk, .string nm, .int .i64 op, .slice pv nv cv, .slice pt nt ct, .int .i64 lo, .int .i64 fhi, .bool o, .slice ps ns cs, .slice pr nr cr] 29)).alloc (.cells #[.int .i64 0, .int .i64 0, .int .i64 0] 61) := ⟨_, rfl⟩
  have X1 : Hid (w1.heap[w.heap.size]? = some (.cells #[.int .i64 fk, .string nm, .int .i64 op, .slice pv nv cv, .slice pt nt ct, .int .i64 lo, .int .i64 fhi, .bool o, .slice ps ns cs, .slice pr nr cr] 29 (0, 0))) := by rw [ew1]; exact (Below.heap_alloc _ _ _ (by simp)).trans (heap_allocA w _)
  have K1 : Hid (WK w1 (w.heap.size + 1) 0 0 0) := by
    rw [ew1]
    have h := heap_allocA (w.alloc (.cells #[.int .i64 fk, .string nm, .int .i64 op, .slice pv nv cv, .slice pt nt ct, .int .i64 lo, .int .i64 fhi, .bool o, .slice ps ns cs, .slice pr nr cr] 29)) (.cells #[.int .i64 0, .int .i64 0, .int .i64 0] 61)
    simp only [World.size_alloc] at h
    exact h
  have B1 : Below w.heap.size w w1 := by rw [ew1]; exact ((Below.refl _ _).alloc (Nat.le_refl _) _).alloc (by simp) _
  go_enter Tryz.func9, Tryz.ntmps9
  go_upto_region 2 with fail
  rw [← ew1]
  clear ew1
  have e0 : w1.cell? ⟨w.heap.size, 0, none⟩ = some (.int .i64 fk) := by rw [Lib.cell_of_heap X1.out]; rfl
  have e1 : w1.cell? ⟨w.heap.size, 1, none⟩ = some (.string nm) := by rw [Lib.cell_of_heap X1.out]; rfl
  have e2 : w1.cell? ⟨w.heap.size, 2, none⟩ = some (.int .i64 op) := by rw [Lib.cell_of_heap X1.out]; rfl
  have e3 : w1.cell? ⟨w.heap.size, 3, none⟩ = some (.slice pv nv cv) := by rw [Lib.cell_of_heap X1.out]; rfl
  have e4 : w1.cell? ⟨w.heap.size, 4, none⟩ = some (.slice pt nt ct) := by rw [Lib.cell_of_heap X1.out]; rfl
  have e5 : w1.cell? ⟨w.heap.size, 5, none⟩ = some (.int .i64 lo) := by rw [Lib.cell_of_heap X1.out]; rfl
  have e6 : w1.cell? ⟨w.heap.size, 6, none⟩ = some (.int .i64 fhi) := by rw [Lib.cell_of_heap X1.out]; rfl
  have e7 : w1.cell? ⟨w.heap.size, 7, none⟩ = some (.bool o) := by rw [Lib.cell_of_heap X1.out]; rfl
  have e8 : w1.cell? ⟨w.heap.size, 8, none⟩ = some (.slice ps ns cs) := by rw [Lib.cell_of_heap X1.out]; rfl
  have e9 : w1.cell? ⟨w.heap.size, 9, none⟩ = some (.slice pr nr cr) := by rw [Lib.cell_of_heap X1.out]; rfl
  go_wp2_with fail
  refine (cF.out w1 (w.heap.size + 1) B1 (by omega) K1.out).mono ?_
  rintro r w2 ⟨⟨v2, rfl⟩, h2⟩
  obtain ⟨hK2, N, M, hW2, hNM⟩ := h2.out
  have HW2 : Hid (WK w2 (w.heap.size + 1) N M RR.1) := hW2
  have hsz1 : w.heap.size < w1.heap.size := blkL X1.out
  have X2 : Hid (_) := (hK2.block w.heap.size hsz1 (by omega)).trans X1.out
  have B2 : Below w.heap.size w w2 := B1.trans (hK2.below (by omega) (by have := hW2.lt; have := K1.out.lt; omega))
  clear h2 hK2 hW2 hNM cF K1 X1 B1 e0 e1 e2 e3 e4 e5 e6 e7 e8 e9 hsz1
  have y2 : w2.cell? ⟨w.heap.size + 1, 2, none⟩ = some (.int .i64 RR.1) := HW2.out.e
  obtain ⟨E, eE⟩ : ∃ E : Int, Hid (RR.1 = E) := ⟨_, rfl⟩
  rw [eE.out] at y2 cW HC
  clear HW2 eE
  by_cases hE : E = 0
  case neg =>
    have hE' : (E == 0) = false := by simpa using hE
    have hE'' : (E != 0) = true := by simpa using hE
    have hR : Hid (CK = E) := by have h := HC.out; rw [if_neg hE] at h; exact h
    go_wp2
    go_ret
    exact ⟨retI hR.out.symm, B2⟩
  subst hE
  have CW := cW.out rfl
  have CW : Hid (_) := CW
  have HC2 : Hid (CK = if 8 < F2 then 30 else 0) := by have h := HC.out; rw [if_pos rfl] at h; exact h
  clear cW HC
  have e0 : w2.cell? ⟨w.heap.size, 0, none⟩ = some (.int .i64 fk) := by rw [Lib.cell_of_heap X2.out]; rfl
  have e1 : w2.cell? ⟨w.heap.size, 1, none⟩ = some (.string nm) := by rw [Lib.cell_of_heap X2.out]; rfl
  have e2 : w2.cell? ⟨w.heap.size, 2, none⟩ = some (.int .i64 op) := by rw [Lib.cell_of_heap X2.out]; rfl
  have e3 : w2.cell? ⟨w.heap.size, 3, none⟩ = some (.slice pv nv cv) := by rw [Lib.cell_of_heap X2.out]; rfl
  have e4 : w2.cell? ⟨w.heap.size, 4, none⟩ = some (.slice pt nt ct) := by rw [Lib.cell_of_heap X2.out]; rfl
  have e5 : w2.cell? ⟨w.heap.size, 5, none⟩ = some (.int .i64 lo) := by rw [Lib.cell_of_heap X2.out]; rfl
  have e6 : w2.cell? ⟨w.heap.size, 6, none⟩ = some (.int .i64 fhi) := by rw [Lib.cell_of_heap X2.out]; rfl
  have e7 : w2.cell? ⟨w.heap.size, 7, none⟩ = some (.bool o) := by rw [Lib.cell_of_heap X2.out]; rfl
  have e8 : w2.cell? ⟨w.heap.size, 8, none⟩ = some (.slice ps ns cs) := by rw [Lib.cell_of_heap X2.out]; rfl
  have e9 : w2.cell? ⟨w.heap.size, 9, none⟩ = some (.slice pr nr cr) := by rw [Lib.cell_of_heap X2.out]; rfl
  go_wp2_with fail
  refine (CW.out w2 B2).mono ?_
  rintro e w3 ⟨rfl, hb3⟩
  have B3 : Below w.heap.size w w3 := B2.trans (hb3.mono B2.size)
  clear hb3 CW B2 X2 e0 e1 e2 e3 e4 e5 e6 e7 e8 e9 y2
  by_cases hF : F2 ≤ 8
  · have eF : decide (F2 ≤ 8) = true := decide_eq_true hF
    rw [eF]
    have hR : Hid (CK = 0) := by have h := HC2.out; rw [if_neg (by omega)] at h; exact h
    go_wp2
    go_ret
    exact ⟨retI hR.out.symm, B3⟩
  · have eF : decide (F2 ≤ 8) = false := decide_eq_false hF
    rw [eF]
    have hR : Hid (CK = 30) := by have h := HC2.out; rw [if_pos (by omega)] at h; exact h
    go_wp2
    go_ret
    exact ⟨retI hR.out.symm, B3⟩
set_option maxRecDepth 100000 in
set_option maxHeartbeats 8000000 in
theorem rfree_fm (f : Fm) (y : FQ) (w : World) (hQ : QAt w (f, y)) :
    Calls Tryz.prog 13 #[.agg #[.int .i64 f.k, .string f.nm, .int .i64 f.op, y.v, y.t, .int .i64 f.lo, .int .i64 f.hi, .bool f.opn, y.s, y.r]] w fun e w' => ∃ v, e = .returned v ∧ OwnN w.heap.size v (varF f) w' ∧ Below w.heap.size w w' := by
  have HQ : Hid (QAt w (f, y)) := hQ
  have cC : Hid (∀ W : World, Below w.heap.size w W → Calls Tryz.prog 9 #[.agg #[.int .i64 f.k, .string f.nm, .int .i64 f.op, y.v, y.t, .int .i64 f.lo, .int .i64 f.hi, .bool f.opn, y.s, y.r]] W fun e w' => e = .returned (.int .i64 (chkF f)) ∧ Below W.heap.size W w') := fun W hW => rcheck_fm f y W (HQ.out.below hW)
  have cV : Hid (chkF f = 0 → ∀ W : World, Below w.heap.size w W → Calls Tryz.prog 41 #[.agg #[.int .i64 f.k, .string f.nm, .int .i64 f.op, y.v, y.t, .int .i64 f.lo, .int .i64 f.hi, .bool f.opn, y.s, y.r]] W fun e w' => ∃ v, e = .returned v ∧ OwnN W.heap.size v (varF f) w' ∧ Below W.heap.size W w') := fun h W hW => by
    have e : varF f = (fre f).1 := if_pos h
    rw [e]
    exact rvars_any w _ f y W (Nat.lt_succ_self _) (chk_good h).2 (chk_good h).1 HQ.out hW
  have HZ : Hid (¬ chkF f = 0 → varF f = []) := fun h => if_neg h
  obtain ⟨CK, eCK⟩ : ∃ C : Int, Hid (chkF f = C) := ⟨_, rfl⟩
  rw [eCK.out] at HZ cV cC
  obtain ⟨VF, eVF⟩ : ∃ F : List ByteArray, Hid (varF f = F) := ⟨_, rfl⟩
  rw [eVF.out] at HZ cV ⊢
  clear eCK eVF
  obtain ⟨uv, ut, us, ur⟩ := y
  obtain ⟨h1, h2, h3, h4⟩ := hQ
  dsimp only at h1 h2 h3 h4 cV cC ⊢
  obtain ⟨-, pv, cv, rfl, -, -⟩ := h1
  obtain ⟨pt, ct, rfl, -⟩ := h2.form
  obtain ⟨ps, cs, rfl, -⟩ := h3.form
  obtain ⟨pr, cr, rfl, -⟩ := h4.form
  clear h2 h3 h4
  generalize f.vars.length = nv at *
  generalize f.terms.length = nt at *
  generalize f.subs.length = ns at *
  generalize f.rgx.length = nr at *
  generalize f.lo = lo at *
  generalize f.hi = fhi at *
  generalize f.nm = nm at *
  generalize f.opn = o at *
  generalize f.op = op at *
  generalize f.k = fk at *
  go_enter Tryz.func13, Tryz.ntmps13
  go_wp2_with fail
  refine (cC.out _ ((Below.refl _ _).alloc (Nat.le_refl _) _)).mono ?_
  rintro e w1 ⟨rfl, hb1⟩
  have X1 : Hid (w1.heap[w.heap.size]? = some (.cells #[.int .i64 fk, .string nm, .int .i64 op, .slice pv nv cv, .slice pt nt ct, .int .i64 lo, .int .i64 fhi, .bool o, .slice ps ns cs, .slice pr nr cr] 29 (0, 0))) := (hb1.block w.heap.size (by simp)).trans (heap_allocA w _)
  have B1 : Below w.heap.size w w1 := ((Below.refl _ _).alloc (Nat.le_refl _) _).trans (hb1.mono (by simp))
  clear hb1 cC
  by_cases hE : CK = 0
  case neg =>
    have hE' : (CK == 0) = false := by simpa using hE
    have hE'' : (CK != 0) = true := by simpa using hE
    have hR : Hid (VF = []) := HZ.out hE
    go_wp2
    go_ret
    rw [hR.out]
    exact ⟨_, rfl, OwnN.nil _ _, B1⟩
  subst hE
  have CV := cV.out rfl
  have CV : Hid (_) := CV
  clear HZ cV
  have e0 : w1.cell? ⟨w.heap.size, 0, none⟩ = some (.int .i64 fk) := by rw [Lib.cell_of_heap X1.out]; rfl
  have e1 : w1.cell? ⟨w.heap.size, 1, none⟩ = some (.string nm) := by rw [Lib.cell_of_heap X1.out]; rfl
  have e2 : w1.cell? ⟨w.heap.size, 2, none⟩ = some (.int .i64 op) := by rw [Lib.cell_of_heap X1.out]; rfl
  have e3 : w1.cell? ⟨w.heap.size, 3, none⟩ = some (.slice pv nv cv) := by rw [Lib.cell_of_heap X1.out]; rfl
  have e4 : w1.cell? ⟨w.heap.size, 4, none⟩ = some (.slice pt nt ct) := by rw [Lib.cell_of_heap X1.out]; rfl
  have e5 : w1.cell? ⟨w.heap.size, 5, none⟩ = some (.int .i64 lo) := by rw [Lib.cell_of_heap X1.out]; rfl
  have e6 : w1.cell? ⟨w.heap.size, 6, none⟩ = some (.int .i64 fhi) := by rw [Lib.cell_of_heap X1.out]; rfl
  have e7 : w1.cell? ⟨w.heap.size, 7, none⟩ = some (.bool o) := by rw [Lib.cell_of_heap X1.out]; rfl
  have e8 : w1.cell? ⟨w.heap.size, 8, none⟩ = some (.slice ps ns cs) := by rw [Lib.cell_of_heap X1.out]; rfl
  have e9 : w1.cell? ⟨w.heap.size, 9, none⟩ = some (.slice pr nr cr) := by rw [Lib.cell_of_heap X1.out]; rfl
  go_wp2_with fail
  refine (CV.out w1 B1).mono ?_
  rintro e w3 ⟨v3, rfl, h3, hb3⟩
  have O3 : Hid (OwnN w.heap.size v3 VF w3) := own_monoB h3 B1.size
  have B3 : Below w.heap.size w w3 := B1.trans (hb3.mono B1.size)
  clear h3 hb3 CV
  go_wp2
  go_ret
  exact ⟨_, rfl, O3.out, B3⟩
end Go.Proofs.YtfajjphfjilpnaaGreat

namespace Go.Proofs.YtfajjphfjilpnaaGreat
open Go.RowKit LX Go.Shelf
set_option linter.unusedVariables false

theorem varF_sizes (f : Fm) : ∀ s ∈ varF f, s.size ≤ 281474976710656 := fun s hs => by
  unfold varF at hs
  by_cases h : chkF f = 0
  · rw [if_pos h] at hs
    have := nameB_size ((fre_up _ f (Nat.le_refl _) (chk_good h).1).2.2 s hs)
    omega
  · rw [if_neg h] at hs; cases hs
theorem varF_len (f : Fm) : (varF f).length ≤ 9223372036854775807 := by
  unfold varF
  by_cases h : chkF f = 0
  · rw [if_pos h]
    have := fre_len _ f (Nat.le_refl _) (chk_good h).1
    have := (chk_good h).2
    omega
  · rw [if_neg h]; simp
theorem row_cur {w : World} {B g n c : Nat} {L : List ByteArray} (h : OwnN B (.slice (some ⟨g, 0, none⟩) n c) L w) {m : Nat} (hm : m ≤ L.length) : ∃ cur : Array Value, w.heap[g]? = some (.cells cur 9 (0, 0)) ∧ m ≤ cur.size := by
  obtain ⟨p, c', e, -, hx⟩ := h.cap
  injection e with e1 e2 e3
  have h' : w.ownsRow B 9 1 (.slice (some ⟨g, 0, none⟩) n c) L.length (L.map Value.string) := h
  obtain ⟨cur, hcur⟩ := row_typ h' rfl
  refine ⟨cur, hcur, ?_⟩
  rcases hx with h0 | ⟨g', e4, -, -, hc⟩
  · rw [h0] at hm; simp at hm; omega
  · rw [← e1] at e4
    injection e4 with e4
    injection e4 with e4
    subst e4
    by_cases h0 : L.length = 0
    · omega
    · have h2 := hc (L.length - 1) (by omega)
      rw [Lib.cell_of_heap hcur] at h2
      have := (Array.getElem?_eq_some_iff.1 h2).1
      omega
set_option maxRecDepth 100000 in
set_option maxHeartbeats 8000000 in
theorem afrees_any (f : Fm) (y : FQ) (t : Tm) (u : Value) (w : World) (hQ : QAt w (f, y)) (hU : TmsAt w u t.subs) (hF : t.v.Fits) (hl : (tvs t).length ≤ 1000000000) (hz : ∀ s ∈ tvs t, s.size ≤ 281474976710656) : Calls Tryz.prog 4 #[.agg #[.int .i64 f.k, .string f.nm, .int .i64 f.op, y.v, y.t, .int .i64 f.lo, .int .i64 f.hi, .bool f.opn, y.s, y.r], .agg #[.int .i64 t.k, .string t.nm, .int .i64 t.v.k, .int .i64 t.v.n, .int .i64 t.v.d, .string t.v.s, u]] w fun e w' => e = .returned (.bool true) ∧ Below w.heap.size w w' := by
  have c1 : Hid (∀ W : World, Below w.heap.size w W → Calls Tryz.prog 12 #[.agg #[.int .i64 f.k, .string f.nm, .int .i64 f.op, y.v, y.t, .int .i64 f.lo, .int .i64 f.hi, .bool f.opn, y.s, y.r]] W fun e w' => ∃ v, e = .returned v ∧ OwnN W.heap.size v (varF f) w' ∧ Below W.heap.size W w') := fun W hW => free_fm f y W (hQ.below hW) (varF_sizes f)
  have c2 : Hid (∀ W : World, Below w.heap.size w W → Calls Tryz.prog 13 #[.agg #[.int .i64 f.k, .string f.nm, .int .i64 f.op, y.v, y.t, .int .i64 f.lo, .int .i64 f.hi, .bool f.opn, y.s, y.r]] W fun e w' => ∃ v, e = .returned v ∧ OwnN W.heap.size v (varF f) w' ∧ Below W.heap.size W w') := fun W hW => rfree_fm f y W (hQ.below hW)
  have c3 : Hid (∀ W : World, Below w.heap.size w W → Calls Tryz.prog 14 #[.agg #[.int .i64 t.k, .string t.nm, .int .i64 t.v.k, .int .i64 t.v.n, .int .i64 t.v.d, .string t.v.s, u]] W fun e w' => ∃ v, e = .returned v ∧ OwnN W.heap.size v (uniN [tvs t]) w' ∧ Below W.heap.size W w') := fun W hW => tvars_any t u W (hU.bel hW) hF hl (fun s hs => hz s ((uni_one _).2 s |>.1 hs))
  have c4 : Hid (∀ W : World, Below w.heap.size w W → Calls Tryz.prog 15 #[.agg #[.int .i64 t.k, .string t.nm, .int .i64 t.v.k, .int .i64 t.v.n, .int .i64 t.v.d, .string t.v.s, u]] W fun e w' => ∃ v, e = .returned v ∧ OwnN W.heap.size v (uniN [tvs t]) w' ∧ Below W.heap.size W w') := fun W hW => rtvars_any w _ t u W (Nat.le_refl _) hU hW hl
  have hfl : (varF f).length ≤ 9223372036854775807 := varF_len f
  have htl : (uniN [tvs t]).length ≤ 9223372036854775807 := by have := uni1_len (tvs t); omega
  generalize varF f = VF at *
  generalize uniN [tvs t] = TV at *
  obtain ⟨qu, du, rfl, -⟩ := hU.form
  clear hU hF hl hz
  generalize t.subs.length = nu at *
  generalize t.k = tk at *
  generalize t.nm = tn at *
  generalize t.v.k = vk at *
  generalize t.v.n = vn at *
  generalize t.v.d = vd at *
  generalize t.v.s = vs at *
  obtain ⟨uv, ut, us, ur⟩ := y
  obtain ⟨h1, h2, h3, h4⟩ := hQ
  dsimp only at h1 h2 h3 h4 c1 c2 ⊢
  obtain ⟨-, pv, cv, rfl, -, -⟩ := h1
  obtain ⟨pt, ct, rfl, -⟩ := h2.form
  obtain ⟨ps, cs, rfl, -⟩ := h3.form
  obtain ⟨pr, cr, rfl, -⟩ := h4.form
  clear h2 h3 h4
  generalize f.vars.length = nv at *
  generalize f.terms.length = nt at *
  generalize f.subs.length = ns at *
  generalize f.rgx.length = nr at *
  generalize f.lo = lo at *
  generalize f.hi = fhi at *
  generalize f.nm = nm at *
  generalize f.opn = o at *
  generalize f.op = op at *
  generalize f.k = fk at *
  obtain ⟨w0, ew0⟩ : ∃ W, W = (w.alloc (.cells #[.int .i64 fk, .string nm, .int .i64 op, .slice pv nv cv, .slice pt nt ct, .int .i64 lo, .int .i64 fhi, .bool o, .slice ps ns cs, .slice pr nr cr] 29)).alloc (.cells #[.int .i64 tk, .string tn, .int .i64 vk, .int .i64 vn, .int .i64 vd, .string vs, .slice qu nu du] 39) := ⟨_, rfl⟩
  have X0 : Hid (w0.heap[w.heap.size]? = some (.cells #[.int .i64 fk, .string nm, .int .i64 op, .slice pv nv cv, .slice pt nt ct, .int .i64 lo, .int .i64 fhi, .bool o, .slice ps ns cs, .slice pr nr cr] 29 (0, 0))) := by rw [ew0]; exact (Below.heap_alloc _ _ _ (by simp)).trans (heap_allocA w _)
  have Y0 : Hid (w0.heap[w.heap.size + 1]? = some (.cells #[.int .i64 tk, .string tn, .int .i64 vk, .int .i64 vn, .int .i64 vd, .string vs, .slice qu nu du] 39 (0, 0))) := by
    rw [ew0]
    have h := heap_allocA (w.alloc (.cells #[.int .i64 fk, .string nm, .int .i64 op, .slice pv nv cv, .slice pt nt ct, .int .i64 lo, .int .i64 fhi, .bool o, .slice ps ns cs, .slice pr nr cr] 29)) (.cells #[.int .i64 tk, .string tn, .int .i64 vk, .int .i64 vn, .int .i64 vd, .string vs, .slice qu nu du] 39)
    simp only [World.size_alloc] at h
    exact h
  have B0 : Below w.heap.size w w0 := by rw [ew0]; exact ((Below.refl _ _).alloc (Nat.le_refl _) _).alloc (by simp) _
  have z0 : w0.heap.size = w.heap.size + 2 := by rw [ew0]; simp
  have Z0 : Hid (w0.heap.size = w.heap.size + 2) := z0
  clear z0
  go_enter Tryz.func4, Tryz.ntmps4
  go_upto_region 1 with fail
  rw [← ew0]
  clear ew0
  have e0 : w0.cell? ⟨w.heap.size, 0, none⟩ = some (.int .i64 fk) := by rw [Lib.cell_of_heap X0.out]; rfl
  have e1 : w0.cell? ⟨w.heap.size, 1, none⟩ = some (.string nm) := by rw [Lib.cell_of_heap X0.out]; rfl
  have e2 : w0.cell? ⟨w.heap.size, 2, none⟩ = some (.int .i64 op) := by rw [Lib.cell_of_heap X0.out]; rfl
  have e3 : w0.cell? ⟨w.heap.size, 3, none⟩ = some (.slice pv nv cv) := by rw [Lib.cell_of_heap X0.out]; rfl
  have e4 : w0.cell? ⟨w.heap.size, 4, none⟩ = some (.slice pt nt ct) := by rw [Lib.cell_of_heap X0.out]; rfl
  have e5 : w0.cell? ⟨w.heap.size, 5, none⟩ = some (.int .i64 lo) := by rw [Lib.cell_of_heap X0.out]; rfl
  have e6 : w0.cell? ⟨w.heap.size, 6, none⟩ = some (.int .i64 fhi) := by rw [Lib.cell_of_heap X0.out]; rfl
  have e7 : w0.cell? ⟨w.heap.size, 7, none⟩ = some (.bool o) := by rw [Lib.cell_of_heap X0.out]; rfl
  have e8 : w0.cell? ⟨w.heap.size, 8, none⟩ = some (.slice ps ns cs) := by rw [Lib.cell_of_heap X0.out]; rfl
  have e9 : w0.cell? ⟨w.heap.size, 9, none⟩ = some (.slice pr nr cr) := by rw [Lib.cell_of_heap X0.out]; rfl
  go_wp2_with fail
  refine (c1.out _ B0).mono ?_
  rintro e w1 ⟨va, rfl, o1, hb1⟩
  have O1 : Hid (OwnN w0.heap.size va VF w1) := o1
  have X1 : Hid (_) := blkB X0.out hb1
  have Y1 : Hid (_) := blkB Y0.out hb1
  have B1 : Below w.heap.size w w1 := B0.trans (hb1.mono B0.size)
  have s1 : w0.heap.size ≤ w1.heap.size := hb1.size
  have o1k : Hid (OwnN w0.heap.size va VF w1) := o1
  clear o1 hb1 X0 Y0 e0 e1 e2 e3 e4 e5 e6 e7 e8 e9
  have e0 : w1.cell? ⟨w.heap.size, 0, none⟩ = some (.int .i64 fk) := by rw [Lib.cell_of_heap X1.out]; rfl
  have e1 : w1.cell? ⟨w.heap.size, 1, none⟩ = some (.string nm) := by rw [Lib.cell_of_heap X1.out]; rfl
  have e2 : w1.cell? ⟨w.heap.size, 2, none⟩ = some (.int .i64 op) := by rw [Lib.cell_of_heap X1.out]; rfl
  have e3 : w1.cell? ⟨w.heap.size, 3, none⟩ = some (.slice pv nv cv) := by rw [Lib.cell_of_heap X1.out]; rfl
  have e4 : w1.cell? ⟨w.heap.size, 4, none⟩ = some (.slice pt nt ct) := by rw [Lib.cell_of_heap X1.out]; rfl
  have e5 : w1.cell? ⟨w.heap.size, 5, none⟩ = some (.int .i64 lo) := by rw [Lib.cell_of_heap X1.out]; rfl
  have e6 : w1.cell? ⟨w.heap.size, 6, none⟩ = some (.int .i64 fhi) := by rw [Lib.cell_of_heap X1.out]; rfl
  have e7 : w1.cell? ⟨w.heap.size, 7, none⟩ = some (.bool o) := by rw [Lib.cell_of_heap X1.out]; rfl
  have e8 : w1.cell? ⟨w.heap.size, 8, none⟩ = some (.slice ps ns cs) := by rw [Lib.cell_of_heap X1.out]; rfl
  have e9 : w1.cell? ⟨w.heap.size, 9, none⟩ = some (.slice pr nr cr) := by rw [Lib.cell_of_heap X1.out]; rfl
  go_wp2_with fail
  refine (c2.out _ B1).mono ?_
  rintro e w2 ⟨vb, rfl, o2, hb2⟩
  have O2 : Hid (OwnN w1.heap.size vb VF w2) := o2
  have X2 : Hid (_) := blkB X1.out hb2
  have Y2 : Hid (_) := blkB Y1.out hb2
  have B2 : Below w.heap.size w w2 := B1.trans (hb2.mono B1.size)
  have s2 : w1.heap.size ≤ w2.heap.size := hb2.size
  have O1 : Hid (type_of% (OwnN.bel O1.out hb2)) := OwnN.bel O1.out hb2
  have ol2 : Hid (∀ q, vb.ownBlock = some q → w1.heap.size ≤ q ∧ q < w2.heap.size) := fun q hq => World.ownsRow.lt o2 q hq
  clear o2 hb2 X1 Y1 c2 e0 e1 e2 e3 e4 e5 e6 e7 e8 e9
  have h0 : w2.cell? ⟨w.heap.size + 1, 0, none⟩ = some (.int .i64 tk) := by rw [Lib.cell_of_heap Y2.out]; rfl
  have h1 : w2.cell? ⟨w.heap.size + 1, 1, none⟩ = some (.string tn) := by rw [Lib.cell_of_heap Y2.out]; rfl
  have h2 : w2.cell? ⟨w.heap.size + 1, 2, none⟩ = some (.int .i64 vk) := by rw [Lib.cell_of_heap Y2.out]; rfl
  have h3 : w2.cell? ⟨w.heap.size + 1, 3, none⟩ = some (.int .i64 vn) := by rw [Lib.cell_of_heap Y2.out]; rfl
  have h4 : w2.cell? ⟨w.heap.size + 1, 4, none⟩ = some (.int .i64 vd) := by rw [Lib.cell_of_heap Y2.out]; rfl
  have h5 : w2.cell? ⟨w.heap.size + 1, 5, none⟩ = some (.string vs) := by rw [Lib.cell_of_heap Y2.out]; rfl
  have h6 : w2.cell? ⟨w.heap.size + 1, 6, none⟩ = some (.slice qu nu du) := by rw [Lib.cell_of_heap Y2.out]; rfl
  go_wp2_with fail
  refine (c3.out _ B2).mono ?_
  rintro e w3 ⟨vc, rfl, o3, hb3⟩
  have O3 : Hid (OwnN w2.heap.size vc TV w3) := o3
  have X3 : Hid (_) := blkB X2.out hb3
  have Y3 : Hid (_) := blkB Y2.out hb3
  have B3 : Below w.heap.size w w3 := B2.trans (hb3.mono B2.size)
  have s3 : w2.heap.size ≤ w3.heap.size := hb3.size
  have O1 : Hid (type_of% (OwnN.bel O1.out hb3)) := OwnN.bel O1.out hb3
  have O2 : Hid (type_of% (OwnN.bel O2.out hb3)) := OwnN.bel O2.out hb3
  have o3k : Hid (OwnN w2.heap.size vc TV w3) := o3
  clear o3 hb3 X2 Y2 h0 h1 h2 h3 h4 h5 h6
  have h0 : w3.cell? ⟨w.heap.size + 1, 0, none⟩ = some (.int .i64 tk) := by rw [Lib.cell_of_heap Y3.out]; rfl
  have h1 : w3.cell? ⟨w.heap.size + 1, 1, none⟩ = some (.string tn) := by rw [Lib.cell_of_heap Y3.out]; rfl
  have h2 : w3.cell? ⟨w.heap.size + 1, 2, none⟩ = some (.int .i64 vk) := by rw [Lib.cell_of_heap Y3.out]; rfl
  have h3 : w3.cell? ⟨w.heap.size + 1, 3, none⟩ = some (.int .i64 vn) := by rw [Lib.cell_of_heap Y3.out]; rfl
  have h4 : w3.cell? ⟨w.heap.size + 1, 4, none⟩ = some (.int .i64 vd) := by rw [Lib.cell_of_heap Y3.out]; rfl
  have h5 : w3.cell? ⟨w.heap.size + 1, 5, none⟩ = some (.string vs) := by rw [Lib.cell_of_heap Y3.out]; rfl
  have h6 : w3.cell? ⟨w.heap.size + 1, 6, none⟩ = some (.slice qu nu du) := by rw [Lib.cell_of_heap Y3.out]; rfl
  go_wp2_with fail
  refine (c4.out _ B3).mono ?_
  rintro e w4 ⟨vd9, rfl, o4, hb4⟩
  have O4 : Hid (OwnN w3.heap.size vd9 TV w4) := o4
  have X4 : Hid (_) := blkB X3.out hb4
  have Y4 : Hid (_) := blkB Y3.out hb4
  have B4 : Below w.heap.size w w4 := B3.trans (hb4.mono B3.size)
  have s4 : w3.heap.size ≤ w4.heap.size := hb4.size
  have O1 : Hid (type_of% (OwnN.bel O1.out hb4)) := OwnN.bel O1.out hb4
  have O2 : Hid (type_of% (OwnN.bel O2.out hb4)) := OwnN.bel O2.out hb4
  have O3 : Hid (type_of% (OwnN.bel O3.out hb4)) := OwnN.bel O3.out hb4
  clear o4 hb4 X3 Y3 c4 h0 h1 h2 h3 h4 h5 h6
  obtain ⟨pa, ca, rfl, hca, ha⟩ := O1.out.cap
  obtain ⟨pc, cc, rfl, hcc, hc⟩ := O3.out.cap
  obtain ⟨pb, nb, cb, rfl⟩ := slice_ofA O2.out
  obtain ⟨pd, nd, cd, rfl⟩ := slice_ofA O4.out
  have CA : Hid (VF = [] ∨ ∃ g, pa = some ⟨g, 0, none⟩ ∧ w0.heap.size ≤ g ∧ g < w4.heap.size ∧ ∀ i (hi : i < VF.length), w4.cell? ⟨g, i, none⟩ = some (.string VF[i])) := ha
  have CC : Hid (TV = [] ∨ ∃ g, pc = some ⟨g, 0, none⟩ ∧ w2.heap.size ≤ g ∧ g < w4.heap.size ∧ ∀ i (hi : i < TV.length), w4.cell? ⟨g, i, none⟩ = some (.string TV[i])) := hc
  have LA : Hid (∀ k o, pa = some ⟨k, o, none⟩ → w0.heap.size ≤ k ∧ k < w1.heap.size) := fun k o e => by subst e; have h := World.ownsRow.lt o1k.out k rfl; exact h
  have LC : Hid (∀ k o, pc = some ⟨k, o, none⟩ → w2.heap.size ≤ k ∧ k < w3.heap.size) := fun k o e => by subst e; have h := World.ownsRow.lt o3k.out k rfl; exact h
  clear ha hc
  obtain ⟨na, ena⟩ : ∃ n : Nat, Hid (VF.length = n) := ⟨_, rfl⟩
  obtain ⟨nc, enc⟩ : ∃ n : Nat, Hid (TV.length = n) := ⟨_, rfl⟩
  go_wp2_with fail
  refine (same06_yes _ _ VF _ (O1.out.nms hfl) (O2.out.nms hfl)).mono ?_
  rintro e w5 ⟨rfl, hb5⟩
  have X5 : Hid (_) := blkB X4.out hb5
  have Y5 : Hid (_) := blkB Y4.out hb5
  have B5 : Below w.heap.size w w5 := B4.trans (hb5.mono B4.size)
  have s5 : w4.heap.size ≤ w5.heap.size := hb5.size
  have O1 : Hid (type_of% (OwnN.bel O1.out hb5)) := OwnN.bel O1.out hb5
  have O2 : Hid (type_of% (OwnN.bel O2.out hb5)) := OwnN.bel O2.out hb5
  have O3 : Hid (type_of% (OwnN.bel O3.out hb5)) := OwnN.bel O3.out hb5
  have O4 : Hid (type_of% (OwnN.bel O4.out hb5)) := OwnN.bel O4.out hb5
  clear hb5 X4 Y4
  go_wp2_with fail
  refine (same06_yes _ _ TV _ (O3.out.nms htl) (O4.out.nms htl)).mono ?_
  rintro e w6 ⟨rfl, hb6⟩
  have X6 : Hid (_) := blkB X5.out hb6
  have Y6 : Hid (_) := blkB Y5.out hb6
  have B6 : Below w.heap.size w w6 := B5.trans (hb6.mono B5.size)
  have s6 : w5.heap.size ≤ w6.heap.size := hb6.size
  have O1 : Hid (type_of% (OwnN.bel O1.out hb6)) := OwnN.bel O1.out hb6
  have O2 : Hid (type_of% (OwnN.bel O2.out hb6)) := OwnN.bel O2.out hb6
  have O3 : Hid (type_of% (OwnN.bel O3.out hb6)) := OwnN.bel O3.out hb6
  have O4 : Hid (type_of% (OwnN.bel O4.out hb6)) := OwnN.bel O4.out hb6
  clear hb6 X5 Y5
  have SA : Hid (∀ g, pa = some ⟨g, 0, none⟩ → 0 < na → ∃ cur : Array Value, w6.heap[g]? = some (.cells cur 9 (0, 0)) ∧ na ≤ cur.size) := fun g e hn => row_cur (by have h := O1.out; rw [e] at h; exact h) (by rw [ena.out]; exact Nat.le_refl _)
  have SC : Hid (∀ g, pc = some ⟨g, 0, none⟩ → 0 < nc → ∃ cur : Array Value, w6.heap[g]? = some (.cells cur 9 (0, 0)) ∧ nc ≤ cur.size) := fun g e hn => row_cur (by have h := O3.out; rw [e] at h; exact h) (by rw [enc.out]; exact Nat.le_refl _)
  have PA : Hid (∀ k, k < VF.length → ∃ g, pa = some ⟨g, 0, none⟩) := fun k hk => by
    rcases CA.out with h | ⟨g, h, -⟩
    · rw [h] at hk; simp at hk
    · exact ⟨g, h⟩
  have PC : Hid (∀ k, k < TV.length → ∃ g, pc = some ⟨g, 0, none⟩) := fun k hk => by
    rcases CC.out with h | ⟨g, h, -⟩
    · rw [h] at hk; simp at hk
    · exact ⟨g, h⟩
  rw [ena.out] at hca ⊢
  rw [enc.out] at hcc ⊢
  have hna : na ≤ 9223372036854775807 := by have := ena.out; omega
  have hnc : nc ≤ 9223372036854775807 := by have := enc.out; omega
  clear O1 O3 CA CC o1k o3k
  go_wp2
  go_loopw [10] (fun v wr => ∃ k : Nat, k ≤ na ∧ v = .int .i64 k ∧ Hid (Fr (fun q => ∃ o, pa = some ⟨q, o, none⟩) w6 wr) ∧ Hid (∀ g, pa = some ⟨g, 0, none⟩ → 0 < na → ∃ cur : Array Value, wr.heap[g]? = some (.cells cur 9 (0, 0)) ∧ na ≤ cur.size)) (fun v _ => na - (intOf v).toNat)
  case atStart => exact ⟨0, Nat.zero_le _, rfl, Fr.refl _ _, SA⟩
  case round =>
    obtain ⟨k, hk, rfl, hFr, hSr⟩ := hrel
    by_cases hlt : k < na
    case neg =>
      have c2 : ¬ (k : Int) < na := by omega
      obtain ⟨w7, ew⟩ : ∃ W : World, W = wr := ⟨_, rfl⟩
      subst ew
      have F7 : Hid (Fr (fun q => ∃ o, pa = some ⟨q, o, none⟩) w6 w7) := hFr.out
      clear hFr hSr hk hlt
      have SC7 : Hid (∀ g, pc = some ⟨g, 0, none⟩ → 0 < nc → ∃ cur : Array Value, w7.heap[g]? = some (.cells cur 9 (0, 0)) ∧ nc ≤ cur.size) := fun g e hn => by
        obtain ⟨cur, h1, h2⟩ := SC.out g e hn
        refine ⟨cur, (F7.out.block g (Array.getElem?_eq_some_iff.1 h1).1 (fun ⟨o, e'⟩ => ?_)).trans h1, h2⟩
        have a1 := LA.out g o e'
        have a2 := LC.out g 0 e
        omega
      clear SC
      go_wp2
      go_loopw [11] (fun v wr => ∃ k : Nat, k ≤ nc ∧ v = .int .i64 k ∧ Hid (Fr (fun q => ∃ o, pc = some ⟨q, o, none⟩) w7 wr) ∧ Hid (∀ g, pc = some ⟨g, 0, none⟩ → 0 < nc → ∃ cur : Array Value, wr.heap[g]? = some (.cells cur 9 (0, 0)) ∧ nc ≤ cur.size)) (fun v _ => nc - (intOf v).toNat)
      case atStart => exact ⟨0, Nat.zero_le _, rfl, Fr.refl _ _, SC7⟩
      case round =>
        obtain ⟨k, hk, rfl, hFr, hSr⟩ := hrel
        by_cases hlt : k < nc
        case neg =>
          have c2 : ¬ (k : Int) < nc := by omega
          obtain ⟨w8, ew⟩ : ∃ W : World, W = wr := ⟨_, rfl⟩
          subst ew
          have F8 : Hid (Fr (fun q => ∃ o, pc = some ⟨q, o, none⟩) w7 w8) := hFr.out
          clear hFr hSr hk hlt
          have a0 := Z0.out
          have B7 : Below w.heap.size w w7 := B6.trans (F7.out.below B6.size (fun q ⟨o, e⟩ => by have := LA.out q o e; omega))
          have B8 : Below w.heap.size w w8 := B7.trans (F8.out.below B7.size (fun q ⟨o, e⟩ => by have := LC.out q o e; omega))
          have X8 : Hid (_) := F8.out.heap (F7.out.heap X6.out (fun ⟨o, e⟩ => by have := LA.out _ o e; omega)) (fun ⟨o, e⟩ => by have := LC.out _ o e; omega)
          have Y8 : Hid (_) := F8.out.heap (F7.out.heap Y6.out (fun ⟨o, e⟩ => by have := LA.out _ o e; omega)) (fun ⟨o, e⟩ => by have := LC.out _ o e; omega)
          have O28 : Hid (OwnN w1.heap.size (.slice pb nb cb) VF w8) := F8.out.row (F7.out.row O2.out (fun q hq ⟨o, e⟩ => by have h1 := (World.ownsRow.lt O2.out q hq).1; have h2 := LA.out q o e; omega)) (fun q hq ⟨o, e⟩ => by have h1 := ol2.out q hq; have h2 := LC.out q o e; omega)
          have O48 : Hid (OwnN w3.heap.size (.slice pd nd cd) TV w8) := F8.out.row (F7.out.row O4.out (fun q hq ⟨o, e⟩ => by have h1 := (World.ownsRow.lt O4.out q hq).1; have h2 := LA.out q o e; omega)) (fun q hq ⟨o, e⟩ => by have h1 := (World.ownsRow.lt O4.out q hq).1; have h2 := LC.out q o e; omega)
          clear F7 F8 X6 Y6 O2 O4 SA SC7 PA PC LA LC
          go_wp2_with fail
          refine (live06_any _).mono ?_
          rintro e w9 ⟨rfl, hb9⟩
          have X9 : Hid (_) := blkB X8.out hb9
          have Y9 : Hid (_) := blkB Y8.out hb9
          have B9 : Below w.heap.size w w9 := B8.trans (hb9.mono B8.size)
          have O29 : Hid (type_of% (OwnN.bel O28.out hb9)) := OwnN.bel O28.out hb9
          have O49 : Hid (type_of% (OwnN.bel O48.out hb9)) := OwnN.bel O48.out hb9
          clear hb9 X8 Y8 B8 O28 O48 c2 
          have e0 : w9.cell? ⟨w.heap.size, 0, none⟩ = some (.int .i64 fk) := by rw [Lib.cell_of_heap X9.out]; rfl
          have e1 : w9.cell? ⟨w.heap.size, 1, none⟩ = some (.string nm) := by rw [Lib.cell_of_heap X9.out]; rfl
          have e2 : w9.cell? ⟨w.heap.size, 2, none⟩ = some (.int .i64 op) := by rw [Lib.cell_of_heap X9.out]; rfl
          have e3 : w9.cell? ⟨w.heap.size, 3, none⟩ = some (.slice pv nv cv) := by rw [Lib.cell_of_heap X9.out]; rfl
          have e4 : w9.cell? ⟨w.heap.size, 4, none⟩ = some (.slice pt nt ct) := by rw [Lib.cell_of_heap X9.out]; rfl
          have e5 : w9.cell? ⟨w.heap.size, 5, none⟩ = some (.int .i64 lo) := by rw [Lib.cell_of_heap X9.out]; rfl
          have e6 : w9.cell? ⟨w.heap.size, 6, none⟩ = some (.int .i64 fhi) := by rw [Lib.cell_of_heap X9.out]; rfl
          have e7 : w9.cell? ⟨w.heap.size, 7, none⟩ = some (.bool o) := by rw [Lib.cell_of_heap X9.out]; rfl
          have e8 : w9.cell? ⟨w.heap.size, 8, none⟩ = some (.slice ps ns cs) := by rw [Lib.cell_of_heap X9.out]; rfl
          have e9 : w9.cell? ⟨w.heap.size, 9, none⟩ = some (.slice pr nr cr) := by rw [Lib.cell_of_heap X9.out]; rfl
          go_wp2_with fail
          refine (c1.out _ B9).mono ?_
          rintro e w10 ⟨v10, rfl, o10, hb10⟩
          have Y10 : Hid (_) := blkB Y9.out hb10
          have B10 : Below w.heap.size w w10 := B9.trans (hb10.mono B9.size)
          have N10 : Hid (NmsAt w10 v10 VF) := o10.nms hfl
          have N2 : Hid (NmsAt w10 (.slice pb nb cb) VF) := (O29.out.bel hb10).nms hfl
          have O410 : Hid (type_of% (OwnN.bel O49.out hb10)) := OwnN.bel O49.out hb10
          obtain ⟨-, p10, c10, rfl, -⟩ := N10.out
          clear o10 hb10 X9 Y9 B9 O29 O49 c1 e0 e1 e2 e3 e4 e5 e6 e7 e8 e9
          go_wp2_with fail
          refine (same06_yes _ _ VF _ N10.out N2.out).mono ?_
          rintro e w11 ⟨rfl, hb11⟩
          have Y11 : Hid (_) := blkB Y10.out hb11
          have B11 : Below w.heap.size w w11 := B10.trans (hb11.mono B10.size)
          have O411 : Hid (type_of% (OwnN.bel O410.out hb11)) := OwnN.bel O410.out hb11
          clear hb11 Y10 B10 O410 N10 N2
          have h0 : w11.cell? ⟨w.heap.size + 1, 0, none⟩ = some (.int .i64 tk) := by rw [Lib.cell_of_heap Y11.out]; rfl
          have h1 : w11.cell? ⟨w.heap.size + 1, 1, none⟩ = some (.string tn) := by rw [Lib.cell_of_heap Y11.out]; rfl
          have h2 : w11.cell? ⟨w.heap.size + 1, 2, none⟩ = some (.int .i64 vk) := by rw [Lib.cell_of_heap Y11.out]; rfl
          have h3 : w11.cell? ⟨w.heap.size + 1, 3, none⟩ = some (.int .i64 vn) := by rw [Lib.cell_of_heap Y11.out]; rfl
          have h4 : w11.cell? ⟨w.heap.size + 1, 4, none⟩ = some (.int .i64 vd) := by rw [Lib.cell_of_heap Y11.out]; rfl
          have h5 : w11.cell? ⟨w.heap.size + 1, 5, none⟩ = some (.string vs) := by rw [Lib.cell_of_heap Y11.out]; rfl
          have h6 : w11.cell? ⟨w.heap.size + 1, 6, none⟩ = some (.slice qu nu du) := by rw [Lib.cell_of_heap Y11.out]; rfl
          go_wp2_with fail
          refine (c3.out _ B11).mono ?_
          rintro e w12 ⟨v12, rfl, o12, hb12⟩
          have B12 : Below w.heap.size w w12 := B11.trans (hb12.mono B11.size)
          have N12 : Hid (NmsAt w12 v12 TV) := o12.nms htl
          have N4 : Hid (NmsAt w12 (.slice pd nd cd) TV) := (O411.out.bel hb12).nms htl
          obtain ⟨-, p12, c12, rfl, -⟩ := N12.out
          clear o12 hb12 Y11 B11 O411 c3 h0 h1 h2 h3 h4 h5 h6
          go_wp2_with fail
          refine (same06_yes _ _ TV _ N12.out N4.out).mono ?_
          rintro e w13 ⟨rfl, hb13⟩
          have B13 : Below w.heap.size w w13 := B12.trans (hb13.mono B12.size)
          clear hb13 N12 N4
          go_wp2
          go_ret
          exact ⟨rfl, B13⟩
        have hlt' : (k : Int) < nc := by omega
        have k0 : (0 : Int) ≤ k := by omega
        obtain ⟨g, rfl⟩ := PC.out k (by have := enc.out; omega)
        obtain ⟨cur, hcur, hcs⟩ := hSr.out g rfl (by omega)
        have kc : k < cur.size := by omega
        have q1 : wr.cell? ⟨g, k, none⟩ = some cur[k] := by rw [Lib.cell_of_heap hcur]; exact Array.getElem?_eq_getElem kc
        have f1 : wr.frozen? ⟨g, k, none⟩ = false := Lib.frozen_of_heap hcur _
        obtain ⟨xx, exx⟩ : ∃ x : Value, Hid (cur[k] = x) := ⟨cur[k], (show _ = _ from rfl)⟩
        rw [exx.out] at q1
        have HF2 : Hid (Fr (fun q => ∃ o, (some ⟨g, 0, none⟩ : Option Addr) = some ⟨q, o, none⟩) w7 (wr.setCell ⟨g, k, none⟩ (.string ⟨#[64]⟩))) := hFr.out.setCell (p := ⟨g, k, none⟩) (Or.inl ⟨0, rfl⟩) _
        have HS2 : Hid (∀ g', (some ⟨g, 0, none⟩ : Option Addr) = some ⟨g', 0, none⟩ → 0 < nc → ∃ cur : Array Value, (wr.setCell ⟨g, k, none⟩ (.string ⟨#[64]⟩)).heap[g']? = some (.cells cur 9 (0, 0)) ∧ nc ≤ cur.size) := fun g' e hn => by
          injection e with e
          injection e with e
          subst e
          exact ⟨_, set_heapA hcur, by simpa using hcs⟩
        clear hcur exx hFr hSr hcs kc
        go_wp2
        exact ⟨⟨k + 1, by omega, by go_num, HF2, HS2⟩, by simp [intOf]; omega⟩
    have hlt' : (k : Int) < na := by omega
    have k0 : (0 : Int) ≤ k := by omega
    obtain ⟨g, rfl⟩ := PA.out k (by have := ena.out; omega)
    obtain ⟨cur, hcur, hcs⟩ := hSr.out g rfl (by omega)
    have kc : k < cur.size := by omega
    have q1 : wr.cell? ⟨g, k, none⟩ = some cur[k] := by rw [Lib.cell_of_heap hcur]; exact Array.getElem?_eq_getElem kc
    have f1 : wr.frozen? ⟨g, k, none⟩ = false := Lib.frozen_of_heap hcur _
    obtain ⟨xx, exx⟩ : ∃ x : Value, Hid (cur[k] = x) := ⟨cur[k], (show _ = _ from rfl)⟩
    rw [exx.out] at q1
    have HF2 : Hid (Fr (fun q => ∃ o, (some ⟨g, 0, none⟩ : Option Addr) = some ⟨q, o, none⟩) w6 (wr.setCell ⟨g, k, none⟩ (.string ⟨#[64]⟩))) := hFr.out.setCell (p := ⟨g, k, none⟩) (Or.inl ⟨0, rfl⟩) _
    have HS2 : Hid (∀ g', (some ⟨g, 0, none⟩ : Option Addr) = some ⟨g', 0, none⟩ → 0 < na → ∃ cur : Array Value, (wr.setCell ⟨g, k, none⟩ (.string ⟨#[64]⟩)).heap[g']? = some (.cells cur 9 (0, 0)) ∧ na ≤ cur.size) := fun g' e hn => by
      injection e with e
      injection e with e
      subst e
      exact ⟨_, set_heapA hcur, by simpa using hcs⟩
    clear hcur exx hFr hSr hcs kc
    go_wp2
    exact ⟨⟨k + 1, by omega, by go_num, HF2, HS2⟩, by simp [intOf]; omega⟩
end Go.Proofs.YtfajjphfjilpnaaGreat
