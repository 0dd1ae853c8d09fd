/- The document's Same: names, terms. -/
import Derived.Test.YtfajjphfjilpnaaGreatZ08
import Derived.Test.YtfajjphfjilpnaaGreatZ09
import Derived.Test.YtfajjphfjilpnaaGreatZ07
import Derived.Test.YtfajjphfjilpnaaGreatZ06
import Derived.Test.YtfajjphfjilpnaaGreatZ02
import Derived.Deep.QuietTactic
import Derived.Deep.RegionHeld3

namespace Go.Proofs.YtfajjphfjilpnaaGreat
open Go.RowKit LX Go.Shelf
set_option linter.unusedVariables false

set_option maxRecDepth 100000 in
set_option maxHeartbeats 8000000 in
theorem rregex_c2 (w0 : World) (q : Nat) (hq : w0.heap.size ≤ q) (r : Rx) (ut us : Value) (ht : FmsAt w0 ut r.test) (hs : RxsAt w0 us r.subs) (d : Int) (hd0 : 0 ≤ d) (hd1 : d ≤ 25)
    (IR : d ≤ 24 → ∀ (i : Nat) (hi : i < r.subs.length) (u1 u2 : Value), FmsAt w0 u1 r.subs[i].test → RxsAt w0 u2 r.subs[i].subs → Walks w0 q 59 (.agg #[.int .i64 r.subs[i].k, u1, u2]) (d + 1) (fun s => rrun (d + 1) s r.subs[i]))
    (IF : d ≤ 24 → ∀ (i : Nat) (hi : i < r.test.length) (y : FQ), QAt w0 (r.test[i], y) → Walks w0 q 30 (.agg #[.int .i64 r.test[i].k, .string r.test[i].nm, .int .i64 r.test[i].op, y.v, y.t, .int .i64 r.test[i].lo, .int .i64 r.test[i].hi, .bool r.test[i].opn, y.s, y.r]) (d + 1) (fun s => frun (d + 1) s r.test[i]))
    (hk : r.k = 2) (N M : Int) (w : World) (R : Int × (Int × Int)) (F : Int × Int → Int × (Int × Int)) (hw : Below w0.heap.size w0 w) (hK : WK w q N M 0) (ho : OkS (N, M)) (hR : R = andT (rrun d (N, M) r) F) :
    Calls Tryz.prog 59 #[.pointer (some ⟨q, 0, none⟩), .agg #[.int .i64 r.k, ut, us], .int .i64 d] w fun e w' => (∃ v, e = .returned v) ∧ Hid (KeepT q w w' ∧ WS w' q R F) := by
  obtain ⟨pt, ct, rfl, hlt0, hct, HXF0⟩ := ht.form
  have HXF : Hid (∀ i (hi : i < r.test.length), ∃ b off uv ut us ur, pt = some ⟨b, off, none⟩ ∧ b < w0.heap.size ∧ FmC w0 b (off + i * 10) r.test[i] uv ut us ur ∧ NmsAt w0 uv r.test[i].vars ∧ TmsAt w0 ut r.test[i].terms ∧ FmsAt w0 us r.test[i].subs ∧ RxsAt w0 ur r.test[i].rgx) := HXF0
  obtain ⟨ps, cs, rfl, hls, hcs, HXR0⟩ := hs.form
  have HXR : Hid (∀ i (hi : i < r.subs.length), ∃ b off ut us, ps = some ⟨b, off, none⟩ ∧ b < w0.heap.size ∧ RxC w0 b (off + i * 3) r.subs[i] ut us ∧ FmsAt w0 ut r.subs[i].test ∧ RxsAt w0 us r.subs[i].subs) := HXR0
  have HW : Hid (WK w q N M 0) := hK
  have HO : Hid (OkS (N, M)) := ho
  have hqw : q < w.heap.size := hK.lt
  have HR0 : Hid (R = andT (meetE d (N, M), meetS d (N, M)) fun s1 => andT (rxE r, s1) fun s1 => andT (fruns (d + 1) s1 r.test) fun s2 => andT (rruns (d + 1) s2 r.subs) F) := by
    have h := hR
    rw [rrun_eq] at h
    simp only [andT_assoc] at h
    exact h
  have HE : Hid (ndE d N = meetE d (N, M)) := nd_meet (s := (N, M)) HO.out
  have CR0 : Hid (_) := IR
  have CF0 : Hid (_) := IF
  clear IR IF ht hs HXF0 HXR0 hK ho hR
  obtain ⟨FE, hFE⟩ : ∃ FE, Hid (rxE r = FE) := ⟨_, rfl⟩
  have HD : Hid ((if r.k < 1 ∨ 5 < r.k then 20 else if r.test.length ≠ (if r.k = 2 then 1 else 0) ∨ r.subs.length ≠ (if r.k = 3 ∨ r.k = 4 then 2 else if r.k = 5 then 1 else 0) then 1 else 0) = FE) := hFE.out
  rw [hFE.out] at HR0
  clear hFE
  obtain ⟨nt, ent⟩ : ∃ n : Nat, Hid (r.test.length = n) := ⟨_, rfl⟩
  obtain ⟨ns, ens⟩ : ∃ n : Nat, Hid (r.subs.length = n) := ⟨_, rfl⟩
  rw [ent.out] at hlt0 hct HD ⊢
  rw [ens.out] at hls hcs HD ⊢
  generalize r.k = tk at *
  subst hk
  have hne : w.heap.size ≠ q := by omega
  go_enter Tryz.func59, Tryz.ntmps59
  go_wp2_with fail
  refine (rnode_any q N M d _ (HW.out.alloc _) ⟨HO.out.1, by have := HO.out.2.1; simp at this; omega⟩).mono ?_
  rintro r9 w1 ⟨rfl, h1⟩
  have hK1 : KeepT q w w1 := (KeepT.of ((Below.refl _ _).alloc (Nat.le_refl _) _)).trans h1.out.2.keep
  have W1 : Hid (WK w1 q (N + 1) (if M < d then d else M) (ndE d N)) := h1.out.1
  have B1 : Hid (w1.heap[w.heap.size]? = some (.cells #[.int .i64 2, .slice pt nt ct, .slice ps ns cs] 76 (0, 0))) := (h1.out.2.block w.heap.size (by simp) hne).trans (heap_allocA w _)
  clear h1
  by_cases hE : ndE d N = 0
  case neg =>
    have hE' : (ndE d N == 0) = false := by simpa using hE
    rw [hE']
    go_wp2
    refine bodyPost_ret (results_none rfl _ _ _) rfl ?_
    refine ⟨⟨_, rfl⟩, hK1, _, _, _, W1.out, fun e => absurd e hE, fun _ => ?_⟩
    have h := HR0.out
    rw [← HE.out] at h
    rw [h, andT_ne hE]
  have hE' : (ndE d N == 0) = true := by simpa using hE
  rw [hE']
  obtain ⟨N1, hN1⟩ : ∃ N1, Hid (N + 1 = N1) := ⟨_, rfl⟩
  obtain ⟨M1, hM1⟩ : ∃ M1, Hid ((if M < d then d else M) = M1) := ⟨_, rfl⟩
  have W1' : Hid (WK w1 q N1 M1 0) := by have h := W1.out; rw [hE, hN1.out, hM1.out] at h; exact h
  clear W1
  have hmS : Hid (meetS d (N, M) = (N1, M1)) := by
    have e : meetE d (N, M) = 0 := by rw [← HE.out]; exact hE
    unfold meetS
    rw [if_pos e, ← hN1.out, ← hM1.out, Int.max_def]
    show (N + 1, if M ≤ d then d else M) = (N + 1, if M < d then d else M)
    congr 1
    by_cases h : M < d
    · rw [if_pos h, if_pos (by omega)]
    · rw [if_neg h]; split <;> omega
  have HR1 : Hid (R = andT (FE, (N1, M1)) fun s1 => andT (fruns (d + 1) s1 r.test) fun s2 => andT (rruns (d + 1) s2 r.subs) F) := by
    have h := HR0.out
    rw [← HE.out, hE, andT_eq, hmS.out] at h
    exact h
  have hd24 : d ≤ 24 := meetE_le (s := (N, M)) (by rw [← HE.out]; exact hE)
  have HOk : Hid (OkS (N1, M1)) := by rw [← hmS.out]; exact meetS_ok HO.out hd0
  have CR := CR0.out hd24
  have CF := CF0.out hd24
  have CR : Hid (_) := CR
  have CF : Hid (_) := CF
  clear HR0 HE hE hE' hN1 hM1 hmS CR0 CF0
  have HNo : Hid (¬ FE = 0 → ∀ W : World, WK W q N1 M1 FE → WS W q R F) := by
    intro h W hW
    have hr := HR1.out
    rw [andT_ne h] at hr
    exact ⟨_, _, _, hW, fun e => absurd e h, fun _ => by rw [hr]⟩
  have e0 : w1.cell? ⟨w.heap.size, 0, none⟩ = some (.int .i64 2) := by rw [Lib.cell_of_heap B1.out]; rfl
  go_wp2_with fail
  refine (rwrong_any q N1 M1 0 20 _ w1 W1'.out).mono ?_
  rintro r9 w2 ⟨⟨v2, rfl⟩, h2⟩
  have W2 : Hid (WK w2 q N1 M1 0) := by have a := h2.out.1; first | exact a | (simp [wrE, hk] at a; exact a)
  have B2 : Hid (_) := h2.out.2.heap B1.out hne
  have hK2 : KeepT q w w2 := hK1.trans h2.out.2.keep
  clear h2 e0 B1 hK1 W1'
  have e0 : w2.cell? ⟨w.heap.size, 0, none⟩ = some (.int .i64 2) := by rw [Lib.cell_of_heap B2.out]; rfl
  have e1 : w2.cell? ⟨w.heap.size, 1, none⟩ = some (.slice pt nt ct) := by rw [Lib.cell_of_heap B2.out]; rfl
  have e2 : w2.cell? ⟨w.heap.size, 2, none⟩ = some (.slice ps ns cs) := by rw [Lib.cell_of_heap B2.out]; rfl
  by_cases hT : nt = 1
  case neg =>
    have t1 : ((nt : Int) == 1) = false := by simp; omega
    have t2 : ((nt : Int) != 1) = true := by simp; omega
    go_wp2_with fail
    refine (rwrong_any q N1 M1 _ 1 _ _ W2.out).mono ?_
    rintro r9 w9 ⟨⟨v9, rfl⟩, h9⟩
    have W9 : Hid (WK w9 q N1 M1 FE) := by have a := h9.out.1; have b := HD.out; simp [wrE, hT] at a b; first | (subst b; exact a) | (rw [← b]; exact a)
    have B9 : Hid (_) := h9.out.2.heap B2.out hne
    have hK9 : KeepT q w w9 := hK2.trans h9.out.2.keep
    have y2 : w9.cell? ⟨q, 2, none⟩ = some (.int .i64 FE) := W9.out.e
    clear h9 e0 e1 e2
    have tn : ¬ FE = 0 := by have b := HD.out; simp [hT] at b; omega
    have tn' : (FE == 0) = false := by simpa using tn
    have tn'' : (FE != 0) = true := by simpa using tn
    go_wp2
    refine bodyPost_ret (results_none rfl _ _ _) rfl ?_
    exact ⟨⟨_, rfl⟩, hK9, HNo.out tn _ W9.out⟩
  have t1 : ((nt : Int) == 1) = true := by simp; omega
  have t2 : ((nt : Int) != 1) = false := by simp; omega
  by_cases hS : ns = 0
  case neg =>
    have s1 : ((ns : Int) == 0) = false := by simp; omega
    have s2 : ((ns : Int) != 0) = true := by simp; omega
    go_wp2_with fail
    refine (rwrong_any q N1 M1 _ 1 _ _ W2.out).mono ?_
    rintro r9 w9 ⟨⟨v9, rfl⟩, h9⟩
    have W9 : Hid (WK w9 q N1 M1 FE) := by have a := h9.out.1; have b := HD.out; simp [wrE, hT, hS] at a b; first | (subst b; exact a) | (rw [← b]; exact a)
    have B9 : Hid (_) := h9.out.2.heap B2.out hne
    have hK9 : KeepT q w w9 := hK2.trans h9.out.2.keep
    have y2 : w9.cell? ⟨q, 2, none⟩ = some (.int .i64 FE) := W9.out.e
    clear h9 e0 e1 e2
    have tn : ¬ FE = 0 := by have b := HD.out; simp [hT, hS] at b; omega
    have tn' : (FE == 0) = false := by simpa using tn
    have tn'' : (FE != 0) = true := by simpa using tn
    go_wp2
    refine bodyPost_ret (results_none rfl _ _ _) rfl ?_
    exact ⟨⟨_, rfl⟩, hK9, HNo.out tn _ W9.out⟩
  have s1 : ((ns : Int) == 0) = true := by simp; omega
  have s2 : ((ns : Int) != 0) = false := by simp; omega
  go_wp2_with fail
  refine (rwrong_any q N1 M1 _ 1 _ _ W2.out).mono ?_
  rintro r9 w9 ⟨⟨v9, rfl⟩, h9⟩
  have W9 : Hid (WK w9 q N1 M1 FE) := by have a := h9.out.1; have b := HD.out; simp [wrE, hT, hS] at a b; first | (subst b; exact a) | (rw [← b]; exact a)
  have B9 : Hid (_) := h9.out.2.heap B2.out hne
  have hK9 : KeepT q w w9 := hK2.trans h9.out.2.keep
  have y2 : w9.cell? ⟨q, 2, none⟩ = some (.int .i64 FE) := W9.out.e
  clear h9 e0 e1 e2
  clear t1 t2 s1 s2
  have hz : FE = 0 := by have b := HD.out; simp [hT, hS] at b; omega
  subst hz
  have S9 : Hid (WS w9 q R (fun s1 => andT (fruns (d + 1) s1 r.test) fun s2 => andT (rruns (d + 1) s2 r.subs) F)) := WS.of W9.out HOk.out (by have h := HR1.out; rw [andT_eq] at h; exact h)
  clear HD HR1 HNo hT hS
  go_wp2
  go_loopw [9] (fun v wr => ∃ k : Nat, k ≤ nt ∧ v = .int .i64 k ∧ KeepT q w9 wr ∧ Hid (WS wr q R (fun s => andT (fruns (d + 1) s (r.test.drop k)) (fun s2 => andT (rruns (d + 1) s2 r.subs) F)))) (fun v _ => nt - (intOf v).toNat)
  case atStart => exact ⟨0, Nat.zero_le _, rfl, KeepT.refl _ _, by rw [List.drop_zero]; exact S9⟩
  case round =>
    obtain ⟨k, hk, rfl, hKr, hSr⟩ := hrel
    have Br : Hid (_) := (hKr.block w.heap.size (lt_heap B9.out) hne).trans B9.out
    have r6 : wr.cell? ⟨w.heap.size, 1, none⟩ = some (.slice pt nt ct) := by rw [Lib.cell_of_heap Br.out]; rfl
    by_cases hlt : k < nt
    case neg =>
      have c2 : ¬ (k : Int) < nt := by omega
      obtain ⟨w10, ew⟩ : ∃ W : World, W = wr := ⟨_, rfl⟩
      subst ew
      have S10 : Hid (WS w10 q R (fun s2 => andT (rruns (d + 1) s2 r.subs) F)) := hSr.out.cast (fun s => by rw [List.drop_eq_nil_of_le (by have := ent.out; omega), fruns_nil]; exact andT_eq)
      have hK10 : KeepT q w w10 := hK9.trans hKr
      have B10 : Hid (_) := Br.out
      clear hSr hKr Br
      go_wp2
      clear r6 c2 hk hlt
      go_loopw [10] (fun v wr => ∃ k : Nat, k ≤ ns ∧ v = .int .i64 k ∧ KeepT q w10 wr ∧ Hid (WS wr q R (fun s => andT (rruns (d + 1) s (r.subs.drop k)) F))) (fun v _ => ns - (intOf v).toNat)
      case atStart => exact ⟨0, Nat.zero_le _, rfl, KeepT.refl _ _, by rw [List.drop_zero]; exact S10⟩
      case round =>
        obtain ⟨k, hk, rfl, hKr, hSr⟩ := hrel
        have Br : Hid (_) := (hKr.block w.heap.size (lt_heap B10.out) hne).trans B10.out
        have r6 : wr.cell? ⟨w.heap.size, 2, none⟩ = some (.slice ps ns cs) := by rw [Lib.cell_of_heap Br.out]; rfl
        by_cases hlt : k < ns
        case neg =>
          have c2 : ¬ (k : Int) < ns := by omega
          have S11 : Hid (WS wr q R F) := hSr.out.cast (fun s => by rw [List.drop_eq_nil_of_le (by have := ens.out; omega), rruns_nil]; exact andT_eq)
          have hK11 : KeepT q w wr := hK10.trans hKr
          go_wp2
          go_end0
          exact ⟨⟨_, rfl⟩, hK11, S11.out⟩
        have hlt' : (k : Int) < ns := by omega
        have kx : k < r.subs.length := by have := ens.out; omega
        obtain ⟨b, off, u1, u2, rfl, hb, TC, N1t, N2t⟩ := HXR.out k kx
        have hBr : Below w0.heap.size w0 wr := hw.trans ((hK10.trans hKr).below (B := w0.heap.size) hq (Nat.le_of_lt hqw))
        obtain ⟨a0, a1, a2⟩ := TC.below hBr hb
        have wk := CR.out k kx u1 u2 N1t N2t
        have cW := wk wr R (fun s1 => andT (rruns (d + 1) s1 (r.subs.drop (k + 1))) F) hBr (hSr.out.cast (fun s => by rw [List.drop_eq_getElem_cons kx, rruns_and]))
        have HcW : Hid (Calls Tryz.prog 59 #[.pointer (some ⟨q, 0, none⟩), .agg #[.int .i64 r.subs[k].k, u1, u2], .int .i64 (d + 1)] wr fun e9 w' => (∃ v, e9 = .returned v) ∧ Hid (KeepT q wr w' ∧ WS w' q R (fun s1 => andT (rruns (d + 1) s1 (r.subs.drop (k + 1))) F))) := cW
        obtain ⟨p1, c1, rfl, -⟩ := N1t.form
        obtain ⟨p2, c2, rfl, -⟩ := N2t.form
        clear TC hSr wk cW N1t N2t
        generalize r.subs[k].k = X0 at *
        generalize r.subs[k].test.length = L1 at *
        generalize r.subs[k].subs.length = L2 at *
        have nw : IntKind.i64.wrap (d + 1) = d + 1 := by rw [IntKind.wrap_i64]; omega
        have nw2 : wrap64 (d + 1) = d + 1 := by unfold wrap64; omega
        go_wp2_with fail
        refine HcW.out.mono ?_
        rintro r w6 ⟨⟨v6, rfl⟩, h6⟩
        have hK6 : KeepT q w10 w6 := hKr.trans h6.out.1
        have HS6 : Hid (_) := h6.out.2
        clear h6 HcW
        go_wp2
        exact ⟨⟨k + 1, by omega, by go_num, hK6, HS6.out⟩, by simp [intOf]; omega⟩
    have hlt' : (k : Int) < nt := by omega
    have kx : k < r.test.length := by have := ent.out; omega
    obtain ⟨b, off, u1, u2, u3, u4, rfl, hb, TC, N1t, N2t, N3t, N4t⟩ := HXF.out k kx
    have hBr : Below w0.heap.size w0 wr := hw.trans ((hK9.trans hKr).below (B := w0.heap.size) hq (Nat.le_of_lt hqw))
    obtain ⟨a0, a1, a2, a3, a4, a5, a6, a7, a8, a9⟩ := TC.below hBr hb
    have wk := CF.out k kx ⟨u1, u2, u3, u4⟩ ⟨N1t, N2t, N3t, N4t⟩
    have cW := wk wr R (fun s1 => andT (fruns (d + 1) s1 (r.test.drop (k + 1))) (fun s2 => andT (rruns (d + 1) s2 r.subs) F)) hBr (hSr.out.cast (fun s => by rw [List.drop_eq_getElem_cons kx, fruns_and]))
    have HcW : Hid (Calls Tryz.prog 30 #[.pointer (some ⟨q, 0, none⟩), .agg #[.int .i64 r.test[k].k, .string r.test[k].nm, .int .i64 r.test[k].op, u1, u2, .int .i64 r.test[k].lo, .int .i64 r.test[k].hi, .bool r.test[k].opn, u3, u4], .int .i64 (d + 1)] wr fun e9 w' => (∃ v, e9 = .returned v) ∧ Hid (KeepT q wr w' ∧ WS w' q R (fun s1 => andT (fruns (d + 1) s1 (r.test.drop (k + 1))) (fun s2 => andT (rruns (d + 1) s2 r.subs) F)))) := cW
    obtain ⟨-, p1, c1, rfl, -⟩ := N1t
    obtain ⟨p2, c2, rfl, -⟩ := N2t.form
    obtain ⟨p3, c3, rfl, -⟩ := N3t.form
    obtain ⟨p4, c4, rfl, -⟩ := N4t.form
    clear TC hSr wk cW N2t N3t N4t
    generalize r.test[k].k = X0 at *
    generalize r.test[k].nm = X1 at *
    generalize r.test[k].op = X2 at *
    generalize r.test[k].lo = X3 at *
    generalize r.test[k].hi = X4 at *
    generalize r.test[k].opn = X5 at *
    generalize r.test[k].vars.length = L1 at *
    generalize r.test[k].terms.length = L2 at *
    generalize r.test[k].subs.length = L3 at *
    generalize r.test[k].rgx.length = L4 at *
    have nw : IntKind.i64.wrap (d + 1) = d + 1 := by rw [IntKind.wrap_i64]; omega
    have nw2 : wrap64 (d + 1) = d + 1 := by unfold wrap64; omega
    go_wp2_with fail
    refine HcW.out.mono ?_
    rintro r w6 ⟨⟨v6, rfl⟩, h6⟩
    have hK6 : KeepT q w9 w6 := hKr.trans h6.out.1
    have HS6 : Hid (_) := h6.out.2
    clear h6 HcW
    go_wp2
    exact ⟨⟨k + 1, by omega, by go_num, hK6, HS6.out⟩, by simp [intOf]; omega⟩
end Go.Proofs.YtfajjphfjilpnaaGreat

namespace Go.Proofs.YtfajjphfjilpnaaGreat
open Go.RowKit LX Go.Shelf
set_option linter.unusedVariables false

set_option maxRecDepth 100000 in
set_option maxHeartbeats 8000000 in
theorem rregex_c3 (w0 : World) (q : Nat) (hq : w0.heap.size ≤ q) (r : Rx) (ut us : Value) (ht : FmsAt w0 ut r.test) (hs : RxsAt w0 us r.subs) (d : Int) (hd0 : 0 ≤ d) (hd1 : d ≤ 25)
    (IR : d ≤ 24 → ∀ (i : Nat) (hi : i < r.subs.length) (u1 u2 : Value), FmsAt w0 u1 r.subs[i].test → RxsAt w0 u2 r.subs[i].subs → Walks w0 q 59 (.agg #[.int .i64 r.subs[i].k, u1, u2]) (d + 1) (fun s => rrun (d + 1) s r.subs[i]))
    (IF : d ≤ 24 → ∀ (i : Nat) (hi : i < r.test.length) (y : FQ), QAt w0 (r.test[i], y) → Walks w0 q 30 (.agg #[.int .i64 r.test[i].k, .string r.test[i].nm, .int .i64 r.test[i].op, y.v, y.t, .int .i64 r.test[i].lo, .int .i64 r.test[i].hi, .bool r.test[i].opn, y.s, y.r]) (d + 1) (fun s => frun (d + 1) s r.test[i]))
    (hk : r.k = 3) (N M : Int) (w : World) (R : Int × (Int × Int)) (F : Int × Int → Int × (Int × Int)) (hw : Below w0.heap.size w0 w) (hK : WK w q N M 0) (ho : OkS (N, M)) (hR : R = andT (rrun d (N, M) r) F) :
    Calls Tryz.prog 59 #[.pointer (some ⟨q, 0, none⟩), .agg #[.int .i64 r.k, ut, us], .int .i64 d] w fun e w' => (∃ v, e = .returned v) ∧ Hid (KeepT q w w' ∧ WS w' q R F) := by
  obtain ⟨pt, ct, rfl, hlt0, hct, HXF0⟩ := ht.form
  have HXF : Hid (∀ i (hi : i < r.test.length), ∃ b off uv ut us ur, pt = some ⟨b, off, none⟩ ∧ b < w0.heap.size ∧ FmC w0 b (off + i * 10) r.test[i] uv ut us ur ∧ NmsAt w0 uv r.test[i].vars ∧ TmsAt w0 ut r.test[i].terms ∧ FmsAt w0 us r.test[i].subs ∧ RxsAt w0 ur r.test[i].rgx) := HXF0
  obtain ⟨ps, cs, rfl, hls, hcs, HXR0⟩ := hs.form
  have HXR : Hid (∀ i (hi : i < r.subs.length), ∃ b off ut us, ps = some ⟨b, off, none⟩ ∧ b < w0.heap.size ∧ RxC w0 b (off + i * 3) r.subs[i] ut us ∧ FmsAt w0 ut r.subs[i].test ∧ RxsAt w0 us r.subs[i].subs) := HXR0
  have HW : Hid (WK w q N M 0) := hK
  have HO : Hid (OkS (N, M)) := ho
  have hqw : q < w.heap.size := hK.lt
  have HR0 : Hid (R = andT (meetE d (N, M), meetS d (N, M)) fun s1 => andT (rxE r, s1) fun s1 => andT (fruns (d + 1) s1 r.test) fun s2 => andT (rruns (d + 1) s2 r.subs) F) := by
    have h := hR
    rw [rrun_eq] at h
    simp only [andT_assoc] at h
    exact h
  have HE : Hid (ndE d N = meetE d (N, M)) := nd_meet (s := (N, M)) HO.out
  have CR0 : Hid (_) := IR
  have CF0 : Hid (_) := IF
  clear IR IF ht hs HXF0 HXR0 hK ho hR
  obtain ⟨FE, hFE⟩ : ∃ FE, Hid (rxE r = FE) := ⟨_, rfl⟩
  have HD : Hid ((if r.k < 1 ∨ 5 < r.k then 20 else if r.test.length ≠ (if r.k = 2 then 1 else 0) ∨ r.subs.length ≠ (if r.k = 3 ∨ r.k = 4 then 2 else if r.k = 5 then 1 else 0) then 1 else 0) = FE) := hFE.out
  rw [hFE.out] at HR0
  clear hFE
  obtain ⟨nt, ent⟩ : ∃ n : Nat, Hid (r.test.length = n) := ⟨_, rfl⟩
  obtain ⟨ns, ens⟩ : ∃ n : Nat, Hid (r.subs.length = n) := ⟨_, rfl⟩
  rw [ent.out] at hlt0 hct HD ⊢
  rw [ens.out] at hls hcs HD ⊢
  generalize r.k = tk at *
  subst hk
  have hne : w.heap.size ≠ q := by omega
  go_enter Tryz.func59, Tryz.ntmps59
  go_wp2_with fail
  refine (rnode_any q N M d _ (HW.out.alloc _) ⟨HO.out.1, by have := HO.out.2.1; simp at this; omega⟩).mono ?_
  rintro r9 w1 ⟨rfl, h1⟩
  have hK1 : KeepT q w w1 := (KeepT.of ((Below.refl _ _).alloc (Nat.le_refl _) _)).trans h1.out.2.keep
  have W1 : Hid (WK w1 q (N + 1) (if M < d then d else M) (ndE d N)) := h1.out.1
  have B1 : Hid (w1.heap[w.heap.size]? = some (.cells #[.int .i64 3, .slice pt nt ct, .slice ps ns cs] 76 (0, 0))) := (h1.out.2.block w.heap.size (by simp) hne).trans (heap_allocA w _)
  clear h1
  by_cases hE : ndE d N = 0
  case neg =>
    have hE' : (ndE d N == 0) = false := by simpa using hE
    rw [hE']
    go_wp2
    refine bodyPost_ret (results_none rfl _ _ _) rfl ?_
    refine ⟨⟨_, rfl⟩, hK1, _, _, _, W1.out, fun e => absurd e hE, fun _ => ?_⟩
    have h := HR0.out
    rw [← HE.out] at h
    rw [h, andT_ne hE]
  have hE' : (ndE d N == 0) = true := by simpa using hE
  rw [hE']
  obtain ⟨N1, hN1⟩ : ∃ N1, Hid (N + 1 = N1) := ⟨_, rfl⟩
  obtain ⟨M1, hM1⟩ : ∃ M1, Hid ((if M < d then d else M) = M1) := ⟨_, rfl⟩
  have W1' : Hid (WK w1 q N1 M1 0) := by have h := W1.out; rw [hE, hN1.out, hM1.out] at h; exact h
  clear W1
  have hmS : Hid (meetS d (N, M) = (N1, M1)) := by
    have e : meetE d (N, M) = 0 := by rw [← HE.out]; exact hE
    unfold meetS
    rw [if_pos e, ← hN1.out, ← hM1.out, Int.max_def]
    show (N + 1, if M ≤ d then d else M) = (N + 1, if M < d then d else M)
    congr 1
    by_cases h : M < d
    · rw [if_pos h, if_pos (by omega)]
    · rw [if_neg h]; split <;> omega
  have HR1 : Hid (R = andT (FE, (N1, M1)) fun s1 => andT (fruns (d + 1) s1 r.test) fun s2 => andT (rruns (d + 1) s2 r.subs) F) := by
    have h := HR0.out
    rw [← HE.out, hE, andT_eq, hmS.out] at h
    exact h
  have hd24 : d ≤ 24 := meetE_le (s := (N, M)) (by rw [← HE.out]; exact hE)
  have HOk : Hid (OkS (N1, M1)) := by rw [← hmS.out]; exact meetS_ok HO.out hd0
  have CR := CR0.out hd24
  have CF := CF0.out hd24
  have CR : Hid (_) := CR
  have CF : Hid (_) := CF
  clear HR0 HE hE hE' hN1 hM1 hmS CR0 CF0
  have HNo : Hid (¬ FE = 0 → ∀ W : World, WK W q N1 M1 FE → WS W q R F) := by
    intro h W hW
    have hr := HR1.out
    rw [andT_ne h] at hr
    exact ⟨_, _, _, hW, fun e => absurd e h, fun _ => by rw [hr]⟩
  have e0 : w1.cell? ⟨w.heap.size, 0, none⟩ = some (.int .i64 3) := by rw [Lib.cell_of_heap B1.out]; rfl
  go_wp2_with fail
  refine (rwrong_any q N1 M1 0 20 _ w1 W1'.out).mono ?_
  rintro r9 w2 ⟨⟨v2, rfl⟩, h2⟩
  have W2 : Hid (WK w2 q N1 M1 0) := by have a := h2.out.1; first | exact a | (simp [wrE, hk] at a; exact a)
  have B2 : Hid (_) := h2.out.2.heap B1.out hne
  have hK2 : KeepT q w w2 := hK1.trans h2.out.2.keep
  clear h2 e0 B1 hK1 W1'
  have e0 : w2.cell? ⟨w.heap.size, 0, none⟩ = some (.int .i64 3) := by rw [Lib.cell_of_heap B2.out]; rfl
  have e1 : w2.cell? ⟨w.heap.size, 1, none⟩ = some (.slice pt nt ct) := by rw [Lib.cell_of_heap B2.out]; rfl
  have e2 : w2.cell? ⟨w.heap.size, 2, none⟩ = some (.slice ps ns cs) := by rw [Lib.cell_of_heap B2.out]; rfl
  by_cases hT : nt = 0
  case neg =>
    have t1 : ((nt : Int) == 0) = false := by simp; omega
    have t2 : ((nt : Int) != 0) = true := by simp; omega
    go_wp2_with fail
    refine (rwrong_any q N1 M1 _ 1 _ _ W2.out).mono ?_
    rintro r9 w9 ⟨⟨v9, rfl⟩, h9⟩
    have W9 : Hid (WK w9 q N1 M1 FE) := by have a := h9.out.1; have b := HD.out; simp [wrE, hT] at a b; first | (subst b; exact a) | (rw [← b]; exact a)
    have B9 : Hid (_) := h9.out.2.heap B2.out hne
    have hK9 : KeepT q w w9 := hK2.trans h9.out.2.keep
    have y2 : w9.cell? ⟨q, 2, none⟩ = some (.int .i64 FE) := W9.out.e
    clear h9 e0 e1 e2
    have tn : ¬ FE = 0 := by have b := HD.out; simp [hT] at b; omega
    have tn' : (FE == 0) = false := by simpa using tn
    have tn'' : (FE != 0) = true := by simpa using tn
    go_wp2
    refine bodyPost_ret (results_none rfl _ _ _) rfl ?_
    exact ⟨⟨_, rfl⟩, hK9, HNo.out tn _ W9.out⟩
  have t1 : ((nt : Int) == 0) = true := by simp; omega
  have t2 : ((nt : Int) != 0) = false := by simp; omega
  by_cases hS : ns = 2
  case neg =>
    have s1 : ((ns : Int) == 2) = false := by simp; omega
    have s2 : ((ns : Int) != 2) = true := by simp; omega
    go_wp2_with fail
    refine (rwrong_any q N1 M1 _ 1 _ _ W2.out).mono ?_
    rintro r9 w9 ⟨⟨v9, rfl⟩, h9⟩
    have W9 : Hid (WK w9 q N1 M1 FE) := by have a := h9.out.1; have b := HD.out; simp [wrE, hT, hS] at a b; first | (subst b; exact a) | (rw [← b]; exact a)
    have B9 : Hid (_) := h9.out.2.heap B2.out hne
    have hK9 : KeepT q w w9 := hK2.trans h9.out.2.keep
    have y2 : w9.cell? ⟨q, 2, none⟩ = some (.int .i64 FE) := W9.out.e
    clear h9 e0 e1 e2
    have tn : ¬ FE = 0 := by have b := HD.out; simp [hT, hS] at b; omega
    have tn' : (FE == 0) = false := by simpa using tn
    have tn'' : (FE != 0) = true := by simpa using tn
    go_wp2
    refine bodyPost_ret (results_none rfl _ _ _) rfl ?_
    exact ⟨⟨_, rfl⟩, hK9, HNo.out tn _ W9.out⟩
  have s1 : ((ns : Int) == 2) = true := by simp; omega
  have s2 : ((ns : Int) != 2) = false := by simp; omega
  go_wp2_with fail
  refine (rwrong_any q N1 M1 _ 1 _ _ W2.out).mono ?_
  rintro r9 w9 ⟨⟨v9, rfl⟩, h9⟩
  have W9 : Hid (WK w9 q N1 M1 FE) := by have a := h9.out.1; have b := HD.out; simp [wrE, hT, hS] at a b; first | (subst b; exact a) | (rw [← b]; exact a)
  have B9 : Hid (_) := h9.out.2.heap B2.out hne
  have hK9 : KeepT q w w9 := hK2.trans h9.out.2.keep
  have y2 : w9.cell? ⟨q, 2, none⟩ = some (.int .i64 FE) := W9.out.e
  clear h9 e0 e1 e2
  clear t1 t2 s1 s2
  have hz : FE = 0 := by have b := HD.out; simp [hT, hS] at b; omega
  subst hz
  have S9 : Hid (WS w9 q R (fun s1 => andT (fruns (d + 1) s1 r.test) fun s2 => andT (rruns (d + 1) s2 r.subs) F)) := WS.of W9.out HOk.out (by have h := HR1.out; rw [andT_eq] at h; exact h)
  clear HD HR1 HNo hT hS
  go_wp2
  go_loopw [9] (fun v wr => ∃ k : Nat, k ≤ nt ∧ v = .int .i64 k ∧ KeepT q w9 wr ∧ Hid (WS wr q R (fun s => andT (fruns (d + 1) s (r.test.drop k)) (fun s2 => andT (rruns (d + 1) s2 r.subs) F)))) (fun v _ => nt - (intOf v).toNat)
  case atStart => exact ⟨0, Nat.zero_le _, rfl, KeepT.refl _ _, by rw [List.drop_zero]; exact S9⟩
  case round =>
    obtain ⟨k, hk, rfl, hKr, hSr⟩ := hrel
    have Br : Hid (_) := (hKr.block w.heap.size (lt_heap B9.out) hne).trans B9.out
    have r6 : wr.cell? ⟨w.heap.size, 1, none⟩ = some (.slice pt nt ct) := by rw [Lib.cell_of_heap Br.out]; rfl
    by_cases hlt : k < nt
    case neg =>
      have c2 : ¬ (k : Int) < nt := by omega
      obtain ⟨w10, ew⟩ : ∃ W : World, W = wr := ⟨_, rfl⟩
      subst ew
      have S10 : Hid (WS w10 q R (fun s2 => andT (rruns (d + 1) s2 r.subs) F)) := hSr.out.cast (fun s => by rw [List.drop_eq_nil_of_le (by have := ent.out; omega), fruns_nil]; exact andT_eq)
      have hK10 : KeepT q w w10 := hK9.trans hKr
      have B10 : Hid (_) := Br.out
      clear hSr hKr Br
      go_wp2
      clear r6 c2 hk hlt
      go_loopw [10] (fun v wr => ∃ k : Nat, k ≤ ns ∧ v = .int .i64 k ∧ KeepT q w10 wr ∧ Hid (WS wr q R (fun s => andT (rruns (d + 1) s (r.subs.drop k)) F))) (fun v _ => ns - (intOf v).toNat)
      case atStart => exact ⟨0, Nat.zero_le _, rfl, KeepT.refl _ _, by rw [List.drop_zero]; exact S10⟩
      case round =>
        obtain ⟨k, hk, rfl, hKr, hSr⟩ := hrel
        have Br : Hid (_) := (hKr.block w.heap.size (lt_heap B10.out) hne).trans B10.out
        have r6 : wr.cell? ⟨w.heap.size, 2, none⟩ = some (.slice ps ns cs) := by rw [Lib.cell_of_heap Br.out]; rfl
        by_cases hlt : k < ns
        case neg =>
          have c2 : ¬ (k : Int) < ns := by omega
          have S11 : Hid (WS wr q R F) := hSr.out.cast (fun s => by rw [List.drop_eq_nil_of_le (by have := ens.out; omega), rruns_nil]; exact andT_eq)
          have hK11 : KeepT q w wr := hK10.trans hKr
          go_wp2
          go_end0
          exact ⟨⟨_, rfl⟩, hK11, S11.out⟩
        have hlt' : (k : Int) < ns := by omega
        have kx : k < r.subs.length := by have := ens.out; omega
        obtain ⟨b, off, u1, u2, rfl, hb, TC, N1t, N2t⟩ := HXR.out k kx
        have hBr : Below w0.heap.size w0 wr := hw.trans ((hK10.trans hKr).below (B := w0.heap.size) hq (Nat.le_of_lt hqw))
        obtain ⟨a0, a1, a2⟩ := TC.below hBr hb
        have wk := CR.out k kx u1 u2 N1t N2t
        have cW := wk wr R (fun s1 => andT (rruns (d + 1) s1 (r.subs.drop (k + 1))) F) hBr (hSr.out.cast (fun s => by rw [List.drop_eq_getElem_cons kx, rruns_and]))
        have HcW : Hid (Calls Tryz.prog 59 #[.pointer (some ⟨q, 0, none⟩), .agg #[.int .i64 r.subs[k].k, u1, u2], .int .i64 (d + 1)] wr fun e9 w' => (∃ v, e9 = .returned v) ∧ Hid (KeepT q wr w' ∧ WS w' q R (fun s1 => andT (rruns (d + 1) s1 (r.subs.drop (k + 1))) F))) := cW
        obtain ⟨p1, c1, rfl, -⟩ := N1t.form
        obtain ⟨p2, c2, rfl, -⟩ := N2t.form
        clear TC hSr wk cW N1t N2t
        generalize r.subs[k].k = X0 at *
        generalize r.subs[k].test.length = L1 at *
        generalize r.subs[k].subs.length = L2 at *
        have nw : IntKind.i64.wrap (d + 1) = d + 1 := by rw [IntKind.wrap_i64]; omega
        have nw2 : wrap64 (d + 1) = d + 1 := by unfold wrap64; omega
        go_wp2_with fail
        refine HcW.out.mono ?_
        rintro r w6 ⟨⟨v6, rfl⟩, h6⟩
        have hK6 : KeepT q w10 w6 := hKr.trans h6.out.1
        have HS6 : Hid (_) := h6.out.2
        clear h6 HcW
        go_wp2
        exact ⟨⟨k + 1, by omega, by go_num, hK6, HS6.out⟩, by simp [intOf]; omega⟩
    have hlt' : (k : Int) < nt := by omega
    have kx : k < r.test.length := by have := ent.out; omega
    obtain ⟨b, off, u1, u2, u3, u4, rfl, hb, TC, N1t, N2t, N3t, N4t⟩ := HXF.out k kx
    have hBr : Below w0.heap.size w0 wr := hw.trans ((hK9.trans hKr).below (B := w0.heap.size) hq (Nat.le_of_lt hqw))
    obtain ⟨a0, a1, a2, a3, a4, a5, a6, a7, a8, a9⟩ := TC.below hBr hb
    have wk := CF.out k kx ⟨u1, u2, u3, u4⟩ ⟨N1t, N2t, N3t, N4t⟩
    have cW := wk wr R (fun s1 => andT (fruns (d + 1) s1 (r.test.drop (k + 1))) (fun s2 => andT (rruns (d + 1) s2 r.subs) F)) hBr (hSr.out.cast (fun s => by rw [List.drop_eq_getElem_cons kx, fruns_and]))
    have HcW : Hid (Calls Tryz.prog 30 #[.pointer (some ⟨q, 0, none⟩), .agg #[.int .i64 r.test[k].k, .string r.test[k].nm, .int .i64 r.test[k].op, u1, u2, .int .i64 r.test[k].lo, .int .i64 r.test[k].hi, .bool r.test[k].opn, u3, u4], .int .i64 (d + 1)] wr fun e9 w' => (∃ v, e9 = .returned v) ∧ Hid (KeepT q wr w' ∧ WS w' q R (fun s1 => andT (fruns (d + 1) s1 (r.test.drop (k + 1))) (fun s2 => andT (rruns (d + 1) s2 r.subs) F)))) := cW
    obtain ⟨-, p1, c1, rfl, -⟩ := N1t
    obtain ⟨p2, c2, rfl, -⟩ := N2t.form
    obtain ⟨p3, c3, rfl, -⟩ := N3t.form
    obtain ⟨p4, c4, rfl, -⟩ := N4t.form
    clear TC hSr wk cW N2t N3t N4t
    generalize r.test[k].k = X0 at *
    generalize r.test[k].nm = X1 at *
    generalize r.test[k].op = X2 at *
    generalize r.test[k].lo = X3 at *
    generalize r.test[k].hi = X4 at *
    generalize r.test[k].opn = X5 at *
    generalize r.test[k].vars.length = L1 at *
    generalize r.test[k].terms.length = L2 at *
    generalize r.test[k].subs.length = L3 at *
    generalize r.test[k].rgx.length = L4 at *
    have nw : IntKind.i64.wrap (d + 1) = d + 1 := by rw [IntKind.wrap_i64]; omega
    have nw2 : wrap64 (d + 1) = d + 1 := by unfold wrap64; omega
    go_wp2_with fail
    refine HcW.out.mono ?_
    rintro r w6 ⟨⟨v6, rfl⟩, h6⟩
    have hK6 : KeepT q w9 w6 := hKr.trans h6.out.1
    have HS6 : Hid (_) := h6.out.2
    clear h6 HcW
    go_wp2
    exact ⟨⟨k + 1, by omega, by go_num, hK6, HS6.out⟩, by simp [intOf]; omega⟩
end Go.Proofs.YtfajjphfjilpnaaGreat

namespace Go.Proofs.YtfajjphfjilpnaaGreat
open Go.RowKit LX Go.Shelf
set_option linter.unusedVariables false

set_option maxRecDepth 100000 in
set_option maxHeartbeats 8000000 in
theorem rregex_c4 (w0 : World) (q : Nat) (hq : w0.heap.size ≤ q) (r : Rx) (ut us : Value) (ht : FmsAt w0 ut r.test) (hs : RxsAt w0 us r.subs) (d : Int) (hd0 : 0 ≤ d) (hd1 : d ≤ 25)
    (IR : d ≤ 24 → ∀ (i : Nat) (hi : i < r.subs.length) (u1 u2 : Value), FmsAt w0 u1 r.subs[i].test → RxsAt w0 u2 r.subs[i].subs → Walks w0 q 59 (.agg #[.int .i64 r.subs[i].k, u1, u2]) (d + 1) (fun s => rrun (d + 1) s r.subs[i]))
    (IF : d ≤ 24 → ∀ (i : Nat) (hi : i < r.test.length) (y : FQ), QAt w0 (r.test[i], y) → Walks w0 q 30 (.agg #[.int .i64 r.test[i].k, .string r.test[i].nm, .int .i64 r.test[i].op, y.v, y.t, .int .i64 r.test[i].lo, .int .i64 r.test[i].hi, .bool r.test[i].opn, y.s, y.r]) (d + 1) (fun s => frun (d + 1) s r.test[i]))
    (hk : r.k = 4) (N M : Int) (w : World) (R : Int × (Int × Int)) (F : Int × Int → Int × (Int × Int)) (hw : Below w0.heap.size w0 w) (hK : WK w q N M 0) (ho : OkS (N, M)) (hR : R = andT (rrun d (N, M) r) F) :
    Calls Tryz.prog 59 #[.pointer (some ⟨q, 0, none⟩), .agg #[.int .i64 r.k, ut, us], .int .i64 d] w fun e w' => (∃ v, e = .returned v) ∧ Hid (KeepT q w w' ∧ WS w' q R F) := by
  obtain ⟨pt, ct, rfl, hlt0, hct, HXF0⟩ := ht.form
  have HXF : Hid (∀ i (hi : i < r.test.length), ∃ b off uv ut us ur, pt = some ⟨b, off, none⟩ ∧ b < w0.heap.size ∧ FmC w0 b (off + i * 10) r.test[i] uv ut us ur ∧ NmsAt w0 uv r.test[i].vars ∧ TmsAt w0 ut r.test[i].terms ∧ FmsAt w0 us r.test[i].subs ∧ RxsAt w0 ur r.test[i].rgx) := HXF0
  obtain ⟨ps, cs, rfl, hls, hcs, HXR0⟩ := hs.form
  have HXR : Hid (∀ i (hi : i < r.subs.length), ∃ b off ut us, ps = some ⟨b, off, none⟩ ∧ b < w0.heap.size ∧ RxC w0 b (off + i * 3) r.subs[i] ut us ∧ FmsAt w0 ut r.subs[i].test ∧ RxsAt w0 us r.subs[i].subs) := HXR0
  have HW : Hid (WK w q N M 0) := hK
  have HO : Hid (OkS (N, M)) := ho
  have hqw : q < w.heap.size := hK.lt
  have HR0 : Hid (R = andT (meetE d (N, M), meetS d (N, M)) fun s1 => andT (rxE r, s1) fun s1 => andT (fruns (d + 1) s1 r.test) fun s2 => andT (rruns (d + 1) s2 r.subs) F) := by
    have h := hR
    rw [rrun_eq] at h
    simp only [andT_assoc] at h
    exact h
  have HE : Hid (ndE d N = meetE d (N, M)) := nd_meet (s := (N, M)) HO.out
  have CR0 : Hid (_) := IR
  have CF0 : Hid (_) := IF
  clear IR IF ht hs HXF0 HXR0 hK ho hR
  obtain ⟨FE, hFE⟩ : ∃ FE, Hid (rxE r = FE) := ⟨_, rfl⟩
  have HD : Hid ((if r.k < 1 ∨ 5 < r.k then 20 else if r.test.length ≠ (if r.k = 2 then 1 else 0) ∨ r.subs.length ≠ (if r.k = 3 ∨ r.k = 4 then 2 else if r.k = 5 then 1 else 0) then 1 else 0) = FE) := hFE.out
  rw [hFE.out] at HR0
  clear hFE
  obtain ⟨nt, ent⟩ : ∃ n : Nat, Hid (r.test.length = n) := ⟨_, rfl⟩
  obtain ⟨ns, ens⟩ : ∃ n : Nat, Hid (r.subs.length = n) := ⟨_, rfl⟩
  rw [ent.out] at hlt0 hct HD ⊢
  rw [ens.out] at hls hcs HD ⊢
  generalize r.k = tk at *
  subst hk
  have hne : w.heap.size ≠ q := by omega
  go_enter Tryz.func59, Tryz.ntmps59
  go_wp2_with fail
  refine (rnode_any q N M d _ (HW.out.alloc _) ⟨HO.out.1, by have := HO.out.2.1; simp at this; omega⟩).mono ?_
  rintro r9 w1 ⟨rfl, h1⟩
  have hK1 : KeepT q w w1 := (KeepT.of ((Below.refl _ _).alloc (Nat.le_refl _) _)).trans h1.out.2.keep
  have W1 : Hid (WK w1 q (N + 1) (if M < d then d else M) (ndE d N)) := h1.out.1
  have B1 : Hid (w1.heap[w.heap.size]? = some (.cells #[.int .i64 4, .slice pt nt ct, .slice ps ns cs] 76 (0, 0))) := (h1.out.2.block w.heap.size (by simp) hne).trans (heap_allocA w _)
  clear h1
  by_cases hE : ndE d N = 0
  case neg =>
    have hE' : (ndE d N == 0) = false := by simpa using hE
    rw [hE']
    go_wp2
    refine bodyPost_ret (results_none rfl _ _ _) rfl ?_
    refine ⟨⟨_, rfl⟩, hK1, _, _, _, W1.out, fun e => absurd e hE, fun _ => ?_⟩
    have h := HR0.out
    rw [← HE.out] at h
    rw [h, andT_ne hE]
  have hE' : (ndE d N == 0) = true := by simpa using hE
  rw [hE']
  obtain ⟨N1, hN1⟩ : ∃ N1, Hid (N + 1 = N1) := ⟨_, rfl⟩
  obtain ⟨M1, hM1⟩ : ∃ M1, Hid ((if M < d then d else M) = M1) := ⟨_, rfl⟩
  have W1' : Hid (WK w1 q N1 M1 0) := by have h := W1.out; rw [hE, hN1.out, hM1.out] at h; exact h
  clear W1
  have hmS : Hid (meetS d (N, M) = (N1, M1)) := by
    have e : meetE d (N, M) = 0 := by rw [← HE.out]; exact hE
    unfold meetS
    rw [if_pos e, ← hN1.out, ← hM1.out, Int.max_def]
    show (N + 1, if M ≤ d then d else M) = (N + 1, if M < d then d else M)
    congr 1
    by_cases h : M < d
    · rw [if_pos h, if_pos (by omega)]
    · rw [if_neg h]; split <;> omega
  have HR1 : Hid (R = andT (FE, (N1, M1)) fun s1 => andT (fruns (d + 1) s1 r.test) fun s2 => andT (rruns (d + 1) s2 r.subs) F) := by
    have h := HR0.out
    rw [← HE.out, hE, andT_eq, hmS.out] at h
    exact h
  have hd24 : d ≤ 24 := meetE_le (s := (N, M)) (by rw [← HE.out]; exact hE)
  have HOk : Hid (OkS (N1, M1)) := by rw [← hmS.out]; exact meetS_ok HO.out hd0
  have CR := CR0.out hd24
  have CF := CF0.out hd24
  have CR : Hid (_) := CR
  have CF : Hid (_) := CF
  clear HR0 HE hE hE' hN1 hM1 hmS CR0 CF0
  have HNo : Hid (¬ FE = 0 → ∀ W : World, WK W q N1 M1 FE → WS W q R F) := by
    intro h W hW
    have hr := HR1.out
    rw [andT_ne h] at hr
    exact ⟨_, _, _, hW, fun e => absurd e h, fun _ => by rw [hr]⟩
  have e0 : w1.cell? ⟨w.heap.size, 0, none⟩ = some (.int .i64 4) := by rw [Lib.cell_of_heap B1.out]; rfl
  go_wp2_with fail
  refine (rwrong_any q N1 M1 0 20 _ w1 W1'.out).mono ?_
  rintro r9 w2 ⟨⟨v2, rfl⟩, h2⟩
  have W2 : Hid (WK w2 q N1 M1 0) := by have a := h2.out.1; first | exact a | (simp [wrE, hk] at a; exact a)
  have B2 : Hid (_) := h2.out.2.heap B1.out hne
  have hK2 : KeepT q w w2 := hK1.trans h2.out.2.keep
  clear h2 e0 B1 hK1 W1'
  have e0 : w2.cell? ⟨w.heap.size, 0, none⟩ = some (.int .i64 4) := by rw [Lib.cell_of_heap B2.out]; rfl
  have e1 : w2.cell? ⟨w.heap.size, 1, none⟩ = some (.slice pt nt ct) := by rw [Lib.cell_of_heap B2.out]; rfl
  have e2 : w2.cell? ⟨w.heap.size, 2, none⟩ = some (.slice ps ns cs) := by rw [Lib.cell_of_heap B2.out]; rfl
  by_cases hT : nt = 0
  case neg =>
    have t1 : ((nt : Int) == 0) = false := by simp; omega
    have t2 : ((nt : Int) != 0) = true := by simp; omega
    go_wp2_with fail
    refine (rwrong_any q N1 M1 _ 1 _ _ W2.out).mono ?_
    rintro r9 w9 ⟨⟨v9, rfl⟩, h9⟩
    have W9 : Hid (WK w9 q N1 M1 FE) := by have a := h9.out.1; have b := HD.out; simp [wrE, hT] at a b; first | (subst b; exact a) | (rw [← b]; exact a)
    have B9 : Hid (_) := h9.out.2.heap B2.out hne
    have hK9 : KeepT q w w9 := hK2.trans h9.out.2.keep
    have y2 : w9.cell? ⟨q, 2, none⟩ = some (.int .i64 FE) := W9.out.e
    clear h9 e0 e1 e2
    have tn : ¬ FE = 0 := by have b := HD.out; simp [hT] at b; omega
    have tn' : (FE == 0) = false := by simpa using tn
    have tn'' : (FE != 0) = true := by simpa using tn
    go_wp2
    refine bodyPost_ret (results_none rfl _ _ _) rfl ?_
    exact ⟨⟨_, rfl⟩, hK9, HNo.out tn _ W9.out⟩
  have t1 : ((nt : Int) == 0) = true := by simp; omega
  have t2 : ((nt : Int) != 0) = false := by simp; omega
  by_cases hS : ns = 2
  case neg =>
    have s1 : ((ns : Int) == 2) = false := by simp; omega
    have s2 : ((ns : Int) != 2) = true := by simp; omega
    go_wp2_with fail
    refine (rwrong_any q N1 M1 _ 1 _ _ W2.out).mono ?_
    rintro r9 w9 ⟨⟨v9, rfl⟩, h9⟩
    have W9 : Hid (WK w9 q N1 M1 FE) := by have a := h9.out.1; have b := HD.out; simp [wrE, hT, hS] at a b; first | (subst b; exact a) | (rw [← b]; exact a)
    have B9 : Hid (_) := h9.out.2.heap B2.out hne
    have hK9 : KeepT q w w9 := hK2.trans h9.out.2.keep
    have y2 : w9.cell? ⟨q, 2, none⟩ = some (.int .i64 FE) := W9.out.e
    clear h9 e0 e1 e2
    have tn : ¬ FE = 0 := by have b := HD.out; simp [hT, hS] at b; omega
    have tn' : (FE == 0) = false := by simpa using tn
    have tn'' : (FE != 0) = true := by simpa using tn
    go_wp2
    refine bodyPost_ret (results_none rfl _ _ _) rfl ?_
    exact ⟨⟨_, rfl⟩, hK9, HNo.out tn _ W9.out⟩
  have s1 : ((ns : Int) == 2) = true := by simp; omega
  have s2 : ((ns : Int) != 2) = false := by simp; omega
  go_wp2_with fail
  refine (rwrong_any q N1 M1 _ 1 _ _ W2.out).mono ?_
  rintro r9 w9 ⟨⟨v9, rfl⟩, h9⟩
  have W9 : Hid (WK w9 q N1 M1 FE) := by have a := h9.out.1; have b := HD.out; simp [wrE, hT, hS] at a b; first | (subst b; exact a) | (rw [← b]; exact a)
  have B9 : Hid (_) := h9.out.2.heap B2.out hne
  have hK9 : KeepT q w w9 := hK2.trans h9.out.2.keep
  have y2 : w9.cell? ⟨q, 2, none⟩ = some (.int .i64 FE) := W9.out.e
  clear h9 e0 e1 e2
  clear t1 t2 s1 s2
  have hz : FE = 0 := by have b := HD.out; simp [hT, hS] at b; omega
  subst hz
  have S9 : Hid (WS w9 q R (fun s1 => andT (fruns (d + 1) s1 r.test) fun s2 => andT (rruns (d + 1) s2 r.subs) F)) := WS.of W9.out HOk.out (by have h := HR1.out; rw [andT_eq] at h; exact h)
  clear HD HR1 HNo hT hS
  go_wp2
  go_loopw [9] (fun v wr => ∃ k : Nat, k ≤ nt ∧ v = .int .i64 k ∧ KeepT q w9 wr ∧ Hid (WS wr q R (fun s => andT (fruns (d + 1) s (r.test.drop k)) (fun s2 => andT (rruns (d + 1) s2 r.subs) F)))) (fun v _ => nt - (intOf v).toNat)
  case atStart => exact ⟨0, Nat.zero_le _, rfl, KeepT.refl _ _, by rw [List.drop_zero]; exact S9⟩
  case round =>
    obtain ⟨k, hk, rfl, hKr, hSr⟩ := hrel
    have Br : Hid (_) := (hKr.block w.heap.size (lt_heap B9.out) hne).trans B9.out
    have r6 : wr.cell? ⟨w.heap.size, 1, none⟩ = some (.slice pt nt ct) := by rw [Lib.cell_of_heap Br.out]; rfl
    by_cases hlt : k < nt
    case neg =>
      have c2 : ¬ (k : Int) < nt := by omega
      obtain ⟨w10, ew⟩ : ∃ W : World, W = wr := ⟨_, rfl⟩
      subst ew
      have S10 : Hid (WS w10 q R (fun s2 => andT (rruns (d + 1) s2 r.subs) F)) := hSr.out.cast (fun s => by rw [List.drop_eq_nil_of_le (by have := ent.out; omega), fruns_nil]; exact andT_eq)
      have hK10 : KeepT q w w10 := hK9.trans hKr
      have B10 : Hid (_) := Br.out
      clear hSr hKr Br
      go_wp2
      clear r6 c2 hk hlt
      go_loopw [10] (fun v wr => ∃ k : Nat, k ≤ ns ∧ v = .int .i64 k ∧ KeepT q w10 wr ∧ Hid (WS wr q R (fun s => andT (rruns (d + 1) s (r.subs.drop k)) F))) (fun v _ => ns - (intOf v).toNat)
      case atStart => exact ⟨0, Nat.zero_le _, rfl, KeepT.refl _ _, by rw [List.drop_zero]; exact S10⟩
      case round =>
        obtain ⟨k, hk, rfl, hKr, hSr⟩ := hrel
        have Br : Hid (_) := (hKr.block w.heap.size (lt_heap B10.out) hne).trans B10.out
        have r6 : wr.cell? ⟨w.heap.size, 2, none⟩ = some (.slice ps ns cs) := by rw [Lib.cell_of_heap Br.out]; rfl
        by_cases hlt : k < ns
        case neg =>
          have c2 : ¬ (k : Int) < ns := by omega
          have S11 : Hid (WS wr q R F) := hSr.out.cast (fun s => by rw [List.drop_eq_nil_of_le (by have := ens.out; omega), rruns_nil]; exact andT_eq)
          have hK11 : KeepT q w wr := hK10.trans hKr
          go_wp2
          go_end0
          exact ⟨⟨_, rfl⟩, hK11, S11.out⟩
        have hlt' : (k : Int) < ns := by omega
        have kx : k < r.subs.length := by have := ens.out; omega
        obtain ⟨b, off, u1, u2, rfl, hb, TC, N1t, N2t⟩ := HXR.out k kx
        have hBr : Below w0.heap.size w0 wr := hw.trans ((hK10.trans hKr).below (B := w0.heap.size) hq (Nat.le_of_lt hqw))
        obtain ⟨a0, a1, a2⟩ := TC.below hBr hb
        have wk := CR.out k kx u1 u2 N1t N2t
        have cW := wk wr R (fun s1 => andT (rruns (d + 1) s1 (r.subs.drop (k + 1))) F) hBr (hSr.out.cast (fun s => by rw [List.drop_eq_getElem_cons kx, rruns_and]))
        have HcW : Hid (Calls Tryz.prog 59 #[.pointer (some ⟨q, 0, none⟩), .agg #[.int .i64 r.subs[k].k, u1, u2], .int .i64 (d + 1)] wr fun e9 w' => (∃ v, e9 = .returned v) ∧ Hid (KeepT q wr w' ∧ WS w' q R (fun s1 => andT (rruns (d + 1) s1 (r.subs.drop (k + 1))) F))) := cW
        obtain ⟨p1, c1, rfl, -⟩ := N1t.form
        obtain ⟨p2, c2, rfl, -⟩ := N2t.form
        clear TC hSr wk cW N1t N2t
        generalize r.subs[k].k = X0 at *
        generalize r.subs[k].test.length = L1 at *
        generalize r.subs[k].subs.length = L2 at *
        have nw : IntKind.i64.wrap (d + 1) = d + 1 := by rw [IntKind.wrap_i64]; omega
        have nw2 : wrap64 (d + 1) = d + 1 := by unfold wrap64; omega
        go_wp2_with fail
        refine HcW.out.mono ?_
        rintro r w6 ⟨⟨v6, rfl⟩, h6⟩
        have hK6 : KeepT q w10 w6 := hKr.trans h6.out.1
        have HS6 : Hid (_) := h6.out.2
        clear h6 HcW
        go_wp2
        exact ⟨⟨k + 1, by omega, by go_num, hK6, HS6.out⟩, by simp [intOf]; omega⟩
    have hlt' : (k : Int) < nt := by omega
    have kx : k < r.test.length := by have := ent.out; omega
    obtain ⟨b, off, u1, u2, u3, u4, rfl, hb, TC, N1t, N2t, N3t, N4t⟩ := HXF.out k kx
    have hBr : Below w0.heap.size w0 wr := hw.trans ((hK9.trans hKr).below (B := w0.heap.size) hq (Nat.le_of_lt hqw))
    obtain ⟨a0, a1, a2, a3, a4, a5, a6, a7, a8, a9⟩ := TC.below hBr hb
    have wk := CF.out k kx ⟨u1, u2, u3, u4⟩ ⟨N1t, N2t, N3t, N4t⟩
    have cW := wk wr R (fun s1 => andT (fruns (d + 1) s1 (r.test.drop (k + 1))) (fun s2 => andT (rruns (d + 1) s2 r.subs) F)) hBr (hSr.out.cast (fun s => by rw [List.drop_eq_getElem_cons kx, fruns_and]))
    have HcW : Hid (Calls Tryz.prog 30 #[.pointer (some ⟨q, 0, none⟩), .agg #[.int .i64 r.test[k].k, .string r.test[k].nm, .int .i64 r.test[k].op, u1, u2, .int .i64 r.test[k].lo, .int .i64 r.test[k].hi, .bool r.test[k].opn, u3, u4], .int .i64 (d + 1)] wr fun e9 w' => (∃ v, e9 = .returned v) ∧ Hid (KeepT q wr w' ∧ WS w' q R (fun s1 => andT (fruns (d + 1) s1 (r.test.drop (k + 1))) (fun s2 => andT (rruns (d + 1) s2 r.subs) F)))) := cW
    obtain ⟨-, p1, c1, rfl, -⟩ := N1t
    obtain ⟨p2, c2, rfl, -⟩ := N2t.form
    obtain ⟨p3, c3, rfl, -⟩ := N3t.form
    obtain ⟨p4, c4, rfl, -⟩ := N4t.form
    clear TC hSr wk cW N2t N3t N4t
    generalize r.test[k].k = X0 at *
    generalize r.test[k].nm = X1 at *
    generalize r.test[k].op = X2 at *
    generalize r.test[k].lo = X3 at *
    generalize r.test[k].hi = X4 at *
    generalize r.test[k].opn = X5 at *
    generalize r.test[k].vars.length = L1 at *
    generalize r.test[k].terms.length = L2 at *
    generalize r.test[k].subs.length = L3 at *
    generalize r.test[k].rgx.length = L4 at *
    have nw : IntKind.i64.wrap (d + 1) = d + 1 := by rw [IntKind.wrap_i64]; omega
    have nw2 : wrap64 (d + 1) = d + 1 := by unfold wrap64; omega
    go_wp2_with fail
    refine HcW.out.mono ?_
    rintro r w6 ⟨⟨v6, rfl⟩, h6⟩
    have hK6 : KeepT q w9 w6 := hKr.trans h6.out.1
    have HS6 : Hid (_) := h6.out.2
    clear h6 HcW
    go_wp2
    exact ⟨⟨k + 1, by omega, by go_num, hK6, HS6.out⟩, by simp [intOf]; omega⟩
end Go.Proofs.YtfajjphfjilpnaaGreat

namespace Go.Proofs.YtfajjphfjilpnaaGreat
open Go.RowKit LX Go.Shelf
set_option linter.unusedVariables false

set_option maxRecDepth 100000 in
set_option maxHeartbeats 8000000 in
theorem rregex_c5 (w0 : World) (q : Nat) (hq : w0.heap.size ≤ q) (r : Rx) (ut us : Value) (ht : FmsAt w0 ut r.test) (hs : RxsAt w0 us r.subs) (d : Int) (hd0 : 0 ≤ d) (hd1 : d ≤ 25)
    (IR : d ≤ 24 → ∀ (i : Nat) (hi : i < r.subs.length) (u1 u2 : Value), FmsAt w0 u1 r.subs[i].test → RxsAt w0 u2 r.subs[i].subs → Walks w0 q 59 (.agg #[.int .i64 r.subs[i].k, u1, u2]) (d + 1) (fun s => rrun (d + 1) s r.subs[i]))
    (IF : d ≤ 24 → ∀ (i : Nat) (hi : i < r.test.length) (y : FQ), QAt w0 (r.test[i], y) → Walks w0 q 30 (.agg #[.int .i64 r.test[i].k, .string r.test[i].nm, .int .i64 r.test[i].op, y.v, y.t, .int .i64 r.test[i].lo, .int .i64 r.test[i].hi, .bool r.test[i].opn, y.s, y.r]) (d + 1) (fun s => frun (d + 1) s r.test[i]))
    (hk : r.k = 5) (N M : Int) (w : World) (R : Int × (Int × Int)) (F : Int × Int → Int × (Int × Int)) (hw : Below w0.heap.size w0 w) (hK : WK w q N M 0) (ho : OkS (N, M)) (hR : R = andT (rrun d (N, M) r) F) :
    Calls Tryz.prog 59 #[.pointer (some ⟨q, 0, none⟩), .agg #[.int .i64 r.k, ut, us], .int .i64 d] w fun e w' => (∃ v, e = .returned v) ∧ Hid (KeepT q w w' ∧ WS w' q R F) := by
  obtain ⟨pt, ct, rfl, hlt0, hct, HXF0⟩ := ht.form
  have HXF : Hid (∀ i (hi : i < r.test.length), ∃ b off uv ut us ur, pt = some ⟨b, off, none⟩ ∧ b < w0.heap.size ∧ FmC w0 b (off + i * 10) r.test[i] uv ut us ur ∧ NmsAt w0 uv r.test[i].vars ∧ TmsAt w0 ut r.test[i].terms ∧ FmsAt w0 us r.test[i].subs ∧ RxsAt w0 ur r.test[i].rgx) := HXF0
  obtain ⟨ps, cs, rfl, hls, hcs, HXR0⟩ := hs.form
  have HXR : Hid (∀ i (hi : i < r.subs.length), ∃ b off ut us, ps = some ⟨b, off, none⟩ ∧ b < w0.heap.size ∧ RxC w0 b (off + i * 3) r.subs[i] ut us ∧ FmsAt w0 ut r.subs[i].test ∧ RxsAt w0 us r.subs[i].subs) := HXR0
  have HW : Hid (WK w q N M 0) := hK
  have HO : Hid (OkS (N, M)) := ho
  have hqw : q < w.heap.size := hK.lt
  have HR0 : Hid (R = andT (meetE d (N, M), meetS d (N, M)) fun s1 => andT (rxE r, s1) fun s1 => andT (fruns (d + 1) s1 r.test) fun s2 => andT (rruns (d + 1) s2 r.subs) F) := by
    have h := hR
    rw [rrun_eq] at h
    simp only [andT_assoc] at h
    exact h
  have HE : Hid (ndE d N = meetE d (N, M)) := nd_meet (s := (N, M)) HO.out
  have CR0 : Hid (_) := IR
  have CF0 : Hid (_) := IF
  clear IR IF ht hs HXF0 HXR0 hK ho hR
  obtain ⟨FE, hFE⟩ : ∃ FE, Hid (rxE r = FE) := ⟨_, rfl⟩
  have HD : Hid ((if r.k < 1 ∨ 5 < r.k then 20 else if r.test.length ≠ (if r.k = 2 then 1 else 0) ∨ r.subs.length ≠ (if r.k = 3 ∨ r.k = 4 then 2 else if r.k = 5 then 1 else 0) then 1 else 0) = FE) := hFE.out
  rw [hFE.out] at HR0
  clear hFE
  obtain ⟨nt, ent⟩ : ∃ n : Nat, Hid (r.test.length = n) := ⟨_, rfl⟩
  obtain ⟨ns, ens⟩ : ∃ n : Nat, Hid (r.subs.length = n) := ⟨_, rfl⟩
  rw [ent.out] at hlt0 hct HD ⊢
  rw [ens.out] at hls hcs HD ⊢
  generalize r.k = tk at *
  subst hk
  have hne : w.heap.size ≠ q := by omega
  go_enter Tryz.func59, Tryz.ntmps59
  go_wp2_with fail
  refine (rnode_any q N M d _ (HW.out.alloc _) ⟨HO.out.1, by have := HO.out.2.1; simp at this; omega⟩).mono ?_
  rintro r9 w1 ⟨rfl, h1⟩
  have hK1 : KeepT q w w1 := (KeepT.of ((Below.refl _ _).alloc (Nat.le_refl _) _)).trans h1.out.2.keep
  have W1 : Hid (WK w1 q (N + 1) (if M < d then d else M) (ndE d N)) := h1.out.1
  have B1 : Hid (w1.heap[w.heap.size]? = some (.cells #[.int .i64 5, .slice pt nt ct, .slice ps ns cs] 76 (0, 0))) := (h1.out.2.block w.heap.size (by simp) hne).trans (heap_allocA w _)
  clear h1
  by_cases hE : ndE d N = 0
  case neg =>
    have hE' : (ndE d N == 0) = false := by simpa using hE
    rw [hE']
    go_wp2
    refine bodyPost_ret (results_none rfl _ _ _) rfl ?_
    refine ⟨⟨_, rfl⟩, hK1, _, _, _, W1.out, fun e => absurd e hE, fun _ => ?_⟩
    have h := HR0.out
    rw [← HE.out] at h
    rw [h, andT_ne hE]
  have hE' : (ndE d N == 0) = true := by simpa using hE
  rw [hE']
  obtain ⟨N1, hN1⟩ : ∃ N1, Hid (N + 1 = N1) := ⟨_, rfl⟩
  obtain ⟨M1, hM1⟩ : ∃ M1, Hid ((if M < d then d else M) = M1) := ⟨_, rfl⟩
  have W1' : Hid (WK w1 q N1 M1 0) := by have h := W1.out; rw [hE, hN1.out, hM1.out] at h; exact h
  clear W1
  have hmS : Hid (meetS d (N, M) = (N1, M1)) := by
    have e : meetE d (N, M) = 0 := by rw [← HE.out]; exact hE
    unfold meetS
    rw [if_pos e, ← hN1.out, ← hM1.out, Int.max_def]
    show (N + 1, if M ≤ d then d else M) = (N + 1, if M < d then d else M)
    congr 1
    by_cases h : M < d
    · rw [if_pos h, if_pos (by omega)]
    · rw [if_neg h]; split <;> omega
  have HR1 : Hid (R = andT (FE, (N1, M1)) fun s1 => andT (fruns (d + 1) s1 r.test) fun s2 => andT (rruns (d + 1) s2 r.subs) F) := by
    have h := HR0.out
    rw [← HE.out, hE, andT_eq, hmS.out] at h
    exact h
  have hd24 : d ≤ 24 := meetE_le (s := (N, M)) (by rw [← HE.out]; exact hE)
  have HOk : Hid (OkS (N1, M1)) := by rw [← hmS.out]; exact meetS_ok HO.out hd0
  have CR := CR0.out hd24
  have CF := CF0.out hd24
  have CR : Hid (_) := CR
  have CF : Hid (_) := CF
  clear HR0 HE hE hE' hN1 hM1 hmS CR0 CF0
  have HNo : Hid (¬ FE = 0 → ∀ W : World, WK W q N1 M1 FE → WS W q R F) := by
    intro h W hW
    have hr := HR1.out
    rw [andT_ne h] at hr
    exact ⟨_, _, _, hW, fun e => absurd e h, fun _ => by rw [hr]⟩
  have e0 : w1.cell? ⟨w.heap.size, 0, none⟩ = some (.int .i64 5) := by rw [Lib.cell_of_heap B1.out]; rfl
  go_wp2_with fail
  refine (rwrong_any q N1 M1 0 20 _ w1 W1'.out).mono ?_
  rintro r9 w2 ⟨⟨v2, rfl⟩, h2⟩
  have W2 : Hid (WK w2 q N1 M1 0) := by have a := h2.out.1; first | exact a | (simp [wrE, hk] at a; exact a)
  have B2 : Hid (_) := h2.out.2.heap B1.out hne
  have hK2 : KeepT q w w2 := hK1.trans h2.out.2.keep
  clear h2 e0 B1 hK1 W1'
  have e0 : w2.cell? ⟨w.heap.size, 0, none⟩ = some (.int .i64 5) := by rw [Lib.cell_of_heap B2.out]; rfl
  have e1 : w2.cell? ⟨w.heap.size, 1, none⟩ = some (.slice pt nt ct) := by rw [Lib.cell_of_heap B2.out]; rfl
  have e2 : w2.cell? ⟨w.heap.size, 2, none⟩ = some (.slice ps ns cs) := by rw [Lib.cell_of_heap B2.out]; rfl
  by_cases hT : nt = 0
  case neg =>
    have t1 : ((nt : Int) == 0) = false := by simp; omega
    have t2 : ((nt : Int) != 0) = true := by simp; omega
    go_wp2_with fail
    refine (rwrong_any q N1 M1 _ 1 _ _ W2.out).mono ?_
    rintro r9 w9 ⟨⟨v9, rfl⟩, h9⟩
    have W9 : Hid (WK w9 q N1 M1 FE) := by have a := h9.out.1; have b := HD.out; simp [wrE, hT] at a b; first | (subst b; exact a) | (rw [← b]; exact a)
    have B9 : Hid (_) := h9.out.2.heap B2.out hne
    have hK9 : KeepT q w w9 := hK2.trans h9.out.2.keep
    have y2 : w9.cell? ⟨q, 2, none⟩ = some (.int .i64 FE) := W9.out.e
    clear h9 e0 e1 e2
    have tn : ¬ FE = 0 := by have b := HD.out; simp [hT] at b; omega
    have tn' : (FE == 0) = false := by simpa using tn
    have tn'' : (FE != 0) = true := by simpa using tn
    go_wp2
    refine bodyPost_ret (results_none rfl _ _ _) rfl ?_
    exact ⟨⟨_, rfl⟩, hK9, HNo.out tn _ W9.out⟩
  have t1 : ((nt : Int) == 0) = true := by simp; omega
  have t2 : ((nt : Int) != 0) = false := by simp; omega
  by_cases hS : ns = 1
  case neg =>
    have s1 : ((ns : Int) == 1) = false := by simp; omega
    have s2 : ((ns : Int) != 1) = true := by simp; omega
    go_wp2_with fail
    refine (rwrong_any q N1 M1 _ 1 _ _ W2.out).mono ?_
    rintro r9 w9 ⟨⟨v9, rfl⟩, h9⟩
    have W9 : Hid (WK w9 q N1 M1 FE) := by have a := h9.out.1; have b := HD.out; simp [wrE, hT, hS] at a b; first | (subst b; exact a) | (rw [← b]; exact a)
    have B9 : Hid (_) := h9.out.2.heap B2.out hne
    have hK9 : KeepT q w w9 := hK2.trans h9.out.2.keep
    have y2 : w9.cell? ⟨q, 2, none⟩ = some (.int .i64 FE) := W9.out.e
    clear h9 e0 e1 e2
    have tn : ¬ FE = 0 := by have b := HD.out; simp [hT, hS] at b; omega
    have tn' : (FE == 0) = false := by simpa using tn
    have tn'' : (FE != 0) = true := by simpa using tn
    go_wp2
    refine bodyPost_ret (results_none rfl _ _ _) rfl ?_
    exact ⟨⟨_, rfl⟩, hK9, HNo.out tn _ W9.out⟩
  have s1 : ((ns : Int) == 1) = true := by simp; omega
  have s2 : ((ns : Int) != 1) = false := by simp; omega
  go_wp2_with fail
  refine (rwrong_any q N1 M1 _ 1 _ _ W2.out).mono ?_
  rintro r9 w9 ⟨⟨v9, rfl⟩, h9⟩
  have W9 : Hid (WK w9 q N1 M1 FE) := by have a := h9.out.1; have b := HD.out; simp [wrE, hT, hS] at a b; first | (subst b; exact a) | (rw [← b]; exact a)
  have B9 : Hid (_) := h9.out.2.heap B2.out hne
  have hK9 : KeepT q w w9 := hK2.trans h9.out.2.keep
  have y2 : w9.cell? ⟨q, 2, none⟩ = some (.int .i64 FE) := W9.out.e
  clear h9 e0 e1 e2
  clear t1 t2 s1 s2
  have hz : FE = 0 := by have b := HD.out; simp [hT, hS] at b; omega
  subst hz
  have S9 : Hid (WS w9 q R (fun s1 => andT (fruns (d + 1) s1 r.test) fun s2 => andT (rruns (d + 1) s2 r.subs) F)) := WS.of W9.out HOk.out (by have h := HR1.out; rw [andT_eq] at h; exact h)
  clear HD HR1 HNo hT hS
  go_wp2
  go_loopw [9] (fun v wr => ∃ k : Nat, k ≤ nt ∧ v = .int .i64 k ∧ KeepT q w9 wr ∧ Hid (WS wr q R (fun s => andT (fruns (d + 1) s (r.test.drop k)) (fun s2 => andT (rruns (d + 1) s2 r.subs) F)))) (fun v _ => nt - (intOf v).toNat)
  case atStart => exact ⟨0, Nat.zero_le _, rfl, KeepT.refl _ _, by rw [List.drop_zero]; exact S9⟩
  case round =>
    obtain ⟨k, hk, rfl, hKr, hSr⟩ := hrel
    have Br : Hid (_) := (hKr.block w.heap.size (lt_heap B9.out) hne).trans B9.out
    have r6 : wr.cell? ⟨w.heap.size, 1, none⟩ = some (.slice pt nt ct) := by rw [Lib.cell_of_heap Br.out]; rfl
    by_cases hlt : k < nt
    case neg =>
      have c2 : ¬ (k : Int) < nt := by omega
      obtain ⟨w10, ew⟩ : ∃ W : World, W = wr := ⟨_, rfl⟩
      subst ew
      have S10 : Hid (WS w10 q R (fun s2 => andT (rruns (d + 1) s2 r.subs) F)) := hSr.out.cast (fun s => by rw [List.drop_eq_nil_of_le (by have := ent.out; omega), fruns_nil]; exact andT_eq)
      have hK10 : KeepT q w w10 := hK9.trans hKr
      have B10 : Hid (_) := Br.out
      clear hSr hKr Br
      go_wp2
      clear r6 c2 hk hlt
      go_loopw [10] (fun v wr => ∃ k : Nat, k ≤ ns ∧ v = .int .i64 k ∧ KeepT q w10 wr ∧ Hid (WS wr q R (fun s => andT (rruns (d + 1) s (r.subs.drop k)) F))) (fun v _ => ns - (intOf v).toNat)
      case atStart => exact ⟨0, Nat.zero_le _, rfl, KeepT.refl _ _, by rw [List.drop_zero]; exact S10⟩
      case round =>
        obtain ⟨k, hk, rfl, hKr, hSr⟩ := hrel
        have Br : Hid (_) := (hKr.block w.heap.size (lt_heap B10.out) hne).trans B10.out
        have r6 : wr.cell? ⟨w.heap.size, 2, none⟩ = some (.slice ps ns cs) := by rw [Lib.cell_of_heap Br.out]; rfl
        by_cases hlt : k < ns
        case neg =>
          have c2 : ¬ (k : Int) < ns := by omega
          have S11 : Hid (WS wr q R F) := hSr.out.cast (fun s => by rw [List.drop_eq_nil_of_le (by have := ens.out; omega), rruns_nil]; exact andT_eq)
          have hK11 : KeepT q w wr := hK10.trans hKr
          go_wp2
          go_end0
          exact ⟨⟨_, rfl⟩, hK11, S11.out⟩
        have hlt' : (k : Int) < ns := by omega
        have kx : k < r.subs.length := by have := ens.out; omega
        obtain ⟨b, off, u1, u2, rfl, hb, TC, N1t, N2t⟩ := HXR.out k kx
        have hBr : Below w0.heap.size w0 wr := hw.trans ((hK10.trans hKr).below (B := w0.heap.size) hq (Nat.le_of_lt hqw))
        obtain ⟨a0, a1, a2⟩ := TC.below hBr hb
        have wk := CR.out k kx u1 u2 N1t N2t
        have cW := wk wr R (fun s1 => andT (rruns (d + 1) s1 (r.subs.drop (k + 1))) F) hBr (hSr.out.cast (fun s => by rw [List.drop_eq_getElem_cons kx, rruns_and]))
        have HcW : Hid (Calls Tryz.prog 59 #[.pointer (some ⟨q, 0, none⟩), .agg #[.int .i64 r.subs[k].k, u1, u2], .int .i64 (d + 1)] wr fun e9 w' => (∃ v, e9 = .returned v) ∧ Hid (KeepT q wr w' ∧ WS w' q R (fun s1 => andT (rruns (d + 1) s1 (r.subs.drop (k + 1))) F))) := cW
        obtain ⟨p1, c1, rfl, -⟩ := N1t.form
        obtain ⟨p2, c2, rfl, -⟩ := N2t.form
        clear TC hSr wk cW N1t N2t
        generalize r.subs[k].k = X0 at *
        generalize r.subs[k].test.length = L1 at *
        generalize r.subs[k].subs.length = L2 at *
        have nw : IntKind.i64.wrap (d + 1) = d + 1 := by rw [IntKind.wrap_i64]; omega
        have nw2 : wrap64 (d + 1) = d + 1 := by unfold wrap64; omega
        go_wp2_with fail
        refine HcW.out.mono ?_
        rintro r w6 ⟨⟨v6, rfl⟩, h6⟩
        have hK6 : KeepT q w10 w6 := hKr.trans h6.out.1
        have HS6 : Hid (_) := h6.out.2
        clear h6 HcW
        go_wp2
        exact ⟨⟨k + 1, by omega, by go_num, hK6, HS6.out⟩, by simp [intOf]; omega⟩
    have hlt' : (k : Int) < nt := by omega
    have kx : k < r.test.length := by have := ent.out; omega
    obtain ⟨b, off, u1, u2, u3, u4, rfl, hb, TC, N1t, N2t, N3t, N4t⟩ := HXF.out k kx
    have hBr : Below w0.heap.size w0 wr := hw.trans ((hK9.trans hKr).below (B := w0.heap.size) hq (Nat.le_of_lt hqw))
    obtain ⟨a0, a1, a2, a3, a4, a5, a6, a7, a8, a9⟩ := TC.below hBr hb
    have wk := CF.out k kx ⟨u1, u2, u3, u4⟩ ⟨N1t, N2t, N3t, N4t⟩
    have cW := wk wr R (fun s1 => andT (fruns (d + 1) s1 (r.test.drop (k + 1))) (fun s2 => andT (rruns (d + 1) s2 r.subs) F)) hBr (hSr.out.cast (fun s => by rw [List.drop_eq_getElem_cons kx, fruns_and]))
    have HcW : Hid (Calls Tryz.prog 30 #[.pointer (some ⟨q, 0, none⟩), .agg #[.int .i64 r.test[k].k, .string r.test[k].nm, .int .i64 r.test[k].op, u1, u2, .int .i64 r.test[k].lo, .int .i64 r.test[k].hi, .bool r.test[k].opn, u3, u4], .int .i64 (d + 1)] wr fun e9 w' => (∃ v, e9 = .returned v) ∧ Hid (KeepT q wr w' ∧ WS w' q R (fun s1 => andT (fruns (d + 1) s1 (r.test.drop (k + 1))) (fun s2 => andT (rruns (d + 1) s2 r.subs) F)))) := cW
    obtain ⟨-, p1, c1, rfl, -⟩ := N1t
    obtain ⟨p2, c2, rfl, -⟩ := N2t.form
    obtain ⟨p3, c3, rfl, -⟩ := N3t.form
    obtain ⟨p4, c4, rfl, -⟩ := N4t.form
    clear TC hSr wk cW N2t N3t N4t
    generalize r.test[k].k = X0 at *
    generalize r.test[k].nm = X1 at *
    generalize r.test[k].op = X2 at *
    generalize r.test[k].lo = X3 at *
    generalize r.test[k].hi = X4 at *
    generalize r.test[k].opn = X5 at *
    generalize r.test[k].vars.length = L1 at *
    generalize r.test[k].terms.length = L2 at *
    generalize r.test[k].subs.length = L3 at *
    generalize r.test[k].rgx.length = L4 at *
    have nw : IntKind.i64.wrap (d + 1) = d + 1 := by rw [IntKind.wrap_i64]; omega
    have nw2 : wrap64 (d + 1) = d + 1 := by unfold wrap64; omega
    go_wp2_with fail
    refine HcW.out.mono ?_
    rintro r w6 ⟨⟨v6, rfl⟩, h6⟩
    have hK6 : KeepT q w9 w6 := hKr.trans h6.out.1
    have HS6 : Hid (_) := h6.out.2
    clear h6 HcW
    go_wp2
    exact ⟨⟨k + 1, by omega, by go_num, hK6, HS6.out⟩, by simp [intOf]; omega⟩
end Go.Proofs.YtfajjphfjilpnaaGreat

namespace Go.Proofs.YtfajjphfjilpnaaGreat
open Go.RowKit LX Go.Shelf
set_option linter.unusedVariables false

theorem rboth_walks (w0 : World) (q : Nat) (hq : w0.heap.size ≤ q) : ∀ m : Nat, (∀ (f : Fm) (y : FQ) (d : Int), SizeOf.sizeOf f ≤ m → QAt w0 (f, y) → 0 ≤ d → d ≤ 25 → Walks w0 q 30 (.agg #[.int .i64 f.k, .string f.nm, .int .i64 f.op, y.v, y.t, .int .i64 f.lo, .int .i64 f.hi, .bool f.opn, y.s, y.r]) d (fun s => frun d s f)) ∧ (∀ (r : Rx) (u1 u2 : Value) (d : Int), SizeOf.sizeOf r ≤ m → FmsAt w0 u1 r.test → RxsAt w0 u2 r.subs → 0 ≤ d → d ≤ 25 → Walks w0 q 59 (.agg #[.int .i64 r.k, u1, u2]) d (fun s => rrun d s r)) := by
  intro m
  induction m with
  | zero => exact ⟨fun f y d hm => by cases f; simp at hm, fun r u1 u2 d hm => by cases r; simp at hm⟩
  | succ m ih =>
    refine ⟨fun f y d hm hQ h0 h1 W R F hW hS => ?_, fun r u1 u2 d hm ht hs h0 h1 W R F hW hS => ?_⟩
    · obtain ⟨N, M, E, h, g1, g2⟩ := hS
      by_cases hE : E = 0
      case neg =>
        refine (rformula_no q N M E d _ _ _ _ _ _ y.v y.t y.s y.r W h hE).mono ?_
        rintro r w' ⟨hv, g⟩
        exact ⟨hv, KeepT.of g.out.1, N, M, E, g.out.2, fun e => absurd e hE, g2⟩
      subst hE
      obtain ⟨ho, hR⟩ := g1 rfl
      have IT : d ≤ 24 → ∀ (i : Nat) (hi : i < f.terms.length) (u : Value), TmsAt w0 u f.terms[i].subs → f.terms[i].v.Fits → Walks w0 q 58 (.agg #[.int .i64 f.terms[i].k, .string f.terms[i].nm, .int .i64 f.terms[i].v.k, .int .i64 f.terms[i].v.n, .int .i64 f.terms[i].v.d, .string f.terms[i].v.s, u]) (d + 1) (fun s => trun (d + 1) s f.terms[i]) := fun h i hi u hu hf => rterm_walks w0 q hq _ u hu hf (d + 1) (by omega) (by omega)
      have IR : d ≤ 24 → ∀ (i : Nat) (hi : i < f.rgx.length) (u1 u2 : Value), FmsAt w0 u1 f.rgx[i].test → RxsAt w0 u2 f.rgx[i].subs → Walks w0 q 59 (.agg #[.int .i64 f.rgx[i].k, u1, u2]) (d + 1) (fun s => rrun (d + 1) s f.rgx[i]) := fun h i hi u1 u2 a b => ih.2 _ u1 u2 (d + 1) (by have a := mem_lt i hi; have b := f.rgx_lt; omega) a b (by omega) (by omega)
      have IF : d ≤ 24 → ∀ (i : Nat) (hi : i < f.subs.length) (y : FQ), QAt w0 (f.subs[i], y) → Walks w0 q 30 (.agg #[.int .i64 f.subs[i].k, .string f.subs[i].nm, .int .i64 f.subs[i].op, y.v, y.t, .int .i64 f.subs[i].lo, .int .i64 f.subs[i].hi, .bool f.subs[i].opn, y.s, y.r]) (d + 1) (fun s => frun (d + 1) s f.subs[i]) := fun h i hi y a => ih.1 _ y (d + 1) (by have a := mem_lt i hi; have b := f.subs_lt; omega) a (by omega) (by omega)
      by_cases k0 : f.k < 1
      · exact rformula_cA w0 q hq f y.v y.t y.s y.r hQ d h0 h1 IT IR IF k0 N M W R F hW h ho hR
      by_cases k22 : 22 < f.k
      · exact rformula_cB w0 q hq f y.v y.t y.s y.r hQ d h0 h1 IT IR IF k22 N M W R F hW h ho hR
      by_cases k19 : f.k = 19
      · exact rformula_cD w0 q hq f y.v y.t y.s y.r hQ d h0 h1 IT IR IF k19 N M W R F hW h ho hR
      · exact rformula_cC w0 q hq f y.v y.t y.s y.r hQ d h0 h1 IT IR IF ⟨by omega, k19⟩ N M W R F hW h ho hR
    · obtain ⟨N, M, E, h, g1, g2⟩ := hS
      by_cases hE : E = 0
      case neg =>
        refine (rregex_no q N M E d _ u1 u2 W h hE).mono ?_
        rintro r w' ⟨hv, g⟩
        exact ⟨hv, KeepT.of g.out.1, N, M, E, g.out.2, fun e => absurd e hE, g2⟩
      subst hE
      obtain ⟨ho, hR⟩ := g1 rfl
      have IR : d ≤ 24 → ∀ (i : Nat) (hi : i < r.subs.length) (u1 u2 : Value), FmsAt w0 u1 r.subs[i].test → RxsAt w0 u2 r.subs[i].subs → Walks w0 q 59 (.agg #[.int .i64 r.subs[i].k, u1, u2]) (d + 1) (fun s => rrun (d + 1) s r.subs[i]) := fun h i hi u1 u2 a b => ih.2 _ u1 u2 (d + 1) (by have a := mem_lt i hi; have b := r.subs_lt; omega) a b (by omega) (by omega)
      have IF : d ≤ 24 → ∀ (i : Nat) (hi : i < r.test.length) (y : FQ), QAt w0 (r.test[i], y) → Walks w0 q 30 (.agg #[.int .i64 r.test[i].k, .string r.test[i].nm, .int .i64 r.test[i].op, y.v, y.t, .int .i64 r.test[i].lo, .int .i64 r.test[i].hi, .bool r.test[i].opn, y.s, y.r]) (d + 1) (fun s => frun (d + 1) s r.test[i]) := fun h i hi y a => ih.1 _ y (d + 1) (by have a := mem_lt i hi; have b := r.test_lt; omega) a (by omega) (by omega)
      have h7 : r.k < 1 ∨ 5 < r.k ∨ r.k = 1 ∨ r.k = 2 ∨ r.k = 3 ∨ r.k = 4 ∨ r.k = 5 := by omega
      rcases h7 with h7 | h7 | h7 | h7 | h7 | h7 | h7
      · exact rregex_clo w0 q hq r u1 u2 ht hs d h0 h1 IR IF h7 N M W R F hW h ho hR
      · exact rregex_chi w0 q hq r u1 u2 ht hs d h0 h1 IR IF h7 N M W R F hW h ho hR
      · exact rregex_c1 w0 q hq r u1 u2 ht hs d h0 h1 IR IF h7 N M W R F hW h ho hR
      · exact rregex_c2 w0 q hq r u1 u2 ht hs d h0 h1 IR IF h7 N M W R F hW h ho hR
      · exact rregex_c3 w0 q hq r u1 u2 ht hs d h0 h1 IR IF h7 N M W R F hW h ho hR
      · exact rregex_c4 w0 q hq r u1 u2 ht hs d h0 h1 IR IF h7 N M W R F hW h ho hR
      · exact rregex_c5 w0 q hq r u1 u2 ht hs d h0 h1 IR IF h7 N M W R F hW h ho hR
theorem rformula_walk (w0 : World) (q : Nat) (hq : w0.heap.size ≤ q) (f : Fm) (y : FQ) (hQ : QAt w0 (f, y)) (W : World) (hW : Below w0.heap.size w0 W) (h : WK W q 0 0 0) :
    Calls Tryz.prog 30 #[.pointer (some ⟨q, 0, none⟩), .agg #[.int .i64 f.k, .string f.nm, .int .i64 f.op, y.v, y.t, .int .i64 f.lo, .int .i64 f.hi, .bool f.opn, y.s, y.r], .int .i64 1] W fun r w' => (∃ v, r = .returned v) ∧ Hid (KeepT q W w' ∧ WQ w' q (frun 1 (0, 0) f)) := by
  refine ((rboth_walks w0 q hq (SizeOf.sizeOf f)).1 f y 1 (Nat.le_refl _) hQ (by decide) (by decide) W (frun 1 (0, 0) f) (fun s => (0, s)) hW (WS.of h ⟨by decide, by decide, by decide, by decide⟩ ?_)).mono ?_
  · show _ = andT _ _
    unfold andT
    by_cases hz : (frun 1 (0, 0) f).1 = 0
    · rw [if_pos hz]; exact Prod.ext hz rfl
    · rw [if_neg hz]
  · rintro r w' ⟨hv, g⟩
    exact ⟨hv, g.out.1, g.out.2.wq⟩
end Go.Proofs.YtfajjphfjilpnaaGreat

namespace Go.Proofs.YtfajjphfjilpnaaGreat
open Go.RowKit LX Go.Shelf
set_option linter.unusedVariables false

theorem few_iff (f : Fm) : ((fre f).2 ≤ 8) ↔ (fre f).1.length ≤ 8 ∧ ∀ i (hi : i < (ptsF f).length), (fre (ptsF f)[i]).2 ≤ 8 := by
  rw [fre_eq]
  show max _ _ ≤ 8 ↔ (freO f _).length ≤ 8 ∧ _
  constructor
  · intro h
    refine ⟨by omega, fun i hi => ?_⟩
    have := mx_ge (l := (ptsF f).map fun g => (fre g).2) (x := (fre (ptsF f)[i]).2) (List.mem_map.2 ⟨_, List.getElem_mem hi, rfl⟩)
    omega
  · rintro ⟨h1, h2⟩
    have : mx ((ptsF f).map fun g => (fre g).2) ≤ 8 := mx_le fun x hx => by
      obtain ⟨g, hg, rfl⟩ := List.mem_map.1 hx
      obtain ⟨i, hi, e⟩ := List.getElem_of_mem hg
      rw [← e]
      exact h2 i hi
    omega
theorem run_good {f : Fm} (h0 : (frun 1 (0, 0) f).1 = 0) : wfF f ∧ nodF f ≤ 256 := by
  have h1 := fruns_good (fs := [f]) (dep := 1) (s := (0, 0)) (by rw [fruns_one]; exact pair0 h0)
  rw [wfFs_cons, nodFs_cons, nodFs_nil] at h1
  have h2 : OkS (frun 1 (0, 0) f).2 := frun_okS f
  have h3 : ((frun 1 (0, 0) f).2).1 ≤ 256 := h2.2.1
  refine ⟨h1.1.1, ?_⟩
  have := h1.2
  simp at this
  omega
set_option maxRecDepth 100000 in
set_option maxHeartbeats 8000000 in
theorem rfew_any (w0 : World) : ∀ (m : Nat) (f : Fm) (y : FQ) (w : World), nodF f < m → nodF f ≤ 256 → wfF f → QAt w0 (f, y) → Below w0.heap.size w0 w →
    Calls Tryz.prog 31 #[.agg #[.int .i64 f.k, .string f.nm, .int .i64 f.op, y.v, y.t, .int .i64 f.lo, .int .i64 f.hi, .bool f.opn, y.s, y.r]] w fun e w' => e = .returned (.bool (decide ((fre f).2 ≤ 8))) ∧ Below w.heap.size w w' := by
  intro m
  induction m with
  | zero => intro f y w hm; omega
  | succ m ih =>
    intro f y w hm hn hok hQ hw
    have hE : fmE f = 0 := by rw [wfF_eq] at hok; exact hok.1
    have hpa := pts_app hE
    have hpn := pts_nod f
    have hpo := pts_ok hok
    have hpl : (ptsF f).length ≤ 256 := by have := nodFs_len (ptsF f); omega
    have hfl : (fre f).1.length ≤ 5000 := by have := fre_len _ f (Nat.le_refl _) hok; omega
    have cV : Hid (∀ W : World, Below w0.heap.size w0 W → Calls Tryz.prog 41 #[.agg #[.int .i64 f.k, .string f.nm, .int .i64 f.op, y.v, y.t, .int .i64 f.lo, .int .i64 f.hi, .bool f.opn, y.s, y.r]] W fun e w' => ∃ v, e = .returned v ∧ OwnN W.heap.size v (fre f).1 w' ∧ Below W.heap.size W w') := fun W hW => rvars_any w0 _ f y W (Nat.lt_succ_self _) hn hok hQ hW
    have cPt : Hid (∀ W : World, Below w0.heap.size w0 W → Calls Tryz.prog 47 #[.agg #[.int .i64 f.k, .string f.nm, .int .i64 f.op, y.v, y.t, .int .i64 f.lo, .int .i64 f.hi, .bool f.opn, y.s, y.r]] W fun e w' => ∃ v, e = .returned v ∧ OwnF w0 (W.heap.size + 1) v (ptsF f) w' ∧ Below W.heap.size W w') := fun W hW => by
      have h := rparts_any w0 f y hQ W hW (by rw [← List.length_append, hpa]; omega)
      rw [hpa] at h
      exact h
    have IHp : Hid (∀ (i : Nat) (hi : i < (ptsF f).length) (z : FQ) (W : World), QAt w0 ((ptsF f)[i], z) → Below w0.heap.size w0 W → Calls Tryz.prog 31 #[.agg #[.int .i64 (ptsF f)[i].k, .string (ptsF f)[i].nm, .int .i64 (ptsF f)[i].op, z.v, z.t, .int .i64 (ptsF f)[i].lo, .int .i64 (ptsF f)[i].hi, .bool (ptsF f)[i].opn, z.s, z.r]] W fun e w' => e = .returned (.bool (decide ((fre (ptsF f)[i]).2 ≤ 8))) ∧ Below W.heap.size W w') := fun i hi z W h1 h2 => ih _ z W (by have := nodFs_get (ptsF f) i hi; omega) (by have := nodFs_get (ptsF f) i hi; omega) (wfFs_get _ i hi hpo) h1 h2
    have HI : Hid (((fre f).2 ≤ 8) ↔ (fre f).1.length ≤ 8 ∧ ∀ i (hi : i < (ptsF f).length), (fre (ptsF f)[i]).2 ≤ 8) := few_iff f
    have hw0 := hw.size
    obtain ⟨np, enp⟩ : ∃ n : Nat, Hid ((ptsF f).length = n) := ⟨_, rfl⟩
    obtain ⟨FV0, eXQ⟩ : ∃ F : List ByteArray, Hid ((fre f).1 = F) := ⟨_, rfl⟩
    rw [eXQ.out] at cV HI hfl
    obtain ⟨BB, eBB⟩ : ∃ B : Bool, Hid (decide ((fre f).2 ≤ 8) = B) := ⟨_, rfl⟩
    rw [eBB.out]
    have HI2 : Hid (BB = true ↔ FV0.length ≤ 8 ∧ ∀ i (hi : i < (ptsF f).length), (fre (ptsF f)[i]).2 ≤ 8) := by
      rw [← eBB.out, decide_eq_true_eq]
      exact HI.out
    rw [enp.out] at hpl
    clear HI eBB eXQ ih hm hn hok hE hpa hpn hpo
    obtain ⟨uv, ut, us, ur⟩ := y
    obtain ⟨h1, h2, h3, h4⟩ := hQ
    dsimp only at h1 h2 h3 h4 cV cPt ⊢
    obtain ⟨-, pv, cv, rfl, -, -⟩ := h1
    obtain ⟨pt, ct, rfl, -⟩ := h2.form
    obtain ⟨ps, cs, rfl, -⟩ := h3.form
    obtain ⟨pr, cr, rfl, -⟩ := h4.form
    clear h2 h3 h4
    generalize f.vars.length = nv at *
    generalize f.terms.length = nt at *
    generalize f.subs.length = ns at *
    generalize f.rgx.length = nr at *
    generalize f.lo = lo at *
    generalize f.hi = fhi at *
    generalize f.nm = nm at *
    generalize f.opn = o at *
    generalize f.op = op at *
    generalize f.k = fk at *
    go_enter Tryz.func31, Tryz.ntmps31
    go_wp2_with fail
    refine (cV.out _ (hw.alloc hw0 _)).mono ?_
    rintro e w1 ⟨v1, rfl, h1, hb1⟩
    have X1 : Hid (w1.heap[w.heap.size]? = some (.cells #[.int .i64 fk, .string nm, .int .i64 op, .slice pv nv cv, .slice pt nt ct, .int .i64 lo, .int .i64 fhi, .bool o, .slice ps ns cs, .slice pr nr cr] 29 (0, 0))) := (hb1.block w.heap.size (by simp)).trans (heap_allocA w _)
    have B1 : Below w.heap.size w w1 := ((Below.refl _ _).alloc (Nat.le_refl _) _).trans (hb1.mono (by simp))
    have B10 : Below w0.heap.size w0 w1 := hw.trans (B1.mono hw0)
    obtain ⟨p1, c1, rfl, -⟩ := h1.cap
    obtain ⟨nf, enf⟩ : ∃ n : Nat, Hid (FV0.length = n) := ⟨_, rfl⟩
    rw [enf.out] at HI2 hfl ⊢
    clear h1 hb1 cV
    by_cases h8 : nf ≤ 8
    case neg =>
      have h8' : (8 : Int) < nf := by omega
      have hB : Hid (BB = false) := by
        have h := HI2.out
        cases hbb : BB with
        | false => exact rfl
        | true => rw [hbb] at h; exact absurd (h.1 rfl).1 h8
      go_wp2
      go_ret
      exact ⟨ret_bool hB.out.symm, B1⟩
    have h8' : ¬ (8 : Int) < nf := by omega
    have e0 : w1.cell? ⟨w.heap.size, 0, none⟩ = some (.int .i64 fk) := by rw [Lib.cell_of_heap X1.out]; rfl
    have e1 : w1.cell? ⟨w.heap.size, 1, none⟩ = some (.string nm) := by rw [Lib.cell_of_heap X1.out]; rfl
    have e2 : w1.cell? ⟨w.heap.size, 2, none⟩ = some (.int .i64 op) := by rw [Lib.cell_of_heap X1.out]; rfl
    have e3 : w1.cell? ⟨w.heap.size, 3, none⟩ = some (.slice pv nv cv) := by rw [Lib.cell_of_heap X1.out]; rfl
    have e4 : w1.cell? ⟨w.heap.size, 4, none⟩ = some (.slice pt nt ct) := by rw [Lib.cell_of_heap X1.out]; rfl
    have e5 : w1.cell? ⟨w.heap.size, 5, none⟩ = some (.int .i64 lo) := by rw [Lib.cell_of_heap X1.out]; rfl
    have e6 : w1.cell? ⟨w.heap.size, 6, none⟩ = some (.int .i64 fhi) := by rw [Lib.cell_of_heap X1.out]; rfl
    have e7 : w1.cell? ⟨w.heap.size, 7, none⟩ = some (.bool o) := by rw [Lib.cell_of_heap X1.out]; rfl
    have e8 : w1.cell? ⟨w.heap.size, 8, none⟩ = some (.slice ps ns cs) := by rw [Lib.cell_of_heap X1.out]; rfl
    have e9 : w1.cell? ⟨w.heap.size, 9, none⟩ = some (.slice pr nr cr) := by rw [Lib.cell_of_heap X1.out]; rfl
    go_wp2_with fail
    refine (cPt.out _ B10).mono ?_
    rintro e w3 ⟨v6, rfl, h6, hb6⟩
    have P3 : Hid (PtsAt w0 w3 v6 (ptsF f)) := h6.pts (by have := enp.out; omega)
    have B3 : Below w.heap.size w w3 := B1.trans (hb6.mono B1.size)
    clear h6 hb6 X1 B1 B10 cPt e0 e1 e2 e3 e4 e5 e6 e7 e8 e9
    obtain ⟨p6, c6, rfl, hl6, hc6, HP6⟩ := P3.out
    have HPP : Hid (_) := HP6
    clear P3 HP6
    rw [enp.out] at hl6 hc6 ⊢
    go_wp2
    go_loopw [5] (fun v wr => ∃ k : Nat, k ≤ np ∧ v = .int .i64 k ∧ Hid (∀ i (hi : i < (ptsF f).length), i < k → (fre (ptsF f)[i]).2 ≤ 8) ∧ Hid (Below w3.heap.size w3 wr)) (fun v _ => np - (intOf v).toNat)
    case atStart => exact ⟨0, Nat.zero_le _, rfl, (fun i hi h => by omega), Below.refl _ _⟩
    case round =>
      obtain ⟨k, hk, rfl, hAll, hBr⟩ := hrel
      have Bw : Below w.heap.size w wr := B3.trans (hBr.out.mono B3.size)
      by_cases hlt : k < np
      case neg =>
        have c2 : ¬ (k : Int) < np := by omega
        have hB : Hid (BB = true) := HI2.out.2 ⟨h8, fun i hi => hAll.out i hi (by have := enp.out; omega)⟩
        go_wp2
        go_ret
        exact ⟨ret_bool hB.out.symm, Bw⟩
      have hlt' : (k : Int) < np := by omega
      have kx : k < (ptsF f).length := by have := enp.out; omega
      obtain ⟨b, off, z, rfl, hb, TC, QZ⟩ := HPP.out k kx
      have B0r : Below w0.heap.size w0 wr := hw.trans (Bw.mono hw0)
      obtain ⟨a0, a1, a2, a3, a4, a5, a6, a7, a8, a9⟩ := TC.below hBr.out hb
      have cI := IHp.out k kx z wr QZ B0r
      obtain ⟨N1, N2, N3, N4⟩ := QZ
      obtain ⟨zv, zt, zs, zr⟩ := z
      dsimp only at N1 N2 N3 N4 a0 a1 a2 a3 a4 a5 a6 a7 a8 a9
      have HN : Hid ((fre (ptsF f)[k]).2 ≤ 8 → ∀ i (hi : i < (ptsF f).length), i < k + 1 → (fre (ptsF f)[i]).2 ≤ 8) := fun h i hi hik => by
        by_cases e : i = k
        · subst e; exact h
        · exact hAll.out i hi (by omega)
      have HNo : Hid (¬ (fre (ptsF f)[k]).2 ≤ 8 → BB = false) := fun h => by
        have h2 := HI2.out
        cases hbb : BB with
        | false => exact rfl
        | true => rw [hbb] at h2; exact absurd ((h2.1 rfl).2 k kx) h
      obtain ⟨q8, eq8⟩ : ∃ q : Nat, Hid ((fre (ptsF f)[k]).2 = q) := ⟨(fre (ptsF f)[k]).2, (show _ = _ from rfl)⟩
      rw [eq8.out] at HN HNo
      have CI : Hid (Calls Tryz.prog 31 #[.agg #[.int .i64 (ptsF f)[k].k, .string (ptsF f)[k].nm, .int .i64 (ptsF f)[k].op, zv, zt, .int .i64 (ptsF f)[k].lo, .int .i64 (ptsF f)[k].hi, .bool (ptsF f)[k].opn, zs, zr]] wr fun e w' => e = .returned (.bool (decide (q8 ≤ 8))) ∧ Below wr.heap.size wr w') := by rw [← eq8.out]; exact cI
      obtain ⟨-, q1, d1, rfl, -⟩ := N1
      obtain ⟨q2, d2, rfl, -⟩ := N2.form
      obtain ⟨q3, d3, rfl, -⟩ := N3.form
      obtain ⟨q4, d4, rfl, -⟩ := N4.form
      clear TC N2 N3 N4 cI eq8 hAll
      generalize (ptsF f)[k].k = Y0 at *
      generalize (ptsF f)[k].nm = Y1 at *
      generalize (ptsF f)[k].op = Y2 at *
      generalize (ptsF f)[k].lo = Y3 at *
      generalize (ptsF f)[k].hi = Y4 at *
      generalize (ptsF f)[k].opn = Y5 at *
      generalize (ptsF f)[k].vars.length = L1 at *
      generalize (ptsF f)[k].terms.length = L2 at *
      generalize (ptsF f)[k].subs.length = L3 at *
      generalize (ptsF f)[k].rgx.length = L4 at *
      go_wp2_with fail
      refine CI.out.mono ?_
      rintro e w4 ⟨rfl, hb4⟩
      have K4 : Hid (Below w3.heap.size w3 w4) := hBr.out.trans (hb4.mono hBr.out.size)
      have B4 : Below w.heap.size w w4 := Bw.trans (hb4.mono Bw.size)
      clear CI hb4 hBr a0 a1 a2 a3 a4 a5 a6 a7 a8 a9
      by_cases hq : q8 ≤ 8
      · have e8 : decide (q8 ≤ 8) = true := decide_eq_true hq
        rw [e8]
        have hA : Hid (_) := HN.out hq
        go_wp2
        exact ⟨⟨k + 1, by omega, by go_num, hA, K4⟩, by simp [intOf]; omega⟩
      · have e8 : decide (q8 ≤ 8) = false := decide_eq_false hq
        rw [e8]
        have hB := HNo.out hq
        have HB : Hid (BB = false) := hB
        clear hB
        go_wp2
        go_ret
        exact ⟨ret_bool HB.out.symm, B4⟩
set_option maxRecDepth 100000 in
set_option maxHeartbeats 8000000 in
theorem rcheck_fm (f : Fm) (y : FQ) (w : World) (hQ : QAt w (f, y)) :
    Calls Tryz.prog 9 #[.agg #[.int .i64 f.k, .string f.nm, .int .i64 f.op, y.v, y.t, .int .i64 f.lo, .int .i64 f.hi, .bool f.opn, y.s, y.r]] w fun e w' => e = .returned (.int .i64 (chkF f)) ∧ Below w.heap.size w w' := by
  have HQ : Hid (QAt w (f, y)) := hQ
  have cF : Hid (∀ (W : World) (q : Nat), Below w.heap.size w W → w.heap.size ≤ q → WK W q 0 0 0 → Calls Tryz.prog 30 #[.pointer (some ⟨q, 0, none⟩), .agg #[.int .i64 f.k, .string f.nm, .int .i64 f.op, y.v, y.t, .int .i64 f.lo, .int .i64 f.hi, .bool f.opn, y.s, y.r], .int .i64 1] W fun r w' => (∃ v, r = .returned v) ∧ Hid (KeepT q W w' ∧ WQ w' q (frun 1 (0, 0) f))) := fun W q hW hq h => rformula_walk w q hq f y HQ.out W hW h
  have cW : Hid ((frun 1 (0, 0) f).1 = 0 → ∀ W : World, Below w.heap.size w W → Calls Tryz.prog 31 #[.agg #[.int .i64 f.k, .string f.nm, .int .i64 f.op, y.v, y.t, .int .i64 f.lo, .int .i64 f.hi, .bool f.opn, y.s, y.r]] W fun e w' => e = .returned (.bool (decide ((fre f).2 ≤ 8))) ∧ Below W.heap.size W w') := fun h W hW => rfew_any w _ f y W (Nat.lt_succ_self _) (run_good h).2 (run_good h).1 HQ.out hW
  have HC : Hid (chkF f = if (frun 1 (0, 0) f).1 = 0 then (if 8 < (fre f).2 then 30 else 0) else (frun 1 (0, 0) f).1) := rfl
  obtain ⟨RR, eRR⟩ : ∃ R : Int × (Int × Int), Hid (frun 1 (0, 0) f = R) := ⟨_, rfl⟩
  rw [eRR.out] at cF cW HC
  obtain ⟨CK, eCK⟩ : ∃ C : Int, Hid (chkF f = C) := ⟨_, rfl⟩
  rw [eCK.out] at HC ⊢
  obtain ⟨F2, eF2⟩ : ∃ n : Nat, Hid ((fre f).2 = n) := ⟨_, rfl⟩
  rw [eF2.out] at HC cW
  clear eRR eCK eF2
  obtain ⟨uv, ut, us, ur⟩ := y
  obtain ⟨h1, h2, h3, h4⟩ := hQ
  dsimp only at h1 h2 h3 h4 cF cW ⊢
  obtain ⟨-, pv, cv, rfl, -, -⟩ := h1
  obtain ⟨pt, ct, rfl, -⟩ := h2.form
  obtain ⟨ps, cs, rfl, -⟩ := h3.form
  obtain ⟨pr, cr, rfl, -⟩ := h4.form
  clear h2 h3 h4
  generalize f.vars.length = nv at *
  generalize f.terms.length = nt at *
  generalize f.subs.length = ns at *
  generalize f.rgx.length = nr at *
  generalize f.lo = lo at *
  generalize f.hi = fhi at *
  generalize f.nm = nm at *
  generalize f.opn = o at *
  generalize f.op = op at *
  generalize f.k = fk at *
  obtain ⟨w1, ew1⟩ : ∃ w1, w1 = (w.alloc (.cells #[.int .i64 fk, .string nm, .int .i64 op, .slice pv nv cv, .slice pt nt ct, .int .i64 lo, .int .i64 fhi, .bool o, .slice ps ns cs, .slice pr nr cr] 29)).alloc (.cells #[.int .i64 0, .int .i64 0, .int .i64 0] 61) := ⟨_, rfl⟩
  have X1 : Hid (w1.heap[w.heap.size]? = some (.cells #[.int .i64 fk, .string nm, .int .i64 op, .slice pv nv cv, .slice pt nt ct, .int .i64 lo, .int .i64 fhi, .bool o, .slice ps ns cs, .slice pr nr cr] 29 (0, 0))) := by rw [ew1]; exact (Below.heap_alloc _ _ _ (by simp)).trans (heap_allocA w _)
  have K1 : Hid (WK w1 (w.heap.size + 1) 0 0 0) := by
    rw [ew1]
    have h := heap_allocA (w.alloc (.cells #[.int .i64 fk, .string nm, .int .i64 op, .slice pv nv cv, .slice pt nt ct, .int .i64 lo, .int .i64 fhi, .bool o, .slice ps ns cs, .slice pr nr cr] 29)) (.cells #[.int .i64 0, .int .i64 0, .int .i64 0] 61)
    simp only [World.size_alloc] at h
    exact h
  have B1 : Below w.heap.size w w1 := by rw [ew1]; exact ((Below.refl _ _).alloc (Nat.le_refl _) _).alloc (by simp) _
  go_enter Tryz.func9, Tryz.ntmps9
  go_upto_region 2 with fail
  rw [← ew1]
  clear ew1
  have e0 : w1.cell? ⟨w.heap.size, 0, none⟩ = some (.int .i64 fk) := by rw [Lib.cell_of_heap X1.out]; rfl
  have e1 : w1.cell? ⟨w.heap.size, 1, none⟩ = some (.string nm) := by rw [Lib.cell_of_heap X1.out]; rfl
  have e2 : w1.cell? ⟨w.heap.size, 2, none⟩ = some (.int .i64 op) := by rw [Lib.cell_of_heap X1.out]; rfl
  have e3 : w1.cell? ⟨w.heap.size, 3, none⟩ = some (.slice pv nv cv) := by rw [Lib.cell_of_heap X1.out]; rfl
  have e4 : w1.cell? ⟨w.heap.size, 4, none⟩ = some (.slice pt nt ct) := by rw [Lib.cell_of_heap X1.out]; rfl
  have e5 : w1.cell? ⟨w.heap.size, 5, none⟩ = some (.int .i64 lo) := by rw [Lib.cell_of_heap X1.out]; rfl
  have e6 : w1.cell? ⟨w.heap.size, 6, none⟩ = some (.int .i64 fhi) := by rw [Lib.cell_of_heap X1.out]; rfl
  have e7 : w1.cell? ⟨w.heap.size, 7, none⟩ = some (.bool o) := by rw [Lib.cell_of_heap X1.out]; rfl
  have e8 : w1.cell? ⟨w.heap.size, 8, none⟩ = some (.slice ps ns cs) := by rw [Lib.cell_of_heap X1.out]; rfl
  have e9 : w1.cell? ⟨w.heap.size, 9, none⟩ = some (.slice pr nr cr) := by rw [Lib.cell_of_heap X1.out]; rfl
  go_wp2_with fail
  refine (cF.out w1 (w.heap.size + 1) B1 (by omega) K1.out).mono ?_
  rintro r w2 ⟨⟨v2, rfl⟩, h2⟩
  obtain ⟨hK2, N, M, hW2, hNM⟩ := h2.out
  have HW2 : Hid (WK w2 (w.heap.size + 1) N M RR.1) := hW2
  have hsz1 : w.heap.size < w1.heap.size := blkL X1.out
  have X2 : Hid (_) := (hK2.block w.heap.size hsz1 (by omega)).trans X1.out
  have B2 : Below w.heap.size w w2 := B1.trans (hK2.below (by omega) (by have := hW2.lt; have := K1.out.lt; omega))
  clear h2 hK2 hW2 hNM cF K1 X1 B1 e0 e1 e2 e3 e4 e5 e6 e7 e8 e9 hsz1
  have y2 : w2.cell? ⟨w.heap.size + 1, 2, none⟩ = some (.int .i64 RR.1) := HW2.out.e
  obtain ⟨E, eE⟩ : ∃ E : Int, Hid (RR.1 = E) := ⟨_, rfl⟩
  rw [eE.out] at y2 cW HC
  clear HW2 eE
  by_cases hE : E = 0
  case neg =>
    have hE' : (E == 0) = false := by simpa using hE
    have hE'' : (E != 0) = true := by simpa using hE
    have hR : Hid (CK = E) := by have h := HC.out; rw [if_neg hE] at h; exact h
    go_wp2
    go_ret
    exact ⟨retI hR.out.symm, B2⟩
  subst hE
  have CW := cW.out rfl
  have CW : Hid (_) := CW
  have HC2 : Hid (CK = if 8 < F2 then 30 else 0) := by have h := HC.out; rw [if_pos rfl] at h; exact h
  clear cW HC
  have e0 : w2.cell? ⟨w.heap.size, 0, none⟩ = some (.int .i64 fk) := by rw [Lib.cell_of_heap X2.out]; rfl
  have e1 : w2.cell? ⟨w.heap.size, 1, none⟩ = some (.string nm) := by rw [Lib.cell_of_heap X2.out]; rfl
  have e2 : w2.cell? ⟨w.heap.size, 2, none⟩ = some (.int .i64 op) := by rw [Lib.cell_of_heap X2.out]; rfl
  have e3 : w2.cell? ⟨w.heap.size, 3, none⟩ = some (.slice pv nv cv) := by rw [Lib.cell_of_heap X2.out]; rfl
  have e4 : w2.cell? ⟨w.heap.size, 4, none⟩ = some (.slice pt nt ct) := by rw [Lib.cell_of_heap X2.out]; rfl
  have e5 : w2.cell? ⟨w.heap.size, 5, none⟩ = some (.int .i64 lo) := by rw [Lib.cell_of_heap X2.out]; rfl
  have e6 : w2.cell? ⟨w.heap.size, 6, none⟩ = some (.int .i64 fhi) := by rw [Lib.cell_of_heap X2.out]; rfl
  have e7 : w2.cell? ⟨w.heap.size, 7, none⟩ = some (.bool o) := by rw [Lib.cell_of_heap X2.out]; rfl
  have e8 : w2.cell? ⟨w.heap.size, 8, none⟩ = some (.slice ps ns cs) := by rw [Lib.cell_of_heap X2.out]; rfl
  have e9 : w2.cell? ⟨w.heap.size, 9, none⟩ = some (.slice pr nr cr) := by rw [Lib.cell_of_heap X2.out]; rfl
  go_wp2_with fail
  refine (CW.out w2 B2).mono ?_
  rintro e w3 ⟨rfl, hb3⟩
  have B3 : Below w.heap.size w w3 := B2.trans (hb3.mono B2.size)
  clear hb3 CW B2 X2 e0 e1 e2 e3 e4 e5 e6 e7 e8 e9 y2
  by_cases hF : F2 ≤ 8
  · have eF : decide (F2 ≤ 8) = true := decide_eq_true hF
    rw [eF]
    have hR : Hid (CK = 0) := by have h := HC2.out; rw [if_neg (by omega)] at h; exact h
    go_wp2
    go_ret
    exact ⟨retI hR.out.symm, B3⟩
  · have eF : decide (F2 ≤ 8) = false := decide_eq_false hF
    rw [eF]
    have hR : Hid (CK = 30) := by have h := HC2.out; rw [if_pos (by omega)] at h; exact h
    go_wp2
    go_ret
    exact ⟨retI hR.out.symm, B3⟩
set_option maxRecDepth 100000 in
set_option maxHeartbeats 8000000 in
theorem rnodes_fm (f : Fm) (y : FQ) (w : World) (hQ : QAt w (f, y)) :
    Calls Tryz.prog 20 #[.agg #[.int .i64 f.k, .string f.nm, .int .i64 f.op, y.v, y.t, .int .i64 f.lo, .int .i64 f.hi, .bool f.opn, y.s, y.r]] w fun e w' => e = .returned (.int .i64 (sizF f).1) ∧ Below w.heap.size w w' := by
  have HQ : Hid (QAt w (f, y)) := hQ
  have cF : Hid (∀ (W : World) (q : Nat), Below w.heap.size w W → w.heap.size ≤ q → WK W q 0 0 0 → Calls Tryz.prog 30 #[.pointer (some ⟨q, 0, none⟩), .agg #[.int .i64 f.k, .string f.nm, .int .i64 f.op, y.v, y.t, .int .i64 f.lo, .int .i64 f.hi, .bool f.opn, y.s, y.r], .int .i64 1] W fun r w' => (∃ v, r = .returned v) ∧ Hid (KeepT q W w' ∧ WQ w' q (frun 1 (0, 0) f))) := fun W q hW hq h => rformula_walk w q hq f y HQ.out W hW h
  have cC : Hid (∀ W : World, Below w.heap.size w W → Calls Tryz.prog 9 #[.agg #[.int .i64 f.k, .string f.nm, .int .i64 f.op, y.v, y.t, .int .i64 f.lo, .int .i64 f.hi, .bool f.opn, y.s, y.r]] W fun e w' => e = .returned (.int .i64 (chkF f)) ∧ Below W.heap.size W w') := fun W hW => rcheck_fm f y W (HQ.out.below hW)
  have HZ : Hid (¬ chkF f = 0 → (sizF f).1 = 0) := fun h => by unfold sizF; rw [if_neg h]
  have HZ0 : Hid (chkF f = 0 → (frun 1 (0, 0) f).1 = 0 ∧ (sizF f).1 = (frun 1 (0, 0) f).2.1) := fun h => by
    refine ⟨?_, by unfold sizF; rw [if_pos h]⟩
    unfold chkF at h
    by_cases h1 : (frun 1 (0, 0) f).1 = 0
    · exact h1
    · rw [if_neg h1] at h; exact absurd h h1
  obtain ⟨RR, eRR⟩ : ∃ R : Int × (Int × Int), Hid (frun 1 (0, 0) f = R) := ⟨_, rfl⟩
  rw [eRR.out] at cF HZ0
  obtain ⟨CK, eCK⟩ : ∃ C : Int, Hid (chkF f = C) := ⟨_, rfl⟩
  rw [eCK.out] at HZ HZ0 cC
  obtain ⟨SZ, eSZ⟩ : ∃ n : Int, Hid ((sizF f).1 = n) := ⟨_, rfl⟩
  rw [eSZ.out] at HZ HZ0 ⊢
  clear eRR eCK eSZ
  obtain ⟨uv, ut, us, ur⟩ := y
  obtain ⟨h1, h2, h3, h4⟩ := hQ
  dsimp only at h1 h2 h3 h4 cF cC ⊢
  obtain ⟨-, pv, cv, rfl, -, -⟩ := h1
  obtain ⟨pt, ct, rfl, -⟩ := h2.form
  obtain ⟨ps, cs, rfl, -⟩ := h3.form
  obtain ⟨pr, cr, rfl, -⟩ := h4.form
  clear h2 h3 h4
  generalize f.vars.length = nv at *
  generalize f.terms.length = nt at *
  generalize f.subs.length = ns at *
  generalize f.rgx.length = nr at *
  generalize f.lo = lo at *
  generalize f.hi = fhi at *
  generalize f.nm = nm at *
  generalize f.opn = o at *
  generalize f.op = op at *
  generalize f.k = fk at *
  go_enter Tryz.func20, Tryz.ntmps20
  go_wp2_with fail
  refine (cC.out _ ((Below.refl _ _).alloc (Nat.le_refl _) _)).mono ?_
  rintro e w1 ⟨rfl, hb1⟩
  have X1 : Hid (w1.heap[w.heap.size]? = some (.cells #[.int .i64 fk, .string nm, .int .i64 op, .slice pv nv cv, .slice pt nt ct, .int .i64 lo, .int .i64 fhi, .bool o, .slice ps ns cs, .slice pr nr cr] 29 (0, 0))) := (hb1.block w.heap.size (by simp)).trans (heap_allocA w _)
  have B1 : Below w.heap.size w w1 := ((Below.refl _ _).alloc (Nat.le_refl _) _).trans (hb1.mono (by simp))
  clear hb1 cC
  by_cases hE : CK = 0
  case neg =>
    have hE' : (CK == 0) = false := by simpa using hE
    have hE'' : (CK != 0) = true := by simpa using hE
    have hR : Hid (SZ = 0) := HZ.out hE
    go_wp2
    go_ret
    exact ⟨retI hR.out.symm, B1⟩
  subst hE
  obtain ⟨hE1, hS1⟩ := HZ0.out rfl
  have HE1 : Hid (RR.1 = 0) := hE1
  have HS1 : Hid (SZ = RR.2.1) := hS1
  clear HZ HZ0 hE1 hS1
  obtain ⟨w4, ew4⟩ : ∃ W, W = w1.alloc (.cells #[.int .i64 0, .int .i64 0, .int .i64 0] 61) := ⟨_, rfl⟩
  have K4 : Hid (WK w4 w1.heap.size 0 0 0) := by rw [ew4]; exact heap_allocA w1 _
  have X4 : Hid (w4.heap[w.heap.size]? = some (.cells #[.int .i64 fk, .string nm, .int .i64 op, .slice pv nv cv, .slice pt nt ct, .int .i64 lo, .int .i64 fhi, .bool o, .slice ps ns cs, .slice pr nr cr] 29 (0, 0))) := by rw [ew4]; exact (Below.heap_alloc _ _ _ (blkL X1.out)).trans X1.out
  have B4 : Below w.heap.size w w4 := by rw [ew4]; exact B1.alloc B1.size _
  have hq4 := B1.size
  go_upto_region 5 with fail
  rw [← ew4]
  clear ew4
  have e0 : w4.cell? ⟨w.heap.size, 0, none⟩ = some (.int .i64 fk) := by rw [Lib.cell_of_heap X4.out]; rfl
  have e1 : w4.cell? ⟨w.heap.size, 1, none⟩ = some (.string nm) := by rw [Lib.cell_of_heap X4.out]; rfl
  have e2 : w4.cell? ⟨w.heap.size, 2, none⟩ = some (.int .i64 op) := by rw [Lib.cell_of_heap X4.out]; rfl
  have e3 : w4.cell? ⟨w.heap.size, 3, none⟩ = some (.slice pv nv cv) := by rw [Lib.cell_of_heap X4.out]; rfl
  have e4 : w4.cell? ⟨w.heap.size, 4, none⟩ = some (.slice pt nt ct) := by rw [Lib.cell_of_heap X4.out]; rfl
  have e5 : w4.cell? ⟨w.heap.size, 5, none⟩ = some (.int .i64 lo) := by rw [Lib.cell_of_heap X4.out]; rfl
  have e6 : w4.cell? ⟨w.heap.size, 6, none⟩ = some (.int .i64 fhi) := by rw [Lib.cell_of_heap X4.out]; rfl
  have e7 : w4.cell? ⟨w.heap.size, 7, none⟩ = some (.bool o) := by rw [Lib.cell_of_heap X4.out]; rfl
  have e8 : w4.cell? ⟨w.heap.size, 8, none⟩ = some (.slice ps ns cs) := by rw [Lib.cell_of_heap X4.out]; rfl
  have e9 : w4.cell? ⟨w.heap.size, 9, none⟩ = some (.slice pr nr cr) := by rw [Lib.cell_of_heap X4.out]; rfl
  go_wp2_with fail
  refine (cF.out w4 w1.heap.size B4 hq4 K4.out).mono ?_
  rintro r w2 ⟨⟨v2, rfl⟩, h2⟩
  obtain ⟨hK2, N, M, hW2, hNM⟩ := h2.out
  obtain ⟨eN, eM⟩ := hNM HE1.out
  have HW2 : Hid (WK w2 w1.heap.size N M RR.1) := hW2
  have HV : Hid (SZ = N) := HS1.out.trans eN.symm
  have B2 : Below w.heap.size w w2 := B4.trans (hK2.below hq4 (Nat.le_of_lt K4.out.lt))
  have y2 : w2.cell? ⟨w1.heap.size, 0, none⟩ = some (.int .i64 N) := (Lib.cell_of_heap (show w2.heap[w1.heap.size]? = _ from HW2.out) _).trans rfl
  clear h2 hK2 hW2 hNM cF K4 X4 B4 e0 e1 e2 e3 e4 e5 e6 e7 e8 e9 HW2 eN eM HS1 HE1
  go_wp2
  go_ret
  exact ⟨retI HV.out.symm, B2⟩
set_option maxRecDepth 100000 in
set_option maxHeartbeats 8000000 in
theorem rdepth_fm (f : Fm) (y : FQ) (w : World) (hQ : QAt w (f, y)) :
    Calls Tryz.prog 21 #[.agg #[.int .i64 f.k, .string f.nm, .int .i64 f.op, y.v, y.t, .int .i64 f.lo, .int .i64 f.hi, .bool f.opn, y.s, y.r]] w fun e w' => e = .returned (.int .i64 (sizF f).2) ∧ Below w.heap.size w w' := by
  have HQ : Hid (QAt w (f, y)) := hQ
  have cF : Hid (∀ (W : World) (q : Nat), Below w.heap.size w W → w.heap.size ≤ q → WK W q 0 0 0 → Calls Tryz.prog 30 #[.pointer (some ⟨q, 0, none⟩), .agg #[.int .i64 f.k, .string f.nm, .int .i64 f.op, y.v, y.t, .int .i64 f.lo, .int .i64 f.hi, .bool f.opn, y.s, y.r], .int .i64 1] W fun r w' => (∃ v, r = .returned v) ∧ Hid (KeepT q W w' ∧ WQ w' q (frun 1 (0, 0) f))) := fun W q hW hq h => rformula_walk w q hq f y HQ.out W hW h
  have cC : Hid (∀ W : World, Below w.heap.size w W → Calls Tryz.prog 9 #[.agg #[.int .i64 f.k, .string f.nm, .int .i64 f.op, y.v, y.t, .int .i64 f.lo, .int .i64 f.hi, .bool f.opn, y.s, y.r]] W fun e w' => e = .returned (.int .i64 (chkF f)) ∧ Below W.heap.size W w') := fun W hW => rcheck_fm f y W (HQ.out.below hW)
  have HZ : Hid (¬ chkF f = 0 → (sizF f).2 = 0) := fun h => by unfold sizF; rw [if_neg h]
  have HZ0 : Hid (chkF f = 0 → (frun 1 (0, 0) f).1 = 0 ∧ (sizF f).2 = (frun 1 (0, 0) f).2.2) := fun h => by
    refine ⟨?_, by unfold sizF; rw [if_pos h]⟩
    unfold chkF at h
    by_cases h1 : (frun 1 (0, 0) f).1 = 0
    · exact h1
    · rw [if_neg h1] at h; exact absurd h h1
  obtain ⟨RR, eRR⟩ : ∃ R : Int × (Int × Int), Hid (frun 1 (0, 0) f = R) := ⟨_, rfl⟩
  rw [eRR.out] at cF HZ0
  obtain ⟨CK, eCK⟩ : ∃ C : Int, Hid (chkF f = C) := ⟨_, rfl⟩
  rw [eCK.out] at HZ HZ0 cC
  obtain ⟨SZ, eSZ⟩ : ∃ n : Int, Hid ((sizF f).2 = n) := ⟨_, rfl⟩
  rw [eSZ.out] at HZ HZ0 ⊢
  clear eRR eCK eSZ
  obtain ⟨uv, ut, us, ur⟩ := y
  obtain ⟨h1, h2, h3, h4⟩ := hQ
  dsimp only at h1 h2 h3 h4 cF cC ⊢
  obtain ⟨-, pv, cv, rfl, -, -⟩ := h1
  obtain ⟨pt, ct, rfl, -⟩ := h2.form
  obtain ⟨ps, cs, rfl, -⟩ := h3.form
  obtain ⟨pr, cr, rfl, -⟩ := h4.form
  clear h2 h3 h4
  generalize f.vars.length = nv at *
  generalize f.terms.length = nt at *
  generalize f.subs.length = ns at *
  generalize f.rgx.length = nr at *
  generalize f.lo = lo at *
  generalize f.hi = fhi at *
  generalize f.nm = nm at *
  generalize f.opn = o at *
  generalize f.op = op at *
  generalize f.k = fk at *
  go_enter Tryz.func21, Tryz.ntmps21
  go_wp2_with fail
  refine (cC.out _ ((Below.refl _ _).alloc (Nat.le_refl _) _)).mono ?_
  rintro e w1 ⟨rfl, hb1⟩
  have X1 : Hid (w1.heap[w.heap.size]? = some (.cells #[.int .i64 fk, .string nm, .int .i64 op, .slice pv nv cv, .slice pt nt ct, .int .i64 lo, .int .i64 fhi, .bool o, .slice ps ns cs, .slice pr nr cr] 29 (0, 0))) := (hb1.block w.heap.size (by simp)).trans (heap_allocA w _)
  have B1 : Below w.heap.size w w1 := ((Below.refl _ _).alloc (Nat.le_refl _) _).trans (hb1.mono (by simp))
  clear hb1 cC
  by_cases hE : CK = 0
  case neg =>
    have hE' : (CK == 0) = false := by simpa using hE
    have hE'' : (CK != 0) = true := by simpa using hE
    have hR : Hid (SZ = 0) := HZ.out hE
    go_wp2
    go_ret
    exact ⟨retI hR.out.symm, B1⟩
  subst hE
  obtain ⟨hE1, hS1⟩ := HZ0.out rfl
  have HE1 : Hid (RR.1 = 0) := hE1
  have HS1 : Hid (SZ = RR.2.2) := hS1
  clear HZ HZ0 hE1 hS1
  obtain ⟨w4, ew4⟩ : ∃ W, W = w1.alloc (.cells #[.int .i64 0, .int .i64 0, .int .i64 0] 61) := ⟨_, rfl⟩
  have K4 : Hid (WK w4 w1.heap.size 0 0 0) := by rw [ew4]; exact heap_allocA w1 _
  have X4 : Hid (w4.heap[w.heap.size]? = some (.cells #[.int .i64 fk, .string nm, .int .i64 op, .slice pv nv cv, .slice pt nt ct, .int .i64 lo, .int .i64 fhi, .bool o, .slice ps ns cs, .slice pr nr cr] 29 (0, 0))) := by rw [ew4]; exact (Below.heap_alloc _ _ _ (blkL X1.out)).trans X1.out
  have B4 : Below w.heap.size w w4 := by rw [ew4]; exact B1.alloc B1.size _
  have hq4 := B1.size
  go_upto_region 5 with fail
  rw [← ew4]
  clear ew4
  have e0 : w4.cell? ⟨w.heap.size, 0, none⟩ = some (.int .i64 fk) := by rw [Lib.cell_of_heap X4.out]; rfl
  have e1 : w4.cell? ⟨w.heap.size, 1, none⟩ = some (.string nm) := by rw [Lib.cell_of_heap X4.out]; rfl
  have e2 : w4.cell? ⟨w.heap.size, 2, none⟩ = some (.int .i64 op) := by rw [Lib.cell_of_heap X4.out]; rfl
  have e3 : w4.cell? ⟨w.heap.size, 3, none⟩ = some (.slice pv nv cv) := by rw [Lib.cell_of_heap X4.out]; rfl
  have e4 : w4.cell? ⟨w.heap.size, 4, none⟩ = some (.slice pt nt ct) := by rw [Lib.cell_of_heap X4.out]; rfl
  have e5 : w4.cell? ⟨w.heap.size, 5, none⟩ = some (.int .i64 lo) := by rw [Lib.cell_of_heap X4.out]; rfl
  have e6 : w4.cell? ⟨w.heap.size, 6, none⟩ = some (.int .i64 fhi) := by rw [Lib.cell_of_heap X4.out]; rfl
  have e7 : w4.cell? ⟨w.heap.size, 7, none⟩ = some (.bool o) := by rw [Lib.cell_of_heap X4.out]; rfl
  have e8 : w4.cell? ⟨w.heap.size, 8, none⟩ = some (.slice ps ns cs) := by rw [Lib.cell_of_heap X4.out]; rfl
  have e9 : w4.cell? ⟨w.heap.size, 9, none⟩ = some (.slice pr nr cr) := by rw [Lib.cell_of_heap X4.out]; rfl
  go_wp2_with fail
  refine (cF.out w4 w1.heap.size B4 hq4 K4.out).mono ?_
  rintro r w2 ⟨⟨v2, rfl⟩, h2⟩
  obtain ⟨hK2, N, M, hW2, hNM⟩ := h2.out
  obtain ⟨eN, eM⟩ := hNM HE1.out
  have HW2 : Hid (WK w2 w1.heap.size N M RR.1) := hW2
  have HV : Hid (SZ = M) := HS1.out.trans eM.symm
  have B2 : Below w.heap.size w w2 := B4.trans (hK2.below hq4 (Nat.le_of_lt K4.out.lt))
  have y2 : w2.cell? ⟨w1.heap.size, 1, none⟩ = some (.int .i64 M) := (Lib.cell_of_heap (show w2.heap[w1.heap.size]? = _ from HW2.out) _).trans rfl
  clear h2 hK2 hW2 hNM cF K4 X4 B4 e0 e1 e2 e3 e4 e5 e6 e7 e8 e9 HW2 eN eM HS1 HE1
  go_wp2
  go_ret
  exact ⟨retI HV.out.symm, B2⟩
end Go.Proofs.YtfajjphfjilpnaaGreat

namespace Go.Proofs.YtfajjphfjilpnaaGreat
open Go.RowKit LX Go.Shelf
set_option linter.unusedVariables false

set_option maxRecDepth 100000 in
set_option maxHeartbeats 8000000 in
theorem asizes_any (f : Fm) (y : FQ) (w : World) (hQ : QAt w (f, y)) : Calls Tryz.prog 6 #[.agg #[.int .i64 f.k, .string f.nm, .int .i64 f.op, y.v, y.t, .int .i64 f.lo, .int .i64 f.hi, .bool f.opn, y.s, y.r]] w fun e w' => e = .returned (.bool true) ∧ Below w.heap.size w w' := by
  have c1 : Hid (∀ W : World, Below w.heap.size w W → Calls Tryz.prog 20 #[.agg #[.int .i64 f.k, .string f.nm, .int .i64 f.op, y.v, y.t, .int .i64 f.lo, .int .i64 f.hi, .bool f.opn, y.s, y.r]] W fun e w' => e = .returned (.int .i64 (sizF f).1) ∧ Below W.heap.size W w') := fun W hW => rnodes_fm f y W (hQ.below hW)
  have c2 : Hid (∀ W : World, Below w.heap.size w W → Calls Tryz.prog 21 #[.agg #[.int .i64 f.k, .string f.nm, .int .i64 f.op, y.v, y.t, .int .i64 f.lo, .int .i64 f.hi, .bool f.opn, y.s, y.r]] W fun e w' => e = .returned (.int .i64 (sizF f).2) ∧ Below W.heap.size W w') := fun W hW => rdepth_fm f y W (hQ.below hW)
  have c3 : Hid (∀ W : World, Below w.heap.size w W → Calls Tryz.prog 22 #[.agg #[.int .i64 f.k, .string f.nm, .int .i64 f.op, y.v, y.t, .int .i64 f.lo, .int .i64 f.hi, .bool f.opn, y.s, y.r]] W fun e w' => e = .returned (.int .i64 (sizF f).1) ∧ Below W.heap.size W w') := fun W hW => nodes_fm f y W (hQ.below hW)
  have c4 : Hid (∀ W : World, Below w.heap.size w W → Calls Tryz.prog 23 #[.agg #[.int .i64 f.k, .string f.nm, .int .i64 f.op, y.v, y.t, .int .i64 f.lo, .int .i64 f.hi, .bool f.opn, y.s, y.r]] W fun e w' => e = .returned (.int .i64 (sizF f).2) ∧ Below W.heap.size W w') := fun W hW => depth_fm f y W (hQ.below hW)
  generalize (sizF f).1 = SN at *
  generalize (sizF f).2 = SD at *
  obtain ⟨uv, ut, us, ur⟩ := y
  obtain ⟨h1, h2, h3, h4⟩ := hQ
  dsimp only at h1 h2 h3 h4 c1 c2 c3 c4 ⊢
  obtain ⟨-, pv, cv, rfl, -, -⟩ := h1
  obtain ⟨pt, ct, rfl, -⟩ := h2.form
  obtain ⟨ps, cs, rfl, -⟩ := h3.form
  obtain ⟨pr, cr, rfl, -⟩ := h4.form
  clear h2 h3 h4
  generalize f.vars.length = nv at *
  generalize f.terms.length = nt at *
  generalize f.subs.length = ns at *
  generalize f.rgx.length = nr at *
  generalize f.lo = lo at *
  generalize f.hi = fhi at *
  generalize f.nm = nm at *
  generalize f.opn = o at *
  generalize f.op = op at *
  generalize f.k = fk at *
  go_enter Tryz.func6, Tryz.ntmps6
  go_wp2_with fail
  refine (c1.out _ ((Below.refl _ _).alloc (Nat.le_refl _) _)).mono ?_
  rintro e w1 ⟨rfl, hb1⟩
  have X1 : Hid (w1.heap[w.heap.size]? = some (.cells #[.int .i64 fk, .string nm, .int .i64 op, .slice pv nv cv, .slice pt nt ct, .int .i64 lo, .int .i64 fhi, .bool o, .slice ps ns cs, .slice pr nr cr] 29 (0, 0))) := (hb1.block w.heap.size (by simp)).trans (heap_allocA w _)
  have B1 : Below w.heap.size w w1 := ((Below.refl _ _).alloc (Nat.le_refl _) _).trans (hb1.mono (by simp))
  clear hb1 c1
  have e0 : w1.cell? ⟨w.heap.size, 0, none⟩ = some (.int .i64 fk) := by rw [Lib.cell_of_heap X1.out]; rfl
  have e1 : w1.cell? ⟨w.heap.size, 1, none⟩ = some (.string nm) := by rw [Lib.cell_of_heap X1.out]; rfl
  have e2 : w1.cell? ⟨w.heap.size, 2, none⟩ = some (.int .i64 op) := by rw [Lib.cell_of_heap X1.out]; rfl
  have e3 : w1.cell? ⟨w.heap.size, 3, none⟩ = some (.slice pv nv cv) := by rw [Lib.cell_of_heap X1.out]; rfl
  have e4 : w1.cell? ⟨w.heap.size, 4, none⟩ = some (.slice pt nt ct) := by rw [Lib.cell_of_heap X1.out]; rfl
  have e5 : w1.cell? ⟨w.heap.size, 5, none⟩ = some (.int .i64 lo) := by rw [Lib.cell_of_heap X1.out]; rfl
  have e6 : w1.cell? ⟨w.heap.size, 6, none⟩ = some (.int .i64 fhi) := by rw [Lib.cell_of_heap X1.out]; rfl
  have e7 : w1.cell? ⟨w.heap.size, 7, none⟩ = some (.bool o) := by rw [Lib.cell_of_heap X1.out]; rfl
  have e8 : w1.cell? ⟨w.heap.size, 8, none⟩ = some (.slice ps ns cs) := by rw [Lib.cell_of_heap X1.out]; rfl
  have e9 : w1.cell? ⟨w.heap.size, 9, none⟩ = some (.slice pr nr cr) := by rw [Lib.cell_of_heap X1.out]; rfl
  go_wp2_with fail
  refine (c2.out _ B1).mono ?_
  rintro e w2 ⟨rfl, hb2⟩
  have X2 : Hid (_) := blkB X1.out hb2
  have B2 : Below w.heap.size w w2 := B1.trans (hb2.mono B1.size)
  clear hb2 X1 B1 e0 e1 e2 e3 e4 e5 e6 e7 e8 e9
  go_wp2_with fail
  refine (live06_any _).mono ?_
  rintro e w3 ⟨rfl, hb3⟩
  have X3 : Hid (_) := blkB X2.out hb3
  have B3 : Below w.heap.size w w3 := B2.trans (hb3.mono B2.size)
  clear hb3 X2 B2
  have e0 : w3.cell? ⟨w.heap.size, 0, none⟩ = some (.int .i64 fk) := by rw [Lib.cell_of_heap X3.out]; rfl
  have e1 : w3.cell? ⟨w.heap.size, 1, none⟩ = some (.string nm) := by rw [Lib.cell_of_heap X3.out]; rfl
  have e2 : w3.cell? ⟨w.heap.size, 2, none⟩ = some (.int .i64 op) := by rw [Lib.cell_of_heap X3.out]; rfl
  have e3 : w3.cell? ⟨w.heap.size, 3, none⟩ = some (.slice pv nv cv) := by rw [Lib.cell_of_heap X3.out]; rfl
  have e4 : w3.cell? ⟨w.heap.size, 4, none⟩ = some (.slice pt nt ct) := by rw [Lib.cell_of_heap X3.out]; rfl
  have e5 : w3.cell? ⟨w.heap.size, 5, none⟩ = some (.int .i64 lo) := by rw [Lib.cell_of_heap X3.out]; rfl
  have e6 : w3.cell? ⟨w.heap.size, 6, none⟩ = some (.int .i64 fhi) := by rw [Lib.cell_of_heap X3.out]; rfl
  have e7 : w3.cell? ⟨w.heap.size, 7, none⟩ = some (.bool o) := by rw [Lib.cell_of_heap X3.out]; rfl
  have e8 : w3.cell? ⟨w.heap.size, 8, none⟩ = some (.slice ps ns cs) := by rw [Lib.cell_of_heap X3.out]; rfl
  have e9 : w3.cell? ⟨w.heap.size, 9, none⟩ = some (.slice pr nr cr) := by rw [Lib.cell_of_heap X3.out]; rfl
  go_wp2_with fail
  refine (c3.out _ B3).mono ?_
  rintro e w4 ⟨rfl, hb4⟩
  have X4 : Hid (_) := blkB X3.out hb4
  have B4 : Below w.heap.size w w4 := B3.trans (hb4.mono B3.size)
  clear hb4 X3 B3 e0 e1 e2 e3 e4 e5 e6 e7 e8 e9
  have e0 : w4.cell? ⟨w.heap.size, 0, none⟩ = some (.int .i64 fk) := by rw [Lib.cell_of_heap X4.out]; rfl
  have e1 : w4.cell? ⟨w.heap.size, 1, none⟩ = some (.string nm) := by rw [Lib.cell_of_heap X4.out]; rfl
  have e2 : w4.cell? ⟨w.heap.size, 2, none⟩ = some (.int .i64 op) := by rw [Lib.cell_of_heap X4.out]; rfl
  have e3 : w4.cell? ⟨w.heap.size, 3, none⟩ = some (.slice pv nv cv) := by rw [Lib.cell_of_heap X4.out]; rfl
  have e4 : w4.cell? ⟨w.heap.size, 4, none⟩ = some (.slice pt nt ct) := by rw [Lib.cell_of_heap X4.out]; rfl
  have e5 : w4.cell? ⟨w.heap.size, 5, none⟩ = some (.int .i64 lo) := by rw [Lib.cell_of_heap X4.out]; rfl
  have e6 : w4.cell? ⟨w.heap.size, 6, none⟩ = some (.int .i64 fhi) := by rw [Lib.cell_of_heap X4.out]; rfl
  have e7 : w4.cell? ⟨w.heap.size, 7, none⟩ = some (.bool o) := by rw [Lib.cell_of_heap X4.out]; rfl
  have e8 : w4.cell? ⟨w.heap.size, 8, none⟩ = some (.slice ps ns cs) := by rw [Lib.cell_of_heap X4.out]; rfl
  have e9 : w4.cell? ⟨w.heap.size, 9, none⟩ = some (.slice pr nr cr) := by rw [Lib.cell_of_heap X4.out]; rfl
  go_wp2_with fail
  refine (c4.out _ B4).mono ?_
  rintro e w5 ⟨rfl, hb5⟩
  have X5 : Hid (_) := blkB X4.out hb5
  have B5 : Below w.heap.size w w5 := B4.trans (hb5.mono B4.size)
  clear hb5 X4 B4 e0 e1 e2 e3 e4 e5 e6 e7 e8 e9
  go_wp2
  go_ret
  exact ⟨rfl, B5⟩
end Go.Proofs.YtfajjphfjilpnaaGreat

namespace Go.Proofs.YtfajjphfjilpnaaGreat
open Go.RowKit LX Go.Shelf
set_option linter.unusedVariables false

theorem bytes_eq {x y : ByteArray} : (x.toList == y.toList) = decide (x = y) := by
  rw [ByteArray.toList_eq, ByteArray.toList_eq]
  by_cases h : x = y
  · subst h; simp
  · rw [decide_eq_false h]
    have : x.data.toList ≠ y.data.toList := fun e => h (by
      obtain ⟨⟨a⟩⟩ := x
      obtain ⟨⟨b⟩⟩ := y
      simp at e
      subst e
      rfl)
    simpa using this
theorem keepc7 {W0 W : World} {b b' o o' : Nat} {u0 u1 u2 u3 u4 u5 u6 v0 v1 v2 v3 v4 v5 v6 : Value} (h : Below W0.heap.size W0 W) (hx : b < W0.heap.size) (hy : b' < W0.heap.size) (hs : W0.cell? ⟨b, o, none⟩ = some u0 ∧ W0.cell? ⟨b, o + 1, none⟩ = some u1 ∧ W0.cell? ⟨b, o + 2, none⟩ = some u2 ∧ W0.cell? ⟨b, o + 3, none⟩ = some u3 ∧ W0.cell? ⟨b, o + 4, none⟩ = some u4 ∧ W0.cell? ⟨b, o + 5, none⟩ = some u5 ∧ W0.cell? ⟨b, o + 6, none⟩ = some u6 ∧ W0.cell? ⟨b', o', none⟩ = some v0 ∧ W0.cell? ⟨b', o' + 1, none⟩ = some v1 ∧ W0.cell? ⟨b', o' + 2, none⟩ = some v2 ∧ W0.cell? ⟨b', o' + 3, none⟩ = some v3 ∧ W0.cell? ⟨b', o' + 4, none⟩ = some v4 ∧ W0.cell? ⟨b', o' + 5, none⟩ = some v5 ∧ W0.cell? ⟨b', o' + 6, none⟩ = some v6) : W.cell? ⟨b, o, none⟩ = some u0 ∧ W.cell? ⟨b, o + 1, none⟩ = some u1 ∧ W.cell? ⟨b, o + 2, none⟩ = some u2 ∧ W.cell? ⟨b, o + 3, none⟩ = some u3 ∧ W.cell? ⟨b, o + 4, none⟩ = some u4 ∧ W.cell? ⟨b, o + 5, none⟩ = some u5 ∧ W.cell? ⟨b, o + 6, none⟩ = some u6 ∧ W.cell? ⟨b', o', none⟩ = some v0 ∧ W.cell? ⟨b', o' + 1, none⟩ = some v1 ∧ W.cell? ⟨b', o' + 2, none⟩ = some v2 ∧ W.cell? ⟨b', o' + 3, none⟩ = some v3 ∧ W.cell? ⟨b', o' + 4, none⟩ = some v4 ∧ W.cell? ⟨b', o' + 5, none⟩ = some v5 ∧ W.cell? ⟨b', o' + 6, none⟩ = some v6 := by
  obtain ⟨a0, a1, a2, a3, a4, a5, a6, a7, a8, a9, a10, a11, a12, a13⟩ := hs
  exact ⟨bclL h a0 hx, bclL h a1 hx, bclL h a2 hx, bclL h a3 hx, bclL h a4 hx, bclL h a5 hx, bclL h a6 hx, bclL h a7 hy, bclL h a8 hy, bclL h a9 hy, bclL h a10 hy, bclL h a11 hy, bclL h a12 hy, bclL h a13 hy⟩
theorem keepc10 {W0 W : World} {b b' o o' : Nat} {u0 u1 u2 u3 u4 u5 u6 u7 u8 u9 v0 v1 v2 v3 v4 v5 v6 v7 v8 v9 : Value} (h : Below W0.heap.size W0 W) (hx : b < W0.heap.size) (hy : b' < W0.heap.size) (hs : W0.cell? ⟨b, o, none⟩ = some u0 ∧ W0.cell? ⟨b, o + 1, none⟩ = some u1 ∧ W0.cell? ⟨b, o + 2, none⟩ = some u2 ∧ W0.cell? ⟨b, o + 3, none⟩ = some u3 ∧ W0.cell? ⟨b, o + 4, none⟩ = some u4 ∧ W0.cell? ⟨b, o + 5, none⟩ = some u5 ∧ W0.cell? ⟨b, o + 6, none⟩ = some u6 ∧ W0.cell? ⟨b, o + 7, none⟩ = some u7 ∧ W0.cell? ⟨b, o + 8, none⟩ = some u8 ∧ W0.cell? ⟨b, o + 9, none⟩ = some u9 ∧ W0.cell? ⟨b', o', none⟩ = some v0 ∧ W0.cell? ⟨b', o' + 1, none⟩ = some v1 ∧ W0.cell? ⟨b', o' + 2, none⟩ = some v2 ∧ W0.cell? ⟨b', o' + 3, none⟩ = some v3 ∧ W0.cell? ⟨b', o' + 4, none⟩ = some v4 ∧ W0.cell? ⟨b', o' + 5, none⟩ = some v5 ∧ W0.cell? ⟨b', o' + 6, none⟩ = some v6 ∧ W0.cell? ⟨b', o' + 7, none⟩ = some v7 ∧ W0.cell? ⟨b', o' + 8, none⟩ = some v8 ∧ W0.cell? ⟨b', o' + 9, none⟩ = some v9) : W.cell? ⟨b, o, none⟩ = some u0 ∧ W.cell? ⟨b, o + 1, none⟩ = some u1 ∧ W.cell? ⟨b, o + 2, none⟩ = some u2 ∧ W.cell? ⟨b, o + 3, none⟩ = some u3 ∧ W.cell? ⟨b, o + 4, none⟩ = some u4 ∧ W.cell? ⟨b, o + 5, none⟩ = some u5 ∧ W.cell? ⟨b, o + 6, none⟩ = some u6 ∧ W.cell? ⟨b, o + 7, none⟩ = some u7 ∧ W.cell? ⟨b, o + 8, none⟩ = some u8 ∧ W.cell? ⟨b, o + 9, none⟩ = some u9 ∧ W.cell? ⟨b', o', none⟩ = some v0 ∧ W.cell? ⟨b', o' + 1, none⟩ = some v1 ∧ W.cell? ⟨b', o' + 2, none⟩ = some v2 ∧ W.cell? ⟨b', o' + 3, none⟩ = some v3 ∧ W.cell? ⟨b', o' + 4, none⟩ = some v4 ∧ W.cell? ⟨b', o' + 5, none⟩ = some v5 ∧ W.cell? ⟨b', o' + 6, none⟩ = some v6 ∧ W.cell? ⟨b', o' + 7, none⟩ = some v7 ∧ W.cell? ⟨b', o' + 8, none⟩ = some v8 ∧ W.cell? ⟨b', o' + 9, none⟩ = some v9 := by
  obtain ⟨a0, a1, a2, a3, a4, a5, a6, a7, a8, a9, a10, a11, a12, a13, a14, a15, a16, a17, a18, a19⟩ := hs
  exact ⟨bclL h a0 hx, bclL h a1 hx, bclL h a2 hx, bclL h a3 hx, bclL h a4 hx, bclL h a5 hx, bclL h a6 hx, bclL h a7 hx, bclL h a8 hx, bclL h a9 hx, bclL h a10 hy, bclL h a11 hy, bclL h a12 hy, bclL h a13 hy, bclL h a14 hy, bclL h a15 hy, bclL h a16 hy, bclL h a17 hy, bclL h a18 hy, bclL h a19 hy⟩
/-- Name by name. -/
def nmS : List ByteArray → List ByteArray → Bool
  | [], [] => true
  | [], _ :: _ => false
  | _ :: _, [] => false
  | x :: l, y :: m => (x.toList == y.toList) && nmS l m
theorem nmS_eq : ∀ xs ys : List ByteArray, nmS xs ys = decide (xs = ys)
  | [], [] => rfl
  | [], _ :: _ => rfl
  | _ :: _, [] => rfl
  | x :: l, y :: m => by
    rw [nmS, bytes_eq, nmS_eq l m]
    by_cases h1 : x = y <;> by_cases h2 : l = m <;> simp [h1, h2]
theorem nmS_len {xs ys : List ByteArray} (h : xs.length ≠ ys.length) : nmS xs ys = false := by
  rw [nmS_eq]
  exact decide_eq_false (fun e => h (by rw [e]))

set_option maxRecDepth 100000 in
set_option maxHeartbeats 4000000 in
theorem rnms_any (A B : Value) (xs ys : List ByteArray) (w : World) (hA : NmsAt w A xs) (hB : NmsAt w B ys) : Calls Tryz.prog 32 #[A, B] w fun e w' => e = .returned (.bool (decide (xs = ys))) ∧ Below w.heap.size w w' := by
  rw [← nmS_eq]
  obtain ⟨p, c, rfl, lx, hc, HX0⟩ := hA.form
  obtain ⟨p', c', rfl, ly, hc', HY0⟩ := hB.form
  by_cases hl : xs.length = ys.length
  case neg =>
    have h2 : ((xs.length : Int) == ys.length) = false := by simp; omega
    have HS : Hid (nmS xs ys = false) := nmS_len hl
    clear HX0 HY0 hA hB
    generalize xs.length = n at *
    generalize ys.length = m at *
    go_enter Tryz.func32, Tryz.ntmps32
    go_wp2
    go_ret
    exact ⟨ret_bool HS.out.symm, by go_grown⟩
  have HX : Hid (∀ i (hi : i < xs.length), ∃ b off, p = some ⟨b, off, none⟩ ∧ b < w.heap.size ∧ w.cell? ⟨b, off + i, none⟩ = some (.string xs[i])) := HX0
  have HY : Hid (∀ i (hi : i < ys.length), ∃ b off, p' = some ⟨b, off, none⟩ ∧ b < w.heap.size ∧ w.cell? ⟨b, off + i, none⟩ = some (.string ys[i])) := HY0
  obtain ⟨n, en⟩ : ∃ n : Nat, Hid (xs.length = n) := ⟨_, rfl⟩
  have em : Hid (ys.length = n) := hl.symm.trans en.out
  rw [en.out] at lx hc ⊢
  rw [em.out] at hc' ⊢
  clear HX0 HY0 hA hB ly hl
  go_enter Tryz.func32, Tryz.ntmps32
  go_wp2
  go_loopw [5] (fun i wr => ∃ k : Nat, k ≤ n ∧ i = .int .i64 k ∧ Hid (nmS xs ys = nmS (xs.drop k) (ys.drop k)) ∧ Below w.heap.size w wr) (fun i _ => n - (intOf i).toNat)
  case atStart => exact ⟨0, Nat.zero_le _, rfl, (show nmS xs ys = nmS (xs.drop 0) (ys.drop 0) by simp), Below.refl _ _⟩
  case round =>
    obtain ⟨k, hk, rfl, hr, hB⟩ := hrel
    by_cases hlt : k < n
    case neg =>
      have c2 : ¬ (k : Int) < n := by omega
      have hr3 : Hid (nmS xs ys = true) := by
        have h := hr.out
        rw [List.drop_eq_nil_of_le (by have := en.out; omega), List.drop_eq_nil_of_le (by have := em.out; omega)] at h
        exact h
      go_wp2
      go_ret
      exact ⟨ret_bool hr3.out.symm, hB⟩
    have hlt' : (k : Int) < n := by omega
    have kx : k < xs.length := by have := en.out; omega
    have ky : k < ys.length := by have := em.out; omega
    obtain ⟨b, off, rfl, hb, a0⟩ := HX.out k kx
    obtain ⟨b', off', rfl, hb', b0⟩ := HY.out k ky
    have a1 := (hB.cell (p := ⟨b, off + k, none⟩) hb).trans a0
    have b1 := (hB.cell (p := ⟨b', off' + k, none⟩) hb').trans b0
    have hr2 : Hid (nmS xs ys = ((xs[k].toList == ys[k].toList) && nmS (xs.drop (k + 1)) (ys.drop (k + 1)))) := by
      have h := hr.out
      rw [List.drop_eq_getElem_cons kx, List.drop_eq_getElem_cons ky, nmS] at h
      exact h
    clear a0 b0 hr
    generalize xs[k] = X at *
    generalize ys[k] = Y at *
    by_cases he : (X.toList == Y.toList) = true
    · have hne : (!X.toList == Y.toList) = false := by simp [he]
      have hr3 : Hid (nmS xs ys = nmS (xs.drop (k + 1)) (ys.drop (k + 1))) := by have h := hr2.out; rw [he, Bool.true_and] at h; exact h
      clear hr2
      go_upto_region 6 with fail
      go_quiet (fail)
      go_wp2
      exact ⟨⟨k + 1, by omega, by go_num, hr3, bdrewA _ hB⟩, by simp [intOf]; omega⟩
    · have he' : (X.toList == Y.toList) = false := by simpa using he
      have hne : (!X.toList == Y.toList) = true := by simp [he']
      have hr3 : Hid (nmS xs ys = false) := by have h := hr2.out; rw [he', Bool.false_and] at h; exact h
      clear hr2 he
      go_upto_region 6 with fail
      go_quiet (fail)
      go_wp2
      go_ret
      exact ⟨ret_bool hr3.out.symm, bdrewA _ hB⟩

set_option maxRecDepth 100000 in
set_option maxHeartbeats 8000000 in
theorem rsamet_step (x y : Tm) (u v : Value) (w : World) (hu : TmsAt w u x.subs) (hv : TmsAt w v y.subs) (IH : ∀ W : World, Below w.heap.size w W → Calls Tryz.prog 33 #[u, v] W fun e w' => e = .returned (.bool (sameTs x.subs y.subs)) ∧ Below W.heap.size W w') :
    Calls Tryz.prog 60 #[.agg #[.int .i64 x.k, .string x.nm, .int .i64 x.v.k, .int .i64 x.v.n, .int .i64 x.v.d, .string x.v.s, u], .agg #[.int .i64 y.k, .string y.nm, .int .i64 y.v.k, .int .i64 y.v.n, .int .i64 y.v.d, .string y.v.s, v]] w fun e w' => e = .returned (.bool (sameT x y)) ∧ Below w.heap.size w w' := by
  have cV : Hid (∀ W : World, Calls Tryz.prog 84 #[.agg #[.int .i64 x.v.k, .int .i64 x.v.n, .int .i64 x.v.d, .string x.v.s], .agg #[.int .i64 y.v.k, .int .i64 y.v.n, .int .i64 y.v.d, .string y.v.s]] W fun e w' => e = .returned (.bool (x.v.same y.v)) ∧ Below W.heap.size W w') := fun W => rsame_any x.v.k x.v.n x.v.d x.v.s y.v.k y.v.n y.v.d y.v.s W
  have cI : Hid (∀ W : World, Below w.heap.size w W → Calls Tryz.prog 33 #[u, v] W fun e w' => e = .returned (.bool (sameTs x.subs y.subs)) ∧ Below W.heap.size W w') := IH
  have hE : Hid (sameT x y = ((x.k == y.k) && ((x.nm.toList == y.nm.toList) && (x.v.same y.v && sameTs x.subs y.subs)))) := sameT_eq x y
  obtain ⟨pu, cu, rfl, -⟩ := hu.form
  obtain ⟨pv, cv, rfl, -⟩ := hv.form
  clear hu hv IH
  generalize sameT x y = R at *
  generalize sameTs x.subs y.subs = D at *
  generalize x.v.same y.v = C at *
  generalize x.k = xg_k at *
  generalize y.k = yg_k at *
  generalize x.nm = xg_nm at *
  generalize y.nm = yg_nm at *
  generalize x.v.k = xg_vk at *
  generalize y.v.k = yg_vk at *
  generalize x.v.n = xg_vn at *
  generalize y.v.n = yg_vn at *
  generalize x.v.d = xg_vd at *
  generalize y.v.d = yg_vd at *
  generalize x.v.s = xg_vs at *
  generalize y.v.s = yg_vs at *
  generalize x.subs.length = xg_subslength at *
  generalize y.subs.length = yg_subslength at *
  go_enter Tryz.func60, Tryz.ntmps60
  go_wp2_with fail
  refine (cV.out _).mono ?_
  rintro e w1 ⟨rfl, hw1⟩
  obtain ⟨hB1, hn1⟩ := bgX (n := w.heap.size) (W0 := w) (by go_grown) (by go_size) hw1
  have e0 : w1.cell? ⟨w.heap.size, 0, none⟩ = some (.int .i64 xg_k) := (hw1.cell (p := ⟨w.heap.size, 0, none⟩) (by first | (simp; done) | (simp; omega))).trans (by simp [go_sem])
  have e1 : w1.cell? ⟨w.heap.size, 1, none⟩ = some (.string xg_nm) := (hw1.cell (p := ⟨w.heap.size, 1, none⟩) (by first | (simp; done) | (simp; omega))).trans (by simp [go_sem])
  have e6 : w1.cell? ⟨w.heap.size, 6, none⟩ = some (.slice pu xg_subslength cu) := (hw1.cell (p := ⟨w.heap.size, 6, none⟩) (by first | (simp; done) | (simp; omega))).trans (by simp [go_sem])
  have g0 : w1.cell? ⟨w.heap.size + 1, 0, none⟩ = some (.int .i64 yg_k) := (hw1.cell (p := ⟨w.heap.size + 1, 0, none⟩) (by first | (simp; done) | (simp; omega))).trans (by simp [go_sem])
  have g1 : w1.cell? ⟨w.heap.size + 1, 1, none⟩ = some (.string yg_nm) := (hw1.cell (p := ⟨w.heap.size + 1, 1, none⟩) (by first | (simp; done) | (simp; omega))).trans (by simp [go_sem])
  have g6 : w1.cell? ⟨w.heap.size + 1, 6, none⟩ = some (.slice pv yg_subslength cv) := (hw1.cell (p := ⟨w.heap.size + 1, 6, none⟩) (by first | (simp; done) | (simp; omega))).trans (by simp [go_sem])
  clear hw1 cV
  by_cases h1 : (xg_k == yg_k) = true
  case neg =>
    have h1' : (xg_k == yg_k) = false := by simpa using h1
    have hR : Hid (R = false) := by have h := hE.out; rw [h1'] at h; simp at h; exact h
    clear h1
    go_wp2
    go_ret
    exact ⟨ret_bool hR.out.symm, hB1⟩
  by_cases h2 : (xg_nm.toList == yg_nm.toList) = true
  case neg =>
    have h2' : (xg_nm.toList == yg_nm.toList) = false := by simpa using h2
    have hR : Hid (R = false) := by have h := hE.out; rw [h2'] at h; simp at h; exact h
    clear h2
    go_wp2
    go_ret
    exact ⟨ret_bool hR.out.symm, hB1⟩
  cases C with
  | false =>
    have hR : Hid (R = false) := by have h := hE.out; simp at h; exact h
    go_wp2
    go_ret
    exact ⟨ret_bool hR.out.symm, hB1⟩
  | true =>
    have hR : Hid (R = D) := by have h := hE.out; rw [h1, h2] at h; simp at h; exact h
    go_wp2_with fail
    refine (cI.out _ hB1).mono ?_
    rintro e w2 ⟨rfl, hw2⟩
    have hB2 : Below w.heap.size w w2 := hB1.trans (hw2.mono hn1)
    clear hw2 cI e0 e1 e6 g0 g1 g6
    cases D with
    | false =>
      go_wp2
      go_ret
      exact ⟨ret_bool hR.out.symm, hB2⟩
    | true =>
      go_wp2
      go_ret
      exact ⟨ret_bool hR.out.symm, hB2⟩

set_option maxRecDepth 100000 in
set_option maxHeartbeats 8000000 in
theorem rsameTs_step (A B : Value) (xs ys : List Tm) (w : World) (hA : TmsAt w A xs) (hB : TmsAt w B ys) (HC : ∀ i (hi : i < xs.length) (hi' : i < ys.length) (u u' : Value) (W : World), TmsAt w u xs[i].subs → TmsAt w u' ys[i].subs → Below w.heap.size w W → Calls Tryz.prog 60 #[.agg #[.int .i64 xs[i].k, .string xs[i].nm, .int .i64 xs[i].v.k, .int .i64 xs[i].v.n, .int .i64 xs[i].v.d, .string xs[i].v.s, u], .agg #[.int .i64 ys[i].k, .string ys[i].nm, .int .i64 ys[i].v.k, .int .i64 ys[i].v.n, .int .i64 ys[i].v.d, .string ys[i].v.s, u']] W fun e w' => e = .returned (.bool (sameT xs[i] ys[i])) ∧ Below W.heap.size W w') :
    Calls Tryz.prog 33 #[A, B] w fun e w' => e = .returned (.bool (sameTs xs ys)) ∧ Below w.heap.size w w' := by
  obtain ⟨p, c, rfl, lx, hc, HX0⟩ := hA.form
  obtain ⟨p', c', rfl, ly, hc', HY0⟩ := hB.form
  by_cases hl : xs.length = ys.length
  case neg =>
    have h2 : ((xs.length : Int) == ys.length) = false := by simp; omega
    have HS : Hid (sameTs xs ys = false) := sameTs_len hl
    clear HX0 HY0 hA hB HC
    generalize xs.length = n at *
    generalize ys.length = m at *
    go_enter Tryz.func33, Tryz.ntmps33
    go_wp2
    go_ret
    exact ⟨ret_bool HS.out.symm, by go_grown⟩
  have HX : Hid (∀ i (hi : i < xs.length), ∃ b off u, p = some ⟨b, off, none⟩ ∧ b < w.heap.size ∧ TmC w b (off + i * 7) xs[i] u ∧ TmsAt w u xs[i].subs ∧ xs[i].v.Fits) := HX0
  have HY : Hid (∀ i (hi : i < ys.length), ∃ b off u, p' = some ⟨b, off, none⟩ ∧ b < w.heap.size ∧ TmC w b (off + i * 7) ys[i] u ∧ TmsAt w u ys[i].subs ∧ ys[i].v.Fits) := HY0
  have HCC : Hid (∀ i (hi : i < xs.length) (hi' : i < ys.length) (u u' : Value) (W : World), TmsAt w u xs[i].subs → TmsAt w u' ys[i].subs → Below w.heap.size w W → Calls Tryz.prog 60 #[.agg #[.int .i64 xs[i].k, .string xs[i].nm, .int .i64 xs[i].v.k, .int .i64 xs[i].v.n, .int .i64 xs[i].v.d, .string xs[i].v.s, u], .agg #[.int .i64 ys[i].k, .string ys[i].nm, .int .i64 ys[i].v.k, .int .i64 ys[i].v.n, .int .i64 ys[i].v.d, .string ys[i].v.s, u']] W fun e w' => e = .returned (.bool (sameT xs[i] ys[i])) ∧ Below W.heap.size W w') := HC
  obtain ⟨n, en⟩ : ∃ n : Nat, Hid (xs.length = n) := ⟨_, rfl⟩
  have em : Hid (ys.length = n) := hl.symm.trans en.out
  rw [en.out] at lx hc ⊢
  rw [em.out] at hc' ⊢
  clear hA hB hl ly HX0 HY0 HC
  go_enter Tryz.func33, Tryz.ntmps33
  go_wp2
  go_loopw [5] (fun i wr => ∃ k : Nat, k ≤ n ∧ i = .int .i64 k ∧ Hid (sameTs xs ys = sameTs (xs.drop k) (ys.drop k)) ∧ Below w.heap.size w wr) (fun i _ => n - (intOf i).toNat)
  case atStart => exact ⟨0, Nat.zero_le _, rfl, (show sameTs xs ys = sameTs (xs.drop 0) (ys.drop 0) by simp), Below.refl _ _⟩
  case round =>
    obtain ⟨k, hk, rfl, hr, hB⟩ := hrel
    have hsz := hB.size
    by_cases hlt : k < n
    case neg =>
      have c2 : ¬ (k : Int) < n := by omega
      have hr3 : Hid (sameTs xs ys = true) := by
        have h := hr.out
        rw [List.drop_eq_nil_of_le (by have := en.out; omega), List.drop_eq_nil_of_le (by have := em.out; omega), sameTs_nil] at h
        exact h
      go_wp2
      go_ret
      exact ⟨ret_bool hr3.out.symm, hB⟩
    have hlt' : (k : Int) < n := by omega
    have kx : k < xs.length := by have := en.out; omega
    have ky : k < ys.length := by have := em.out; omega
    obtain ⟨b, off, u, rfl, hb, TC, TS, TF⟩ := HX.out k kx
    obtain ⟨b', off', u', rfl, hb', TC', TS', TF'⟩ := HY.out k ky
    obtain ⟨a0, a1, a2, a3, a4, a5, a6⟩ := TC.below hB hb
    obtain ⟨b0, b1, b2, b3, b4, b5, b6⟩ := TC'.below hB hb'
    have hbr : b < wr.heap.size := Nat.lt_of_lt_of_le hb hsz
    have hbr' : b' < wr.heap.size := Nat.lt_of_lt_of_le hb' hsz
    have hr2 : Hid (sameTs xs ys = (sameT xs[k] ys[k] && sameTs (xs.drop (k + 1)) (ys.drop (k + 1)))) := by
      have h := hr.out
      rw [List.drop_eq_getElem_cons kx, List.drop_eq_getElem_cons ky, sameTs_cons] at h
      exact h
    have cCT : Hid (∀ W : World, Below w.heap.size w W → Calls Tryz.prog 60 #[.agg #[.int .i64 xs[k].k, .string xs[k].nm, .int .i64 xs[k].v.k, .int .i64 xs[k].v.n, .int .i64 xs[k].v.d, .string xs[k].v.s, u], .agg #[.int .i64 ys[k].k, .string ys[k].nm, .int .i64 ys[k].v.k, .int .i64 ys[k].v.n, .int .i64 ys[k].v.d, .string ys[k].v.s, u']] W fun e w' => e = .returned (.bool (sameT xs[k] ys[k])) ∧ Below W.heap.size W w') := fun W hW => HCC.out k kx ky u u' W TS TS' hW
    clear hr TC TC'
    obtain ⟨pu, cu, rfl, -⟩ := TS.form
    obtain ⟨pu', cu', rfl, -⟩ := TS'.form
    clear TS TF TS' TF'
    generalize sameT xs[k] ys[k] = C at *
    generalize xs[k].k = xg_k at *
    generalize ys[k].k = yg_k at *
    generalize xs[k].nm = xg_nm at *
    generalize ys[k].nm = yg_nm at *
    generalize xs[k].v.k = xg_vk at *
    generalize ys[k].v.k = yg_vk at *
    generalize xs[k].v.n = xg_vn at *
    generalize ys[k].v.n = yg_vn at *
    generalize xs[k].v.d = xg_vd at *
    generalize ys[k].v.d = yg_vd at *
    generalize xs[k].v.s = xg_vs at *
    generalize ys[k].v.s = yg_vs at *
    generalize xs[k].subs.length = xg_subslength at *
    generalize ys[k].subs.length = yg_subslength at *
    go_upto_region 6 with fail
    have HS : Hid (wr.cell? ⟨b, off + k * 7, none⟩ = some (.int .i64 xg_k) ∧ wr.cell? ⟨b, off + k * 7 + 1, none⟩ = some (.string xg_nm) ∧ wr.cell? ⟨b, off + k * 7 + 2, none⟩ = some (.int .i64 xg_vk) ∧ wr.cell? ⟨b, off + k * 7 + 3, none⟩ = some (.int .i64 xg_vn) ∧ wr.cell? ⟨b, off + k * 7 + 4, none⟩ = some (.int .i64 xg_vd) ∧ wr.cell? ⟨b, off + k * 7 + 5, none⟩ = some (.string xg_vs) ∧ wr.cell? ⟨b, off + k * 7 + 6, none⟩ = some (.slice pu xg_subslength cu) ∧ wr.cell? ⟨b', off' + k * 7, none⟩ = some (.int .i64 yg_k) ∧ wr.cell? ⟨b', off' + k * 7 + 1, none⟩ = some (.string yg_nm) ∧ wr.cell? ⟨b', off' + k * 7 + 2, none⟩ = some (.int .i64 yg_vk) ∧ wr.cell? ⟨b', off' + k * 7 + 3, none⟩ = some (.int .i64 yg_vn) ∧ wr.cell? ⟨b', off' + k * 7 + 4, none⟩ = some (.int .i64 yg_vd) ∧ wr.cell? ⟨b', off' + k * 7 + 5, none⟩ = some (.string yg_vs) ∧ wr.cell? ⟨b', off' + k * 7 + 6, none⟩ = some (.slice pu' yg_subslength cu')) := ⟨a0, a1, a2, a3, a4, a5, a6, b0, b1, b2, b3, b4, b5, b6⟩
    go_region_held3 (fun W => W.cell? ⟨b, off + k * 7, none⟩ = some (.int .i64 xg_k) ∧ W.cell? ⟨b, off + k * 7 + 1, none⟩ = some (.string xg_nm) ∧ W.cell? ⟨b, off + k * 7 + 2, none⟩ = some (.int .i64 xg_vk) ∧ W.cell? ⟨b, off + k * 7 + 3, none⟩ = some (.int .i64 xg_vn) ∧ W.cell? ⟨b, off + k * 7 + 4, none⟩ = some (.int .i64 xg_vd) ∧ W.cell? ⟨b, off + k * 7 + 5, none⟩ = some (.string xg_vs) ∧ W.cell? ⟨b, off + k * 7 + 6, none⟩ = some (.slice pu xg_subslength cu) ∧ W.cell? ⟨b', off' + k * 7, none⟩ = some (.int .i64 yg_k) ∧ W.cell? ⟨b', off' + k * 7 + 1, none⟩ = some (.string yg_nm) ∧ W.cell? ⟨b', off' + k * 7 + 2, none⟩ = some (.int .i64 yg_vk) ∧ W.cell? ⟨b', off' + k * 7 + 3, none⟩ = some (.int .i64 yg_vn) ∧ W.cell? ⟨b', off' + k * 7 + 4, none⟩ = some (.int .i64 yg_vd) ∧ W.cell? ⟨b', off' + k * 7 + 5, none⟩ = some (.string yg_vs) ∧ W.cell? ⟨b', off' + k * 7 + 6, none⟩ = some (.slice pu' yg_subslength cu'))
      (exact keepc7 (by go_grown) hbr hbr' HS.out)
      (first
        | (go_at_call 60; refine (cCT.out _ (hB.trans (by go_grown))).mono ?_; rintro e v1 ⟨rfl, hb1⟩; obtain ⟨hX1, hn1⟩ := bgX (n := wr.heap.size) (W0 := wr) (by go_grown) (by go_size) hb1; clear hb1))
    have hB2 : Hid (Below w.heap.size w v1) := hB.trans (hX1.mono hsz)
    clear a0 a1 a2 a3 a4 a5 a6 b0 b1 b2 b3 b4 b5 b6 cCT hX1 hn1
    cases C with
    | true =>
      have hr3 : Hid (sameTs xs ys = sameTs (xs.drop (k + 1)) (ys.drop (k + 1))) := by have := hr2.out; rwa [Bool.true_and] at this
      go_wp2
      exact ⟨⟨k + 1, by omega, by go_num, hr3, hB2.out⟩, by simp [intOf]; omega⟩
    | false =>
      have hr3 : Hid (sameTs xs ys = false) := by have := hr2.out; rwa [Bool.false_and] at this
      go_wp2
      go_ret
      exact ⟨ret_bool hr3.out.symm, hB2.out⟩

theorem rsame_tms : ∀ (m : Nat) (xs ys : List Tm) (A B : Value) (w : World), SizeOf.sizeOf xs ≤ m → TmsAt w A xs → TmsAt w B ys → Calls Tryz.prog 33 #[A, B] w fun e w' => e = .returned (.bool (sameTs xs ys)) ∧ Below w.heap.size w w' := by
  intro m
  induction m with
  | zero => intro xs ys A B w hm; cases xs <;> simp at hm
  | succ m ih =>
    intro xs ys A B w hm hA hB
    exact rsameTs_step A B xs ys w hA hB fun i hi hi' u u' W h1 h2 hW => rsamet_step xs[i] ys[i] u u' W (h1.bel hW) (h2.bel hW) fun W' hW' => ih _ _ _ _ W' (by have := mem_lt i hi; have := Tm.subs_lt xs[i]; omega) ((h1.bel hW).bel hW') ((h2.bel hW).bel hW')

end Go.Proofs.YtfajjphfjilpnaaGreat
