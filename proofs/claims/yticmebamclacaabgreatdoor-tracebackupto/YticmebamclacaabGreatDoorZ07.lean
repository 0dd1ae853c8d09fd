/- The walk of the law TraceBack. -/
import Derived.Test.YticmebamclacaabGreatDoorZ06

namespace Go.Proofs.YticmebamclacaabGreatDoor
open Go.RowKit LX Go.Shelf
set_option linter.unusedVariables false

theorem rdEs_args2 {B f : Nat} {acc es : List Evt} {L : List (Tok Val)} (h : rdEs f acc L = some es) (ha : ∀ e ∈ acc, e.args.length ≤ B) (hL : L.length ≤ B) : ∀ e ∈ es, e.args.length ≤ B := by
  induction f generalizing acc L with
  | zero =>
    have h : some acc = some es := h
    injection h with h
    subst h
    exact ha
  | succ f ih =>
    by_cases h0 : L.length = 0
    · rw [rdEs_end h0] at h
      injection h with h
      subst h
      exact ha
    · cases hE : rdE L with
      | none => rw [rdEs_none (by omega) hE] at h; cases h
      | some p =>
        obtain ⟨e, n⟩ := p
        rw [rdEs_some (by omega) hE] at h
        have hl := rdE_len hE
        refine ih h (fun x hx => ?_) (by rw [List.length_drop]; omega)
        rcases List.mem_append.1 hx with hx | hx
        · exact ha x hx
        · rw [List.mem_singleton.1 hx]; omega
theorem rdP_small2 (s : ByteArray) : (rdP s).2.2.length ≤ 64 ∧ ∀ e ∈ (rdP s).2.2, e.args.length ≤ 4096 := by
  unfold rdP
  by_cases hC : cutE s = 0
  case neg => rw [if_neg hC]; exact ⟨by simp, by simp⟩
  rw [if_pos hC]
  have hTl : (tks s).length ≤ 4096 := by
    unfold cutE at hC
    have h1 : ¬ 4096 < s.size := fun hh => by rw [if_pos hh] at hC; cases hC
    have h2 := T_lenX s.data.toList.length s.data.toList (Nat.le_refl _) 0
    have h3 : s.data.toList.length = s.size := by simp
    unfold tks
    omega
  generalize tks s = TL at hTl
  cases TL with
  | nil => exact ⟨by simp [rdL], by simp [rdL]⟩
  | cons t L =>
    have e : rdL (t :: L) = if t.k = 7 then rdM t.v.n (rdEs (L.length + 1) [] L) else (70, 0, []) := rfl
    rw [e]
    by_cases h7 : t.k = 7
    case neg => rw [if_neg h7]; exact ⟨by simp, by simp⟩
    rw [if_pos h7]
    cases hE : rdEs (L.length + 1) [] L with
    | none => exact ⟨by simp [rdM], by simp [rdM]⟩
    | some es =>
      have ha := rdEs_args2 (B := 4096) hE (by simp) (by simp at hTl; omega)
      have e2 : rdM t.v.n (some es) = if 64 < es.length then (3, 0, []) else (0, t.v.n, es) := rfl
      rw [e2]
      by_cases h64 : 64 < es.length
      · rw [if_pos h64]; exact ⟨by simp, by simp⟩
      · rw [if_neg h64]; exact ⟨by show es.length ≤ 64; omega, ha⟩
theorem evsW_small {l : List Evt} (h : ∀ e ∈ l, nameB e.name = true ∧ e.args.length ≤ 4096) : evsW l ≤ 1233500 * l.length := by
  induction l with
  | nil => exact Nat.le_refl _
  | cons e l ih =>
    have h1 := ih (fun x hx => h x (by simp [hx]))
    obtain ⟨h2, h3⟩ := h e (by simp)
    have h4 := (name_parts h2).2.1
    have h5 : e.name.data.toList.length = e.name.size := by simp
    have e1 : evsW (e :: l) = evW e + evsW l := rfl
    have e2 : evW e = 301 * e.args.length + e.name.size + 500 := rfl
    simp only [List.length_cons]
    omega
theorem ppE_small {t : Int} {es : List Evt} (h1 : sizeE t es.length = 0) (h2 : ∀ e ∈ es, okE e) : ppE t es = 2 ∨ ppE t es = 0 := by
  unfold ppE
  rw [if_pos h1, if_pos (wevsE_ok h2)]
  by_cases h : 4096 < (lineT t es).length
  · rw [if_pos h]; exact Or.inl rfl
  · rw [if_neg h]; exact Or.inr rfl

set_option maxRecDepth 100000 in
set_option maxHeartbeats 16000000 in
theorem trback_walk (A V : Value) (L : List Dec) (t : Int) (es : List Evt) (s : ByteArray) (w : World) (he : Env w) (hA : SigAt w A L) (lL : L.length ≤ 9223372036854775807) (lk : ∀ d ∈ L, d.kinds.length ≤ 9223372036854775807) (t1 : -9223372036854775808 ≤ t) (t2 : t ≤ 9223372036854775807) (hV : EvsAt w V es) (fx : ∀ e ∈ es, ∀ v ∈ e.args, v.Fits) (lv : ∀ e ∈ es, e.args.length ≤ 9223372036854775807) (le : es.length ≤ 9223372036854775807) (hl : evsW es + 1000 ≤ 140737488355328) :
    Calls Tryz.prog 3 #[A, .agg #[.int .i64 t, V], .string s] w fun r w' => r = .returned (.bool true) ∧ Below w.heap.size w w' := by
  have c1 : Hid (∀ W : World, Below w.heap.size w W → Calls Tryz.prog 5 #[A] W fun r w' => r = .returned (.tuple #[.string ⟨(psT L).toArray⟩, .int .i64 (sigE L)]) ∧ Below W.heap.size W w') := fun W hW => psig_any A L W (he.below hW).err (hA.below hW) lL lk
  have c2 : Hid (∀ W : World, Below w.heap.size w W → Calls Tryz.prog 8 #[.agg #[.int .i64 t, V]] W fun r w' => r = .returned (.tuple #[.string ⟨(ppT t es).toArray⟩, .int .i64 (ppE t es)]) ∧ Below W.heap.size W w') := fun W hW => ppoint_any V t es W (he.below hW).err t1 t2 (hV.below hW) (he.below hW).pow fx lv le hl
  have c5 : Hid (∀ W : World, Below w.heap.size w W → Calls Tryz.prog 11 #[] W fun r w' => r = .returned (.bool true) ∧ Below W.heap.size W w') := fun W hW => trlive_any W (he.below hW)
  have c6 : Hid (∀ (Q : ByteArray) (W : World), Below w.heap.size w W → Calls Tryz.prog 9 #[.string Q] W fun r w' => PpOut W.heap.size W (rdP Q) r w') := fun Q W hW => parsept_any Q W (he.below hW).pow (he.below hW).errs (he.below hW).size (he.below hW).err
  have c9 : Hid (∀ W : World, Below w.heap.size w W → sigE L = 0 → Calls Tryz.prog 6 #[.string ⟨(psT L).toArray⟩] W fun r w' => PsOut W.heap.size W (0, 0, L) r w') := fun W hW h => by
    have h9 := parsesig_any ⟨(psT L).toArray⟩ W (he.below hW).pow (he.below hW).errs (he.below hW).size (he.below hW).err
    rwa [back_sig h] at h9
  have hsm : Hid (sigE L = 0 → ((⟨(psT L).toArray⟩ : ByteArray).size : Int) ≤ 16384) := fun h => by
    have hp : psT L = sigT L := if_pos h
    obtain ⟨s1, s2⟩ := sigE_short h
    have s3 := sigT_len s2
    have : (⟨(psT L).toArray⟩ : ByteArray).size = (psT L).length := by show (psT L).toArray.size = _; simp
    rw [this, hp]
    omega
  have cSS : Hid (∀ (W : World) (B : Value), Below w.heap.size w W → SigAt W B L → Calls Tryz.prog 7 #[A, B] W fun r w' => r = .returned (.bool true) ∧ Below W.heap.size W w') := fun W B hW hB => rssame_yes A B L W (hA.below hW) hB lL lk
  have c8 : Hid (∀ (W : World) (B : Value), Below w.heap.size w W → EvsAt W B es → Calls Tryz.prog 10 #[.agg #[.int .i64 t, V], .agg #[.int .i64 t, B]] W fun r w' => r = .returned (.bool true) ∧ Below W.heap.size W w') := fun W B hW hB => rpsame_yes t V B es W (hV.below hW) hB le lv
  have BQ : Hid (ppE t es = 0 → rdP ⟨(ppT t es).toArray⟩ = (0, t, es)) := fun h => back_point h fx
  have RO := read_ok s
  obtain ⟨sm1, sm2⟩ := rdP_small2 s
  have c3 : Hid (∀ W : World, Below w.heap.size w W → Calls Tryz.prog 9 #[.string s] W fun r w' => PpOut W.heap.size W (rdP s) r w') := fun W hW => c6.out s W hW
  generalize rdP s = D at *
  obtain ⟨D1, D2, D3⟩ := D
  dsimp only at RO sm1 sm2
  have c4 : Hid (∀ (W : World) (B : Value), Below w.heap.size w W → EvsAt W B D3 → D1 = 0 → Calls Tryz.prog 8 #[.agg #[.int .i64 D2, B]] W fun r w' => r = .returned (.tuple #[.string ⟨(ppT D2 D3).toArray⟩, .int .i64 (ppE D2 D3)]) ∧ Below W.heap.size W w') := fun W B hW hB h1 => by
    rcases RO with ⟨r1, _⟩ | ⟨_, r2, r3⟩
    · exact absurd h1 r1
    · obtain ⟨z1, z2, z3⟩ := sizeE_ok r2
      have hw := evsW_small (l := D3) (fun e he => ⟨(r3 e he).1, sm2 e he⟩)
      exact ppoint_any B D2 D3 W (he.below hW).err (by omega) (by omega) hB (he.below hW).pow (fun e he v hv => ((r3 e he).2 v hv).2) (fun e he => by have := sm2 e he; omega) (by omega) (by omega)
  have c7 : Hid (∀ (W : World) (A B : Value), EvsAt W A D3 → EvsAt W B D3 → Calls Tryz.prog 10 #[.agg #[.int .i64 D2, A], .agg #[.int .i64 D2, B]] W fun r w' => r = .returned (.bool true) ∧ Below W.heap.size W w') := fun W A B hA hB => rpsame_yes D2 A B D3 W hA hB (by omega) (fun e he => by have := sm2 e he; omega)
  have BK3 : Hid (D1 = 0 → ppE D2 D3 = 0 → rdP ⟨(ppT D2 D3).toArray⟩ = (0, D2, D3)) := fun h1 h2 => by
    rcases RO with ⟨r1, _⟩ | ⟨_, r2, r3⟩
    · exact absurd h1 r1
    · exact back_point h2 (fun e he v hv => ((r3 e he).2 v hv).2)
  have BP3 : Hid (D1 = 0 → ppE D2 D3 = 2 ∨ ppE D2 D3 = 0) := fun h1 => by
    rcases RO with ⟨r1, _⟩ | ⟨_, r2, r3⟩
    · exact absurd h1 r1
    · exact ppE_small r2 r3
  have RO : Hid _ := RO
  obtain ⟨pA, cA, eA, -⟩ := hA.form
  obtain ⟨pV, cV, eV, -⟩ := hV.form
  subst eA eV
  obtain ⟨me, eme⟩ : ∃ m : Nat, Hid (es.length = m) := ⟨_, rfl⟩
  obtain ⟨mL, emL⟩ : ∃ m : Nat, Hid (L.length = m) := ⟨_, rfl⟩
  rw [eme.out] at c2 c8 le ⊢
  rw [emL.out] at c1 cSS lL ⊢
  generalize (⟨(ppT t es).toArray⟩ : ByteArray) = Q2 at c2 BQ
  generalize ppE t es = E2 at c2 BQ
  generalize (⟨(psT L).toArray⟩ : ByteArray) = Q1 at c1 c9 hsm
  generalize sigE L = E1 at c1 c9 hsm
  clear hA hV lk fx lv he hl sm1 sm2
  go_enter Tryz.func3, Tryz.ntmps3
  go_wp2_with fail
  refine (c1.out _ (by go_grown)).mono ?_
  rintro r w1 ⟨rfl, hb1⟩
  have b0 : w1.cell? ⟨w.heap.size, 0, none⟩ = some (.int .i64 t) := (hb1.cell (p := ⟨w.heap.size, 0, none⟩) (by simp)).trans (by simp [go_sem])
  have b1 : w1.cell? ⟨w.heap.size, 1, none⟩ = some (.slice pV me cV) := (hb1.cell (p := ⟨w.heap.size, 1, none⟩) (by simp)).trans (by simp [go_sem])
  have hs1 : w.heap.size < w1.heap.size := by have := hb1.size; simp at this; omega
  obtain ⟨K1, -⟩ := bgX (n := w.heap.size) (W0 := w) (by go_grown) (by go_size) hb1
  clear hb1 c1
  by_cases hE : E1 = 0
  case neg =>
    have hE' : (E1 == 0) = false := by simp [hE]
    have hE'' : ¬ E1 = 0 := hE
    have ct2p : Hid (Calls Tryz.prog 8 #[.agg #[.int .i64 t, .slice pV me cV]] w1 fun r w' => r = .returned (.tuple #[.string Q2, .int .i64 E2]) ∧ Below w1.heap.size w1 w') := c2.out _ K1
    go_wp2_with fail
    refine ct2p.out.mono ?_
    rintro r y1 ⟨rfl, hy1⟩
    have KY1 : Below w.heap.size w y1 := K1.trans (hy1.mono K1.size)
    have d0 := (hy1.cell (p := ⟨w.heap.size, 0, none⟩) hs1).trans b0
    have d1 := (hy1.cell (p := ⟨w.heap.size, 1, none⟩) hs1).trans b1
    have hsy : w.heap.size < y1.heap.size := Nat.lt_of_lt_of_le hs1 hy1.size
    clear ct2p hy1 b0 b1
    by_cases hF : E2 = 0
    case neg =>
      have hF' : (E2 == 0) = false := by simp [hF]
      have hF'' : ¬ E2 = 0 := hF
      have ctPpa : Hid (Calls Tryz.prog 9 #[.string s] y1 fun r w' => PpOut y1.heap.size y1 (D1, D2, D3) r w') := c3.out _ KY1
      go_wp2_with fail
      refine ctPpa.out.mono ?_
      rintro r x1 ⟨hx1, pd, cd, rfl, hod⟩
      dsimp only at hod ⊢
      have K1pa : Below w.heap.size w x1 := KY1.trans (hx1.mono KY1.size)
      clear ctPpa d0 d1
      rcases RO.out with ⟨r1, r2⟩ | ⟨r1, r2, r3⟩
      · injection r2 with r2 r3
        subst r2 r3
        have hne : (D1 != 0) = true := by simp [r1]
        have hne' : ¬ D1 = 0 := r1
        simp only [List.length_nil]
        clear hod hx1
        go_wp2_with fail
        refine (c5.out _ (K1pa.alloc K1pa.size _)).mono ?_
        rintro r x2 ⟨rfl, hx2⟩
        have e0 : x2.cell? ⟨x1.heap.size, 0, none⟩ = some (.int .i64 0) := (hx2.cell (p := ⟨x1.heap.size, 0, none⟩) (by simp)).trans (by simp [go_sem])
        have e1 : x2.cell? ⟨x1.heap.size, 1, none⟩ = some (.slice pd 0 cd) := (hx2.cell (p := ⟨x1.heap.size, 1, none⟩) (by simp)).trans (by simp [go_sem])
        obtain ⟨hx3, -⟩ := bgX (n := x1.heap.size) (W0 := x1) (by go_grown) (by go_size) hx2
        have K2 : Below w.heap.size w x2 := K1pa.trans (hx3.mono K1pa.size)
        clear hx2 hx3 c5
        go_wp2
        go_ret
        exact ⟨by first | rfl | simp, K2⟩
      · subst r1
        obtain ⟨m3, em3⟩ : ∃ m : Nat, Hid (D3.length = m) := ⟨_, rfl⟩
        have HOd : Hid (OwnE y1.heap.size (.slice pd m3 cd) D3 x1) := by have h := hod; rwa [em3.out] at h
        rw [em3.out]
        clear hod
        have ct4 : Hid (Calls Tryz.prog 8 #[.agg #[.int .i64 D2, .slice pd m3 cd]] (x1.alloc (.cells #[.int .i64 D2, .slice pd m3 cd] 25)) fun r w' => r = .returned (.tuple #[.string ⟨(ppT D2 D3).toArray⟩, .int .i64 (ppE D2 D3)]) ∧ Below (x1.alloc (.cells #[.int .i64 D2, .slice pd m3 cd] 25)).heap.size (x1.alloc (.cells #[.int .i64 D2, .slice pd m3 cd] 25)) w') := c4.out _ _ (K1pa.alloc K1pa.size _) ((HOd.out.below ((Below.refl _ _).alloc (Nat.le_refl _) _)).at) rfl
        have BK := BK3.out rfl
        have BP := BP3.out rfl
        generalize ppE D2 D3 = E4 at ct4 BK BP
        generalize (⟨(ppT D2 D3).toArray⟩ : ByteArray) = Q4 at ct4 BK
        go_wp2_with fail
        refine ct4.out.mono ?_
        rintro r x2 ⟨rfl, hx2⟩
        have e0 : x2.cell? ⟨x1.heap.size, 0, none⟩ = some (.int .i64 D2) := (hx2.cell (p := ⟨x1.heap.size, 0, none⟩) (by simp)).trans (by simp [go_sem])
        have e1 : x2.cell? ⟨x1.heap.size, 1, none⟩ = some (.slice pd m3 cd) := (hx2.cell (p := ⟨x1.heap.size, 1, none⟩) (by simp)).trans (by simp [go_sem])
        have hz2 : x1.heap.size < x2.heap.size := by have := hx2.size; simp at this; omega
        obtain ⟨hx3, -⟩ := bgX (n := x1.heap.size) (W0 := x1) (by go_grown) (by go_size) hx2
        have K2 : Below w.heap.size w x2 := K1pa.trans (hx3.mono K1pa.size)
        have HOe : Hid (OwnE y1.heap.size (.slice pd m3 cd) D3 x2) := HOd.out.below hx3
        clear hx2 hx3 ct4 HOd
        rcases BP with h4 | h4
        · subst h4
          go_wp2_with fail
          refine (c5.out _ K2).mono ?_
          rintro r x3 ⟨rfl, hx3⟩
          have K3 : Below w.heap.size w x3 := K2.trans (hx3.mono K2.size)
          clear hx3 c5 e0 e1
          go_wp2
          go_ret
          exact ⟨by first | rfl | simp, K3⟩
        · subst h4
          have ct5 : Hid (Calls Tryz.prog 9 #[.string Q4] x2 fun r w' => PpOut x2.heap.size x2 (0, D2, D3) r w') := by
            have h := c6.out Q4 x2 K2
            rwa [BK rfl] at h
          go_wp2_with fail
          refine ct5.out.mono ?_
          rintro r x3 ⟨hx3, pf, cf, rfl, hof⟩
          dsimp only at hof ⊢
          have HOf : Hid (OwnE x2.heap.size (.slice pf m3 cf) D3 x3) := by have h := hof; rwa [em3.out] at h
          rw [em3.out]
          have f0 := (hx3.cell (p := ⟨x1.heap.size, 0, none⟩) hz2).trans e0
          have f1 := (hx3.cell (p := ⟨x1.heap.size, 1, none⟩) hz2).trans e1
          have hz3 : x1.heap.size < x3.heap.size := Nat.lt_of_lt_of_le hz2 hx3.size
          have K3 : Below w.heap.size w x3 := K2.trans (hx3.mono K2.size)
          have HOg : Hid (OwnE y1.heap.size (.slice pd m3 cd) D3 x3) := HOe.out.below hx3
          clear hof hx3 ct5 e0 e1 HOe
          go_wp2_with fail
          refine (c5.out _ (K3.alloc K3.size _)).mono ?_
          rintro r x4 ⟨rfl, hx4⟩
          have g0 : x4.cell? ⟨x3.heap.size, 0, none⟩ = some (.int .i64 D2) := (hx4.cell (p := ⟨x3.heap.size, 0, none⟩) (by simp)).trans (by simp [go_sem])
          have g1 : x4.cell? ⟨x3.heap.size, 1, none⟩ = some (.slice pf m3 cf) := (hx4.cell (p := ⟨x3.heap.size, 1, none⟩) (by simp)).trans (by simp [go_sem])
          obtain ⟨hx5, -⟩ := bgX (n := x3.heap.size) (W0 := x3) (by go_grown) (by go_size) hx4
          have f0' := (hx5.cell (p := ⟨x1.heap.size, 0, none⟩) hz3).trans f0
          have f1' := (hx5.cell (p := ⟨x1.heap.size, 1, none⟩) hz3).trans f1
          have K4 : Below w.heap.size w x4 := K3.trans (hx5.mono K3.size)
          have ct6 : Hid (Calls Tryz.prog 10 #[.agg #[.int .i64 D2, .slice pd m3 cd], .agg #[.int .i64 D2, .slice pf m3 cf]] x4 fun r w' => r = .returned (.bool true) ∧ Below x4.heap.size x4 w') := c7.out x4 _ _ ((HOg.out.below hx5).at) ((HOf.out.below hx5).at)
          clear hx4 hx5 f0 f1 HOf HOg c5
          go_wp2_with fail
          refine ct6.out.mono ?_
          rintro r x5 ⟨rfl, hx6⟩
          have K5 : Below w.heap.size w x5 := K4.trans (hx6.mono K4.size)
          clear ct6 hx6 f0' f1' g0 g1
          go_wp2
          go_ret
          exact ⟨by first | rfl | simp, K5⟩
    have ctRp : Hid (Calls Tryz.prog 9 #[.string Q2] y1 fun r w' => PpOut y1.heap.size y1 (0, t, es) r w') := by
      have h := c6.out Q2 y1 KY1
      rwa [BQ.out hF] at h
    subst hF
    go_wp2_with fail
    refine ctRp.out.mono ?_
    rintro r y2 ⟨hy2, pq, cq, rfl, hoq⟩
    dsimp only at hoq ⊢
    have HOq : Hid (OwnE y1.heap.size (.slice pq me cq) es y2) := by have h := hoq; rwa [eme.out] at h
    rw [eme.out]
    have KY2 : Below w.heap.size w y2 := KY1.trans (hy2.mono KY1.size)
    have d0' := (hy2.cell (p := ⟨w.heap.size, 0, none⟩) hsy).trans d0
    have d1' := (hy2.cell (p := ⟨w.heap.size, 1, none⟩) hsy).trans d1
    have hsy2 : w.heap.size < y2.heap.size := Nat.lt_of_lt_of_le hsy hy2.size
    clear ctRp hy2 hoq d0 d1
    have ctSp : Hid (Calls Tryz.prog 10 #[.agg #[.int .i64 t, .slice pV me cV], .agg #[.int .i64 t, .slice pq me cq]] (y2.alloc (.cells #[.int .i64 t, .slice pq me cq] 25)) fun r w' => r = .returned (.bool true) ∧ Below (y2.alloc (.cells #[.int .i64 t, .slice pq me cq] 25)).heap.size (y2.alloc (.cells #[.int .i64 t, .slice pq me cq] 25)) w') := c8.out _ _ (KY2.alloc KY2.size _) ((HOq.out.below ((Below.refl _ _).alloc (Nat.le_refl _) _)).at)
    go_wp2_with fail
    refine ctSp.out.mono ?_
    rintro r y3 ⟨rfl, hy3⟩
    obtain ⟨hy4, -⟩ := bgX (n := y2.heap.size) (W0 := y2) (by go_grown) (by go_size) hy3
    have KY3 : Below w.heap.size w y3 := KY2.trans (hy4.mono KY2.size)
    have d0 := (hy4.cell (p := ⟨w.heap.size, 0, none⟩) hsy2).trans d0'
    have d1 := (hy4.cell (p := ⟨w.heap.size, 1, none⟩) hsy2).trans d1'
    clear ctSp hy3 hy4 d0' d1' HOq
    have ctPpb : Hid (Calls Tryz.prog 9 #[.string s] y3 fun r w' => PpOut y3.heap.size y3 (D1, D2, D3) r w') := c3.out _ KY3
    go_wp2_with fail
    refine ctPpb.out.mono ?_
    rintro r x1 ⟨hx1, pd, cd, rfl, hod⟩
    dsimp only at hod ⊢
    have K1pb : Below w.heap.size w x1 := KY3.trans (hx1.mono KY3.size)
    clear ctPpb d0 d1
    rcases RO.out with ⟨r1, r2⟩ | ⟨r1, r2, r3⟩
    · injection r2 with r2 r3
      subst r2 r3
      have hne : (D1 != 0) = true := by simp [r1]
      have hne' : ¬ D1 = 0 := r1
      simp only [List.length_nil]
      clear hod hx1
      go_wp2_with fail
      refine (c5.out _ (K1pb.alloc K1pb.size _)).mono ?_
      rintro r x2 ⟨rfl, hx2⟩
      have e0 : x2.cell? ⟨x1.heap.size, 0, none⟩ = some (.int .i64 0) := (hx2.cell (p := ⟨x1.heap.size, 0, none⟩) (by simp)).trans (by simp [go_sem])
      have e1 : x2.cell? ⟨x1.heap.size, 1, none⟩ = some (.slice pd 0 cd) := (hx2.cell (p := ⟨x1.heap.size, 1, none⟩) (by simp)).trans (by simp [go_sem])
      obtain ⟨hx3, -⟩ := bgX (n := x1.heap.size) (W0 := x1) (by go_grown) (by go_size) hx2
      have K2 : Below w.heap.size w x2 := K1pb.trans (hx3.mono K1pb.size)
      clear hx2 hx3 c5
      go_wp2
      go_ret
      exact ⟨by first | rfl | simp, K2⟩
    · subst r1
      obtain ⟨m3, em3⟩ : ∃ m : Nat, Hid (D3.length = m) := ⟨_, rfl⟩
      have HOd : Hid (OwnE y3.heap.size (.slice pd m3 cd) D3 x1) := by have h := hod; rwa [em3.out] at h
      rw [em3.out]
      clear hod
      have ct4 : Hid (Calls Tryz.prog 8 #[.agg #[.int .i64 D2, .slice pd m3 cd]] (x1.alloc (.cells #[.int .i64 D2, .slice pd m3 cd] 25)) fun r w' => r = .returned (.tuple #[.string ⟨(ppT D2 D3).toArray⟩, .int .i64 (ppE D2 D3)]) ∧ Below (x1.alloc (.cells #[.int .i64 D2, .slice pd m3 cd] 25)).heap.size (x1.alloc (.cells #[.int .i64 D2, .slice pd m3 cd] 25)) w') := c4.out _ _ (K1pb.alloc K1pb.size _) ((HOd.out.below ((Below.refl _ _).alloc (Nat.le_refl _) _)).at) rfl
      have BK := BK3.out rfl
      have BP := BP3.out rfl
      generalize ppE D2 D3 = E4 at ct4 BK BP
      generalize (⟨(ppT D2 D3).toArray⟩ : ByteArray) = Q4 at ct4 BK
      go_wp2_with fail
      refine ct4.out.mono ?_
      rintro r x2 ⟨rfl, hx2⟩
      have e0 : x2.cell? ⟨x1.heap.size, 0, none⟩ = some (.int .i64 D2) := (hx2.cell (p := ⟨x1.heap.size, 0, none⟩) (by simp)).trans (by simp [go_sem])
      have e1 : x2.cell? ⟨x1.heap.size, 1, none⟩ = some (.slice pd m3 cd) := (hx2.cell (p := ⟨x1.heap.size, 1, none⟩) (by simp)).trans (by simp [go_sem])
      have hz2 : x1.heap.size < x2.heap.size := by have := hx2.size; simp at this; omega
      obtain ⟨hx3, -⟩ := bgX (n := x1.heap.size) (W0 := x1) (by go_grown) (by go_size) hx2
      have K2 : Below w.heap.size w x2 := K1pb.trans (hx3.mono K1pb.size)
      have HOe : Hid (OwnE y3.heap.size (.slice pd m3 cd) D3 x2) := HOd.out.below hx3
      clear hx2 hx3 ct4 HOd
      rcases BP with h4 | h4
      · subst h4
        go_wp2_with fail
        refine (c5.out _ K2).mono ?_
        rintro r x3 ⟨rfl, hx3⟩
        have K3 : Below w.heap.size w x3 := K2.trans (hx3.mono K2.size)
        clear hx3 c5 e0 e1
        go_wp2
        go_ret
        exact ⟨by first | rfl | simp, K3⟩
      · subst h4
        have ct5 : Hid (Calls Tryz.prog 9 #[.string Q4] x2 fun r w' => PpOut x2.heap.size x2 (0, D2, D3) r w') := by
          have h := c6.out Q4 x2 K2
          rwa [BK rfl] at h
        go_wp2_with fail
        refine ct5.out.mono ?_
        rintro r x3 ⟨hx3, pf, cf, rfl, hof⟩
        dsimp only at hof ⊢
        have HOf : Hid (OwnE x2.heap.size (.slice pf m3 cf) D3 x3) := by have h := hof; rwa [em3.out] at h
        rw [em3.out]
        have f0 := (hx3.cell (p := ⟨x1.heap.size, 0, none⟩) hz2).trans e0
        have f1 := (hx3.cell (p := ⟨x1.heap.size, 1, none⟩) hz2).trans e1
        have hz3 : x1.heap.size < x3.heap.size := Nat.lt_of_lt_of_le hz2 hx3.size
        have K3 : Below w.heap.size w x3 := K2.trans (hx3.mono K2.size)
        have HOg : Hid (OwnE y3.heap.size (.slice pd m3 cd) D3 x3) := HOe.out.below hx3
        clear hof hx3 ct5 e0 e1 HOe
        go_wp2_with fail
        refine (c5.out _ (K3.alloc K3.size _)).mono ?_
        rintro r x4 ⟨rfl, hx4⟩
        have g0 : x4.cell? ⟨x3.heap.size, 0, none⟩ = some (.int .i64 D2) := (hx4.cell (p := ⟨x3.heap.size, 0, none⟩) (by simp)).trans (by simp [go_sem])
        have g1 : x4.cell? ⟨x3.heap.size, 1, none⟩ = some (.slice pf m3 cf) := (hx4.cell (p := ⟨x3.heap.size, 1, none⟩) (by simp)).trans (by simp [go_sem])
        obtain ⟨hx5, -⟩ := bgX (n := x3.heap.size) (W0 := x3) (by go_grown) (by go_size) hx4
        have f0' := (hx5.cell (p := ⟨x1.heap.size, 0, none⟩) hz3).trans f0
        have f1' := (hx5.cell (p := ⟨x1.heap.size, 1, none⟩) hz3).trans f1
        have K4 : Below w.heap.size w x4 := K3.trans (hx5.mono K3.size)
        have ct6 : Hid (Calls Tryz.prog 10 #[.agg #[.int .i64 D2, .slice pd m3 cd], .agg #[.int .i64 D2, .slice pf m3 cf]] x4 fun r w' => r = .returned (.bool true) ∧ Below x4.heap.size x4 w') := c7.out x4 _ _ ((HOg.out.below hx5).at) ((HOf.out.below hx5).at)
        clear hx4 hx5 f0 f1 HOf HOg c5
        go_wp2_with fail
        refine ct6.out.mono ?_
        rintro r x5 ⟨rfl, hx6⟩
        have K5 : Below w.heap.size w x5 := K4.trans (hx6.mono K4.size)
        clear ct6 hx6 f0' f1' g0 g1
        go_wp2
        go_ret
        exact ⟨by first | rfl | simp, K5⟩
  have hq := hsm.out hE
  have ctG : Hid (Calls Tryz.prog 6 #[.string Q1] w1 fun r w' => PsOut w1.heap.size w1 (0, 0, L) r w') := c9.out w1 K1 hE
  subst hE
  clear c9 hsm
  go_wp2_with fail
  refine ctG.out.mono ?_
  rintro r w2 ⟨hb2, pb, cb, rfl, hob⟩
  dsimp only at hob ⊢
  have HOb : Hid (OwnG w1.heap.size (.slice pb mL cb) L w2) := by have h := hob; rwa [emL.out] at h
  rw [emL.out]
  have K2 : Below w.heap.size w w2 := K1.trans (hb2.mono K1.size)
  have b0' := (hb2.cell (p := ⟨w.heap.size, 0, none⟩) hs1).trans b0
  have b1' := (hb2.cell (p := ⟨w.heap.size, 1, none⟩) hs1).trans b1
  have hs2 : w.heap.size < w2.heap.size := Nat.lt_of_lt_of_le hs1 hb2.size
  clear ctG hb2 hob b0 b1
  have ctH : Hid (Calls Tryz.prog 7 #[.slice pA mL cA, .slice pb mL cb] (w2.alloc (.cells #[.int .i64 0, .int .i64 0] 30)) fun r w' => r = .returned (.bool true) ∧ Below (w2.alloc (.cells #[.int .i64 0, .int .i64 0] 30)).heap.size (w2.alloc (.cells #[.int .i64 0, .int .i64 0] 30)) w') := cSS.out _ _ (K2.alloc K2.size _) ((HOb.out.below ((Below.refl _ _).alloc (Nat.le_refl _) _)).at)
  go_wp2_with fail
  refine ctH.out.mono ?_
  rintro r w3 ⟨rfl, hb3⟩
  obtain ⟨hb4, -⟩ := bgX (n := w2.heap.size) (W0 := w2) (by go_grown) (by go_size) hb3
  have K3 : Below w.heap.size w w3 := K2.trans (hb4.mono K2.size)
  have a0 := (hb4.cell (p := ⟨w.heap.size, 0, none⟩) hs2).trans b0'
  have a1 := (hb4.cell (p := ⟨w.heap.size, 1, none⟩) hs2).trans b1'
  have hs3 : w.heap.size < w3.heap.size := Nat.lt_of_lt_of_le hs2 hb4.size
  clear ctH hb3 hb4 b0' b1' HOb cSS
  have ct2q : Hid (Calls Tryz.prog 8 #[.agg #[.int .i64 t, .slice pV me cV]] w3 fun r w' => r = .returned (.tuple #[.string Q2, .int .i64 E2]) ∧ Below w3.heap.size w3 w') := c2.out _ K3
  go_wp2_with fail
  refine ct2q.out.mono ?_
  rintro r y1 ⟨rfl, hy1⟩
  have KY1 : Below w.heap.size w y1 := K3.trans (hy1.mono K3.size)
  have d0 := (hy1.cell (p := ⟨w.heap.size, 0, none⟩) hs3).trans a0
  have d1 := (hy1.cell (p := ⟨w.heap.size, 1, none⟩) hs3).trans a1
  have hsy : w.heap.size < y1.heap.size := Nat.lt_of_lt_of_le hs3 hy1.size
  clear ct2q hy1 a0 a1
  by_cases hF : E2 = 0
  case neg =>
    have hF' : (E2 == 0) = false := by simp [hF]
    have hF'' : ¬ E2 = 0 := hF
    have ctPqa : Hid (Calls Tryz.prog 9 #[.string s] y1 fun r w' => PpOut y1.heap.size y1 (D1, D2, D3) r w') := c3.out _ KY1
    go_wp2_with fail
    refine ctPqa.out.mono ?_
    rintro r x1 ⟨hx1, pd, cd, rfl, hod⟩
    dsimp only at hod ⊢
    have K1qa : Below w.heap.size w x1 := KY1.trans (hx1.mono KY1.size)
    clear ctPqa d0 d1
    rcases RO.out with ⟨r1, r2⟩ | ⟨r1, r2, r3⟩
    · injection r2 with r2 r3
      subst r2 r3
      have hne : (D1 != 0) = true := by simp [r1]
      have hne' : ¬ D1 = 0 := r1
      simp only [List.length_nil]
      clear hod hx1
      go_wp2_with fail
      refine (c5.out _ (K1qa.alloc K1qa.size _)).mono ?_
      rintro r x2 ⟨rfl, hx2⟩
      have e0 : x2.cell? ⟨x1.heap.size, 0, none⟩ = some (.int .i64 0) := (hx2.cell (p := ⟨x1.heap.size, 0, none⟩) (by simp)).trans (by simp [go_sem])
      have e1 : x2.cell? ⟨x1.heap.size, 1, none⟩ = some (.slice pd 0 cd) := (hx2.cell (p := ⟨x1.heap.size, 1, none⟩) (by simp)).trans (by simp [go_sem])
      obtain ⟨hx3, -⟩ := bgX (n := x1.heap.size) (W0 := x1) (by go_grown) (by go_size) hx2
      have K2 : Below w.heap.size w x2 := K1qa.trans (hx3.mono K1qa.size)
      clear hx2 hx3 c5
      go_wp2
      go_ret
      exact ⟨by first | rfl | simp, K2⟩
    · subst r1
      obtain ⟨m3, em3⟩ : ∃ m : Nat, Hid (D3.length = m) := ⟨_, rfl⟩
      have HOd : Hid (OwnE y1.heap.size (.slice pd m3 cd) D3 x1) := by have h := hod; rwa [em3.out] at h
      rw [em3.out]
      clear hod
      have ct4 : Hid (Calls Tryz.prog 8 #[.agg #[.int .i64 D2, .slice pd m3 cd]] (x1.alloc (.cells #[.int .i64 D2, .slice pd m3 cd] 25)) fun r w' => r = .returned (.tuple #[.string ⟨(ppT D2 D3).toArray⟩, .int .i64 (ppE D2 D3)]) ∧ Below (x1.alloc (.cells #[.int .i64 D2, .slice pd m3 cd] 25)).heap.size (x1.alloc (.cells #[.int .i64 D2, .slice pd m3 cd] 25)) w') := c4.out _ _ (K1qa.alloc K1qa.size _) ((HOd.out.below ((Below.refl _ _).alloc (Nat.le_refl _) _)).at) rfl
      have BK := BK3.out rfl
      have BP := BP3.out rfl
      generalize ppE D2 D3 = E4 at ct4 BK BP
      generalize (⟨(ppT D2 D3).toArray⟩ : ByteArray) = Q4 at ct4 BK
      go_wp2_with fail
      refine ct4.out.mono ?_
      rintro r x2 ⟨rfl, hx2⟩
      have e0 : x2.cell? ⟨x1.heap.size, 0, none⟩ = some (.int .i64 D2) := (hx2.cell (p := ⟨x1.heap.size, 0, none⟩) (by simp)).trans (by simp [go_sem])
      have e1 : x2.cell? ⟨x1.heap.size, 1, none⟩ = some (.slice pd m3 cd) := (hx2.cell (p := ⟨x1.heap.size, 1, none⟩) (by simp)).trans (by simp [go_sem])
      have hz2 : x1.heap.size < x2.heap.size := by have := hx2.size; simp at this; omega
      obtain ⟨hx3, -⟩ := bgX (n := x1.heap.size) (W0 := x1) (by go_grown) (by go_size) hx2
      have K2 : Below w.heap.size w x2 := K1qa.trans (hx3.mono K1qa.size)
      have HOe : Hid (OwnE y1.heap.size (.slice pd m3 cd) D3 x2) := HOd.out.below hx3
      clear hx2 hx3 ct4 HOd
      rcases BP with h4 | h4
      · subst h4
        go_wp2_with fail
        refine (c5.out _ K2).mono ?_
        rintro r x3 ⟨rfl, hx3⟩
        have K3 : Below w.heap.size w x3 := K2.trans (hx3.mono K2.size)
        clear hx3 c5 e0 e1
        go_wp2
        go_ret
        exact ⟨by first | rfl | simp, K3⟩
      · subst h4
        have ct5 : Hid (Calls Tryz.prog 9 #[.string Q4] x2 fun r w' => PpOut x2.heap.size x2 (0, D2, D3) r w') := by
          have h := c6.out Q4 x2 K2
          rwa [BK rfl] at h
        go_wp2_with fail
        refine ct5.out.mono ?_
        rintro r x3 ⟨hx3, pf, cf, rfl, hof⟩
        dsimp only at hof ⊢
        have HOf : Hid (OwnE x2.heap.size (.slice pf m3 cf) D3 x3) := by have h := hof; rwa [em3.out] at h
        rw [em3.out]
        have f0 := (hx3.cell (p := ⟨x1.heap.size, 0, none⟩) hz2).trans e0
        have f1 := (hx3.cell (p := ⟨x1.heap.size, 1, none⟩) hz2).trans e1
        have hz3 : x1.heap.size < x3.heap.size := Nat.lt_of_lt_of_le hz2 hx3.size
        have K3 : Below w.heap.size w x3 := K2.trans (hx3.mono K2.size)
        have HOg : Hid (OwnE y1.heap.size (.slice pd m3 cd) D3 x3) := HOe.out.below hx3
        clear hof hx3 ct5 e0 e1 HOe
        go_wp2_with fail
        refine (c5.out _ (K3.alloc K3.size _)).mono ?_
        rintro r x4 ⟨rfl, hx4⟩
        have g0 : x4.cell? ⟨x3.heap.size, 0, none⟩ = some (.int .i64 D2) := (hx4.cell (p := ⟨x3.heap.size, 0, none⟩) (by simp)).trans (by simp [go_sem])
        have g1 : x4.cell? ⟨x3.heap.size, 1, none⟩ = some (.slice pf m3 cf) := (hx4.cell (p := ⟨x3.heap.size, 1, none⟩) (by simp)).trans (by simp [go_sem])
        obtain ⟨hx5, -⟩ := bgX (n := x3.heap.size) (W0 := x3) (by go_grown) (by go_size) hx4
        have f0' := (hx5.cell (p := ⟨x1.heap.size, 0, none⟩) hz3).trans f0
        have f1' := (hx5.cell (p := ⟨x1.heap.size, 1, none⟩) hz3).trans f1
        have K4 : Below w.heap.size w x4 := K3.trans (hx5.mono K3.size)
        have ct6 : Hid (Calls Tryz.prog 10 #[.agg #[.int .i64 D2, .slice pd m3 cd], .agg #[.int .i64 D2, .slice pf m3 cf]] x4 fun r w' => r = .returned (.bool true) ∧ Below x4.heap.size x4 w') := c7.out x4 _ _ ((HOg.out.below hx5).at) ((HOf.out.below hx5).at)
        clear hx4 hx5 f0 f1 HOf HOg c5
        go_wp2_with fail
        refine ct6.out.mono ?_
        rintro r x5 ⟨rfl, hx6⟩
        have K5 : Below w.heap.size w x5 := K4.trans (hx6.mono K4.size)
        clear ct6 hx6 f0' f1' g0 g1
        go_wp2
        go_ret
        exact ⟨by first | rfl | simp, K5⟩
  have ctRq : Hid (Calls Tryz.prog 9 #[.string Q2] y1 fun r w' => PpOut y1.heap.size y1 (0, t, es) r w') := by
    have h := c6.out Q2 y1 KY1
    rwa [BQ.out hF] at h
  subst hF
  go_wp2_with fail
  refine ctRq.out.mono ?_
  rintro r y2 ⟨hy2, pq, cq, rfl, hoq⟩
  dsimp only at hoq ⊢
  have HOq : Hid (OwnE y1.heap.size (.slice pq me cq) es y2) := by have h := hoq; rwa [eme.out] at h
  rw [eme.out]
  have KY2 : Below w.heap.size w y2 := KY1.trans (hy2.mono KY1.size)
  have d0' := (hy2.cell (p := ⟨w.heap.size, 0, none⟩) hsy).trans d0
  have d1' := (hy2.cell (p := ⟨w.heap.size, 1, none⟩) hsy).trans d1
  have hsy2 : w.heap.size < y2.heap.size := Nat.lt_of_lt_of_le hsy hy2.size
  clear ctRq hy2 hoq d0 d1
  have ctSq : Hid (Calls Tryz.prog 10 #[.agg #[.int .i64 t, .slice pV me cV], .agg #[.int .i64 t, .slice pq me cq]] (y2.alloc (.cells #[.int .i64 t, .slice pq me cq] 25)) fun r w' => r = .returned (.bool true) ∧ Below (y2.alloc (.cells #[.int .i64 t, .slice pq me cq] 25)).heap.size (y2.alloc (.cells #[.int .i64 t, .slice pq me cq] 25)) w') := c8.out _ _ (KY2.alloc KY2.size _) ((HOq.out.below ((Below.refl _ _).alloc (Nat.le_refl _) _)).at)
  go_wp2_with fail
  refine ctSq.out.mono ?_
  rintro r y3 ⟨rfl, hy3⟩
  obtain ⟨hy4, -⟩ := bgX (n := y2.heap.size) (W0 := y2) (by go_grown) (by go_size) hy3
  have KY3 : Below w.heap.size w y3 := KY2.trans (hy4.mono KY2.size)
  have d0 := (hy4.cell (p := ⟨w.heap.size, 0, none⟩) hsy2).trans d0'
  have d1 := (hy4.cell (p := ⟨w.heap.size, 1, none⟩) hsy2).trans d1'
  clear ctSq hy3 hy4 d0' d1' HOq
  have ctPqb : Hid (Calls Tryz.prog 9 #[.string s] y3 fun r w' => PpOut y3.heap.size y3 (D1, D2, D3) r w') := c3.out _ KY3
  go_wp2_with fail
  refine ctPqb.out.mono ?_
  rintro r x1 ⟨hx1, pd, cd, rfl, hod⟩
  dsimp only at hod ⊢
  have K1qb : Below w.heap.size w x1 := KY3.trans (hx1.mono KY3.size)
  clear ctPqb d0 d1
  rcases RO.out with ⟨r1, r2⟩ | ⟨r1, r2, r3⟩
  · injection r2 with r2 r3
    subst r2 r3
    have hne : (D1 != 0) = true := by simp [r1]
    have hne' : ¬ D1 = 0 := r1
    simp only [List.length_nil]
    clear hod hx1
    go_wp2_with fail
    refine (c5.out _ (K1qb.alloc K1qb.size _)).mono ?_
    rintro r x2 ⟨rfl, hx2⟩
    have e0 : x2.cell? ⟨x1.heap.size, 0, none⟩ = some (.int .i64 0) := (hx2.cell (p := ⟨x1.heap.size, 0, none⟩) (by simp)).trans (by simp [go_sem])
    have e1 : x2.cell? ⟨x1.heap.size, 1, none⟩ = some (.slice pd 0 cd) := (hx2.cell (p := ⟨x1.heap.size, 1, none⟩) (by simp)).trans (by simp [go_sem])
    obtain ⟨hx3, -⟩ := bgX (n := x1.heap.size) (W0 := x1) (by go_grown) (by go_size) hx2
    have K2 : Below w.heap.size w x2 := K1qb.trans (hx3.mono K1qb.size)
    clear hx2 hx3 c5
    go_wp2
    go_ret
    exact ⟨by first | rfl | simp, K2⟩
  · subst r1
    obtain ⟨m3, em3⟩ : ∃ m : Nat, Hid (D3.length = m) := ⟨_, rfl⟩
    have HOd : Hid (OwnE y3.heap.size (.slice pd m3 cd) D3 x1) := by have h := hod; rwa [em3.out] at h
    rw [em3.out]
    clear hod
    have ct4 : Hid (Calls Tryz.prog 8 #[.agg #[.int .i64 D2, .slice pd m3 cd]] (x1.alloc (.cells #[.int .i64 D2, .slice pd m3 cd] 25)) fun r w' => r = .returned (.tuple #[.string ⟨(ppT D2 D3).toArray⟩, .int .i64 (ppE D2 D3)]) ∧ Below (x1.alloc (.cells #[.int .i64 D2, .slice pd m3 cd] 25)).heap.size (x1.alloc (.cells #[.int .i64 D2, .slice pd m3 cd] 25)) w') := c4.out _ _ (K1qb.alloc K1qb.size _) ((HOd.out.below ((Below.refl _ _).alloc (Nat.le_refl _) _)).at) rfl
    have BK := BK3.out rfl
    have BP := BP3.out rfl
    generalize ppE D2 D3 = E4 at ct4 BK BP
    generalize (⟨(ppT D2 D3).toArray⟩ : ByteArray) = Q4 at ct4 BK
    go_wp2_with fail
    refine ct4.out.mono ?_
    rintro r x2 ⟨rfl, hx2⟩
    have e0 : x2.cell? ⟨x1.heap.size, 0, none⟩ = some (.int .i64 D2) := (hx2.cell (p := ⟨x1.heap.size, 0, none⟩) (by simp)).trans (by simp [go_sem])
    have e1 : x2.cell? ⟨x1.heap.size, 1, none⟩ = some (.slice pd m3 cd) := (hx2.cell (p := ⟨x1.heap.size, 1, none⟩) (by simp)).trans (by simp [go_sem])
    have hz2 : x1.heap.size < x2.heap.size := by have := hx2.size; simp at this; omega
    obtain ⟨hx3, -⟩ := bgX (n := x1.heap.size) (W0 := x1) (by go_grown) (by go_size) hx2
    have K2 : Below w.heap.size w x2 := K1qb.trans (hx3.mono K1qb.size)
    have HOe : Hid (OwnE y3.heap.size (.slice pd m3 cd) D3 x2) := HOd.out.below hx3
    clear hx2 hx3 ct4 HOd
    rcases BP with h4 | h4
    · subst h4
      go_wp2_with fail
      refine (c5.out _ K2).mono ?_
      rintro r x3 ⟨rfl, hx3⟩
      have K3 : Below w.heap.size w x3 := K2.trans (hx3.mono K2.size)
      clear hx3 c5 e0 e1
      go_wp2
      go_ret
      exact ⟨by first | rfl | simp, K3⟩
    · subst h4
      have ct5 : Hid (Calls Tryz.prog 9 #[.string Q4] x2 fun r w' => PpOut x2.heap.size x2 (0, D2, D3) r w') := by
        have h := c6.out Q4 x2 K2
        rwa [BK rfl] at h
      go_wp2_with fail
      refine ct5.out.mono ?_
      rintro r x3 ⟨hx3, pf, cf, rfl, hof⟩
      dsimp only at hof ⊢
      have HOf : Hid (OwnE x2.heap.size (.slice pf m3 cf) D3 x3) := by have h := hof; rwa [em3.out] at h
      rw [em3.out]
      have f0 := (hx3.cell (p := ⟨x1.heap.size, 0, none⟩) hz2).trans e0
      have f1 := (hx3.cell (p := ⟨x1.heap.size, 1, none⟩) hz2).trans e1
      have hz3 : x1.heap.size < x3.heap.size := Nat.lt_of_lt_of_le hz2 hx3.size
      have K3 : Below w.heap.size w x3 := K2.trans (hx3.mono K2.size)
      have HOg : Hid (OwnE y3.heap.size (.slice pd m3 cd) D3 x3) := HOe.out.below hx3
      clear hof hx3 ct5 e0 e1 HOe
      go_wp2_with fail
      refine (c5.out _ (K3.alloc K3.size _)).mono ?_
      rintro r x4 ⟨rfl, hx4⟩
      have g0 : x4.cell? ⟨x3.heap.size, 0, none⟩ = some (.int .i64 D2) := (hx4.cell (p := ⟨x3.heap.size, 0, none⟩) (by simp)).trans (by simp [go_sem])
      have g1 : x4.cell? ⟨x3.heap.size, 1, none⟩ = some (.slice pf m3 cf) := (hx4.cell (p := ⟨x3.heap.size, 1, none⟩) (by simp)).trans (by simp [go_sem])
      obtain ⟨hx5, -⟩ := bgX (n := x3.heap.size) (W0 := x3) (by go_grown) (by go_size) hx4
      have f0' := (hx5.cell (p := ⟨x1.heap.size, 0, none⟩) hz3).trans f0
      have f1' := (hx5.cell (p := ⟨x1.heap.size, 1, none⟩) hz3).trans f1
      have K4 : Below w.heap.size w x4 := K3.trans (hx5.mono K3.size)
      have ct6 : Hid (Calls Tryz.prog 10 #[.agg #[.int .i64 D2, .slice pd m3 cd], .agg #[.int .i64 D2, .slice pf m3 cf]] x4 fun r w' => r = .returned (.bool true) ∧ Below x4.heap.size x4 w') := c7.out x4 _ _ ((HOg.out.below hx5).at) ((HOf.out.below hx5).at)
      clear hx4 hx5 f0 f1 HOf HOg c5
      go_wp2_with fail
      refine ct6.out.mono ?_
      rintro r x5 ⟨rfl, hx6⟩
      have K5 : Below w.heap.size w x5 := K4.trans (hx6.mono K4.size)
      clear ct6 hx6 f0' f1' g0 g1
      go_wp2
      go_ret
      exact ⟨by first | rfl | simp, K5⟩
end Go.Proofs.YticmebamclacaabGreatDoor
