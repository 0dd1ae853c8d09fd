/- What the laws' own few calls answer. -/
import Derived.Test.YticmebamclacaabGreatDoorZ04
import Derived.Test.YticmebamclacaabGreatDoorZ02
import Derived.Test.YticmebamclacaabGreatDoorZ05
import Derived.Laws.StructEq

namespace Go.Proofs.YticmebamclacaabGreatDoor
open Go.RowKit LX Go.Shelf
set_option linter.unusedVariables false

/-- Why events may not be told. -/
def wevsE : List Evt → Int
  | [] => 0
  | e :: l => if wevE e = 0 then wevsE l else wevE e
def evsT : List Evt → List UInt8
  | [] => []
  | e :: l => evtT e ++ evsT l
def evW (e : Evt) : Nat := 301 * e.args.length + e.name.size + 500
def evsW : List Evt → Nat
  | [] => 0
  | e :: l => evW e + evsW l
theorem evsT_snoc (l : List Evt) (v : Evt) : evsT (l ++ [v]) = evsT l ++ evtT v := by
  induction l with
  | nil => simp [evsT]
  | cons x l ih => simp only [List.cons_append, evsT, ih, List.append_assoc]
theorem evsW_snoc (l : List Evt) (v : Evt) : evsW (l ++ [v]) = evsW l + evW v := by
  induction l with
  | nil => simp [evsW]
  | cons x l ih => simp only [List.cons_append, evsW, ih]; omega
theorem evsW_app (l r : List Evt) : evsW (l ++ r) = evsW l + evsW r := by
  induction l with
  | nil => simp [evsW]
  | cons x l ih => simp only [List.cons_append, evsW, ih]; omega
theorem evsW_take (l : List Evt) (k : Nat) (h : k < l.length) : evsW (l.take k) + evW l[k] ≤ evsW l := by
  have e1 : l.take (k + 1) = l.take k ++ [l[k]] := List.take_succ_eq_append_getElem h
  have e2 : evsW l = evsW (l.take (k + 1)) + evsW (l.drop (k + 1)) := by rw [← evsW_app, List.take_append_drop]
  rw [e2, e1, evsW_snoc]
  omega
theorem wevE_vals {e : Evt} (h : wevE e = 0) : nameB e.name = true ∧ valsE e.args = 0 := by
  unfold wevE at h
  by_cases hn : nameB e.name = true
  · rw [if_pos hn] at h; exact ⟨hn, h⟩
  · rw [if_neg hn] at h; cases h
theorem evtT_len {e : Evt} (h : wevE e = 0) (fx : ∀ v ∈ e.args, v.Fits) : (evtT e).length ≤ evW e := by
  obtain ⟨-, hv⟩ := wevE_vals h
  have h1 := argsT_len e.args (fun v hm => ⟨valsE_all hv v hm, fx v hm⟩)
  have h2 : e.name.data.toList.length = e.name.size := by simp
  unfold evtT evW
  simp only [List.length_append, List.length_cons, List.length_nil]
  omega
theorem evsT_len {l : List Evt} (h : ∀ e ∈ l, wevE e = 0) (fx : ∀ e ∈ l, ∀ v ∈ e.args, v.Fits) : (evsT l).length ≤ evsW l := by
  induction l with
  | nil => simp [evsT]
  | cons x l ih =>
    have h1 := evtT_len (h x (by simp)) (fx x (by simp))
    have h2 := ih (fun v hv => h v (by simp [hv])) (fun v hv => fx v (by simp [hv]))
    simp only [evsT, evsW, List.length_append]
    omega
/-- A point's line, and why it has none. -/
def lineT (t : Int) (es : List Evt) : List UInt8 := (64 :: Lib.itoa t) ++ evsT es
def ppE (t : Int) (es : List Evt) : Int := if sizeE t es.length = 0 then (if wevsE es = 0 then (if 4096 < (lineT t es).length then 2 else 0) else wevsE es) else sizeE t es.length
def ppT (t : Int) (es : List Evt) : List UInt8 := if ppE t es = 0 then lineT t es else []
theorem sizeE_ok {t : Int} {n : Nat} (h : sizeE t n = 0) : 0 ≤ t ∧ t ≤ 1099511627776 ∧ n ≤ 64 := by
  unfold sizeE at h
  split at h
  · cases h
  · split at h
    · cases h
    · omega
theorem ret2 {s : ByteArray} {E n : Int} {v : Value} {l : List UInt8} (hs : (⟨l.toArray⟩ : ByteArray) = s) (h : E = n) (hv : v = errV n) : Ending.returned (.tuple #[.string s, v]) = .returned (.tuple #[.string ⟨l.toArray⟩, errV E]) := by rw [h, hv, hs]

set_option maxRecDepth 100000 in
set_option maxHeartbeats 8000000 in
theorem ptext_any (V : Value) (t : Int) (es : List Evt) (w : World) (t1 : -9223372036854775808 ≤ t) (t2 : t ≤ 9223372036854775807) (hV : EvsAt w V es) (ht : Pow w) (fx : ∀ e ∈ es, ∀ v ∈ e.args, v.Fits) (lv : ∀ e ∈ es, e.args.length ≤ 9223372036854775807) (le : es.length ≤ 9223372036854775807) (hl : evsW es + 1000 ≤ 140737488355328) :
    Calls Tryz.prog 22 #[.agg #[.int .i64 t, V]] w fun r w' => r = .returned (.tuple #[.string ⟨(ppT t es).toArray⟩, errV (ppE t es)]) ∧ Below w.heap.size w w' := by
  obtain ⟨pv, cv, rfl, HY0⟩ := hV.form
  have HY : Hid (∀ i (hi : i < es.length), ∃ b off u, pv = some ⟨b, off, none⟩ ∧ b < w.heap.size ∧ w.cell? ⟨b, off + i * 2, none⟩ = some (.string es[i].name) ∧ w.cell? ⟨b, off + i * 2 + 1, none⟩ = some u ∧ RowAt w u es[i].args) := HY0
  have HT : Hid (Pow w) := ht
  have hp : Hid (ppE t es = if sizeE t es.length = 0 then (if wevsE es = 0 then (if 4096 < (lineT t es).length then 2 else 0) else wevsE es) else sizeE t es.length) := rfl
  have hq : Hid (ppT t es = if ppE t es = 0 then lineT t es else []) := rfl
  have lI := Lib.itoa_length_le t t1 t2
  clear hV HY0 ht
  obtain ⟨m, em⟩ : ∃ m : Nat, Hid (es.length = m) := ⟨_, rfl⟩
  obtain ⟨E, eE⟩ : ∃ E : Int, Hid (ppE t es = E) := ⟨_, rfl⟩
  obtain ⟨Q, eQ⟩ : ∃ Q : List UInt8, Hid (ppT t es = Q) := ⟨_, rfl⟩
  obtain ⟨Z, eZ⟩ : ∃ Z : Int, Hid (sizeE t m = Z) := ⟨_, rfl⟩
  rw [eE.out, em.out, eZ.out] at hp
  rw [eE.out, eQ.out] at hq
  rw [em.out] at le
  rw [eE.out, eQ.out, em.out]
  have cZ : Hid (∀ W : World, Calls Tryz.prog 32 #[.agg #[.int .i64 t, .slice pv m cv]] W fun e w' => e = .returned (errV Z) ∧ Below W.heap.size W w') := fun W => by
    have h := csize_any t pv m cv W
    rw [eZ.out] at h
    exact h
  go_enter Tryz.func22, Tryz.ntmps22
  by_cases hZ : Z = 0
  · have hp1 : Hid (E = if wevsE es = 0 then (if 4096 < (lineT t es).length then 2 else 0) else wevsE es) := by have h := hp.out; rwa [if_pos hZ] at h
    have h64 : m ≤ 64 := (sizeE_ok (eZ.out.trans hZ)).2.2
    subst hZ
    rw [errV_0] at cZ
    obtain ⟨A, eA⟩ : ∃ A : ByteArray, Hid (⟨(Lib.itoa t).toArray⟩ = A) := ⟨_, rfl⟩
    obtain ⟨S, eS⟩ : ∃ S : ByteArray, Hid (S = (⟨#[64]⟩ : ByteArray) ++ A) := ⟨_, rfl⟩
    have sA : A.size ≤ 21 := by rw [← eA.out]; show (Lib.itoa t).toArray.size ≤ 21; simpa using lI
    have x1 : ∀ W : World, (Op.stringOp .add ⟨#[64]⟩ A).run Tryz.prog W = .ok (.string S) W := fun W => by
      rw [run_string_add_sum W _ _ (by have : (⟨#[64]⟩ : ByteArray).size = 1 := rfl
                                       omega), eS.out]
    have sS : S.size ≤ 22 := by
      rw [eS.out, ByteArray.size_append]
      have : (⟨#[64]⟩ : ByteArray).size = 1 := rfl
      omega
    have lS : Hid (S.data.toList = 64 :: Lib.itoa t) := by unfold Hid; rw [eS.out, ← eA.out]; simp
    have cI : Hid (∀ W : World, Pow W → Calls Tryz.prog 33 #[.int .i64 t, .int .i64 10] W fun e w' => e = .returned (.string A) ∧ Below W.heap.size W w') := fun W hW => by
      refine (Tryz.strconv_FormatInt_10 t t1 t2 W hW).mono ?_
      rintro e w1 ⟨rfl, k, os, rfl⟩
      rw [eA.out]
      exact ⟨rfl, below_grow W k os⟩
    go_wp2_with fail
    refine (cZ.out _).mono ?_
    rintro e w1 ⟨rfl, hb1⟩
    have b0 : w1.cell? ⟨w.heap.size, 0, none⟩ = some (.int .i64 t) := (hb1.cell (p := ⟨w.heap.size, 0, none⟩) (by simp)).trans (by simp [go_sem])
    have b1 : w1.cell? ⟨w.heap.size, 1, none⟩ = some (.slice pv m cv) := (hb1.cell (p := ⟨w.heap.size, 1, none⟩) (by simp)).trans (by simp [go_sem])
    have hs1 : w.heap.size < w1.heap.size := by have := hb1.size; simp at this; omega
    obtain ⟨hB1, -⟩ := bgX (n := w.heap.size) (W0 := w) (by go_grown) (by go_size) hb1
    clear hb1 cZ
    go_wp2_with fail
    refine (cI.out _ (HT.out.below (hB1.trans (Below.mono (B := w1.heap.size) (by go_grown) hB1.size)))).mono ?_
    rintro e w2 ⟨rfl, hb2⟩
    have HB2 : Hid (Bld w1.heap.size w1.heap.size [] w2) := by
      have h0 : Bld w1.heap.size w1.heap.size [] (w1.alloc (.cells #[.pointer none, .slice none 0 0] 53)) := Lib.fresh_isBuilder _ _ w1
      exact h0.below hb2
    have hs2 : w1.heap.size < w2.heap.size := by have := hb2.size; simp at this; omega
    have c1 : w2.cell? ⟨w.heap.size, 1, none⟩ = some (.slice pv m cv) := (hb2.cell (p := ⟨w.heap.size, 1, none⟩) (by simp; omega)).trans (by rw [World.cell?_alloc_lt _ _ ⟨w.heap.size, 1, none⟩ hs1]; exact b1)
    obtain ⟨hB2, -⟩ := bgX (n := w1.heap.size) (W0 := w1) (by go_grown) (by go_size) hb2
    clear hb2 cI b0 b1
    go_wp2_with fail
    refine (wsB w1.heap.size w1.heap.size [] S _ HB2.out (by simp; omega) (by omega)).mono ?_
    rintro e w3 ⟨rfl, hb3, hB3, -⟩
    have d1 : w3.cell? ⟨w.heap.size, 1, none⟩ = some (.slice pv m cv) := (hB3.cell (p := ⟨w.heap.size, 1, none⟩) hs1).trans c1
    have K3 : Below w1.heap.size w1 w3 := hB2.trans hB3
    have HB3 : Hid (Bld w1.heap.size w1.heap.size (64 :: Lib.itoa t) w3) := by rw [← lS.out]; exact hb3
    have hs3 : w1.heap.size < w3.heap.size := Nat.lt_of_lt_of_le hs2 hB3.size
    clear hb3 hB3 hB2 HB2 c1 x1
    go_wp2
    go_loopw [22] (fun i wr => ∃ k : Nat, k ≤ m ∧ i = .int .i64 k ∧ Hid (wevsE es = wevsE (es.drop k)) ∧ Hid (∀ v ∈ es.take k, wevE v = 0) ∧ Hid (Bld w1.heap.size w1.heap.size ((64 :: Lib.itoa t) ++ evsT (es.take k)) wr) ∧ Below w1.heap.size w1 wr) (fun i _ => m - (intOf i).toNat)
    case atStart => exact ⟨0, Nat.zero_le _, rfl, by rw [List.drop_zero]; exact (show wevsE es = wevsE es from rfl), (fun v hv => by simp at hv), by simpa [evsT, Hid] using HB3.out, K3⟩
    case round =>
      obtain ⟨k, hk, rfl, hr, hok, hbl, hBw⟩ := hrel
      have lT : (evsT (es.take k)).length ≤ evsW (es.take k) := evsT_len hok.out (fun e he => fx e (List.mem_of_mem_take he))
      have lG : ((64 :: Lib.itoa t) ++ evsT (es.take k)).length ≤ evsW (es.take k) + 22 := by
        rw [List.length_append, List.length_cons]
        omega
      have hBww : Below w.heap.size w wr := hB1.trans (hBw.mono hB1.size)
      by_cases hlt : k < m
      · have kx : k < es.length := by have := em.out; omega
        obtain ⟨b, off, u, rfl, hb, r0, r1, r2⟩ := HY.out k kx
        have a0 := (hBww.cell (p := ⟨b, off + k * 2, none⟩) hb).trans r0
        have a1 := (hBww.cell (p := ⟨b, off + k * 2 + 1, none⟩) hb).trans r1
        have hr2 : Hid (wevsE es = if wevE es[k] = 0 then wevsE (es.drop (k + 1)) else wevE es[k]) := by
          have h := hr.out
          rw [List.drop_eq_getElem_cons kx] at h
          exact h
        have hbl2 : Hid (∀ W, Bld w1.heap.size w1.heap.size ((64 :: Lib.itoa t) ++ evsT (es.take k) ++ evtT es[k]) W → Bld w1.heap.size w1.heap.size ((64 :: Lib.itoa t) ++ evsT (es.take (k + 1))) W) := fun W h => by
          rw [List.take_succ_eq_append_getElem kx, evsT_snoc, ← List.append_assoc]
          exact h
        have hok2 : Hid (wevE es[k] = 0 → ∀ v ∈ es.take (k + 1), wevE v = 0) := fun hz v hv => by
          rw [List.take_succ_eq_append_getElem kx] at hv
          rcases List.mem_append.1 hv with hv | hv
          · exact hok.out v hv
          · rw [List.mem_singleton] at hv; rw [hv]; exact hz
        have hwk := evsW_take es k kx
        obtain ⟨D, eD⟩ : ∃ D : Int, Hid (wevE es[k] = D) := ⟨wevE es[k], (show _ = _ from rfl)⟩
        have HBL : Hid (Bld w1.heap.size w1.heap.size ((64 :: Lib.itoa t) ++ evsT (es.take k)) wr) := hbl
        have ct : Hid (∀ W : World, Below wr.heap.size wr W → Calls Tryz.prog 34 #[.pointer (some ⟨w1.heap.size, 0, none⟩), .agg #[.string es[k].name, u]] W fun r w' => r = .returned (errV D) ∧ Below w1.heap.size W w' ∧ (D = 0 → Bld w1.heap.size w1.heap.size ((64 :: Lib.itoa t) ++ evsT (es.take k) ++ evtT es[k]) w')) := fun W hW => by
          have h := wev_any w1.heap.size w1.heap.size ((64 :: Lib.itoa t) ++ evsT (es.take k)) es[k] u w W (hBww.trans (hW.mono hBww.size)) (Nat.le_of_lt hs1) (Nat.le_trans hBw.size hW.size) (HBL.out.below hW) r2 HT.out (fx _ (List.getElem_mem kx)) (lv _ (List.getElem_mem kx)) (by unfold evW at hwk; omega)
          rw [eD.out] at h
          exact h
        rw [eD.out] at hr2 hok2
        obtain ⟨pu, cu, rfl, -⟩ := r2.formX
        clear r0 r1 r2 hr eD hok hbl HBL lG lT
        generalize es[k].args.length = nk at a1 ct
        generalize (64 :: Lib.itoa t) ++ evsT (es.take k) ++ evtT es[k] = G at ct hbl2
        generalize es[k].name = X at a0 ct
        by_cases hD : D = 0
        · have hr3 : Hid (wevsE es = wevsE (es.drop (k + 1))) := by have h := hr2.out; rwa [if_pos hD] at h
          have hok3 : Hid (∀ v ∈ es.take (k + 1), wevE v = 0) := hok2.out hD
          subst hD
          rw [errV_0] at ct
          clear hr2 hok2
          go_wp2_with fail
          refine (ct.out _ (by go_grown)).mono ?_
          rintro e w4 ⟨rfl, hb4, hg4⟩
          have K4 : Below w1.heap.size w1 w4 := hBw.trans (Below.trans (Below.mono (B := wr.heap.size) (by go_grown) hBw.size) hb4)
          have HB4 : Hid (Bld w1.heap.size w1.heap.size ((64 :: Lib.itoa t) ++ evsT (es.take (k + 1))) w4) := hbl2.out w4 (hg4 (by first | trivial | rfl))
          clear ct a0 a1 hb4 hg4 hbl2
          go_wp2
          exact ⟨⟨k + 1, by omega, by go_num, hr3, hok3, HB4, K4⟩, by simp [intOf]; omega⟩
        · have hr3 : Hid (wevsE es = D) := by have h := hr2.out; rwa [if_neg hD] at h
          have hE : Hid (E = D) := by
            have h := hp1.out
            rw [hr3.out, if_neg hD] at h
            exact h
          have hQ : Hid (Q = []) := by have h := hq.out; rwa [if_neg (by rw [hE.out]; exact hD)] at h
          have hd : Hid (errV D = .iface 74 (.agg #[.int .i64 D])) := errV_ne hD
          rw [hd.out] at ct
          clear hr2 hD hok2
          go_wp2_with fail
          refine (ct.out _ (by go_grown)).mono ?_
          rintro e w4 ⟨rfl, hb4, -⟩
          have K4 : Below w1.heap.size w1 w4 := hBw.trans (Below.trans (Below.mono (B := wr.heap.size) (by go_grown) hBw.size) hb4)
          have K5 : Below w.heap.size w w4 := hB1.trans (K4.mono hB1.size)
          clear ct a0 a1 hb4 hbl2
          go_wp2
          go_ret2
          exact ⟨ret2 (by rw [hQ.out]) hE.out hd.out.symm, K5⟩
      · have c2 : ¬ (k : Int) < m := by omega
        have hr3 : Hid (wevsE es = 0) := by
          have h := hr.out
          rw [List.drop_eq_nil_of_le (by have := em.out; omega)] at h
          exact h
        have hall : es.take k = es := List.take_of_length_le (by have := em.out; omega)
        rw [hall] at hbl
        have HBL : Hid (Bld w1.heap.size w1.heap.size (lineT t es) wr) := hbl
        have hE1 : Hid (E = if 4096 < (lineT t es).length then 2 else 0) := by have h := hp1.out; rwa [if_pos hr3.out] at h
        have cL : Hid (Calls Tryz.prog 35 #[.pointer (some ⟨w1.heap.size, 0, none⟩)] wr fun e w' => e = .returned (.int .i64 (lineT t es).length) ∧ w' = wr) := by
          have h := Tryz.Builder_Len w1.heap.size w1.heap.size _ wr HBL.out
          rw [Lib.byteCells_length] at h
          exact h
        have cT : Hid (Calls Tryz.prog 19 #[.pointer (some ⟨w1.heap.size, 0, none⟩)] wr fun e w' => e = .returned (.string ⟨(lineT t es).toArray⟩) ∧ Below w1.heap.size wr w') := Tryz.Builder_String_any w1.heap.size w1.heap.size _ wr HBL.out hBw.size
        clear hbl hall lT lG hr hok HBL
        generalize hN : (lineT t es).length = N at cL hE1
        have hN' : Hid ((lineT t es).length = N) := hN
        clear hN
        generalize lineT t es = LT at cT hq hN'
        by_cases h4 : 4096 < N
        · have hE : Hid (E = 2) := by have h := hE1.out; rwa [if_pos h4] at h
          have hQ : Hid (Q = []) := by have h := hq.out; rwa [if_neg (by rw [hE.out]; decide)] at h
          have h4' : (4096 : Int) < N := by omega
          go_wp2_with fail
          refine cL.out.mono ?_
          rintro e w4 ⟨rfl, rfl⟩
          clear cL cT
          go_wp2
          go_ret2
          exact ⟨ret2 (by rw [hQ.out]) hE.out rfl, hBww⟩
        · have hE : Hid (E = 0) := by have h := hE1.out; rwa [if_neg h4] at h
          have hQ : Hid (Q = LT) := by have h := hq.out; rwa [if_pos hE.out] at h
          have h4' : ¬ (4096 : Int) < N := by omega
          go_wp2_with fail
          refine cL.out.mono ?_
          rintro e w4 ⟨rfl, rfl⟩
          clear cL
          go_wp2_with fail
          refine cT.out.mono ?_
          rintro e w5 ⟨rfl, hb5⟩
          have K5 : Below w.heap.size w w5 := hBww.trans (hb5.mono (Nat.le_of_lt hs1))
          clear cT hb5
          go_wp2
          go_ret2
          exact ⟨ret2 (by rw [hQ.out]) hE.out rfl, K5⟩
  · have hE : Hid (E = Z) := by have h := hp.out; rwa [if_neg hZ] at h
    have hQ : Hid (Q = []) := by have h := hq.out; rwa [if_neg (by rw [hE.out]; exact hZ)] at h
    have hd : Hid (errV Z = .iface 74 (.agg #[.int .i64 Z])) := errV_ne hZ
    rw [hd.out] at cZ
    clear hZ
    go_wp2_with fail
    refine (cZ.out _).mono ?_
    rintro e w1 ⟨rfl, hb1⟩
    obtain ⟨hB1, -⟩ := bgX (n := w.heap.size) (W0 := w) (by go_grown) (by go_size) hb1
    clear hb1 cZ
    go_wp2
    go_ret2
    exact ⟨ret2 (by rw [hQ.out]) hE.out hd.out.symm, hB1⟩

set_option maxRecDepth 100000 in
theorem ppoint_any (V : Value) (t : Int) (es : List Evt) (w : World) (hg : ErrT w) (t1 : -9223372036854775808 ≤ t) (t2 : t ≤ 9223372036854775807) (hV : EvsAt w V es) (ht : Pow w) (fx : ∀ e ∈ es, ∀ v ∈ e.args, v.Fits) (lv : ∀ e ∈ es, e.args.length ≤ 9223372036854775807) (le : es.length ≤ 9223372036854775807) (hl : evsW es + 1000 ≤ 140737488355328) :
    Calls Tryz.prog 8 #[.agg #[.int .i64 t, V]] w fun r w' => r = .returned (.tuple #[.string ⟨(ppT t es).toArray⟩, .int .i64 (ppE t es)]) ∧ Below w.heap.size w w' := by
  have ct : Hid (∀ W : World, Below w.heap.size w W → Calls Tryz.prog 22 #[.agg #[.int .i64 t, V]] W fun r w' => r = .returned (.tuple #[.string ⟨(ppT t es).toArray⟩, errV (ppE t es)]) ∧ Below W.heap.size W w') := fun W hW => ptext_any V t es W t1 t2 (hV.below hW) (ht.below hW) fx lv le hl
  obtain ⟨pv, cv, rfl, -⟩ := hV.form
  generalize (⟨(ppT t es).toArray⟩ : ByteArray) = Q at *
  generalize ppE t es = E at *
  clear hV fx lv hl
  generalize es.length = m at *
  have cn : Hid (∀ W : World, ErrT W → Calls Tryz.prog 15 #[errV E] W fun r w' => r = .returned (.int .i64 E) ∧ Below W.heap.size W w') := fun W hW => tnumber_any E W hW
  generalize errV E = EV at *
  go_enter Tryz.func8, Tryz.ntmps8
  go_wp2_with fail
  refine (ct.out _ (by go_grown)).mono ?_
  rintro e w1 ⟨rfl, hw1⟩
  obtain ⟨hB1, -⟩ := bgX (n := w.heap.size) (W0 := w) (by go_grown) (by go_size) hw1
  clear ct hw1
  go_wp2_with fail
  refine (cn.out _ (hg.below hB1)).mono ?_
  rintro e w2 ⟨rfl, hw2⟩
  have K : Below w.heap.size w w2 := hB1.trans (hw2.mono hB1.size)
  clear cn hB1 hw2
  go_wp2
  go_ret2
  exact ⟨rfl, K⟩

end Go.Proofs.YticmebamclacaabGreatDoor

namespace Go.Proofs.YticmebamclacaabGreatDoor
open Go.RowKit LX Go.Shelf
set_option linter.unusedVariables false

end Go.Proofs.YticmebamclacaabGreatDoor

namespace Go.Proofs.YticmebamclacaabGreatDoor
open Go.RowKit LX Go.Shelf
set_option maxRecDepth 100000

abbrev s1 : ByteArray := ⟨#[112, 32, 105, 110, 116, 10, 10, 113, 32, 105, 110, 116, 32, 115, 116, 114]⟩
abbrev s2 : ByteArray := ⟨#[112, 32, 105, 110, 116, 10, 112]⟩
abbrev s3 : ByteArray := ⟨#[64, 53, 32, 40, 112, 32, 49, 41, 32, 40, 113, 32, 50, 32, 34, 120, 34, 41]⟩
abbrev s4 : ByteArray := ⟨#[53]⟩
def lvL : List Dec := [⟨⟨#[112]⟩, [1]⟩, ⟨⟨#[113]⟩, [1, 3]⟩]
def lvE : List Evt := [⟨⟨#[112]⟩, [⟨1, 1, 0, ⟨#[]⟩⟩]⟩, ⟨⟨#[113]⟩, [⟨1, 2, 0, ⟨#[]⟩⟩, ⟨3, 0, 0, ⟨#[120]⟩⟩]⟩]
theorem lv1 : rsg s1 = (0, 0, lvL) := by kernel_rfl
theorem lv2 : rsg s2 = (1, 2, []) := by kernel_rfl
theorem lv3 : rdP s3 = (0, 5, lvE) := by kernel_rfl
theorem lv4 : rdP s4 = (70, 0, []) := by kernel_rfl
theorem lv5 : ppT 5 lvE = s3.data.toList := by kernel_rfl
theorem lv6 : ppE 5 lvE = 0 := by kernel_rfl
theorem lv7 : pointE lvL 5 lvE = 0 := by kernel_rfl
theorem lv8 : pointE (lvL.take 1) 5 lvE = 90 := by kernel_rfl
end Go.Proofs.YticmebamclacaabGreatDoor

namespace Go.Proofs.YticmebamclacaabGreatDoor
open Go.RowKit LX Go.Shelf
set_option linter.unusedVariables false

/-- What the library's variables hold. -/
structure Env (w : World) : Prop where
  pow : Pow w
  errs : Errs w
  size : 9 ≤ w.heap.size
  err : ErrT w
theorem Env.below {w W : World} (h : Env w) (hb : Below w.heap.size w W) : Env W := ⟨h.pow.below hb, h.errs.below hb h.size, Nat.le_trans h.size hb.size, h.err.below hb⟩

set_option maxRecDepth 100000 in
set_option maxHeartbeats 2000000 in
theorem trlive_any (w : World) (he : Env w) :
    Calls Tryz.prog 11 #[] w fun r w' => r = .returned (.bool true) ∧ Below w.heap.size w w' := by
  have c1 : Hid (∀ W : World, Below w.heap.size w W → Calls Tryz.prog 6 #[.string s1] W fun r w' => Below W.heap.size W w' ∧ ∃ p c, r = .returned (.tuple #[.slice p 2 c, .agg #[.int .i64 0, .int .i64 0]]) ∧ OwnG W.heap.size (.slice p 2 c) lvL w') := fun W hW => by
    have e := he.below hW
    have h := parsesig_any s1 W e.pow e.errs e.size e.err
    rw [lv1] at h
    exact h
  have c2 : Hid (∀ W : World, Below w.heap.size w W → Calls Tryz.prog 6 #[.string s2] W fun r w' => Below W.heap.size W w' ∧ ∃ p c, r = .returned (.tuple #[.slice p 0 c, .agg #[.int .i64 1, .int .i64 2]])) := fun W hW => by
    have e := he.below hW
    have h := parsesig_any s2 W e.pow e.errs e.size e.err
    rw [lv2] at h
    exact h.mono fun r w' ⟨k1, p, c, k2, _⟩ => ⟨k1, p, c, k2⟩
  have c3 : Hid (∀ W : World, Below w.heap.size w W → Calls Tryz.prog 9 #[.string s3] W fun r w' => Below W.heap.size W w' ∧ ∃ p c, r = .returned (.tuple #[.agg #[.int .i64 5, .slice p 2 c], .int .i64 0]) ∧ OwnE W.heap.size (.slice p 2 c) lvE w') := fun W hW => by
    have e := he.below hW
    have h := parsept_any s3 W e.pow e.errs e.size e.err
    rw [lv3] at h
    exact h
  have c4 : Hid (∀ W : World, Below w.heap.size w W → Calls Tryz.prog 9 #[.string s4] W fun r w' => Below W.heap.size W w' ∧ ∃ p c, r = .returned (.tuple #[.agg #[.int .i64 0, .slice p 0 c], .int .i64 70])) := fun W hW => by
    have e := he.below hW
    have h := parsept_any s4 W e.pow e.errs e.size e.err
    rw [lv4] at h
    exact h.mono fun r w' ⟨k1, p, c, k2, _⟩ => ⟨k1, p, c, k2⟩
  have fx : ∀ e ∈ lvE, ∀ v ∈ e.args, v.Fits := by
    intro e he v hv
    simp only [lvE, List.mem_cons, List.not_mem_nil, or_false] at he
    rcases he with rfl | rfl
    · simp only [List.mem_cons, List.not_mem_nil, or_false] at hv
      subst hv
      exact ⟨by decide, by decide, by decide, by decide⟩
    · simp only [List.mem_cons, List.not_mem_nil, or_false] at hv
      rcases hv with rfl | rfl
      · exact ⟨by decide, by decide, by decide, by decide⟩
      · exact ⟨by decide, by decide, by decide, by decide⟩
  have lv : ∀ e ∈ lvE, e.args.length ≤ 9223372036854775807 := by
    intro e he
    simp only [lvE, List.mem_cons, List.not_mem_nil, or_false] at he
    rcases he with rfl | rfl <;> decide
  have lk : ∀ d ∈ lvL, d.kinds.length ≤ 9223372036854775807 := by
    intro e he
    simp only [lvL, List.mem_cons, List.not_mem_nil, or_false] at he
    rcases he with rfl | rfl <;> decide
  have c5 : Hid (∀ (W : World) (p : Option Addr) (c : Nat), Below w.heap.size w W → EvsAt W (.slice p 2 c) lvE → Calls Tryz.prog 8 #[.agg #[.int .i64 5, .slice p 2 c]] W fun r w' => r = .returned (.tuple #[.string s3, .int .i64 0]) ∧ Below W.heap.size W w') := fun W p c hW hE => by
    have e := he.below hW
    have h := ppoint_any (.slice p 2 c) 5 lvE W e.err (by decide) (by decide) hE e.pow fx lv (by decide) (by decide)
    rw [lv5, lv6] at h
    exact h
  have c6 : Hid (∀ (W : World) (p q : Option Addr) (c d : Nat), Below w.heap.size w W → SigAt W (.slice q 2 d) lvL → EvsAt W (.slice p 2 c) lvE → Calls Tryz.prog 12 #[.slice q 2 d, .agg #[.int .i64 5, .slice p 2 c]] W fun r w' => r = .returned (.int .i64 0) ∧ Below W.heap.size W w') := fun W p q c d hW hS hE => by
    have e := he.below hW
    have h := checkpoint_any (.slice q 2 d) (.slice p 2 c) lvL 5 lvE W e.err hS hE fx (by decide) lk lv (by decide)
    rw [lv7] at h
    exact h
  have c7 : Hid (∀ (W : World) (p q : Option Addr) (c d : Nat), Below w.heap.size w W → SigAt W (.slice q 2 d) lvL → EvsAt W (.slice p 2 c) lvE → Calls Tryz.prog 12 #[.slice q 1 d, .agg #[.int .i64 5, .slice p 2 c]] W fun r w' => r = .returned (.int .i64 90) ∧ Below W.heap.size W w') := fun W p q c d hW hS hE => by
    have e := he.below hW
    have h := checkpoint_any (.slice q 1 d) (.slice p 2 c) (lvL.take 1) 5 lvE W e.err (hS.take 1 (by decide)) hE fx (by decide) (fun x hx => lk x (List.mem_of_mem_take hx)) lv (by decide)
    rw [lv8] at h
    exact h
  clear he fx lv lk
  go_enter Tryz.func11, Tryz.ntmps11
  go_wp2_with fail
  refine (c1.out _ (Below.refl _ _)).mono ?_
  rintro r w1 ⟨hB1, p1, d1, rfl, hO1⟩
  have HO1 : Hid (SigAt w1 (.slice p1 2 d1) lvL) := hO1.at
  have hd2 : 2 ≤ d1 := by
    obtain ⟨p1', d1', e1, hd1, -⟩ := HO1.out.form
    injection e1 with _ _ e1
    subst e1
    exact hd1
  have hd3 : (1 : Int) ≤ d1 := by omega
  clear hO1 c1
  go_wp2_with fail
  refine (c2.out _ (hB1.trans (Below.mono (B := w1.heap.size) (by go_grown) hB1.size))).mono ?_
  rintro r w2 ⟨hb2, p2, d2, rfl⟩
  have w0 : w2.cell? ⟨w1.heap.size, 0, none⟩ = some (.int .i64 0) := (hb2.cell (p := ⟨w1.heap.size, 0, none⟩) (by simp)).trans (by simp [go_sem])
  have w0' : w2.cell? ⟨w1.heap.size, 1, none⟩ = some (.int .i64 0) := (hb2.cell (p := ⟨w1.heap.size, 1, none⟩) (by simp)).trans (by simp [go_sem])
  have hs2 : w1.heap.size < w2.heap.size := by have := hb2.size; simp at this; omega
  obtain ⟨hB2, -⟩ := bgX (n := w1.heap.size) (W0 := w1) (by go_grown) (by go_size) hb2
  have K2 : Below w.heap.size w w2 := hB1.trans (hB2.mono hB1.size)
  have HO2 : Hid (SigAt w2 (.slice p1 2 d1) lvL) := HO1.out.below hB2
  clear hb2 c2 HO1 hB1
  go_wp2_with fail
  refine (c3.out _ (K2.trans (Below.mono (B := w2.heap.size) (by go_grown) K2.size))).mono ?_
  rintro r w3 ⟨hb3, p3, d3, rfl, hE3⟩
  have v0 : w3.cell? ⟨w2.heap.size, 0, none⟩ = some (.int .i64 1) := (hb3.cell (p := ⟨w2.heap.size, 0, none⟩) (by simp)).trans (by simp [go_sem])
  have v0' : w3.cell? ⟨w2.heap.size, 1, none⟩ = some (.int .i64 2) := (hb3.cell (p := ⟨w2.heap.size, 1, none⟩) (by simp)).trans (by simp [go_sem])
  have hs3 : w2.heap.size < w3.heap.size := by have := hb3.size; simp at this; omega
  obtain ⟨hB3, -⟩ := bgX (n := w2.heap.size) (W0 := w2) (by go_grown) (by go_size) hb3
  have K3 : Below w.heap.size w w3 := K2.trans (hB3.mono K2.size)
  have HO3 : Hid (SigAt w3 (.slice p1 2 d1) lvL) := HO2.out.below hB3
  have HE3 : Hid (EvsAt w3 (.slice p3 2 d3) lvE) := hE3.at
  have u0 := (hB3.cell (p := ⟨w1.heap.size, 0, none⟩) hs2).trans w0
  have u0' := (hB3.cell (p := ⟨w1.heap.size, 1, none⟩) hs2).trans w0'
  clear hb3 c3 HO2 hE3 w0 w0' hB2 K2
  go_wp2_with fail
  refine (c5.out _ _ _ (K3.trans (Below.mono (B := w3.heap.size) (by go_grown) K3.size)) (HE3.out.below (by go_grown))).mono ?_
  rintro r w4 ⟨rfl, hb4⟩
  have t0 : w4.cell? ⟨w3.heap.size, 0, none⟩ = some (.int .i64 5) := (hb4.cell (p := ⟨w3.heap.size, 0, none⟩) (by simp)).trans (by simp [go_sem])
  have t1 : w4.cell? ⟨w3.heap.size, 1, none⟩ = some (.slice p3 2 d3) := (hb4.cell (p := ⟨w3.heap.size, 1, none⟩) (by simp)).trans (by simp [go_sem])
  have hs4 : w3.heap.size < w4.heap.size := by have := hb4.size; simp at this; omega
  obtain ⟨hB4, -⟩ := bgX (n := w3.heap.size) (W0 := w3) (by go_grown) (by go_size) hb4
  have K4 : Below w.heap.size w w4 := K3.trans (hB4.mono K3.size)
  have hs13 : w1.heap.size < w3.heap.size := Nat.lt_of_lt_of_le hs2 hB3.size
  clear hb4 c5
  go_wp2_with fail
  refine (c4.out _ K4).mono ?_
  rintro r w5 ⟨hB5, p5, d5, rfl⟩
  have KB : Below w3.heap.size w3 w5 := hB4.trans (hB5.mono hB4.size)
  have K5 : Below w.heap.size w w5 := K4.trans (hB5.mono K4.size)
  have y0 := (KB.cell (p := ⟨w1.heap.size, 0, none⟩) hs13).trans u0
  have y0' := (KB.cell (p := ⟨w1.heap.size, 1, none⟩) hs13).trans u0'
  have x0 := (KB.cell (p := ⟨w2.heap.size, 0, none⟩) hs3).trans v0
  have x0' := (KB.cell (p := ⟨w2.heap.size, 1, none⟩) hs3).trans v0'
  have z0 := (hB5.cell (p := ⟨w3.heap.size, 0, none⟩) hs4).trans t0
  have z1 := (hB5.cell (p := ⟨w3.heap.size, 1, none⟩) hs4).trans t1
  have HO5 : Hid (SigAt w5 (.slice p1 2 d1) lvL) := HO3.out.below KB
  have HE5 : Hid (EvsAt w5 (.slice p3 2 d3) lvE) := HE3.out.below KB
  have hs15 : w1.heap.size < w5.heap.size := Nat.lt_of_lt_of_le hs13 KB.size
  have hs25 : w2.heap.size < w5.heap.size := Nat.lt_of_lt_of_le hs3 KB.size
  have hs35 : w3.heap.size < w5.heap.size := Nat.lt_of_lt_of_le hs4 hB5.size
  clear c4 HO3 HE3 u0 u0' v0 v0' t0 t1 hB4 hB5 KB K4 K3 hB3 hs13 hs4 hs3 hs2
  go_upto_region 7 with fail
  refine wpX_world ?_
  intro W0 hW0
  have kA : Below w5.heap.size w5 W0 := by rw [hW0]; go_grown
  clear hW0
  have d0 := (kA.cell (p := ⟨w3.heap.size, 0, none⟩) hs35).trans z0
  have d1' := (kA.cell (p := ⟨w3.heap.size, 1, none⟩) hs35).trans z1
  have k1 : w3.heap.size < W0.heap.size := Nat.lt_of_lt_of_le hs35 kA.size
  have K0 : Below w.heap.size w W0 := K5.trans (kA.mono K5.size)
  have C6 : Hid (∀ W : World, Below W0.heap.size W0 W → Calls Tryz.prog 12 #[.slice p1 2 d1, .agg #[.int .i64 5, .slice p3 2 d3]] W fun r w' => r = .returned (.int .i64 0) ∧ Below W.heap.size W w') := fun W hW => c6.out W _ _ _ _ (K0.trans (hW.mono K0.size)) ((HO5.out.below kA).below hW) ((HE5.out.below kA).below hW)
  have C7 : Hid (∀ W : World, Below W0.heap.size W0 W → Calls Tryz.prog 12 #[.slice p1 1 d1, .agg #[.int .i64 5, .slice p3 2 d3]] W fun r w' => r = .returned (.int .i64 90) ∧ Below W.heap.size W w') := fun W hW => c7.out W _ _ _ _ (K0.trans (hW.mono K0.size)) ((HO5.out.below kA).below hW) ((HE5.out.below kA).below hW)
  clear c6 c7 HO5 HE5 kA z0 z1 y0 y0' x0 x0' hs15 hs25 hs35 K5
  go_region_held3 (fun w' => w'.cell? ⟨w3.heap.size, 0, none⟩ = some (.int .i64 5) ∧ w'.cell? ⟨w3.heap.size, 1, none⟩ = some (.slice p3 2 d3)) (exact ⟨bclX (n := W0.heap.size) (by go_grown) d0 k1, bclX (n := W0.heap.size) (by go_grown) d1' k1⟩)
    (first
      | (go_at_call_of 12 (Value.slice p1 2 d1); refine (C6.out _ (by go_grown)).mono ?_; rintro e v1 ⟨rfl, hb1⟩; obtain ⟨hX1, hn1⟩ := bgX (n := W0.heap.size) (W0 := W0) (by go_grown) (by go_size) hb1)
      | (go_at_call_of 12 (Value.slice p1 1 d1); refine (C7.out _ (by go_grown)).mono ?_; rintro e v2 ⟨rfl, hb2⟩; obtain ⟨hX2, hn2⟩ := bgX (n := W0.heap.size) (W0 := W0) (by go_grown) (by go_size) hb2))
  all_goals
    go_wp2
    go_ret
    exact ⟨rfl, K0.trans (Below.mono (B := W0.heap.size) (by go_grown) K0.size)⟩

end Go.Proofs.YticmebamclacaabGreatDoor
