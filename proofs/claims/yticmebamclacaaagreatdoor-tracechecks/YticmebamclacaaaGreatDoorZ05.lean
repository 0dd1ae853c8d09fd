/- What a token says: lex.said at every kind. -/
import Derived.Test.YticmebamclacaaaGreatDoorZ04
import Derived.Test.YticmebamclacaaaGreatDoorZ01

namespace Go.Proofs.YticmebamclacaaaGreatDoor
open Go.RowKit Go.Shelf
set_option linter.unusedVariables false

theorem trim_len (l : List UInt8) : (Lib.trimSuffix l [34]).length ≤ l.length := by unfold Lib.trimSuffix; split <;> simp
theorem unquote_any (t : ByteArray) (w : World) (hs : t.size ≤ 140737488355000) (he : Errs w) (h8 : 9 ≤ w.heap.size) :
    Calls Tryz.prog 165 #[.string t] w fun e w' => e = .returned (.tuple #[.string (outS (unqS t.data.toList)), .bool (outB (unqS t.data.toList))]) ∧ Below w.heap.size w w' := by
  cases h : Lib.hasSuffix t.data.toList [34]
  · have e0 : unqS t.data.toList = none := by simp [unqS, h]
    rw [e0]
    exact unquote_no t w (by omega) h
  · have e0 : unqS t.data.toList = unq (Lib.trimSuffix t.data.toList [34]) := by simp [unqS, h]
    rw [e0]
    have hl := trim_len t.data.toList
    have hl2 : t.data.toList.length = t.size := by simp
    have q := unquote_yes t _ w (by omega) h rfl (by show (Lib.trimSuffix t.data.toList [34]).toArray.size ≤ _; simp; omega) he h8
    exact q

theorem pi_yes (s : ByteArray) (w : World) (hs : s.size ≤ 140737488355328) (h : (pint s.data.toList).2 = true) :
    Calls Tryz.prog 166 #[.string s, .int .i64 10, .int .i64 64] w fun e w' => e = .returned (.tuple #[.int .i64 (pint s.data.toList).1, .nilIface]) ∧ Below w.heap.size w w' := by
  cases hp : Lib.parseIntB 64 s.data.toList with
  | ok v =>
    have e0 : pint s.data.toList = (v, true) := by simp [pint, hp]
    rw [e0]
    refine (Tryz.strconv_ParseInt_10_at64_ok s (by omega) v hp w).mono ?_
    rintro e w' ⟨rfl, hw⟩
    refine ⟨rfl, ?_⟩
    rcases hw with rfl | ⟨t, rfl⟩
    · exact Below.refl _ _
    · exact Lib.bytesWorld_below w 5 t
  | «syntax» => simp [pint, hp] at h
  | range => simp [pint, hp] at h
theorem pi_no (s : ByteArray) (w : World) (hs : s.size ≤ 140737488355328) (h : (pint s.data.toList).2 = false) (he : Errs w) :
    Calls Tryz.prog 166 #[.string s, .int .i64 10, .int .i64 64] w fun e w' => ∃ N, e = .returned (.tuple #[.int .i64 (pint s.data.toList).1, .iface 245 (.pointer (some ⟨N, 0, none⟩))]) ∧ Below w.heap.size w w' := by
  obtain ⟨⟨e1, c1, d1⟩, ⟨e2, c2, d2⟩⟩ := he
  cases hp : Lib.parseIntB 64 s.data.toList with
  | ok v => simp [pint, hp] at h
  | «syntax» =>
    have e0 : pint s.data.toList = (0, false) := by simp [pint, hp]
    rw [e0]
    refine (Tryz.strconv_ParseInt_10_at64_syntax s (by omega) hp e1 w c1 d1).mono ?_
    rintro e w' ⟨N, rfl, -, -, hb⟩
    exact ⟨N, rfl, hb⟩
  | range =>
    have e0 : pint s.data.toList = (Lib.intSat 64 s.data.toList, false) := by simp [pint, hp]
    rw [e0]
    refine (Tryz.strconv_ParseInt_10_at64_range s (by omega) hp e2 w c2 d2).mono ?_
    rintro e w' ⟨N, rfl, -, -, hb⟩
    exact ⟨N, rfl, hb⟩

/-- What a text is taken for, and whether it may be. -/
def gss (l : List UInt8) : Val × Bool :=
  if Lib.hasPrefix l [34] then (⟨3, 0, 0, outS (unqS (l.drop 1))⟩, outB (unqS (l.drop 1)))
  else if (cutL l).2.2 = false then (⟨1, (pint l).1, 0, ⟨#[]⟩⟩, (pint l).2)
  else if (pint (cutL l).1).2 = false then (⟨1, (pint (cutL l).1).1, 0, ⟨#[]⟩⟩, false)
  else (⟨2, (pint (cutL l).1).1, (pint (cutL l).2.1).1, ⟨#[]⟩⟩, (pint (cutL l).2.1).2)

theorem Errs.alloc {w : World} (h : Errs w) (hs : 9 ≤ w.heap.size) (o : Obj) : Errs (w.alloc o) := h.below ((Below.refl _ w).alloc (Nat.le_refl _) o) hs

set_option maxRecDepth 100000 in
set_option maxHeartbeats 4000000 in
theorem guess_str (s : ByteArray) (w : World) (hs : s.size ≤ 140737488355000) (hp : Lib.hasPrefix s.data.toList [34] = true) (he : Errs w) (h8 : 9 ≤ w.heap.size) :
    Calls Tryz.prog 160 #[.string s] w fun e w' => e = .returned (.tuple #[.agg #[.int .i64 3, .int .i64 0, .int .i64 0, .string (outS (unqS (s.data.toList.drop 1)))], .bool (outB (unqS (s.data.toList.drop 1)))]) ∧ Below w.heap.size w w' := by
  obtain ⟨T, eT⟩ : ∃ T : ByteArray, Hid (outS (unqS (s.data.toList.drop 1)) = T) := ⟨_, rfl⟩
  obtain ⟨C, eC⟩ : ∃ C : Bool, Hid (outB (unqS (s.data.toList.drop 1)) = C) := ⟨_, rfl⟩
  have h1 : 1 ≤ s.size := by
    have : s.data.toList ≠ [] := by intro e; rw [e] at hp; simp [Lib.hasPrefix] at hp
    have h2 := List.length_pos_iff.2 this
    simp at h2
    exact h2
  have HP : Hid (∀ W : World, Calls Tryz.prog 164 #[.string s, .string ⟨#[34]⟩] W fun e w' => e = .returned (.bool true) ∧ w' = W) := fun W => by
    have q := Tryz.strings_HasPrefix s ⟨#[34]⟩ W
    rw [show (⟨#[34]⟩ : ByteArray).data.toList = [34] from rfl, hp] at q
    exact q
  have UQ : Hid (∀ W : World, Errs W → 9 ≤ W.heap.size → Calls Tryz.prog 165 #[.string (s.extract 1 s.size)] W fun e w' => e = .returned (.tuple #[.string T, .bool C]) ∧ Below W.heap.size W w') := fun W g1 g2 => by
    have q := unquote_any (s.extract 1 s.size) W (by simp; omega) g1 g2
    rw [ext_from, eT.out, eC.out] at q
    exact q
  rw [eT.out, eC.out]
  clear eT eC hp
  have h1' : (1 : Int) ≤ s.size := by omega
  have HE : Hid (Errs w) := he
  clear he
  go_enter Tryz.func160, Tryz.ntmps160
  go_wp2_with fail
  refine (HP.out _).mono ?_
  rintro e w0 ⟨rfl, rfl⟩
  go_wp2_with fail
  refine (UQ.out _ (HE.out.alloc h8 _) (by simp; omega)).mono ?_
  rintro e w1 ⟨rfl, hb⟩
  have bRR : Hid (BlkV w1 w.heap.size 0 0 0 ⟨#[]⟩) := BlkV.below (by constructor <;> simp (maxDischargeDepth := 12) [go_sem]) hb (by simp)
  obtain ⟨hc, hf, hz, hB⟩ := bf (w := w) (by go_grown) hb
  clear hc hf hb
  obtain ⟨r0, r1, r2, r3, r4, r5, r6, r7⟩ := bRR.out
  go_wp2
  generalize hW9 : World.setCell _ _ _ = W9
  have b9 : BlkV W9 w.heap.size 3 0 0 T := by rw [← hW9]; exact bRR.out.four
  have hB9 : Below w.heap.size w W9 := by rw [← hW9]; exact (((hB.setCell (by simp) _).setCell (by simp) _).setCell (by simp) _).setCell (by simp) _
  clear hW9
  obtain ⟨x0, x1, x2, x3, -, -, -, -⟩ := b9
  refine bodyPost_ret (by simp [results, Tryz.results160, go_sem, x0, x1, x2, x3]; try rfl) rfl ?_
  exact ⟨rfl, hB9⟩

set_option maxRecDepth 100000 in
set_option maxHeartbeats 4000000 in
theorem guess_int (s u D : ByteArray) (n : Int) (ok br : Bool) (w : World) (hp : Lib.hasPrefix s.data.toList [34] = false)
    (CU : Hid (∀ W : World, Calls Tryz.prog 159 #[.string s, .string ⟨#[47]⟩] W fun e w' => e = .returned (.tuple #[.string u, .string D, .bool br]) ∧ ∃ k, w' = W.drewN k))
    (PI : Hid (∀ W : World, Errs W → Calls Tryz.prog 166 #[.string u, .int .i64 10, .int .i64 64] W fun e w' => (∃ N, e = .returned (.tuple #[.int .i64 n, if ok = true then .nilIface else .iface 245 (.pointer (some ⟨N, 0, none⟩))])) ∧ Below W.heap.size W w'))
    (hb : br = false ∨ ok = false) (he : Errs w) (h8 : 9 ≤ w.heap.size) :
    Calls Tryz.prog 160 #[.string s] w fun e w' => e = .returned (.tuple #[.agg #[.int .i64 1, .int .i64 n, .int .i64 0, .string ⟨#[]⟩], .bool ok]) ∧ Below w.heap.size w w' := by
  have HP : Hid (∀ W : World, Calls Tryz.prog 164 #[.string s, .string ⟨#[34]⟩] W fun e w' => e = .returned (.bool false) ∧ w' = W) := fun W => by
    have q := Tryz.strings_HasPrefix s ⟨#[34]⟩ W
    rw [show (⟨#[34]⟩ : ByteArray).data.toList = [34] from rfl, hp] at q
    exact q
  clear hp
  have HE : Hid (Errs w) := he
  clear he
  cases ok
  · skip
    go_enter Tryz.func160, Tryz.ntmps160
    go_wp2_with fail
    refine (HP.out _).mono ?_
    rintro e w0 ⟨rfl, rfl⟩
    go_wp2_with fail
    refine (CU.out _).mono ?_
    rintro e w0 ⟨rfl, k, rfl⟩
    go_wp2_with fail
    refine (PI.out _ (HE.out.below (bdrewN k ((Below.refl _ w).alloc (Nat.le_refl _) _)) h8)).mono ?_
    rintro e w1 ⟨⟨N, rfl⟩, hb1⟩
    simp only [Bool.false_eq_true, if_false]
    have bRR : Hid (BlkV w1 w.heap.size 0 0 0 ⟨#[]⟩) := BlkV.below (by constructor <;> simp (maxDischargeDepth := 12) [go_sem]) hb1 (by simp)
    have hB : Below w.heap.size w w1 := Below.trans (bdrewN k ((Below.refl _ w).alloc (Nat.le_refl _) _)) (hb1.mono (by simp))
    clear hb1
    obtain ⟨r0, r1, r2, r3, r4, r5, r6, r7⟩ := bRR.out
    go_wp2
    go_region
    all_goals
      go_wp2
      generalize hW9 : World.setCell _ _ _ = W9
      have b9 : BlkV W9 w.heap.size 1 n 0 ⟨#[]⟩ := by rw [← hW9]; exact bRR.out.four
      have hB9 : Below w.heap.size w W9 := by rw [← hW9]; exact (((hB.setCell (by simp) _).setCell (by simp) _).setCell (by simp) _).setCell (by simp) _
      clear hW9
      obtain ⟨x0, x1, x2, x3, -, -, -, -⟩ := b9
      refine bodyPost_ret (by simp [results, Tryz.results160, go_sem, x0, x1, x2, x3]; try rfl) rfl ?_
      exact ⟨rfl, hB9.drew⟩
  · obtain rfl : br = false := by rcases hb with h | h; exact h; cases h
    go_enter Tryz.func160, Tryz.ntmps160
    go_wp2_with fail
    refine (HP.out _).mono ?_
    rintro e w0 ⟨rfl, rfl⟩
    go_wp2_with fail
    refine (CU.out _).mono ?_
    rintro e w0 ⟨rfl, k, rfl⟩
    go_wp2_with fail
    refine (PI.out _ (HE.out.below (bdrewN k ((Below.refl _ w).alloc (Nat.le_refl _) _)) h8)).mono ?_
    rintro e w1 ⟨⟨N, rfl⟩, hb1⟩
    simp only [if_true]
    have bRR : Hid (BlkV w1 w.heap.size 0 0 0 ⟨#[]⟩) := BlkV.below (by constructor <;> simp (maxDischargeDepth := 12) [go_sem]) hb1 (by simp)
    have hB : Below w.heap.size w w1 := Below.trans (bdrewN k ((Below.refl _ w).alloc (Nat.le_refl _) _)) (hb1.mono (by simp))
    clear hb1
    obtain ⟨r0, r1, r2, r3, r4, r5, r6, r7⟩ := bRR.out
    go_wp2
    go_region
    all_goals
      go_wp2
      generalize hW9 : World.setCell _ _ _ = W9
      have b9 : BlkV W9 w.heap.size 1 n 0 ⟨#[]⟩ := by rw [← hW9]; exact bRR.out.four
      have hB9 : Below w.heap.size w W9 := by rw [← hW9]; exact (((hB.setCell (by simp) _).setCell (by simp) _).setCell (by simp) _).setCell (by simp) _
      clear hW9
      obtain ⟨x0, x1, x2, x3, -, -, -, -⟩ := b9
      refine bodyPost_ret (by simp [results, Tryz.results160, go_sem, x0, x1, x2, x3]; try rfl) rfl ?_
      exact ⟨rfl, hB9.drew⟩

set_option maxRecDepth 100000 in
set_option maxHeartbeats 4000000 in
theorem guess_rat (s u D : ByteArray) (n d : Int) (ok : Bool) (w : World) (hp : Lib.hasPrefix s.data.toList [34] = false)
    (CU : Hid (∀ W : World, Calls Tryz.prog 159 #[.string s, .string ⟨#[47]⟩] W fun e w' => e = .returned (.tuple #[.string u, .string D, .bool true]) ∧ ∃ k, w' = W.drewN k))
    (PI : Hid (∀ W : World, Calls Tryz.prog 166 #[.string u, .int .i64 10, .int .i64 64] W fun e w' => e = .returned (.tuple #[.int .i64 n, .nilIface]) ∧ Below W.heap.size W w'))
    (PD : Hid (∀ W : World, Errs W → Calls Tryz.prog 166 #[.string D, .int .i64 10, .int .i64 64] W fun e w' => (∃ N, e = .returned (.tuple #[.int .i64 d, if ok = true then .nilIface else .iface 245 (.pointer (some ⟨N, 0, none⟩))])) ∧ Below W.heap.size W w'))
    (he : Errs w) (h8 : 9 ≤ w.heap.size) :
    Calls Tryz.prog 160 #[.string s] w fun e w' => e = .returned (.tuple #[.agg #[.int .i64 2, .int .i64 n, .int .i64 d, .string ⟨#[]⟩], .bool ok]) ∧ Below w.heap.size w w' := by
  have HP : Hid (∀ W : World, Calls Tryz.prog 164 #[.string s, .string ⟨#[34]⟩] W fun e w' => e = .returned (.bool false) ∧ w' = W) := fun W => by
    have q := Tryz.strings_HasPrefix s ⟨#[34]⟩ W
    rw [show (⟨#[34]⟩ : ByteArray).data.toList = [34] from rfl, hp] at q
    exact q
  clear hp
  have HE : Hid (Errs w) := he
  clear he
  cases ok
  · go_enter Tryz.func160, Tryz.ntmps160
    go_wp2_with fail
    refine (HP.out _).mono ?_
    rintro e w0 ⟨rfl, rfl⟩
    go_wp2_with fail
    refine (CU.out _).mono ?_
    rintro e w0 ⟨rfl, k, rfl⟩
    go_wp2_with fail
    refine (PI.out _).mono ?_
    rintro e w2 ⟨rfl, hb2⟩
    have b2 : Hid (BlkV w2 w.heap.size 0 0 0 ⟨#[]⟩) := BlkV.below (by constructor <;> simp (maxDischargeDepth := 12) [go_sem]) hb2 (by simp)
    have B2 : Below w.heap.size w w2 := Below.trans (bdrewN k ((Below.refl _ w).alloc (Nat.le_refl _) _)) (hb2.mono (by simp))
    have y2 : w.heap.size < w2.heap.size := by have zz := hb2.size; simp at zz; omega
    clear hb2
    go_wp2_with fail
    refine (PD.out _ (HE.out.below B2 h8)).mono ?_
    rintro e w1 ⟨⟨N, rfl⟩, hb1⟩
    simp only [Bool.false_eq_true, if_false]
    have bRR : Hid (BlkV w1 w.heap.size 0 0 0 ⟨#[]⟩) := b2.out.below hb1 y2
    have hB : Below w.heap.size w w1 := B2.trans (hb1.mono B2.size)
    clear hb1 b2
    obtain ⟨r0, r1, r2, r3, r4, r5, r6, r7⟩ := bRR.out
    go_wp2
    go_region
    all_goals
      go_wp2
      generalize hW9 : World.setCell _ _ _ = W9
      have b9 : BlkV W9 w.heap.size 2 n d ⟨#[]⟩ := by rw [← hW9]; exact bRR.out.four
      have hB9 : Below w.heap.size w W9 := by rw [← hW9]; exact (((hB.setCell (by simp) _).setCell (by simp) _).setCell (by simp) _).setCell (by simp) _
      clear hW9
      obtain ⟨x0, x1, x2, x3, -, -, -, -⟩ := b9
      refine bodyPost_ret (by simp [results, Tryz.results160, go_sem, x0, x1, x2, x3]; try rfl) rfl ?_
      exact ⟨rfl, hB9.drew⟩
  · go_enter Tryz.func160, Tryz.ntmps160
    go_wp2_with fail
    refine (HP.out _).mono ?_
    rintro e w0 ⟨rfl, rfl⟩
    go_wp2_with fail
    refine (CU.out _).mono ?_
    rintro e w0 ⟨rfl, k, rfl⟩
    go_wp2_with fail
    refine (PI.out _).mono ?_
    rintro e w2 ⟨rfl, hb2⟩
    have b2 : Hid (BlkV w2 w.heap.size 0 0 0 ⟨#[]⟩) := BlkV.below (by constructor <;> simp (maxDischargeDepth := 12) [go_sem]) hb2 (by simp)
    have B2 : Below w.heap.size w w2 := Below.trans (bdrewN k ((Below.refl _ w).alloc (Nat.le_refl _) _)) (hb2.mono (by simp))
    have y2 : w.heap.size < w2.heap.size := by have zz := hb2.size; simp at zz; omega
    clear hb2
    go_wp2_with fail
    refine (PD.out _ (HE.out.below B2 h8)).mono ?_
    rintro e w1 ⟨⟨N, rfl⟩, hb1⟩
    simp only [if_true]
    have bRR : Hid (BlkV w1 w.heap.size 0 0 0 ⟨#[]⟩) := b2.out.below hb1 y2
    have hB : Below w.heap.size w w1 := B2.trans (hb1.mono B2.size)
    clear hb1 b2
    obtain ⟨r0, r1, r2, r3, r4, r5, r6, r7⟩ := bRR.out
    go_wp2
    go_region
    all_goals
      go_wp2
      generalize hW9 : World.setCell _ _ _ = W9
      have b9 : BlkV W9 w.heap.size 2 n d ⟨#[]⟩ := by rw [← hW9]; exact bRR.out.four
      have hB9 : Below w.heap.size w W9 := by rw [← hW9]; exact (((hB.setCell (by simp) _).setCell (by simp) _).setCell (by simp) _).setCell (by simp) _
      clear hW9
      obtain ⟨x0, x1, x2, x3, -, -, -, -⟩ := b9
      refine bodyPost_ret (by simp [results, Tryz.results160, go_sem, x0, x1, x2, x3]; try rfl) rfl ?_
      exact ⟨rfl, hB9.drew⟩

theorem guess_any (s : ByteArray) (w : World) (hs : s.size ≤ 140737488355000) (he : Errs w) (h8 : 9 ≤ w.heap.size) :
    Calls Tryz.prog 160 #[.string s] w fun e w' => e = .returned (.tuple #[.agg #[.int .i64 (gss s.data.toList).1.k, .int .i64 (gss s.data.toList).1.n, .int .i64 (gss s.data.toList).1.d, .string (gss s.data.toList).1.s], .bool (gss s.data.toList).2]) ∧ Below w.heap.size w w' := by
  cases hp : Lib.hasPrefix s.data.toList [34]
  · have pw : ∀ (u : ByteArray), u.size ≤ 140737488355328 → Hid (∀ W : World, Errs W → Calls Tryz.prog 166 #[.string u, .int .i64 10, .int .i64 64] W fun e w' => (∃ N, e = .returned (.tuple #[.int .i64 (pint u.data.toList).1, if (pint u.data.toList).2 = true then .nilIface else .iface 245 (.pointer (some ⟨N, 0, none⟩))])) ∧ Below W.heap.size W w') := fun u hu W hW => by
      cases hk : (pint u.data.toList).2
      · refine (pi_no u W hu hk hW).mono ?_
        rintro e w' ⟨N, rfl, hb⟩
        exact ⟨⟨N, by simp⟩, hb⟩
      · refine (pi_yes u W hu hk).mono ?_
        rintro e w' ⟨rfl, hb⟩
        exact ⟨⟨0, by simp⟩, hb⟩
    cases hc : (cutL s.data.toList).2.2
    · have e0 : gss s.data.toList = (⟨1, (pint s.data.toList).1, 0, ⟨#[]⟩⟩, (pint s.data.toList).2) := by simp [gss, hp, hc]
      rw [e0]
      exact guess_int s s ⟨#[]⟩ _ _ false w hp (fun W => cut_no s W hc) (pw s (by omega)) (Or.inl rfl) he h8
    · have hl := cutL_yes _ hc
      have hsz : s.data.toList.length = s.size := by simp
      have l1 : (cutL s.data.toList).1.length ≤ s.size := by have := congrArg List.length hl.1; simp only [List.length_append, List.length_cons] at this; omega
      have l2 : (cutL s.data.toList).2.1.length ≤ s.size := by have := congrArg List.length hl.1; simp only [List.length_append, List.length_cons] at this; omega
      have q1 := pw ⟨(cutL s.data.toList).1.toArray⟩ (by show (cutL s.data.toList).1.toArray.size ≤ _; simp; omega)
      have q2 := pw ⟨(cutL s.data.toList).2.1.toArray⟩ (by show (cutL s.data.toList).2.1.toArray.size ≤ _; simp; omega)
      cases hk : (pint (cutL s.data.toList).1).2
      · have e0 : gss s.data.toList = (⟨1, (pint (cutL s.data.toList).1).1, 0, ⟨#[]⟩⟩, false) := by simp [gss, hp, hc, hk]
        rw [e0]
        rw [show (⟨(cutL s.data.toList).1.toArray⟩ : ByteArray).data.toList = (cutL s.data.toList).1 from rfl, hk] at q1
        exact guess_int s _ _ _ false true w hp (fun W => cut_yes s W hc (by omega)) q1 (Or.inr rfl) he h8
      · have e0 : gss s.data.toList = (⟨2, (pint (cutL s.data.toList).1).1, (pint (cutL s.data.toList).2.1).1, ⟨#[]⟩⟩, (pint (cutL s.data.toList).2.1).2) := by simp [gss, hp, hc, hk]
        rw [e0]
        refine guess_rat s ⟨(cutL s.data.toList).1.toArray⟩ ⟨(cutL s.data.toList).2.1.toArray⟩ _ _ _ w hp (fun W => cut_yes s W hc (by omega)) (fun W => ?_) q2 he h8
        exact pi_yes ⟨(cutL s.data.toList).1.toArray⟩ W (by show (cutL s.data.toList).1.toArray.size ≤ _; simp; omega) hk
  · have e0 : gss s.data.toList = (⟨3, 0, 0, outS (unqS (s.data.toList.drop 1))⟩, outB (unqS (s.data.toList.drop 1))) := by simp [gss, hp]
    rw [e0]
    exact guess_str s w hs hp he h8

end Go.Proofs.YticmebamclacaaaGreatDoor

namespace Go.Proofs.YticmebamclacaaaGreatDoor
open Go.RowKit Go.Shelf
set_option linter.unusedVariables false

set_option maxRecDepth 100000 in
set_option maxHeartbeats 4000000 in
theorem parse_no1 (s S : ByteArray) (k n d : Int) (ok : Bool) (w : World) (h1 : -9223372036854775808 ≤ n) (h2 : n ≤ 9223372036854775807) (g1 : -9223372036854775808 ≤ d) (g2 : d ≤ 9223372036854775807) (hS : S.size ≤ 35184372088830)
    (GU : Hid (∀ W : World, Errs W → 9 ≤ W.heap.size → Calls Tryz.prog 160 #[.string s] W fun e w' => e = .returned (.tuple #[.agg #[.int .i64 k, .int .i64 n, .int .i64 d, .string S], .bool ok]) ∧ Below W.heap.size W w'))
    (ht : Pow w) (he : Errs w) (h8 : 9 ≤ w.heap.size) (ho : ok = false) :
    Calls Tryz.prog 149 #[.string s] w fun e w' => e = .returned (.tuple #[.agg #[.int .i64 0, .int .i64 0, .int .i64 0, .string ⟨#[]⟩], .int .i64 70]) ∧ Below w.heap.size w w' := by
  subst ho
  have HE : Hid (Errs w) := he
  clear he
  go_enter Tryz.func149, Tryz.ntmps149
  go_wp2_with fail
  refine (GU.out _ (HE.out.alloc h8 _) (by simp; omega)).mono ?_
  rintro e w1 ⟨rfl, hb1⟩
  have R1 : Hid (BlkV w1 w.heap.size 0 0 0 ⟨#[]⟩) := BlkV.below (by constructor <;> simp (maxDischargeDepth := 12) [go_sem]) hb1 (by simp)
  have B1 : Below w.heap.size w w1 := ((Below.refl _ w).alloc (Nat.le_refl _) _).trans (hb1.mono (by simp))
  have z1 : w.heap.size < w1.heap.size := by have := hb1.size; simp at this; omega
  clear hb1
  go_upto_region 2 with fail
  refine wp_world ?_
  intro W2 hW2
  have R2 : Hid (BlkV W2 w.heap.size 0 0 0 ⟨#[]⟩) := by rw [hW2]; exact R1.out.below ((Below.refl w1.heap.size w1).alloc (Nat.le_refl _) _) z1
  have B2 : Below w.heap.size w W2 := by rw [hW2]; exact B1.alloc B1.size _
  clear hW2 R1 B1 z1
  obtain ⟨r0, r1, r2, r3, r4, r5, r6, r7⟩ := R2.out
  go_wp2
  generalize hW9 : World.setCell _ _ _ = W9
  have b9 : BlkV W9 w.heap.size 0 0 0 ⟨#[]⟩ := by rw [← hW9]; exact R2.out.four
  have hB9 : Below w.heap.size w W9 := by rw [← hW9]; exact (((B2.setCell (by simp) _).setCell (by simp) _).setCell (by simp) _).setCell (by simp) _
  clear hW9
  obtain ⟨x0, x1, x2, x3, -, -, -, -⟩ := b9
  refine bodyPost_ret (by simp [results, Tryz.results149, go_sem, x0, x1, x2, x3]; try rfl) rfl ?_
  exact ⟨rfl, hB9⟩

set_option maxRecDepth 100000 in
set_option maxHeartbeats 4000000 in
theorem parse_no2 (s S : ByteArray) (k n d : Int) (ok : Bool) (w : World) (h1 : -9223372036854775808 ≤ n) (h2 : n ≤ 9223372036854775807) (g1 : -9223372036854775808 ≤ d) (g2 : d ≤ 9223372036854775807) (hS : S.size ≤ 35184372088830)
    (GU : Hid (∀ W : World, Errs W → 9 ≤ W.heap.size → Calls Tryz.prog 160 #[.string s] W fun e w' => e = .returned (.tuple #[.agg #[.int .i64 k, .int .i64 n, .int .i64 d, .string S], .bool ok]) ∧ Below W.heap.size W w'))
    (ht : Pow w) (he : Errs w) (h8 : 9 ≤ w.heap.size) (ho : ok = true) (hp : pureB k n d S = false) :
    Calls Tryz.prog 149 #[.string s] w fun e w' => e = .returned (.tuple #[.agg #[.int .i64 0, .int .i64 0, .int .i64 0, .string ⟨#[]⟩], .int .i64 70]) ∧ Below w.heap.size w w' := by
  subst ho
  have HE : Hid (Errs w) := he
  clear he
  go_enter Tryz.func149, Tryz.ntmps149
  go_wp2_with fail
  refine (GU.out _ (HE.out.alloc h8 _) (by simp; omega)).mono ?_
  rintro e w1 ⟨rfl, hb1⟩
  have R1 : Hid (BlkV w1 w.heap.size 0 0 0 ⟨#[]⟩) := BlkV.below (by constructor <;> simp (maxDischargeDepth := 12) [go_sem]) hb1 (by simp)
  have B1 : Below w.heap.size w w1 := ((Below.refl _ w).alloc (Nat.le_refl _) _).trans (hb1.mono (by simp))
  have z1 : w.heap.size < w1.heap.size := by have := hb1.size; simp at this; omega
  clear hb1
  go_wp2_with fail
  refine (pure_any k n d S _ h1 h2 g1 g2).mono ?_
  rintro e w2 ⟨rfl, hb2⟩
  rw [hp]
  have R2 : Hid (BlkV w2 w.heap.size 0 0 0 ⟨#[]⟩) := (R1.out.below ((Below.refl w1.heap.size w1).alloc (Nat.le_refl _) _) z1).below hb2 (by simp; omega)
  have V2 : Hid (BlkV w2 w1.heap.size k n d S) := BlkV.below (by constructor <;> simp (maxDischargeDepth := 12) [go_sem]) hb2 (by simp)
  have B2 : Below w.heap.size w w2 := (B1.alloc (by omega) _).trans (hb2.mono (by simp; omega))
  have z2 : w1.heap.size < w2.heap.size := by have := hb2.size; simp at this; omega
  clear R1 B1 hb2
  obtain ⟨r0, r1, r2, r3, r4, r5, r6, r7⟩ := R2.out
  go_wp2
  generalize hW9 : World.setCell _ _ _ = W9
  have b9 : BlkV W9 w.heap.size 0 0 0 ⟨#[]⟩ := by rw [← hW9]; exact R2.out.four
  have hB9 : Below w.heap.size w W9 := by rw [← hW9]; exact (((B2.setCell (by simp) _).setCell (by simp) _).setCell (by simp) _).setCell (by simp) _
  clear hW9
  obtain ⟨x0, x1, x2, x3, -, -, -, -⟩ := b9
  refine bodyPost_ret (by simp [results, Tryz.results149, go_sem, x0, x1, x2, x3]; try rfl) rfl ?_
  exact ⟨rfl, hB9⟩

set_option maxRecDepth 100000 in
set_option maxHeartbeats 4000000 in
theorem parse_no3 (s S : ByteArray) (k n d : Int) (ok : Bool) (w : World) (h1 : -9223372036854775808 ≤ n) (h2 : n ≤ 9223372036854775807) (g1 : -9223372036854775808 ≤ d) (g2 : d ≤ 9223372036854775807) (hS : S.size ≤ 35184372088830)
    (GU : Hid (∀ W : World, Errs W → 9 ≤ W.heap.size → Calls Tryz.prog 160 #[.string s] W fun e w' => e = .returned (.tuple #[.agg #[.int .i64 k, .int .i64 n, .int .i64 d, .string S], .bool ok]) ∧ Below W.heap.size W w'))
    (ht : Pow w) (he : Errs w) (h8 : 9 ≤ w.heap.size) (ho : ok = true) (hp : pureB k n d S = true) (hq : ((⟨(vtext k n d S).toArray⟩ : ByteArray).toList == s.toList) = false) :
    Calls Tryz.prog 149 #[.string s] w fun e w' => e = .returned (.tuple #[.agg #[.int .i64 0, .int .i64 0, .int .i64 0, .string ⟨#[]⟩], .int .i64 70]) ∧ Below w.heap.size w w' := by
  subst ho
  have HE : Hid (Errs w) := he
  clear he
  go_enter Tryz.func149, Tryz.ntmps149
  go_wp2_with fail
  refine (GU.out _ (HE.out.alloc h8 _) (by simp; omega)).mono ?_
  rintro e w1 ⟨rfl, hb1⟩
  have R1 : Hid (BlkV w1 w.heap.size 0 0 0 ⟨#[]⟩) := BlkV.below (by constructor <;> simp (maxDischargeDepth := 12) [go_sem]) hb1 (by simp)
  have B1 : Below w.heap.size w w1 := ((Below.refl _ w).alloc (Nat.le_refl _) _).trans (hb1.mono (by simp))
  have z1 : w.heap.size < w1.heap.size := by have := hb1.size; simp at this; omega
  clear hb1
  go_wp2_with fail
  refine (pure_any k n d S _ h1 h2 g1 g2).mono ?_
  rintro e w2 ⟨rfl, hb2⟩
  rw [hp]
  have R2 : Hid (BlkV w2 w.heap.size 0 0 0 ⟨#[]⟩) := (R1.out.below ((Below.refl w1.heap.size w1).alloc (Nat.le_refl _) _) z1).below hb2 (by simp; omega)
  have V2 : Hid (BlkV w2 w1.heap.size k n d S) := BlkV.below (by constructor <;> simp (maxDischargeDepth := 12) [go_sem]) hb2 (by simp)
  have B2 : Below w.heap.size w w2 := (B1.alloc (by omega) _).trans (hb2.mono (by simp; omega))
  have z2 : w1.heap.size < w2.heap.size := by have := hb2.size; simp at this; omega
  clear R1 B1 hb2
  obtain ⟨v0, v1, v2, v3, -, -, -, -⟩ := V2.out
  obtain ⟨T, eT⟩ : ∃ T : ByteArray, Hid ((⟨(vtext k n d S).toArray⟩ : ByteArray) = T) := ⟨_, rfl⟩
  have TX : Hid (∀ W : World, Pow W → Calls Tryz.prog 112 #[.agg #[.int .i64 k, .int .i64 n, .int .i64 d, .string S]] W fun e w' => e = .returned (.string T) ∧ Below W.heap.size W w') := fun W hW => by
    have q := text_any k n d S W h1 h2 g1 g2 hS hW
    rw [eT.out] at q
    exact q
  rw [eT.out] at hq
  clear eT
  go_wp2_with fail
  refine (TX.out _ (ht.below B2)).mono ?_
  rintro e w3 ⟨rfl, hb3⟩
  clear v0 v1 v2 v3
  have R3 : Hid (BlkV w3 w.heap.size 0 0 0 ⟨#[]⟩) := R2.out.below hb3 (by omega)
  have V3 : Hid (BlkV w3 w1.heap.size k n d S) := V2.out.below hb3 z2
  have B3 : Below w.heap.size w w3 := B2.trans (hb3.mono B2.size)
  have z3 : w1.heap.size < w3.heap.size := by have := hb3.size; omega
  clear R2 V2 B2 hb3
  obtain ⟨v0, v1, v2, v3, -, -, -, -⟩ := V3.out
  obtain ⟨r0, r1, r2, r3, r4, r5, r6, r7⟩ := R3.out
  go_wp2
  generalize hW9 : World.setCell _ _ _ = W9
  have b9 : BlkV W9 w.heap.size 0 0 0 ⟨#[]⟩ := by rw [← hW9]; exact R3.out.four
  have hB9 : Below w.heap.size w W9 := by rw [← hW9]; exact (((B3.setCell (by simp) _).setCell (by simp) _).setCell (by simp) _).setCell (by simp) _
  clear hW9
  obtain ⟨x0, x1, x2, x3, -, -, -, -⟩ := b9
  refine bodyPost_ret (by simp [results, Tryz.results149, go_sem, x0, x1, x2, x3]; try rfl) rfl ?_
  exact ⟨rfl, hB9⟩

set_option maxRecDepth 100000 in
set_option maxHeartbeats 4000000 in
theorem parse_long (s S : ByteArray) (k n d : Int) (ok : Bool) (w : World) (h1 : -9223372036854775808 ≤ n) (h2 : n ≤ 9223372036854775807) (g1 : -9223372036854775808 ≤ d) (g2 : d ≤ 9223372036854775807) (hS : S.size ≤ 35184372088830)
    (GU : Hid (∀ W : World, Errs W → 9 ≤ W.heap.size → Calls Tryz.prog 160 #[.string s] W fun e w' => e = .returned (.tuple #[.agg #[.int .i64 k, .int .i64 n, .int .i64 d, .string S], .bool ok]) ∧ Below W.heap.size W w'))
    (ht : Pow w) (he : Errs w) (h8 : 9 ≤ w.heap.size) (C : Int) (ho : ok = true) (hp : pureB k n d S = true) (hq : (⟨(vtext k n d S).toArray⟩ : ByteArray) = s) (hc : chk k n d S = C) (hC : (C != 0) = true) :
    Calls Tryz.prog 149 #[.string s] w fun e w' => e = .returned (.tuple #[.agg #[.int .i64 0, .int .i64 0, .int .i64 0, .string ⟨#[]⟩], .int .i64 C]) ∧ Below w.heap.size w w' := by
  subst ho
  have HE : Hid (Errs w) := he
  clear he
  go_enter Tryz.func149, Tryz.ntmps149
  go_wp2_with fail
  refine (GU.out _ (HE.out.alloc h8 _) (by simp; omega)).mono ?_
  rintro e w1 ⟨rfl, hb1⟩
  have R1 : Hid (BlkV w1 w.heap.size 0 0 0 ⟨#[]⟩) := BlkV.below (by constructor <;> simp (maxDischargeDepth := 12) [go_sem]) hb1 (by simp)
  have B1 : Below w.heap.size w w1 := ((Below.refl _ w).alloc (Nat.le_refl _) _).trans (hb1.mono (by simp))
  have z1 : w.heap.size < w1.heap.size := by have := hb1.size; simp at this; omega
  clear hb1
  go_wp2_with fail
  refine (pure_any k n d S _ h1 h2 g1 g2).mono ?_
  rintro e w2 ⟨rfl, hb2⟩
  rw [hp]
  have R2 : Hid (BlkV w2 w.heap.size 0 0 0 ⟨#[]⟩) := (R1.out.below ((Below.refl w1.heap.size w1).alloc (Nat.le_refl _) _) z1).below hb2 (by simp; omega)
  have V2 : Hid (BlkV w2 w1.heap.size k n d S) := BlkV.below (by constructor <;> simp (maxDischargeDepth := 12) [go_sem]) hb2 (by simp)
  have B2 : Below w.heap.size w w2 := (B1.alloc (by omega) _).trans (hb2.mono (by simp; omega))
  have z2 : w1.heap.size < w2.heap.size := by have := hb2.size; simp at this; omega
  clear R1 B1 hb2
  obtain ⟨v0, v1, v2, v3, -, -, -, -⟩ := V2.out
  obtain ⟨T, eT⟩ : ∃ T : ByteArray, Hid ((⟨(vtext k n d S).toArray⟩ : ByteArray) = T) := ⟨_, rfl⟩
  have TX : Hid (∀ W : World, Pow W → Calls Tryz.prog 112 #[.agg #[.int .i64 k, .int .i64 n, .int .i64 d, .string S]] W fun e w' => e = .returned (.string T) ∧ Below W.heap.size W w') := fun W hW => by
    have q := text_any k n d S W h1 h2 g1 g2 hS hW
    rw [eT.out] at q
    exact q
  rw [eT.out] at hq
  clear eT
  subst hq
  go_wp2_with fail
  refine (TX.out _ (ht.below B2)).mono ?_
  rintro e w3 ⟨rfl, hb3⟩
  clear v0 v1 v2 v3
  have R3 : Hid (BlkV w3 w.heap.size 0 0 0 ⟨#[]⟩) := R2.out.below hb3 (by omega)
  have V3 : Hid (BlkV w3 w1.heap.size k n d S) := V2.out.below hb3 z2
  have B3 : Below w.heap.size w w3 := B2.trans (hb3.mono B2.size)
  have z3 : w1.heap.size < w3.heap.size := by have := hb3.size; omega
  clear R2 V2 B2 hb3
  obtain ⟨v0, v1, v2, v3, -, -, -, -⟩ := V3.out
  obtain ⟨r0, r1, r2, r3, r4, r5, r6, r7⟩ := R3.out
  go_wp2_with fail
  refine (check_any k n d S _ h1 h2 g1 g2).mono ?_
  rintro e w4 ⟨rfl, hb4⟩
  rw [hc]
  clear v0 v1 v2 v3 r0 r1 r2 r3 r4 r5 r6 r7
  have R4 : Hid (BlkV w4 w.heap.size 0 0 0 ⟨#[]⟩) := R3.out.below hb4 (by omega)
  have V4 : Hid (BlkV w4 w1.heap.size k n d S) := V3.out.below hb4 z3
  have B4 : Below w.heap.size w w4 := B3.trans (hb4.mono B3.size)
  clear R3 V3 B3 hb4
  obtain ⟨v0, v1, v2, v3, -, -, -, -⟩ := V4.out
  obtain ⟨r0, r1, r2, r3, r4, r5, r6, r7⟩ := R4.out
  go_wp2
  generalize hW9 : World.setCell _ _ _ = W9
  have b9 : BlkV W9 w.heap.size 0 0 0 ⟨#[]⟩ := by rw [← hW9]; exact R4.out.four
  have hB9 : Below w.heap.size w W9 := by rw [← hW9]; exact (((B4.setCell (by simp) _).setCell (by simp) _).setCell (by simp) _).setCell (by simp) _
  clear hW9
  obtain ⟨x0, x1, x2, x3, -, -, -, -⟩ := b9
  refine bodyPost_ret (by simp [results, Tryz.results149, go_sem, x0, x1, x2, x3]; try rfl) rfl ?_
  exact ⟨rfl, hB9⟩

set_option maxRecDepth 100000 in
set_option maxHeartbeats 4000000 in
theorem parse_yes (s S : ByteArray) (k n d : Int) (ok : Bool) (w : World) (h1 : -9223372036854775808 ≤ n) (h2 : n ≤ 9223372036854775807) (g1 : -9223372036854775808 ≤ d) (g2 : d ≤ 9223372036854775807) (hS : S.size ≤ 35184372088830)
    (GU : Hid (∀ W : World, Errs W → 9 ≤ W.heap.size → Calls Tryz.prog 160 #[.string s] W fun e w' => e = .returned (.tuple #[.agg #[.int .i64 k, .int .i64 n, .int .i64 d, .string S], .bool ok]) ∧ Below W.heap.size W w'))
    (ht : Pow w) (he : Errs w) (h8 : 9 ≤ w.heap.size) (ho : ok = true) (hp : pureB k n d S = true) (hq : (⟨(vtext k n d S).toArray⟩ : ByteArray) = s) (hc : chk k n d S = 0) :
    Calls Tryz.prog 149 #[.string s] w fun e w' => e = .returned (.tuple #[.agg #[.int .i64 k, .int .i64 n, .int .i64 d, .string S], .int .i64 0]) ∧ Below w.heap.size w w' := by
  subst ho
  have HE : Hid (Errs w) := he
  clear he
  go_enter Tryz.func149, Tryz.ntmps149
  go_wp2_with fail
  refine (GU.out _ (HE.out.alloc h8 _) (by simp; omega)).mono ?_
  rintro e w1 ⟨rfl, hb1⟩
  have R1 : Hid (BlkV w1 w.heap.size 0 0 0 ⟨#[]⟩) := BlkV.below (by constructor <;> simp (maxDischargeDepth := 12) [go_sem]) hb1 (by simp)
  have B1 : Below w.heap.size w w1 := ((Below.refl _ w).alloc (Nat.le_refl _) _).trans (hb1.mono (by simp))
  have z1 : w.heap.size < w1.heap.size := by have := hb1.size; simp at this; omega
  clear hb1
  go_wp2_with fail
  refine (pure_any k n d S _ h1 h2 g1 g2).mono ?_
  rintro e w2 ⟨rfl, hb2⟩
  rw [hp]
  have R2 : Hid (BlkV w2 w.heap.size 0 0 0 ⟨#[]⟩) := (R1.out.below ((Below.refl w1.heap.size w1).alloc (Nat.le_refl _) _) z1).below hb2 (by simp; omega)
  have V2 : Hid (BlkV w2 w1.heap.size k n d S) := BlkV.below (by constructor <;> simp (maxDischargeDepth := 12) [go_sem]) hb2 (by simp)
  have B2 : Below w.heap.size w w2 := (B1.alloc (by omega) _).trans (hb2.mono (by simp; omega))
  have z2 : w1.heap.size < w2.heap.size := by have := hb2.size; simp at this; omega
  clear R1 B1 hb2
  obtain ⟨v0, v1, v2, v3, -, -, -, -⟩ := V2.out
  obtain ⟨T, eT⟩ : ∃ T : ByteArray, Hid ((⟨(vtext k n d S).toArray⟩ : ByteArray) = T) := ⟨_, rfl⟩
  have TX : Hid (∀ W : World, Pow W → Calls Tryz.prog 112 #[.agg #[.int .i64 k, .int .i64 n, .int .i64 d, .string S]] W fun e w' => e = .returned (.string T) ∧ Below W.heap.size W w') := fun W hW => by
    have q := text_any k n d S W h1 h2 g1 g2 hS hW
    rw [eT.out] at q
    exact q
  rw [eT.out] at hq
  clear eT
  subst hq
  go_wp2_with fail
  refine (TX.out _ (ht.below B2)).mono ?_
  rintro e w3 ⟨rfl, hb3⟩
  clear v0 v1 v2 v3
  have R3 : Hid (BlkV w3 w.heap.size 0 0 0 ⟨#[]⟩) := R2.out.below hb3 (by omega)
  have V3 : Hid (BlkV w3 w1.heap.size k n d S) := V2.out.below hb3 z2
  have B3 : Below w.heap.size w w3 := B2.trans (hb3.mono B2.size)
  have z3 : w1.heap.size < w3.heap.size := by have := hb3.size; omega
  clear R2 V2 B2 hb3
  obtain ⟨v0, v1, v2, v3, -, -, -, -⟩ := V3.out
  obtain ⟨r0, r1, r2, r3, r4, r5, r6, r7⟩ := R3.out
  go_wp2_with fail
  refine (check_any k n d S _ h1 h2 g1 g2).mono ?_
  rintro e w4 ⟨rfl, hb4⟩
  rw [hc]
  clear v0 v1 v2 v3 r0 r1 r2 r3 r4 r5 r6 r7
  have R4 : Hid (BlkV w4 w.heap.size 0 0 0 ⟨#[]⟩) := R3.out.below hb4 (by omega)
  have V4 : Hid (BlkV w4 w1.heap.size k n d S) := V3.out.below hb4 z3
  have B4 : Below w.heap.size w w4 := B3.trans (hb4.mono B3.size)
  clear R3 V3 B3 hb4
  obtain ⟨v0, v1, v2, v3, -, -, -, -⟩ := V4.out
  obtain ⟨r0, r1, r2, r3, r4, r5, r6, r7⟩ := R4.out
  go_wp2
  generalize hW9 : World.setCell _ _ _ = W9
  have b9 : BlkV W9 w.heap.size k n d S := by rw [← hW9]; exact R4.out.four
  have hB9 : Below w.heap.size w W9 := by rw [← hW9]; exact (((B4.setCell (by simp) _).setCell (by simp) _).setCell (by simp) _).setCell (by simp) _
  clear hW9
  obtain ⟨x0, x1, x2, x3, -, -, -, -⟩ := b9
  refine bodyPost_ret (by simp [results, Tryz.results149, go_sem, x0, x1, x2, x3]; try rfl) rfl ?_
  exact ⟨rfl, hB9⟩

/-- What Parse tells of a text. -/
def prs (l : List UInt8) : Val × Int :=
  if (gss l).2 = true ∧ pureB (gss l).1.k (gss l).1.n (gss l).1.d (gss l).1.s = true ∧ vtext (gss l).1.k (gss l).1.n (gss l).1.d (gss l).1.s = l then
    (if chk (gss l).1.k (gss l).1.n (gss l).1.d (gss l).1.s = 0 then ((gss l).1, 0) else (⟨0, 0, 0, ⟨#[]⟩⟩, chk (gss l).1.k (gss l).1.n (gss l).1.d (gss l).1.s))
  else (⟨0, 0, 0, ⟨#[]⟩⟩, 70)

theorem gss_fits (l : List UInt8) : (gss l).1.Fits := by
  unfold gss
  split
  · exact ⟨by simp, by simp, by simp, by simp⟩
  · split
    · exact ⟨(pint_fits _).1, (pint_fits _).2, by simp, by simp⟩
    · split
      · exact ⟨(pint_fits _).1, (pint_fits _).2, by simp, by simp⟩
      · exact ⟨(pint_fits _).1, (pint_fits _).2, (pint_fits _).1, (pint_fits _).2⟩
theorem gss_size (l : List UInt8) : (gss l).1.s.size ≤ l.length := by
  unfold gss
  split
  · show (outS (unqS (l.drop 1))).size ≤ l.length
    cases hu : unqS (l.drop 1) with
    | none => simp [outS, ByteArray.size]
    | some x =>
      unfold unqS at hu
      split at hu
      · have h1 := unq_len _ _ x (Nat.le_refl _) hu
        have h2 := trim_len (l.drop 1)
        have h3 : (outS (some x)).size = x.length := by simp [outS, ByteArray.size]
        have h4 : (l.drop 1).length ≤ l.length := by simp
        omega
      · cases hu
  · split
    · exact Nat.zero_le _
    · split <;> exact Nat.zero_le _

theorem parse_any (s : ByteArray) (w : World) (hs : s.size ≤ 35184372088830) (ht : Pow w) (he : Errs w) (h8 : 9 ≤ w.heap.size) :
    Calls Tryz.prog 149 #[.string s] w fun e w' => e = .returned (.tuple #[.agg #[.int .i64 (prs s.data.toList).1.k, .int .i64 (prs s.data.toList).1.n, .int .i64 (prs s.data.toList).1.d, .string (prs s.data.toList).1.s], .int .i64 (prs s.data.toList).2]) ∧ Below w.heap.size w w' := by
  have hf := gss_fits s.data.toList
  have hz := gss_size s.data.toList
  have hl : s.data.toList.length = s.size := by simp
  have GU := fun (W : World) (g1 : Errs W) (g2 : 9 ≤ W.heap.size) => guess_any s W (by omega) g1 g2
  unfold prs
  obtain ⟨g, hg⟩ : ∃ g, gss s.data.toList = g := ⟨_, rfl⟩
  rw [hg] at hf hz GU ⊢
  obtain ⟨⟨k, n, d, S⟩, ok⟩ := g
  dsimp only at hf hz GU ⊢
  cases ho : ok
  · rw [if_neg (by simp)]
    exact parse_no1 s S k n d ok w hf.n1 hf.n2 hf.d1 hf.d2 (by omega) GU ht he h8 ho
  · cases hp : pureB k n d S
    · rw [if_neg (by simp)]
      exact parse_no2 s S k n d ok w hf.n1 hf.n2 hf.d1 hf.d2 (by omega) GU ht he h8 ho hp
    · by_cases hq : vtext k n d S = s.data.toList
      · have hq' : (⟨(vtext k n d S).toArray⟩ : ByteArray) = s := (ba_eq hq.symm).symm
        rw [if_pos ⟨rfl, rfl, hq⟩]
        by_cases hc : chk k n d S = 0
        · rw [if_pos hc]
          exact parse_yes s S k n d ok w hf.n1 hf.n2 hf.d1 hf.d2 (by omega) GU ht he h8 ho hp hq' hc
        · rw [if_neg hc]
          exact parse_long s S k n d ok w hf.n1 hf.n2 hf.d1 hf.d2 (by omega) GU ht he h8 _ ho hp hq' rfl (by simpa using hc)
      · rw [if_neg (fun h => hq h.2.2)]
        exact parse_no3 s S k n d ok w hf.n1 hf.n2 hf.d1 hf.d2 (by omega) GU ht he h8 ho hp (by simp only [toList_data]; simpa using hq)

end Go.Proofs.YticmebamclacaaaGreatDoor

namespace Go.Proofs.YticmebamclacaaaGreatDoor
open Go.RowKit Go.Shelf
set_option linter.unusedVariables false

/-- A text cut at its first comma. -/
def cutC : List UInt8 → List UInt8 × List UInt8 × Bool
  | [] => ([], [], false)
  | c :: r => if c.toNat = 44 then ([], r, true) else (c :: (cutC r).1, (cutC r).2.1, (cutC r).2.2)
theorem cutC_no : ∀ (l : List UInt8), (cutC l).2.2 = false → cutC l = (l, [], false) ∧ Lib.indexByte l 44 = -1
  | [], _ => ⟨rfl, rfl⟩
  | c :: r, h => by
    unfold cutC at h ⊢
    by_cases hc : c.toNat = 44
    · rw [if_pos hc] at h; cases h
    · rw [if_neg hc] at h ⊢
      obtain ⟨h1, h2⟩ := cutC_no r h
      have h3 : (c == 44) = false := by simp; intro e; exact hc (by rw [e]; rfl)
      refine ⟨by rw [h1], ?_⟩
      unfold Lib.indexByte
      rw [h3, h2]
      rfl
theorem cutC_yes : ∀ (l : List UInt8), (cutC l).2.2 = true → l = (cutC l).1 ++ 44 :: (cutC l).2.1 ∧ Lib.indexByte l 44 = ((cutC l).1.length : Int)
  | [], h => by cases h
  | c :: r, h => by
    unfold cutC at h ⊢
    by_cases hc : c.toNat = 44
    · rw [if_pos hc]
      have e : c = 44 := UInt8.toNat_inj.1 hc
      subst e
      exact ⟨rfl, rfl⟩
    · rw [if_neg hc] at h ⊢
      obtain ⟨h1, h2⟩ := cutC_yes r h
      have h3 : (c == 44) = false := by simp; intro e; exact hc (by rw [e]; rfl)
      refine ⟨by simp only [List.cons_append]; rw [← h1], ?_⟩
      unfold Lib.indexByte
      rw [h3, h2]
      have h4 : (((cutC r).1.length : Int) == -1) = false := by simp
      simp [h4]
set_option maxRecDepth 100000 in
set_option maxHeartbeats 2000000 in
theorem comma_no (s : ByteArray) (w : World) (h : (cutC s.data.toList).2.2 = false) :
    Calls Tryz.prog 159 #[.string s, .string ⟨#[44]⟩] w fun e w' => e = .returned (.tuple #[.string s, .string ⟨#[]⟩, .bool false]) ∧ ∃ k, w' = w.drewN k := by
  have H : Hid (∀ W : World, Calls Tryz.prog 163 #[.string s, .string ⟨#[44]⟩] W fun e w' => e = .returned (.tuple #[.string s, .string ⟨#[]⟩, .bool false]) ∧ ∃ k, w' = W.drewN k) := fun W => by
    have I : Hid (∀ W : World, Calls Tryz.prog 117 #[.string s, .string ⟨#[44]⟩] W fun e w' => e = .returned (.int .i64 (-1)) ∧ w' = W) := fun W => by
      have q := Tryz.stringslite_Index_one s 44 W
      rw [(cutC_no _ h).2] at q
      exact q
    clear h
    go_enter Tryz.func163, Tryz.ntmps163
    go_wp2_with fail
    refine (I.out _).mono ?_
    rintro e w1 ⟨rfl, rfl⟩
    go_wp2
    refine bodyPost_ret (by simp [results, Tryz.results163, go_sem]; try rfl) rfl ?_
    exact ⟨rfl, 0, rfl⟩
  clear h
  go_enter Tryz.func159, Tryz.ntmps159
  go_wp2_with fail
  refine (H.out _).mono ?_
  rintro e w1 ⟨rfl, k, rfl⟩
  go_wp2
  refine bodyPost_ret (by simp [results, Tryz.results159, go_sem]; try rfl) rfl ?_
  exact ⟨rfl, k, rfl⟩

set_option maxRecDepth 100000 in
set_option maxHeartbeats 2000000 in
theorem comma_yes (s : ByteArray) (w : World) (h : (cutC s.data.toList).2.2 = true) (hs : s.size ≤ 140737488355328) :
    Calls Tryz.prog 159 #[.string s, .string ⟨#[44]⟩] w fun e w' => e = .returned (.tuple #[.string ⟨(cutC s.data.toList).1.toArray⟩, .string ⟨(cutC s.data.toList).2.1.toArray⟩, .bool true]) ∧ ∃ k, w' = w.drewN k := by
  obtain ⟨h1, h2⟩ := cutC_yes _ h
  obtain ⟨A, eA⟩ : ∃ A : ByteArray, Hid ((⟨(cutC s.data.toList).1.toArray⟩ : ByteArray) = A) := ⟨_, rfl⟩
  obtain ⟨B, eB⟩ : ∃ B : ByteArray, Hid ((⟨(cutC s.data.toList).2.1.toArray⟩ : ByteArray) = B) := ⟨_, rfl⟩
  obtain ⟨n, en⟩ : ∃ n : Nat, Hid ((cutC s.data.toList).1.length = n) := ⟨_, rfl⟩
  have hl : s.data.toList.length = n + 1 + (cutC s.data.toList).2.1.length := by
    have := congrArg List.length h1
    rw [List.length_append, List.length_cons, en.out] at this
    omega
  have hsz : s.data.toList.length = s.size := by simp
  have hn : n + 1 ≤ s.size := by omega
  have x1 : s.extract 0 n = A := by
    rw [← eA.out]
    refine ba_eq ?_
    rw [ext_take s n (by omega)]
    generalize cutC s.data.toList = c at h1 en
    rw [h1, ← en.out]
    simp
  have x2 : s.extract (n + 1) s.size = B := by
    rw [← eB.out]
    refine ba_eq ?_
    rw [ext_drop s (n + 1) hn]
    generalize cutC s.data.toList = c at h1 en
    rw [h1, ← en.out, List.drop_append]
    simp
  rw [eA.out, eB.out]
  have H : Hid (∀ W : World, Calls Tryz.prog 163 #[.string s, .string ⟨#[44]⟩] W fun e w' => e = .returned (.tuple #[.string A, .string B, .bool true]) ∧ ∃ k, w' = W.drewN k) := fun W => by
    have I : Hid (∀ W : World, Calls Tryz.prog 117 #[.string s, .string ⟨#[44]⟩] W fun e w' => e = .returned (.int .i64 n) ∧ w' = W) := fun W => by
      have q := Tryz.stringslite_Index_one s 44 W
      rw [h2, en.out] at q
      exact q
    clear h h1 h2 eA eB en hl hsz
    have z1 : (⟨#[44]⟩ : ByteArray).size = 1 := rfl
    have hn0 : (n : Int) ≤ s.size := by omega
    have hn1 : (n : Int) + 1 ≤ s.size := by omega
    go_enter Tryz.func163, Tryz.ntmps163
    go_wp2_with fail
    refine (I.out _).mono ?_
    rintro e w1 ⟨rfl, rfl⟩
    go_wp2
    go_quiet (fail)
    go_wp2
    refine bodyPost_ret (by simp [results, Tryz.results163, go_sem]; try rfl) rfl ?_
    exact ⟨rfl, nq, rfl⟩
  clear h h1 h2 eA eB en x1 x2 hl hsz
  go_enter Tryz.func159, Tryz.ntmps159
  go_wp2_with fail
  refine (H.out _).mono ?_
  rintro e w1 ⟨rfl, k, rfl⟩
  go_wp2
  refine bodyPost_ret (by simp [results, Tryz.results159, go_sem]; try rfl) rfl ?_
  exact ⟨rfl, k, rfl⟩

theorem comma_any (s : ByteArray) (w : World) (hs : s.size ≤ 140737488355328) :
    Calls Tryz.prog 159 #[.string s, .string ⟨#[44]⟩] w fun e w' => e = .returned (.tuple #[.string ⟨(cutC s.data.toList).1.toArray⟩, .string ⟨(cutC s.data.toList).2.1.toArray⟩, .bool (cutC s.data.toList).2.2]) ∧ ∃ k, w' = w.drewN k := by
  cases h : (cutC s.data.toList).2.2
  · have q := comma_no s w h
    rw [(cutC_no _ h).1]
    exact q
  · exact comma_yes s w h hs
end Go.Proofs.YticmebamclacaaaGreatDoor

namespace Go.Proofs.YticmebamclacaaaGreatDoor
open Go.RowKit LX

def intAt (a : Act) (i : Nat) : Int := match a.tmps.getD i undef with | .int _ q => q | _ => 0


theorem run_yes (p : Nat → Bool) (h0 : p 0 = false) {l : List UInt8} {e : Nat} (h : p (hd (l.drop e)) = true) : e < l.length ∧ run p (l.drop e) = run p (l.drop (e + 1)) + 1 := by
  by_cases he : e < l.length
  · refine ⟨he, ?_⟩
    rw [List.drop_eq_getElem_cons he] at h ⊢
    simp only [hd] at h
    simp [run, h]
  · rw [List.drop_eq_nil_of_le (by omega)] at h
    rw [hd, h0] at h
    cases h
theorem run_no (p : Nat → Bool) {l : List UInt8} (h : p (hd l) = false) : run p l = 0 := by
  cases l with
  | nil => rfl
  | cons c t => simp only [hd] at h; simp [run, h]
theorem num_yes {l : List UInt8} {e : Nat} (h : digN (hd (l.drop e)) = true) : e < l.length ∧ numLen (l.drop e) = numLen (l.drop (e + 1)) + 1 := by
  obtain ⟨h1, h2⟩ := run_yes digN rfl h
  refine ⟨h1, ?_⟩
  unfold numLen
  rw [h2]
  simp only [List.drop_drop]
  rw [show e + (run digN (l.drop (e + 1)) + 1) = e + 1 + run digN (l.drop (e + 1)) by omega, show e + (run digN (l.drop (e + 1)) + 1 + 1) = e + 1 + (run digN (l.drop (e + 1)) + 1) by omega]
  split <;> omega
theorem num_no {l : List UInt8} {e : Nat} (h : digN (hd (l.drop e)) = false) : numLen (l.drop e) = if hd (l.drop e) = 47 ∧ digN (hd (l.drop (e + 1))) = true then 1 + run digN (l.drop (e + 1)) else 0 := by
  unfold numLen
  rw [run_no digN h]
  simp only [List.drop_drop, Nat.add_zero, Nat.zero_add]

set_option maxRecDepth 100000 in
set_option maxHeartbeats 4000000 in
theorem numeral_any (s : ByteArray) (i : Nat) (w : World) (hs : s.size ≤ 16384) (hi : i ≤ s.size) :
    Calls Tryz.prog 144 #[.string s, .int .i64 i] w fun e w' => e = .returned (.int .i64 (i + numLen (s.data.toList.drop i) : Nat)) ∧ w' = w := by
  have hl : s.data.toList.length = s.size := by simp
  have PK : Hid (∀ (e : Nat) (W : World), Calls Tryz.prog 143 #[.string s, .int .i64 e] W fun x w' => x = .returned (.int .u8 (hd (s.data.toList.drop e))) ∧ w' = W) := fun e W => peek_any s e W
  have DG : Hid (∀ (e : Nat) (W : World), Calls Tryz.prog 142 #[.int .u8 (hd (s.data.toList.drop e))] W fun x w' => x = .returned (.bool (digN (hd (s.data.toList.drop e)))) ∧ w' = W) := fun e W => digit_any _ W (hd_lt _)
  obtain ⟨R, eR⟩ : ∃ R, Hid (i + numLen (s.data.toList.drop i) = R) := ⟨_, rfl⟩
  rw [eR.out]
  go_enter Tryz.func144, Tryz.ntmps144
  go_wp2
  refine wp_scope_from 0 (fun l a w' => w' = w ∧ ∃ (e : Nat) (u2 u3 u4 u5 u6 u7 u8 u9 u10 u11 u12 u13 u14 u15 u16 u17 u18 u19 u20 u21 u22 u23 u24 u25 u26 u27 u28 u29 u30 u31 : Value), a = { tmps := #[.string s, .int .i64 (e : Nat), u2, u3, u4, u5, u6, u7, u8, u9, u10, u11, u12, u13, u14, u15, u16, u17, u18, u19, u20, u21, u22, u23, u24, u25, u26, u27, u28, u29, u30, u31], defers := [] } ∧ e ≤ s.size ∧ ((l = 0 ∧ Hid (e + numLen (s.data.toList.drop e) = R)) ∨ (l = 1 ∧ Hid (e + run digN (s.data.toList.drop e) = R)))) (fun _ a _ => (s.size - intAt a 1).toNat) rfl ?_ ?_
  · exact ⟨rfl, i, _, _, _, _, _, _, _, _, _, _, _, _, _, _, _, _, _, _, _, _, _, _, _, _, _, _, _, _, _, _, rfl, hi, .inl ⟨rfl, eR⟩⟩
  · rintro l a w' ⟨rfl, e, u2, u3, u4, u5, u6, u7, u8, u9, u10, u11, u12, u13, u14, u15, u16, u17, u18, u19, u20, u21, u22, u23, u24, u25, u26, u27, u28, u29, u30, u31, rfl, he, ⟨rfl, hR⟩ | ⟨rfl, hR⟩⟩
    · refine ⟨_, rfl, ?_⟩
      go_wp2_with fail
      refine (PK.out e _).mono ?_
      rintro x w1 ⟨rfl, rfl⟩
      go_wp2_with fail
      refine (DG.out e _).mono ?_
      rintro x w1 ⟨rfl, rfl⟩
      cases hd0 : digN (hd (s.data.toList.drop e))
      · go_wp2_with fail
        refine (PK.out e _).mono ?_
        rintro x w1 ⟨rfl, rfl⟩
        by_cases h47 : hd (s.data.toList.drop e) = 47
        · have h47' : ((hd (s.data.toList.drop e) : Nat) : Int) = 47 := by omega
          have hlt : e < s.size := by
            apply Classical.byContradiction
            intro hn
            rw [hd_end s e (by omega)] at h47
            cases h47
          go_wp2_with fail
          refine (PK.out (e + 1) _).mono ?_
          rintro x w1 ⟨rfl, rfl⟩
          go_wp2_with fail
          refine (DG.out (e + 1) _).mono ?_
          rintro x w1 ⟨rfl, rfl⟩
          cases hd1 : digN (hd (s.data.toList.drop (e + 1)))
          · go_wp2
            have hr := num_no hd0
            rw [if_neg (by rw [hd1]; simp)] at hr
            have hR' := hR.out
            simp only [Exit.jumps]
            go_ret
            exact ⟨reti (by omega), rfl⟩
          · go_wp2
            go_step3
            have hr := num_no hd0
            rw [if_pos ⟨h47, hd1⟩] at hr
            have hR' := hR.out
            refine ⟨⟨rfl, e + 1, _, _, _, _, _, _, _, _, _, _, _, _, _, _, _, _, _, _, _, _, _, _, _, _, _, _, _, _, _, _, rfl, by omega, .inr ⟨rfl, (show _ = _ by omega)⟩⟩, ?_⟩
            simp [intAt]
            omega
        · have h47' : ¬ ((hd (s.data.toList.drop e) : Nat) : Int) = 47 := by omega
          go_wp2
          have hr := num_no hd0
          rw [if_neg (by intro hx; exact h47 hx.1)] at hr
          have hR' := hR.out
          simp only [Exit.jumps]
          go_ret
          exact ⟨reti (by omega), rfl⟩
      · obtain ⟨g1, g2⟩ := num_yes hd0
        rw [hl] at g1
        go_wp2
        go_step3
        have hR' := hR.out
        refine ⟨⟨rfl, e + 1, _, _, _, _, _, _, _, _, _, _, _, _, _, _, _, _, _, _, _, _, _, _, _, _, _, _, _, _, _, _, rfl, by omega, .inl ⟨rfl, (show _ = _ by omega)⟩⟩, ?_⟩
        simp [intAt]
        omega
    · refine ⟨_, rfl, ?_⟩
      go_wp2_with fail
      refine (PK.out e _).mono ?_
      rintro x w1 ⟨rfl, rfl⟩
      go_wp2_with fail
      refine (DG.out e _).mono ?_
      rintro x w1 ⟨rfl, rfl⟩
      cases hd0 : digN (hd (s.data.toList.drop e))
      · go_wp2
        have hr := run_no digN hd0
        have hR' := hR.out
        simp only [Exit.jumps]
        go_ret
        exact ⟨reti (by omega), rfl⟩
      · obtain ⟨g1, g2⟩ := run_yes digN rfl hd0
        rw [hl] at g1
        go_wp2
        go_step3
        have hR' := hR.out
        refine ⟨⟨rfl, e + 1, _, _, _, _, _, _, _, _, _, _, _, _, _, _, _, _, _, _, _, _, _, _, _, _, _, _, _, _, _, _, rfl, by omega, .inr ⟨rfl, (show _ = _ by omega)⟩⟩, ?_⟩
        simp [intAt]
        omega
end Go.Proofs.YticmebamclacaaaGreatDoor

namespace Go.Proofs.YticmebamclacaaaGreatDoor
open Go.RowKit LX

theorem qend_nil (b : Bool) (l : List UInt8) (e : Nat) (h : l.length ≤ e) : qend b (l.drop e) = none := by
  rw [List.drop_eq_nil_of_le h]; cases b <;> rfl
theorem qend_pair (s : ByteArray) (e : Nat) (h : e < s.size) : qend true (s.data.toList.drop e) = (qend false (s.data.toList.drop (e + 1))).map (· + 1) := by
  have h' : e < s.data.toList.length := by simpa using h
  rw [List.drop_eq_getElem_cons h']; rfl
theorem qend_step (s : ByteArray) (e : Nat) (h : e < s.size) : qend false (s.data.toList.drop e) = if s[e].toNat = 34 then some 1 else (qend (s[e].toNat == 92) (s.data.toList.drop (e + 1))).map (· + 1) := by
  have h' : e < s.data.toList.length := by simpa using h
  rw [List.drop_eq_getElem_cons h']; rfl
theorem map_next (x : Option Nat) (e : Nat) : (x.map (· + 1)).map (e + ·) = x.map (e + 1 + ·) := by
  cases x with
  | none => rfl
  | some k => simp; omega

set_option maxRecDepth 100000 in
set_option maxHeartbeats 4000000 in
theorem quoted_any (s : ByteArray) (i : Nat) (w : World) (hs : s.size ≤ 16384) (hi : i ≤ s.size) :
    Calls Tryz.prog 145 #[.string s, .int .i64 i] w fun e w' => e = .returned (.tuple #[.int .i64 (((qend false (s.data.toList.drop i)).map (i + ·)).elim 0 fun _ => 6), .int .i64 (((qend false (s.data.toList.drop i)).map (i + ·)).elim 0 fun k => (k : Int))]) ∧ w' = w := by
  have hl : s.data.toList.length = s.size := by simp
  obtain ⟨R, eR⟩ : ∃ R, Hid ((qend false (s.data.toList.drop i)).map (i + ·) = R) := ⟨_, rfl⟩
  rw [eR.out]
  go_enter Tryz.func145, Tryz.ntmps145
  go_wp2
  refine wp_scope_from 0 (fun l a w' => w' = w ∧ ∃ (e : Nat) (u2 u3 u4 u5 u6 u7 u8 u9 u10 u11 u12 u13 u14 u15 u16 u17 u18 u19 u20 u21 u22 u23 u24 u25 u26 : Value), a = { tmps := #[.string s, .int .i64 (e : Nat), u2, u3, u4, u5, u6, u7, u8, u9, u10, u11, u12, u13, u14, u15, u16, u17, u18, u19, u20, u21, u22, u23, u24, u25, u26], defers := [] } ∧ e ≤ s.size ∧ ((l = 0 ∧ Hid ((qend false (s.data.toList.drop e)).map (e + ·) = R)) ∨ (l = 1 ∧ Hid ((qend true (s.data.toList.drop e)).map (e + ·) = R)))) (fun _ a _ => (s.size - intAt a 1).toNat) rfl ?_ ?_
  · exact ⟨rfl, i, _, _, _, _, _, _, _, _, _, _, _, _, _, _, _, _, _, _, _, _, _, _, _, _, _, rfl, hi, .inl ⟨rfl, eR⟩⟩
  · rintro l a w' ⟨rfl, e, u2, u3, u4, u5, u6, u7, u8, u9, u10, u11, u12, u13, u14, u15, u16, u17, u18, u19, u20, u21, u22, u23, u24, u25, u26, rfl, he, ⟨rfl, hR⟩ | ⟨rfl, hR⟩⟩
    · refine ⟨_, rfl, ?_⟩
      by_cases hn : e = s.size
      · have hn' : (e : Int) = s.size := by omega
        have hR' := hR.out
        rw [qend_nil _ _ _ (by omega)] at hR'
        simp at hR'
        subst hR'
        go_wp2
        simp only [Exit.jumps]
        refine bodyPost_ret (by simp [results, Tryz.results145, go_sem]; try rfl) rfl ?_
        exact ⟨rfl, rfl⟩
      · have hlt : e < s.size := by omega
        have hn' : ¬ (e : Int) = s.size := by omega
        have hR' := hR.out
        rw [qend_step s e hlt] at hR'
        clear hR
        by_cases h34 : s[e].toNat = 34
        · have h34' : ((s[e].toNat : Nat) : Int) = 34 := by omega
          rw [if_pos h34] at hR'
          simp at hR'
          subst hR'
          go_wp2
          simp only [Exit.jumps]
          refine bodyPost_ret (by simp [results, Tryz.results145, go_sem]; try rfl) rfl ?_
          exact ⟨rfl, rfl⟩
        · have h34' : ¬ ((s[e].toNat : Nat) : Int) = 34 := by omega
          rw [if_neg h34, map_next] at hR'
          by_cases h92 : s[e].toNat = 92
          · have h92' : ((s[e].toNat : Nat) : Int) = 92 := by omega
            rw [show (s[e].toNat == 92) = true by rw [h92]; rfl] at hR'
            go_wp2
            go_step3
            refine ⟨⟨rfl, e + 1, _, _, _, _, _, _, _, _, _, _, _, _, _, _, _, _, _, _, _, _, _, _, _, _, _, rfl, by omega, .inr ⟨rfl, hR'⟩⟩, ?_⟩
            simp [intAt]
            omega
          · have h92' : ¬ ((s[e].toNat : Nat) : Int) = 92 := by omega
            rw [show (s[e].toNat == 92) = false by simpa using h92] at hR'
            go_wp2
            go_step3
            refine ⟨⟨rfl, e + 1, _, _, _, _, _, _, _, _, _, _, _, _, _, _, _, _, _, _, _, _, _, _, _, _, _, rfl, by omega, .inl ⟨rfl, hR'⟩⟩, ?_⟩
            simp [intAt]
            omega
    · refine ⟨_, rfl, ?_⟩
      by_cases hn : e = s.size
      · have hn' : (e : Int) = s.size := by omega
        have hR' := hR.out
        rw [qend_nil _ _ _ (by omega)] at hR'
        simp at hR'
        subst hR'
        go_wp2
        simp only [Exit.jumps]
        refine bodyPost_ret (by simp [results, Tryz.results145, go_sem]; try rfl) rfl ?_
        exact ⟨rfl, rfl⟩
      · have hlt : e < s.size := by omega
        have hn' : ¬ (e : Int) = s.size := by omega
        have hR' := hR.out
        rw [qend_pair s e hlt, map_next] at hR'
        clear hR
        go_wp2
        go_step3
        refine ⟨⟨rfl, e + 1, _, _, _, _, _, _, _, _, _, _, _, _, _, _, _, _, _, _, _, _, _, _, _, _, _, rfl, by omega, .inl ⟨rfl, hR'⟩⟩, ?_⟩
        simp [intAt]
        omega
end Go.Proofs.YticmebamclacaaaGreatDoor

namespace Go.Proofs.YticmebamclacaaaGreatDoor
open Go.RowKit LX
set_option linter.unusedVariables false

theorem brk_nil (l : List UInt8) (e : Nat) (h : l.length ≤ e) : brk (l.drop e) = none := by
  rw [List.drop_eq_nil_of_le h]; rfl
theorem brk_step (s : ByteArray) (e : Nat) (h : e < s.size) : brk (s.data.toList.drop e) = if s[e].toNat = 93 then some 1 else (brk (s.data.toList.drop (e + 1))).map (· + 1) := by
  have h' : e < s.data.toList.length := by simpa using h
  rw [List.drop_eq_getElem_cons h']; rfl
/-- A frame of behind: the text, and the place that has been reached. -/
structure FrB (a : Act) (s : ByteArray) (e : Nat) : Prop where
  d : a.defers = []
  n : a.tmps.size = 100
  x0 : a.tmps[0]? = some (.string s)
  x5 : a.tmps[5]? = some (.int .i64 e)
theorem list_of (n : Nat) (l : List Value) (h : l.length = n) : l = (List.range n).map (fun i => l.getD i undef) := by
  subst h
  apply List.ext_getElem
  · simp
  · intro i h1 h2
    simp [List.getD, List.getElem?_eq_getElem h1]
theorem FrB.lit {a : Act} {s : ByteArray} {e : Nat} (h : FrB a s e) : ∃ u : Nat → Value, a = { tmps := #[.string s, u 1, u 2, u 3, u 4, .int .i64 (e : Nat), u 6, u 7, u 8, u 9, u 10, u 11, u 12, u 13, u 14, u 15, u 16, u 17, u 18, u 19, u 20, u 21, u 22, u 23, u 24, u 25, u 26, u 27, u 28, u 29, u 30, u 31, u 32, u 33, u 34, u 35, u 36, u 37, u 38, u 39, u 40, u 41, u 42, u 43, u 44, u 45, u 46, u 47, u 48, u 49, u 50, u 51, u 52, u 53, u 54, u 55, u 56, u 57, u 58, u 59, u 60, u 61, u 62, u 63, u 64, u 65, u 66, u 67, u 68, u 69, u 70, u 71, u 72, u 73, u 74, u 75, u 76, u 77, u 78, u 79, u 80, u 81, u 82, u 83, u 84, u 85, u 86, u 87, u 88, u 89, u 90, u 91, u 92, u 93, u 94, u 95, u 96, u 97, u 98, u 99], defers := [] } := by
  obtain ⟨t, d⟩ := a
  obtain ⟨h1, h2, h3, h4⟩ := h
  dsimp only at h1 h2 h3 h4
  subst h1
  obtain ⟨l⟩ := t
  have h2' : l.length = 100 := by simpa using h2
  have hl := list_of 100 l h2'
  have e0 : l.getD 0 undef = .string s := by have : l[0]? = some (Value.string s) := by simpa using h3
                                             simp [List.getD, this]
  have e5 : l.getD 5 undef = .int .i64 e := by have : l[5]? = some (Value.int .i64 e) := by simpa using h4
                                               simp [List.getD, this]
  refine ⟨fun i => l.getD i undef, ?_⟩
  rw [← e0, ← e5]
  congr 1
  exact congrArg Array.mk hl
theorem drop_at (s : ByteArray) (i : Nat) (h : i < s.size) : s.data.toList.drop i = s[i] :: s.data.toList.drop (i + 1) := by
  have h' : i < s.data.toList.length := by simpa using h
  rw [List.drop_eq_getElem_cons h']; rfl
set_option maxRecDepth 100000 in
set_option maxHeartbeats 4000000 in
theorem behind_40 (s : ByteArray) (i : Nat) (w : World) (hs : s.size ≤ 16384) (hi : i < s.size) (h : s[i].toNat = 40) :
    Calls Tryz.prog 118 #[.string s, .int .i64 i] w fun e w' => e = .returned (.tuple #[.int .i64 1, .int .i64 ((i + 1 : Nat) : Int)]) ∧ w' = w := by
  have hl : s.data.toList.length = s.size := by simp
  have h40' : ((s[i].toNat : Nat) : Int) = 40 := by omega
  go_enter Tryz.func118, Tryz.ntmps118
  go_wp2
  refine wp_scope_gotos (fun _ _ _ => False) (fun _ _ _ => 0) ?_ ?_
  · intro l a w h; exact h.elim
  · intro _
    go_wp2
    simp only [Exit.jumps]
    refine bodyPost_ret (by simp [results, Tryz.results118, go_sem]; try rfl) rfl ?_
    exact ⟨rfl, rfl⟩
set_option maxRecDepth 100000 in
set_option maxHeartbeats 4000000 in
theorem behind_41 (s : ByteArray) (i : Nat) (w : World) (hs : s.size ≤ 16384) (hi : i < s.size) (h : s[i].toNat = 41) :
    Calls Tryz.prog 118 #[.string s, .int .i64 i] w fun e w' => e = .returned (.tuple #[.int .i64 2, .int .i64 ((i + 1 : Nat) : Int)]) ∧ w' = w := by
  have hl : s.data.toList.length = s.size := by simp
  have h41' : ((s[i].toNat : Nat) : Int) = 41 := by omega
  have n40 : ¬ ((s[i].toNat : Nat) : Int) = 40 := by omega
  go_enter Tryz.func118, Tryz.ntmps118
  go_wp2
  refine wp_scope_gotos (fun _ _ _ => False) (fun _ _ _ => 0) ?_ ?_
  · intro l a w h; exact h.elim
  · intro _
    go_wp2
    simp only [Exit.jumps]
    refine bodyPost_ret (by simp [results, Tryz.results118, go_sem]; try rfl) rfl ?_
    exact ⟨rfl, rfl⟩
set_option maxRecDepth 100000 in
set_option maxHeartbeats 4000000 in
theorem behind_dig (s : ByteArray) (i : Nat) (w : World) (hs : s.size ≤ 16384) (hi : i < s.size) (hA : lowN s[i].toNat = false) (hD : digN s[i].toNat = true) :
    Calls Tryz.prog 118 #[.string s, .int .i64 i] w fun e w' => e = .returned (.tuple #[.int .i64 6, .int .i64 ((i + 1 + numLen (s.data.toList.drop (i + 1)) : Nat) : Int)]) ∧ w' = w := by
  have hl : s.data.toList.length = s.size := by simp
  have hDD : 48 ≤ s[i].toNat ∧ s[i].toNat ≤ 57 := by simpa [digN] using hD
  have n40 : ¬ ((s[i].toNat : Nat) : Int) = 40 := by omega
  have n41 : ¬ ((s[i].toNat : Nat) : Int) = 41 := by omega
  have A : Hid (∀ (v : Int) (W : World), v = (s[i].toNat : Int) → Calls Tryz.prog 141 #[.int .u8 v] W fun e w' => e = .returned (.bool false) ∧ w' = W) := fun v W h => by
    rw [h]; have q := letter_any s[i].toNat W s[i].toNat_lt; rw [hA] at q; exact q
  have D : Hid (∀ (v : Int) (W : World), v = (s[i].toNat : Int) → Calls Tryz.prog 142 #[.int .u8 v] W fun e w' => e = .returned (.bool true) ∧ w' = W) := fun v W h => by
    rw [h]; have q := digit_any s[i].toNat W s[i].toNat_lt; rw [hD] at q; exact q
  have NU : Hid (∀ W : World, Calls Tryz.prog 144 #[.string s, .int .i64 ((i + 1 : Nat) : Int)] W fun e w' => e = .returned (.int .i64 (i + 1 + numLen (s.data.toList.drop (i + 1)) : Nat)) ∧ w' = W) := fun W => numeral_any s (i + 1) W hs (by omega)
  go_enter Tryz.func118, Tryz.ntmps118
  go_wp2
  refine wp_scope_gotos (fun _ _ _ => False) (fun _ _ _ => 0) ?_ ?_
  · intro l a w h; exact h.elim
  · intro _
    go_wp2_with fail
    refine (A.out _ _ (by omega)).mono ?_
    rintro x w1 ⟨rfl, rfl⟩
    go_wp2_with fail
    refine (D.out _ _ (by omega)).mono ?_
    rintro x w1 ⟨rfl, rfl⟩
    go_wp2_with fail
    refine (NU.out _).mono ?_
    rintro x w1 ⟨rfl, rfl⟩
    go_wp2
    simp only [Exit.jumps]
    refine bodyPost_ret (by simp [results, Tryz.results118, go_sem]; try rfl) rfl ?_
    exact ⟨rfl, rfl⟩
set_option maxRecDepth 100000 in
set_option maxHeartbeats 4000000 in
theorem behind_neg (s : ByteArray) (i : Nat) (w : World) (hs : s.size ≤ 16384) (hi : i < s.size) (hA : lowN s[i].toNat = false) (hD : digN s[i].toNat = false) (h : s[i].toNat = 45) (hP : digN (hd (s.data.toList.drop (i + 1))) = true) :
    Calls Tryz.prog 118 #[.string s, .int .i64 i] w fun e w' => e = .returned (.tuple #[.int .i64 6, .int .i64 ((i + 1 + numLen (s.data.toList.drop (i + 1)) : Nat) : Int)]) ∧ w' = w := by
  have hl : s.data.toList.length = s.size := by simp
  have h45' : ((s[i].toNat : Nat) : Int) = 45 := by omega
  have n40 : ¬ ((s[i].toNat : Nat) : Int) = 40 := by omega
  have n41 : ¬ ((s[i].toNat : Nat) : Int) = 41 := by omega
  have A : Hid (∀ (v : Int) (W : World), v = (s[i].toNat : Int) → Calls Tryz.prog 141 #[.int .u8 v] W fun e w' => e = .returned (.bool false) ∧ w' = W) := fun v W h => by
    rw [h]; have q := letter_any s[i].toNat W s[i].toNat_lt; rw [hA] at q; exact q
  have D : Hid (∀ (v : Int) (W : World), v = (s[i].toNat : Int) → Calls Tryz.prog 142 #[.int .u8 v] W fun e w' => e = .returned (.bool false) ∧ w' = W) := fun v W h => by
    rw [h]; have q := digit_any s[i].toNat W s[i].toNat_lt; rw [hD] at q; exact q
  have PK : Hid (∀ (e : Nat) (W : World), Calls Tryz.prog 143 #[.string s, .int .i64 e] W fun x w' => x = .returned (.int .u8 (hd (s.data.toList.drop e))) ∧ w' = W) := fun e W => peek_any s e W
  have DP : Hid (∀ (v : Int) (W : World), v = (hd (s.data.toList.drop (i + 1)) : Int) → Calls Tryz.prog 142 #[.int .u8 v] W fun x w' => x = .returned (.bool true) ∧ w' = W) := fun v W h => by
    rw [h]; have q := digit_any _ W (hd_lt (s.data.toList.drop (i + 1))); rw [hP] at q; exact q
  have NU : Hid (∀ W : World, Calls Tryz.prog 144 #[.string s, .int .i64 ((i + 1 : Nat) : Int)] W fun e w' => e = .returned (.int .i64 (i + 1 + numLen (s.data.toList.drop (i + 1)) : Nat)) ∧ w' = W) := fun W => numeral_any s (i + 1) W hs (by omega)
  go_enter Tryz.func118, Tryz.ntmps118
  go_wp2
  refine wp_scope_gotos (fun _ _ _ => False) (fun _ _ _ => 0) ?_ ?_
  · intro l a w h; exact h.elim
  · intro _
    go_wp2_with fail
    refine (A.out _ _ (by omega)).mono ?_
    rintro x w1 ⟨rfl, rfl⟩
    go_wp2_with fail
    refine (D.out _ _ (by omega)).mono ?_
    rintro x w1 ⟨rfl, rfl⟩
    go_wp2_with fail
    refine (PK.out (i + 1) _).mono ?_
    rintro x w1 ⟨rfl, rfl⟩
    go_wp2_with fail
    refine (DP.out _ _ (by omega)).mono ?_
    rintro x w1 ⟨rfl, rfl⟩
    go_wp2_with fail
    refine (NU.out _).mono ?_
    rintro x w1 ⟨rfl, rfl⟩
    go_wp2
    simp only [Exit.jumps]
    refine bodyPost_ret (by simp [results, Tryz.results118, go_sem]; try rfl) rfl ?_
    exact ⟨rfl, rfl⟩
set_option maxRecDepth 100000 in
set_option maxHeartbeats 4000000 in
theorem behind_le (s : ByteArray) (i : Nat) (w : World) (hs : s.size ≤ 16384) (hi : i < s.size) (hA : lowN s[i].toNat = false) (hD : digN s[i].toNat = false) (h : s[i].toNat = 60) (hH : hd (s.data.toList.drop (i + 1)) = 61) :
    Calls Tryz.prog 118 #[.string s, .int .i64 i] w fun e w' => e = .returned (.tuple #[.int .i64 4, .int .i64 ((i + 2 : Nat) : Int)]) ∧ w' = w := by
  have hl : s.data.toList.length = s.size := by simp
  have h60' : ((s[i].toNat : Nat) : Int) = 60 := by omega
  have n40 : ¬ ((s[i].toNat : Nat) : Int) = 40 := by omega
  have n41 : ¬ ((s[i].toNat : Nat) : Int) = 41 := by omega
  have n45 : ¬ ((s[i].toNat : Nat) : Int) = 45 := by omega
  have hH' : ((hd (s.data.toList.drop (i + 1)) : Nat) : Int) = 61 := by omega
  have A : Hid (∀ (v : Int) (W : World), v = (s[i].toNat : Int) → Calls Tryz.prog 141 #[.int .u8 v] W fun e w' => e = .returned (.bool false) ∧ w' = W) := fun v W h => by
    rw [h]; have q := letter_any s[i].toNat W s[i].toNat_lt; rw [hA] at q; exact q
  have D : Hid (∀ (v : Int) (W : World), v = (s[i].toNat : Int) → Calls Tryz.prog 142 #[.int .u8 v] W fun e w' => e = .returned (.bool false) ∧ w' = W) := fun v W h => by
    rw [h]; have q := digit_any s[i].toNat W s[i].toNat_lt; rw [hD] at q; exact q
  have PK : Hid (∀ (e : Nat) (W : World), Calls Tryz.prog 143 #[.string s, .int .i64 e] W fun x w' => x = .returned (.int .u8 (hd (s.data.toList.drop e))) ∧ w' = W) := fun e W => peek_any s e W
  go_enter Tryz.func118, Tryz.ntmps118
  go_wp2
  refine wp_scope_gotos (fun _ _ _ => False) (fun _ _ _ => 0) ?_ ?_
  · intro l a w h; exact h.elim
  · intro _
    go_wp2_with fail
    refine (A.out _ _ (by omega)).mono ?_
    rintro x w1 ⟨rfl, rfl⟩
    go_wp2_with fail
    refine (D.out _ _ (by omega)).mono ?_
    rintro x w1 ⟨rfl, rfl⟩
    go_wp2_with fail
    refine (PK.out (i + 1) _).mono ?_
    rintro x w1 ⟨rfl, rfl⟩
    go_wp2
    simp only [Exit.jumps]
    refine bodyPost_ret (by simp [results, Tryz.results118, go_sem]; try rfl) rfl ?_
    exact ⟨rfl, rfl⟩
set_option maxRecDepth 100000 in
set_option maxHeartbeats 4000000 in
theorem behind_61 (s : ByteArray) (i : Nat) (w : World) (hs : s.size ≤ 16384) (hi : i < s.size) (hA : lowN s[i].toNat = false) (hD : digN s[i].toNat = false) (h : s[i].toNat = 61) :
    Calls Tryz.prog 118 #[.string s, .int .i64 i] w fun e w' => e = .returned (.tuple #[.int .i64 4, .int .i64 ((i + 1 : Nat) : Int)]) ∧ w' = w := by
  have hl : s.data.toList.length = s.size := by simp
  have h61' : ((s[i].toNat : Nat) : Int) = 61 := by omega
  have n40 : ¬ ((s[i].toNat : Nat) : Int) = 40 := by omega
  have n41 : ¬ ((s[i].toNat : Nat) : Int) = 41 := by omega
  have n45 : ¬ ((s[i].toNat : Nat) : Int) = 45 := by omega
  have n60 : ¬ ((s[i].toNat : Nat) : Int) = 60 := by omega
  have n43 : ¬ ((s[i].toNat : Nat) : Int) = 43 := by omega
  have n42 : ¬ ((s[i].toNat : Nat) : Int) = 42 := by omega
  have A : Hid (∀ (v : Int) (W : World), v = (s[i].toNat : Int) → Calls Tryz.prog 141 #[.int .u8 v] W fun e w' => e = .returned (.bool false) ∧ w' = W) := fun v W h => by
    rw [h]; have q := letter_any s[i].toNat W s[i].toNat_lt; rw [hA] at q; exact q
  have D : Hid (∀ (v : Int) (W : World), v = (s[i].toNat : Int) → Calls Tryz.prog 142 #[.int .u8 v] W fun e w' => e = .returned (.bool false) ∧ w' = W) := fun v W h => by
    rw [h]; have q := digit_any s[i].toNat W s[i].toNat_lt; rw [hD] at q; exact q
  go_enter Tryz.func118, Tryz.ntmps118
  go_wp2
  refine wp_scope_gotos (fun _ _ _ => False) (fun _ _ _ => 0) ?_ ?_
  · intro l a w h; exact h.elim
  · intro _
    go_wp2_with fail
    refine (A.out _ _ (by omega)).mono ?_
    rintro x w1 ⟨rfl, rfl⟩
    go_wp2_with fail
    refine (D.out _ _ (by omega)).mono ?_
    rintro x w1 ⟨rfl, rfl⟩
    go_wp2
    simp only [Exit.jumps]
    refine bodyPost_ret (by simp [results, Tryz.results118, go_sem]; try rfl) rfl ?_
    exact ⟨rfl, rfl⟩
set_option maxRecDepth 100000 in
set_option maxHeartbeats 4000000 in
theorem behind_43 (s : ByteArray) (i : Nat) (w : World) (hs : s.size ≤ 16384) (hi : i < s.size) (hA : lowN s[i].toNat = false) (hD : digN s[i].toNat = false) (h : s[i].toNat = 43) :
    Calls Tryz.prog 118 #[.string s, .int .i64 i] w fun e w' => e = .returned (.tuple #[.int .i64 4, .int .i64 ((i + 1 : Nat) : Int)]) ∧ w' = w := by
  have hl : s.data.toList.length = s.size := by simp
  have h43' : ((s[i].toNat : Nat) : Int) = 43 := by omega
  have n40 : ¬ ((s[i].toNat : Nat) : Int) = 40 := by omega
  have n41 : ¬ ((s[i].toNat : Nat) : Int) = 41 := by omega
  have n45 : ¬ ((s[i].toNat : Nat) : Int) = 45 := by omega
  have n60 : ¬ ((s[i].toNat : Nat) : Int) = 60 := by omega
  have n61 : ¬ ((s[i].toNat : Nat) : Int) = 61 := by omega
  have n42 : ¬ ((s[i].toNat : Nat) : Int) = 42 := by omega
  have A : Hid (∀ (v : Int) (W : World), v = (s[i].toNat : Int) → Calls Tryz.prog 141 #[.int .u8 v] W fun e w' => e = .returned (.bool false) ∧ w' = W) := fun v W h => by
    rw [h]; have q := letter_any s[i].toNat W s[i].toNat_lt; rw [hA] at q; exact q
  have D : Hid (∀ (v : Int) (W : World), v = (s[i].toNat : Int) → Calls Tryz.prog 142 #[.int .u8 v] W fun e w' => e = .returned (.bool false) ∧ w' = W) := fun v W h => by
    rw [h]; have q := digit_any s[i].toNat W s[i].toNat_lt; rw [hD] at q; exact q
  go_enter Tryz.func118, Tryz.ntmps118
  go_wp2
  refine wp_scope_gotos (fun _ _ _ => False) (fun _ _ _ => 0) ?_ ?_
  · intro l a w h; exact h.elim
  · intro _
    go_wp2_with fail
    refine (A.out _ _ (by omega)).mono ?_
    rintro x w1 ⟨rfl, rfl⟩
    go_wp2_with fail
    refine (D.out _ _ (by omega)).mono ?_
    rintro x w1 ⟨rfl, rfl⟩
    go_wp2
    simp only [Exit.jumps]
    refine bodyPost_ret (by simp [results, Tryz.results118, go_sem]; try rfl) rfl ?_
    exact ⟨rfl, rfl⟩
set_option maxRecDepth 100000 in
set_option maxHeartbeats 4000000 in
theorem behind_42 (s : ByteArray) (i : Nat) (w : World) (hs : s.size ≤ 16384) (hi : i < s.size) (hA : lowN s[i].toNat = false) (hD : digN s[i].toNat = false) (h : s[i].toNat = 42) :
    Calls Tryz.prog 118 #[.string s, .int .i64 i] w fun e w' => e = .returned (.tuple #[.int .i64 4, .int .i64 ((i + 1 : Nat) : Int)]) ∧ w' = w := by
  have hl : s.data.toList.length = s.size := by simp
  have h42' : ((s[i].toNat : Nat) : Int) = 42 := by omega
  have n40 : ¬ ((s[i].toNat : Nat) : Int) = 40 := by omega
  have n41 : ¬ ((s[i].toNat : Nat) : Int) = 41 := by omega
  have n45 : ¬ ((s[i].toNat : Nat) : Int) = 45 := by omega
  have n60 : ¬ ((s[i].toNat : Nat) : Int) = 60 := by omega
  have n61 : ¬ ((s[i].toNat : Nat) : Int) = 61 := by omega
  have n43 : ¬ ((s[i].toNat : Nat) : Int) = 43 := by omega
  have A : Hid (∀ (v : Int) (W : World), v = (s[i].toNat : Int) → Calls Tryz.prog 141 #[.int .u8 v] W fun e w' => e = .returned (.bool false) ∧ w' = W) := fun v W h => by
    rw [h]; have q := letter_any s[i].toNat W s[i].toNat_lt; rw [hA] at q; exact q
  have D : Hid (∀ (v : Int) (W : World), v = (s[i].toNat : Int) → Calls Tryz.prog 142 #[.int .u8 v] W fun e w' => e = .returned (.bool false) ∧ w' = W) := fun v W h => by
    rw [h]; have q := digit_any s[i].toNat W s[i].toNat_lt; rw [hD] at q; exact q
  go_enter Tryz.func118, Tryz.ntmps118
  go_wp2
  refine wp_scope_gotos (fun _ _ _ => False) (fun _ _ _ => 0) ?_ ?_
  · intro l a w h; exact h.elim
  · intro _
    go_wp2_with fail
    refine (A.out _ _ (by omega)).mono ?_
    rintro x w1 ⟨rfl, rfl⟩
    go_wp2_with fail
    refine (D.out _ _ (by omega)).mono ?_
    rintro x w1 ⟨rfl, rfl⟩
    go_wp2
    simp only [Exit.jumps]
    refine bodyPost_ret (by simp [results, Tryz.results118, go_sem]; try rfl) rfl ?_
    exact ⟨rfl, rfl⟩
set_option maxRecDepth 100000 in
set_option maxHeartbeats 4000000 in
theorem behind_lt (s : ByteArray) (i : Nat) (w : World) (hs : s.size ≤ 16384) (hi : i < s.size) (hA : lowN s[i].toNat = false) (hD : digN s[i].toNat = false) (h : s[i].toNat = 60) (hH : ¬ hd (s.data.toList.drop (i + 1)) = 61) :
    Calls Tryz.prog 118 #[.string s, .int .i64 i] w fun e w' => e = .returned (.tuple #[.int .i64 4, .int .i64 ((i + 1 : Nat) : Int)]) ∧ w' = w := by
  have hl : s.data.toList.length = s.size := by simp
  have h60' : ((s[i].toNat : Nat) : Int) = 60 := by omega
  have n40 : ¬ ((s[i].toNat : Nat) : Int) = 40 := by omega
  have n41 : ¬ ((s[i].toNat : Nat) : Int) = 41 := by omega
  have n45 : ¬ ((s[i].toNat : Nat) : Int) = 45 := by omega
  have n61 : ¬ ((s[i].toNat : Nat) : Int) = 61 := by omega
  have n43 : ¬ ((s[i].toNat : Nat) : Int) = 43 := by omega
  have n42 : ¬ ((s[i].toNat : Nat) : Int) = 42 := by omega
  have hH' : ¬ ((hd (s.data.toList.drop (i + 1)) : Nat) : Int) = 61 := by omega
  have A : Hid (∀ (v : Int) (W : World), v = (s[i].toNat : Int) → Calls Tryz.prog 141 #[.int .u8 v] W fun e w' => e = .returned (.bool false) ∧ w' = W) := fun v W h => by
    rw [h]; have q := letter_any s[i].toNat W s[i].toNat_lt; rw [hA] at q; exact q
  have D : Hid (∀ (v : Int) (W : World), v = (s[i].toNat : Int) → Calls Tryz.prog 142 #[.int .u8 v] W fun e w' => e = .returned (.bool false) ∧ w' = W) := fun v W h => by
    rw [h]; have q := digit_any s[i].toNat W s[i].toNat_lt; rw [hD] at q; exact q
  have PK : Hid (∀ (e : Nat) (W : World), Calls Tryz.prog 143 #[.string s, .int .i64 e] W fun x w' => x = .returned (.int .u8 (hd (s.data.toList.drop e))) ∧ w' = W) := fun e W => peek_any s e W
  go_enter Tryz.func118, Tryz.ntmps118
  go_wp2
  refine wp_scope_gotos (fun _ _ _ => False) (fun _ _ _ => 0) ?_ ?_
  · intro l a w h; exact h.elim
  · intro _
    go_wp2_with fail
    refine (A.out _ _ (by omega)).mono ?_
    rintro x w1 ⟨rfl, rfl⟩
    go_wp2_with fail
    refine (D.out _ _ (by omega)).mono ?_
    rintro x w1 ⟨rfl, rfl⟩
    go_wp2_with fail
    refine (PK.out (i + 1) _).mono ?_
    rintro x w1 ⟨rfl, rfl⟩
    go_wp2
    simp only [Exit.jumps]
    refine bodyPost_ret (by simp [results, Tryz.results118, go_sem]; try rfl) rfl ?_
    exact ⟨rfl, rfl⟩
set_option maxRecDepth 100000 in
set_option maxHeartbeats 4000000 in
theorem behind_45 (s : ByteArray) (i : Nat) (w : World) (hs : s.size ≤ 16384) (hi : i < s.size) (hA : lowN s[i].toNat = false) (hD : digN s[i].toNat = false) (h : s[i].toNat = 45) (hP : digN (hd (s.data.toList.drop (i + 1))) = false) :
    Calls Tryz.prog 118 #[.string s, .int .i64 i] w fun e w' => e = .returned (.tuple #[.int .i64 4, .int .i64 ((i + 1 : Nat) : Int)]) ∧ w' = w := by
  have hl : s.data.toList.length = s.size := by simp
  have h45' : ((s[i].toNat : Nat) : Int) = 45 := by omega
  have n40 : ¬ ((s[i].toNat : Nat) : Int) = 40 := by omega
  have n41 : ¬ ((s[i].toNat : Nat) : Int) = 41 := by omega
  have n60 : ¬ ((s[i].toNat : Nat) : Int) = 60 := by omega
  have n61 : ¬ ((s[i].toNat : Nat) : Int) = 61 := by omega
  have n43 : ¬ ((s[i].toNat : Nat) : Int) = 43 := by omega
  have n42 : ¬ ((s[i].toNat : Nat) : Int) = 42 := by omega
  have A : Hid (∀ (v : Int) (W : World), v = (s[i].toNat : Int) → Calls Tryz.prog 141 #[.int .u8 v] W fun e w' => e = .returned (.bool false) ∧ w' = W) := fun v W h => by
    rw [h]; have q := letter_any s[i].toNat W s[i].toNat_lt; rw [hA] at q; exact q
  have D : Hid (∀ (v : Int) (W : World), v = (s[i].toNat : Int) → Calls Tryz.prog 142 #[.int .u8 v] W fun e w' => e = .returned (.bool false) ∧ w' = W) := fun v W h => by
    rw [h]; have q := digit_any s[i].toNat W s[i].toNat_lt; rw [hD] at q; exact q
  have PK : Hid (∀ (e : Nat) (W : World), Calls Tryz.prog 143 #[.string s, .int .i64 e] W fun x w' => x = .returned (.int .u8 (hd (s.data.toList.drop e))) ∧ w' = W) := fun e W => peek_any s e W
  have DP : Hid (∀ (v : Int) (W : World), v = (hd (s.data.toList.drop (i + 1)) : Int) → Calls Tryz.prog 142 #[.int .u8 v] W fun x w' => x = .returned (.bool false) ∧ w' = W) := fun v W h => by
    rw [h]; have q := digit_any _ W (hd_lt (s.data.toList.drop (i + 1))); rw [hP] at q; exact q
  go_enter Tryz.func118, Tryz.ntmps118
  go_wp2
  refine wp_scope_gotos (fun _ _ _ => False) (fun _ _ _ => 0) ?_ ?_
  · intro l a w h; exact h.elim
  · intro _
    go_wp2_with fail
    refine (A.out _ _ (by omega)).mono ?_
    rintro x w1 ⟨rfl, rfl⟩
    go_wp2_with fail
    refine (D.out _ _ (by omega)).mono ?_
    rintro x w1 ⟨rfl, rfl⟩
    go_wp2_with fail
    refine (PK.out (i + 1) _).mono ?_
    rintro x w1 ⟨rfl, rfl⟩
    go_wp2_with fail
    refine (DP.out _ _ (by omega)).mono ?_
    rintro x w1 ⟨rfl, rfl⟩
    go_wp2
    simp only [Exit.jumps]
    refine bodyPost_ret (by simp [results, Tryz.results118, go_sem]; try rfl) rfl ?_
    exact ⟨rfl, rfl⟩
set_option maxRecDepth 100000 in
set_option maxHeartbeats 4000000 in
theorem behind_34 (s : ByteArray) (i : Nat) (w : World) (hs : s.size ≤ 16384) (hi : i < s.size) (hA : lowN s[i].toNat = false) (hD : digN s[i].toNat = false) (h : s[i].toNat = 34) :
    Calls Tryz.prog 118 #[.string s, .int .i64 i] w fun e w' => e = .returned (.tuple #[.int .i64 (((qend false (s.data.toList.drop (i + 1))).map (i + 1 + ·)).elim 0 fun _ => 6), .int .i64 (((qend false (s.data.toList.drop (i + 1))).map (i + 1 + ·)).elim 0 fun k => (k : Int))]) ∧ w' = w := by
  have hl : s.data.toList.length = s.size := by simp
  have h34' : ((s[i].toNat : Nat) : Int) = 34 := by omega
  have n40 : ¬ ((s[i].toNat : Nat) : Int) = 40 := by omega
  have n41 : ¬ ((s[i].toNat : Nat) : Int) = 41 := by omega
  have n45 : ¬ ((s[i].toNat : Nat) : Int) = 45 := by omega
  have n60 : ¬ ((s[i].toNat : Nat) : Int) = 60 := by omega
  have n61 : ¬ ((s[i].toNat : Nat) : Int) = 61 := by omega
  have n43 : ¬ ((s[i].toNat : Nat) : Int) = 43 := by omega
  have n42 : ¬ ((s[i].toNat : Nat) : Int) = 42 := by omega
  have n91 : ¬ ((s[i].toNat : Nat) : Int) = 91 := by omega
  have A : Hid (∀ (v : Int) (W : World), v = (s[i].toNat : Int) → Calls Tryz.prog 141 #[.int .u8 v] W fun e w' => e = .returned (.bool false) ∧ w' = W) := fun v W h => by
    rw [h]; have q := letter_any s[i].toNat W s[i].toNat_lt; rw [hA] at q; exact q
  have D : Hid (∀ (v : Int) (W : World), v = (s[i].toNat : Int) → Calls Tryz.prog 142 #[.int .u8 v] W fun e w' => e = .returned (.bool false) ∧ w' = W) := fun v W h => by
    rw [h]; have q := digit_any s[i].toNat W s[i].toNat_lt; rw [hD] at q; exact q
  obtain ⟨R, eR⟩ : ∃ R, Hid ((qend false (s.data.toList.drop (i + 1))).map (i + 1 + ·) = R) := ⟨_, rfl⟩
  have QU : Hid (∀ W : World, Calls Tryz.prog 145 #[.string s, .int .i64 ((i + 1 : Nat) : Int)] W fun e w' => e = .returned (.tuple #[.int .i64 (R.elim 0 fun _ => 6), .int .i64 (R.elim 0 fun k => (k : Int))]) ∧ w' = W) := fun W => by have q := quoted_any s (i + 1) W hs (by omega); rw [eR.out] at q; exact q
  rw [eR.out]
  obtain ⟨K, eK⟩ : ∃ K : Int, Hid ((R.elim 0 fun _ => 6) = K) := ⟨_, rfl⟩
  obtain ⟨E, eE⟩ : ∃ E : Int, Hid ((R.elim 0 fun k => (k : Int)) = E) := ⟨_, rfl⟩
  rw [eK.out, eE.out] at QU ⊢
  go_enter Tryz.func118, Tryz.ntmps118
  go_wp2
  refine wp_scope_gotos (fun _ _ _ => False) (fun _ _ _ => 0) ?_ ?_
  · intro l a w h; exact h.elim
  · intro _
    go_wp2_with fail
    refine (A.out _ _ (by omega)).mono ?_
    rintro x w1 ⟨rfl, rfl⟩
    go_wp2_with fail
    refine (D.out _ _ (by omega)).mono ?_
    rintro x w1 ⟨rfl, rfl⟩
    go_wp2_with fail
    refine (QU.out _).mono ?_
    rintro x w1 ⟨rfl, rfl⟩
    go_wp2
    simp only [Exit.jumps]
    refine bodyPost_ret (by simp [results, Tryz.results118, go_sem]; try rfl) rfl ?_
    exact ⟨rfl, rfl⟩
set_option maxRecDepth 100000 in
set_option maxHeartbeats 4000000 in
theorem behind_no (s : ByteArray) (i : Nat) (w : World) (hs : s.size ≤ 16384) (hi : i < s.size) (hA : lowN s[i].toNat = false) (hD : digN s[i].toNat = false) (m40 : ¬ s[i].toNat = 40) (m41 : ¬ s[i].toNat = 41) (m45 : ¬ s[i].toNat = 45) (m60 : ¬ s[i].toNat = 60) (m61 : ¬ s[i].toNat = 61) (m43 : ¬ s[i].toNat = 43) (m42 : ¬ s[i].toNat = 42) (m91 : ¬ s[i].toNat = 91) (m34 : ¬ s[i].toNat = 34) (m64 : ¬ s[i].toNat = 64) :
    Calls Tryz.prog 118 #[.string s, .int .i64 i] w fun e w' => e = .returned (.tuple #[.int .i64 0, .int .i64 0]) ∧ w' = w := by
  have hl : s.data.toList.length = s.size := by simp
  have n40 : ¬ ((s[i].toNat : Nat) : Int) = 40 := by omega
  have n41 : ¬ ((s[i].toNat : Nat) : Int) = 41 := by omega
  have n45 : ¬ ((s[i].toNat : Nat) : Int) = 45 := by omega
  have n60 : ¬ ((s[i].toNat : Nat) : Int) = 60 := by omega
  have n61 : ¬ ((s[i].toNat : Nat) : Int) = 61 := by omega
  have n43 : ¬ ((s[i].toNat : Nat) : Int) = 43 := by omega
  have n42 : ¬ ((s[i].toNat : Nat) : Int) = 42 := by omega
  have n91 : ¬ ((s[i].toNat : Nat) : Int) = 91 := by omega
  have n34 : ¬ ((s[i].toNat : Nat) : Int) = 34 := by omega
  have n64 : ¬ ((s[i].toNat : Nat) : Int) = 64 := by omega
  have A : Hid (∀ (v : Int) (W : World), v = (s[i].toNat : Int) → Calls Tryz.prog 141 #[.int .u8 v] W fun e w' => e = .returned (.bool false) ∧ w' = W) := fun v W h => by
    rw [h]; have q := letter_any s[i].toNat W s[i].toNat_lt; rw [hA] at q; exact q
  have D : Hid (∀ (v : Int) (W : World), v = (s[i].toNat : Int) → Calls Tryz.prog 142 #[.int .u8 v] W fun e w' => e = .returned (.bool false) ∧ w' = W) := fun v W h => by
    rw [h]; have q := digit_any s[i].toNat W s[i].toNat_lt; rw [hD] at q; exact q
  go_enter Tryz.func118, Tryz.ntmps118
  go_wp2
  refine wp_scope_gotos (fun _ _ _ => False) (fun _ _ _ => 0) ?_ ?_
  · intro l a w h; exact h.elim
  · intro _
    go_wp2_with fail
    refine (A.out _ _ (by omega)).mono ?_
    rintro x w1 ⟨rfl, rfl⟩
    go_wp2_with fail
    refine (D.out _ _ (by omega)).mono ?_
    rintro x w1 ⟨rfl, rfl⟩
    go_wp2
    simp only [Exit.jumps]
    refine bodyPost_ret (by simp [results, Tryz.results118, go_sem]; try rfl) rfl ?_
    exact ⟨rfl, rfl⟩
set_option maxRecDepth 100000 in
set_option maxHeartbeats 4000000 in
theorem behind_word (s : ByteArray) (i : Nat) (w : World) (hs : s.size ≤ 16384) (hi : i < s.size) (hA : lowN s[i].toNat = true) :
    Calls Tryz.prog 118 #[.string s, .int .i64 i] w fun e w' => e = .returned (.tuple #[.int .i64 3, .int .i64 ((i + 1 + run inwN (s.data.toList.drop (i + 1)) : Nat) : Int)]) ∧ w' = w := by
  have hl : s.data.toList.length = s.size := by simp
  have hAA : 97 ≤ s[i].toNat ∧ s[i].toNat ≤ 122 := by simpa [lowN] using hA
  have n40 : ¬ ((s[i].toNat : Nat) : Int) = 40 := by omega
  have n41 : ¬ ((s[i].toNat : Nat) : Int) = 41 := by omega
  have A : Hid (∀ (v : Int) (W : World), v = (s[i].toNat : Int) → Calls Tryz.prog 141 #[.int .u8 v] W fun e w' => e = .returned (.bool true) ∧ w' = W) := fun v W h => by
    rw [h]; have q := letter_any s[i].toNat W s[i].toNat_lt; rw [hA] at q; exact q
  have PK : Hid (∀ (e : Nat) (W : World), Calls Tryz.prog 143 #[.string s, .int .i64 e] W fun x w' => x = .returned (.int .u8 (hd (s.data.toList.drop e))) ∧ w' = W) := fun e W => peek_any s e W
  have IW : Hid (∀ (e : Nat) (W : World), Calls Tryz.prog 146 #[.int .u8 (hd (s.data.toList.drop e))] W fun x w' => x = .returned (.bool (inwN (hd (s.data.toList.drop e)))) ∧ w' = W) := fun e W => inword_any _ W (hd_lt _)
  obtain ⟨R, eR⟩ : ∃ R, Hid (i + 1 + run inwN (s.data.toList.drop (i + 1)) = R) := ⟨_, rfl⟩
  rw [eR.out]
  go_enter Tryz.func118, Tryz.ntmps118
  go_wp2
  refine wp_scope_gotos (fun l a w' => w' = w ∧ ∃ e : Nat, FrB a s e ∧ e ≤ s.size ∧ l = 0 ∧ Hid (e + run inwN (s.data.toList.drop e) = R)) (fun _ a _ => (s.size - intAt a 5).toNat) ?_ ?_
  · rintro l a w' ⟨rfl, e, hF, he, rfl, hR⟩
    obtain ⟨u, rfl⟩ := hF.lit
    refine ⟨_, rfl, ?_⟩
    go_wp2_with fail
    refine (PK.out e _).mono ?_
    rintro x w1 ⟨rfl, rfl⟩
    go_wp2_with fail
    refine (IW.out e _).mono ?_
    rintro x w1 ⟨rfl, rfl⟩
    cases hd0 : inwN (hd (s.data.toList.drop e))
    · go_wp2
      have hr := run_no inwN hd0
      have hR' := hR.out
      have hRe : R = e := by omega
      subst hRe
      simp only [Exit.jumps]
      refine bodyPost_ret (by simp [results, Tryz.results118, go_sem]; try rfl) rfl ?_
      exact ⟨rfl, rfl⟩
    · obtain ⟨g1, g2⟩ := run_yes inwN rfl hd0
      rw [hl] at g1
      go_wp2
      go_step3
      have hR' := hR.out
      refine ⟨⟨rfl, e + 1, ⟨rfl, rfl, rfl, rfl⟩, by omega, rfl, (show _ = _ by omega)⟩, ?_⟩
      simp [intAt]
      omega
  · intro _
    go_wp2_with fail
    refine (A.out _ _ (by omega)).mono ?_
    rintro x w1 ⟨rfl, rfl⟩
    go_wp2
    go_step3
    exact ⟨rfl, i + 1, ⟨rfl, rfl, rfl, rfl⟩, by omega, rfl, eR⟩
set_option maxRecDepth 100000 in
set_option maxHeartbeats 4000000 in
theorem behind_time (s : ByteArray) (i : Nat) (w : World) (hs : s.size ≤ 16384) (hi : i < s.size) (hA : lowN s[i].toNat = false) (hD : digN s[i].toNat = false) (h : s[i].toNat = 64) :
    Calls Tryz.prog 118 #[.string s, .int .i64 i] w fun e w' => e = .returned (.tuple #[.int .i64 7, .int .i64 ((i + 1 + run digN (s.data.toList.drop (i + 1)) : Nat) : Int)]) ∧ w' = w := by
  have hl : s.data.toList.length = s.size := by simp
  have h64' : ((s[i].toNat : Nat) : Int) = 64 := by omega
  have n40 : ¬ ((s[i].toNat : Nat) : Int) = 40 := by omega
  have n41 : ¬ ((s[i].toNat : Nat) : Int) = 41 := by omega
  have n45 : ¬ ((s[i].toNat : Nat) : Int) = 45 := by omega
  have n60 : ¬ ((s[i].toNat : Nat) : Int) = 60 := by omega
  have n61 : ¬ ((s[i].toNat : Nat) : Int) = 61 := by omega
  have n43 : ¬ ((s[i].toNat : Nat) : Int) = 43 := by omega
  have n42 : ¬ ((s[i].toNat : Nat) : Int) = 42 := by omega
  have n91 : ¬ ((s[i].toNat : Nat) : Int) = 91 := by omega
  have n34 : ¬ ((s[i].toNat : Nat) : Int) = 34 := by omega
  have A : Hid (∀ (v : Int) (W : World), v = (s[i].toNat : Int) → Calls Tryz.prog 141 #[.int .u8 v] W fun e w' => e = .returned (.bool false) ∧ w' = W) := fun v W h => by
    rw [h]; have q := letter_any s[i].toNat W s[i].toNat_lt; rw [hA] at q; exact q
  have D : Hid (∀ (v : Int) (W : World), v = (s[i].toNat : Int) → Calls Tryz.prog 142 #[.int .u8 v] W fun e w' => e = .returned (.bool false) ∧ w' = W) := fun v W h => by
    rw [h]; have q := digit_any s[i].toNat W s[i].toNat_lt; rw [hD] at q; exact q
  have PK : Hid (∀ (e : Nat) (W : World), Calls Tryz.prog 143 #[.string s, .int .i64 e] W fun x w' => x = .returned (.int .u8 (hd (s.data.toList.drop e))) ∧ w' = W) := fun e W => peek_any s e W
  have DG : Hid (∀ (e : Nat) (W : World), Calls Tryz.prog 142 #[.int .u8 (hd (s.data.toList.drop e))] W fun x w' => x = .returned (.bool (digN (hd (s.data.toList.drop e)))) ∧ w' = W) := fun e W => digit_any _ W (hd_lt _)
  obtain ⟨R, eR⟩ : ∃ R, Hid (i + 1 + run digN (s.data.toList.drop (i + 1)) = R) := ⟨_, rfl⟩
  rw [eR.out]
  go_enter Tryz.func118, Tryz.ntmps118
  go_wp2
  refine wp_scope_gotos (fun l a w' => w' = w ∧ ∃ e : Nat, FrB a s e ∧ e ≤ s.size ∧ l = 2 ∧ Hid (e + run digN (s.data.toList.drop e) = R)) (fun _ a _ => (s.size - intAt a 5).toNat) ?_ ?_
  · rintro l a w' ⟨rfl, e, hF, he, rfl, hR⟩
    obtain ⟨u, rfl⟩ := hF.lit
    refine ⟨_, rfl, ?_⟩
    go_wp2_with fail
    refine (PK.out e _).mono ?_
    rintro x w1 ⟨rfl, rfl⟩
    go_wp2_with fail
    refine (DG.out e _).mono ?_
    rintro x w1 ⟨rfl, rfl⟩
    cases hd0 : digN (hd (s.data.toList.drop e))
    · go_wp2
      have hr := run_no digN hd0
      have hR' := hR.out
      have hRe : R = e := by omega
      subst hRe
      simp only [Exit.jumps]
      refine bodyPost_ret (by simp [results, Tryz.results118, go_sem]; try rfl) rfl ?_
      exact ⟨rfl, rfl⟩
    · obtain ⟨g1, g2⟩ := run_yes digN rfl hd0
      rw [hl] at g1
      go_wp2
      go_step3
      have hR' := hR.out
      refine ⟨⟨rfl, e + 1, ⟨rfl, rfl, rfl, rfl⟩, by omega, rfl, (show _ = _ by omega)⟩, ?_⟩
      simp [intAt]
      omega
  · intro _
    go_wp2_with fail
    refine (A.out _ _ (by omega)).mono ?_
    rintro x w1 ⟨rfl, rfl⟩
    go_wp2_with fail
    refine (D.out _ _ (by omega)).mono ?_
    rintro x w1 ⟨rfl, rfl⟩
    go_wp2
    go_step3
    exact ⟨rfl, i + 1, ⟨rfl, rfl, rfl, rfl⟩, by omega, rfl, eR⟩
set_option maxRecDepth 100000 in
set_option maxHeartbeats 4000000 in
theorem behind_91 (s : ByteArray) (i : Nat) (w : World) (hs : s.size ≤ 16384) (hi : i < s.size) (hA : lowN s[i].toNat = false) (hD : digN s[i].toNat = false) (h : s[i].toNat = 91) :
    Calls Tryz.prog 118 #[.string s, .int .i64 i] w fun e w' => e = .returned (.tuple #[.int .i64 (((brk (s.data.toList.drop (i + 1))).map (i + 1 + ·)).elim 0 fun _ => 5), .int .i64 (((brk (s.data.toList.drop (i + 1))).map (i + 1 + ·)).elim 0 fun k => (k : Int))]) ∧ w' = w := by
  have hl : s.data.toList.length = s.size := by simp
  have h91' : ((s[i].toNat : Nat) : Int) = 91 := by omega
  have n40 : ¬ ((s[i].toNat : Nat) : Int) = 40 := by omega
  have n41 : ¬ ((s[i].toNat : Nat) : Int) = 41 := by omega
  have n45 : ¬ ((s[i].toNat : Nat) : Int) = 45 := by omega
  have n60 : ¬ ((s[i].toNat : Nat) : Int) = 60 := by omega
  have n61 : ¬ ((s[i].toNat : Nat) : Int) = 61 := by omega
  have n43 : ¬ ((s[i].toNat : Nat) : Int) = 43 := by omega
  have n42 : ¬ ((s[i].toNat : Nat) : Int) = 42 := by omega
  have A : Hid (∀ (v : Int) (W : World), v = (s[i].toNat : Int) → Calls Tryz.prog 141 #[.int .u8 v] W fun e w' => e = .returned (.bool false) ∧ w' = W) := fun v W h => by
    rw [h]; have q := letter_any s[i].toNat W s[i].toNat_lt; rw [hA] at q; exact q
  have D : Hid (∀ (v : Int) (W : World), v = (s[i].toNat : Int) → Calls Tryz.prog 142 #[.int .u8 v] W fun e w' => e = .returned (.bool false) ∧ w' = W) := fun v W h => by
    rw [h]; have q := digit_any s[i].toNat W s[i].toNat_lt; rw [hD] at q; exact q
  obtain ⟨R, eR⟩ : ∃ R, Hid ((brk (s.data.toList.drop (i + 1))).map (i + 1 + ·) = R) := ⟨_, rfl⟩
  rw [eR.out]
  go_enter Tryz.func118, Tryz.ntmps118
  go_wp2
  refine wp_scope_gotos (fun l a w' => w' = w ∧ ∃ e : Nat, FrB a s e ∧ e ≤ s.size ∧ l = 1 ∧ Hid ((brk (s.data.toList.drop e)).map (e + ·) = R)) (fun _ a _ => (s.size - intAt a 5).toNat) ?_ ?_
  · rintro l a w' ⟨rfl, e, hF, he, rfl, hR⟩
    obtain ⟨u, rfl⟩ := hF.lit
    refine ⟨_, rfl, ?_⟩
    by_cases hn : e = s.size
    · have hn' : (e : Int) = s.size := by omega
      have hR' := hR.out
      rw [brk_nil _ _ (by omega)] at hR'
      simp at hR'
      subst hR'
      go_wp2
      simp only [Exit.jumps]
      refine bodyPost_ret (by simp [results, Tryz.results118, go_sem]; try rfl) rfl ?_
      exact ⟨rfl, rfl⟩
    · have hlt : e < s.size := by omega
      have hn' : ¬ (e : Int) = s.size := by omega
      have hR' := hR.out
      rw [brk_step s e hlt] at hR'
      clear hR
      by_cases h93 : s[e].toNat = 93
      · have h93' : ((s[e].toNat : Nat) : Int) = 93 := by omega
        rw [if_pos h93] at hR'
        simp at hR'
        subst hR'
        go_wp2
        simp only [Exit.jumps]
        refine bodyPost_ret (by simp [results, Tryz.results118, go_sem]; try rfl) rfl ?_
        exact ⟨rfl, rfl⟩
      · have h93' : ¬ ((s[e].toNat : Nat) : Int) = 93 := by omega
        rw [if_neg h93, map_next] at hR'
        go_wp2
        go_step3
        refine ⟨⟨rfl, e + 1, ⟨rfl, rfl, rfl, rfl⟩, by omega, rfl, hR'⟩, ?_⟩
        simp [intAt]
        omega
  · intro _
    go_wp2_with fail
    refine (A.out _ _ (by omega)).mono ?_
    rintro x w1 ⟨rfl, rfl⟩
    go_wp2_with fail
    refine (D.out _ _ (by omega)).mono ?_
    rintro x w1 ⟨rfl, rfl⟩
    go_wp2
    go_step3
    exact ⟨rfl, i + 1, ⟨rfl, rfl, rfl, rfl⟩, by omega, rfl, eR⟩
/-- behind at every place of a text. -/
theorem behind_any (s : ByteArray) (i : Nat) (w : World) (hs : s.size ≤ 16384) (hi : i < s.size) :
    Calls Tryz.prog 118 #[.string s, .int .i64 i] w fun e w' => e = .returned (.tuple #[.int .i64 ((beh (s.data.toList.drop i)).1 : Nat), .int .i64 ((if (beh (s.data.toList.drop i)).1 = 0 then 0 else i + (beh (s.data.toList.drop i)).2 : Nat) : Int)]) ∧ w' = w := by
  have hd0 := drop_at s i hi
  by_cases h1 : s[i].toNat = 40
  · have e : beh (s.data.toList.drop i) = (1, 1) := by rw [hd0, beh_cons, if_pos h1]
    rw [e]; exact behind_40 s i w hs hi h1
  by_cases h2 : s[i].toNat = 41
  · have e : beh (s.data.toList.drop i) = (2, 1) := by rw [hd0, beh_cons, if_neg h1, if_pos h2]
    rw [e]; exact behind_41 s i w hs hi h2
  cases hA : lowN s[i].toNat
  · have h3 : ¬ lowN s[i].toNat = true := by rw [hA]; simp
    cases hD : digN s[i].toNat
    · by_cases h45 : s[i].toNat = 45
      · cases hP : digN (hd (s.data.toList.drop (i + 1)))
        · have e : beh (s.data.toList.drop i) = (4, 1) := by rw [hd0, beh_cons, if_neg h1, if_neg h2, if_neg h3, if_neg (by rw [hD, hP]; simp), if_neg (by omega), if_pos (by omega)]
          rw [e]; exact behind_45 s i w hs hi hA hD h45 hP
        · have e : beh (s.data.toList.drop i) = (6, 1 + numLen (s.data.toList.drop (i + 1))) := by rw [hd0, beh_cons, if_neg h1, if_neg h2, if_neg h3, if_pos (by rw [hP, h45]; simp)]
          rw [e]; have q := behind_neg s i w hs hi hA hD h45 hP
          rw [Nat.add_assoc] at q; exact q
      · have h4 : ¬ (digN s[i].toNat || (s[i].toNat == 45 && digN (hd (s.data.toList.drop (i + 1))))) = true := by rw [hD]; simp [h45]
        by_cases h60 : s[i].toNat = 60
        · by_cases hH : hd (s.data.toList.drop (i + 1)) = 61
          · have e : beh (s.data.toList.drop i) = (4, 2) := by rw [hd0, beh_cons, if_neg h1, if_neg h2, if_neg h3, if_neg h4, if_pos ⟨h60, hH⟩]
            rw [e]; exact behind_le s i w hs hi hA hD h60 hH
          · have e : beh (s.data.toList.drop i) = (4, 1) := by rw [hd0, beh_cons, if_neg h1, if_neg h2, if_neg h3, if_neg h4, if_neg (fun x => hH x.2), if_pos (by omega)]
            rw [e]; exact behind_lt s i w hs hi hA hD h60 hH
        · have h5 : ¬ (s[i].toNat = 60 ∧ hd (s.data.toList.drop (i + 1)) = 61) := fun x => h60 x.1
          by_cases h61 : s[i].toNat = 61
          · have e : beh (s.data.toList.drop i) = (4, 1) := by rw [hd0, beh_cons, if_neg h1, if_neg h2, if_neg h3, if_neg h4, if_neg h5, if_pos (by omega)]
            rw [e]; exact behind_61 s i w hs hi hA hD h61
          by_cases h43 : s[i].toNat = 43
          · have e : beh (s.data.toList.drop i) = (4, 1) := by rw [hd0, beh_cons, if_neg h1, if_neg h2, if_neg h3, if_neg h4, if_neg h5, if_pos (by omega)]
            rw [e]; exact behind_43 s i w hs hi hA hD h43
          by_cases h42 : s[i].toNat = 42
          · have e : beh (s.data.toList.drop i) = (4, 1) := by rw [hd0, beh_cons, if_neg h1, if_neg h2, if_neg h3, if_neg h4, if_neg h5, if_pos (by omega)]
            rw [e]; exact behind_42 s i w hs hi hA hD h42
          have h6 : ¬ (s[i].toNat = 61 ∨ s[i].toNat = 43 ∨ s[i].toNat = 42 ∨ s[i].toNat = 60 ∨ s[i].toNat = 45) := by omega
          by_cases h91 : s[i].toNat = 91
          · have q := behind_91 s i w hs hi hA hD h91
            cases hb : brk (s.data.toList.drop (i + 1)) with
            | none =>
              have e : beh (s.data.toList.drop i) = (0, 0) := by rw [hd0, beh_cons, if_neg h1, if_neg h2, if_neg h3, if_neg h4, if_neg h5, if_neg h6, if_pos h91, hb]; rfl
              rw [hb] at q; rw [e]; exact q
            | some k =>
              have e : beh (s.data.toList.drop i) = (5, 1 + k) := by rw [hd0, beh_cons, if_neg h1, if_neg h2, if_neg h3, if_neg h4, if_neg h5, if_neg h6, if_pos h91, hb]; rfl
              rw [hb] at q; rw [e]; simp only [Option.map, Option.elim] at q; rw [Nat.add_assoc] at q; exact q
          by_cases h34 : s[i].toNat = 34
          · have q := behind_34 s i w hs hi hA hD h34
            cases hb : qend false (s.data.toList.drop (i + 1)) with
            | none =>
              have e : beh (s.data.toList.drop i) = (0, 0) := by rw [hd0, beh_cons, if_neg h1, if_neg h2, if_neg h3, if_neg h4, if_neg h5, if_neg h6, if_neg h91, if_pos h34, hb]; rfl
              rw [hb] at q; rw [e]; exact q
            | some k =>
              have e : beh (s.data.toList.drop i) = (6, 1 + k) := by rw [hd0, beh_cons, if_neg h1, if_neg h2, if_neg h3, if_neg h4, if_neg h5, if_neg h6, if_neg h91, if_pos h34, hb]; rfl
              rw [hb] at q; rw [e]; simp only [Option.map, Option.elim] at q; rw [Nat.add_assoc] at q; exact q
          by_cases h64 : s[i].toNat = 64
          · have e : beh (s.data.toList.drop i) = (7, 1 + run digN (s.data.toList.drop (i + 1))) := by rw [hd0, beh_cons, if_neg h1, if_neg h2, if_neg h3, if_neg h4, if_neg h5, if_neg h6, if_neg h91, if_neg h34, if_pos h64]
            rw [e]; have q := behind_time s i w hs hi hA hD h64
            rw [Nat.add_assoc] at q; exact q
          · have e : beh (s.data.toList.drop i) = (0, 0) := by rw [hd0, beh_cons, if_neg h1, if_neg h2, if_neg h3, if_neg h4, if_neg h5, if_neg h6, if_neg h91, if_neg h34, if_neg h64]
            rw [e]; exact behind_no s i w hs hi hA hD h1 h2 h45 h60 h61 h43 h42 h91 h34 h64
    · have e : beh (s.data.toList.drop i) = (6, 1 + numLen (s.data.toList.drop (i + 1))) := by rw [hd0, beh_cons, if_neg h1, if_neg h2, if_neg h3, if_pos (by rw [hD]; simp)]
      rw [e]; have q := behind_dig s i w hs hi hA hD
      rw [Nat.add_assoc] at q; exact q
  · have e : beh (s.data.toList.drop i) = (3, 1 + run inwN (s.data.toList.drop (i + 1))) := by rw [hd0, beh_cons, if_neg h1, if_neg h2, if_pos hA]
    rw [e]; have q := behind_word s i w hs hi hA
    rw [Nat.add_assoc] at q; exact q
end Go.Proofs.YticmebamclacaaaGreatDoor

namespace Go.Proofs.YticmebamclacaaaGreatDoor
open Go.RowKit Go.Shelf
set_option linter.unusedVariables false

set_option maxRecDepth 100000 in
set_option maxHeartbeats 4000000 in
theorem num_no1 (s S : ByteArray) (k n d E : Int) (w : World) (h1 : -9223372036854775808 ≤ n) (h2 : n ≤ 9223372036854775807)
    (PA : Hid (∀ W : World, Pow W → Errs W → 9 ≤ W.heap.size → Calls Tryz.prog 149 #[.string s] W fun e w' => e = .returned (.tuple #[.agg #[.int .i64 k, .int .i64 n, .int .i64 d, .string S], .int .i64 E]) ∧ Below W.heap.size W w'))
    (ht : Pow w) (he : Errs w) (h8 : 9 ≤ w.heap.size) (hE : ¬ E = 0) :
    Calls Tryz.prog 150 #[.string s] w fun e w' => e = .returned (.tuple #[.agg #[.int .i64 0, .int .i64 0, .int .i64 0, .string ⟨#[]⟩], .bool false]) ∧ Below w.heap.size w w' := by
  have HE : Hid (Errs w) := he
  have HP : Hid (Pow w) := ht
  clear he ht
  go_enter Tryz.func150, Tryz.ntmps150
  go_wp2_with fail
  refine (PA.out _ (HP.out.below ((Below.refl _ w).alloc (Nat.le_refl _) _)) (HE.out.alloc h8 _) (by simp; omega)).mono ?_
  rintro e w1 ⟨rfl, hb1⟩
  have R1 : Hid (BlkV w1 w.heap.size 0 0 0 ⟨#[]⟩) := BlkV.below (by constructor <;> simp (maxDischargeDepth := 12) [go_sem]) hb1 (by simp)
  have B1 : Below w.heap.size w w1 := ((Below.refl _ w).alloc (Nat.le_refl _) _).trans (hb1.mono (by simp))
  have z1 : w.heap.size < w1.heap.size := by have := hb1.size; simp at this; omega
  clear hb1
  go_upto_region 2 with fail
  refine wp_world ?_
  intro W2 hW2
  have R2 : Hid (BlkV W2 w.heap.size 0 0 0 ⟨#[]⟩) := by rw [hW2]; exact R1.out.below ((Below.refl w1.heap.size w1).alloc (Nat.le_refl _) _) z1
  have V2 : Hid (BlkV W2 w1.heap.size k n d S) := by rw [hW2]; constructor <;> simp (maxDischargeDepth := 12) [go_sem]
  have B2 : Below w.heap.size w W2 := by rw [hW2]; exact B1.alloc B1.size _
  clear hW2 R1 B1 z1
  obtain ⟨r0, r1, r2, r3, r4, r5, r6, r7⟩ := R2.out
  obtain ⟨v0, v1, v2, v3, -, -, -, -⟩ := V2.out
  go_wp2
  generalize hW9 : World.setCell _ _ _ = W9
  have b9 : BlkV W9 w.heap.size 0 0 0 ⟨#[]⟩ := by rw [← hW9]; exact R2.out.four
  have hB9 : Below w.heap.size w W9 := by rw [← hW9]; exact (((B2.setCell (by simp) _).setCell (by simp) _).setCell (by simp) _).setCell (by simp) _
  clear hW9
  obtain ⟨x0, x1, x2, x3, -, -, -, -⟩ := b9
  refine bodyPost_ret (by simp [results, Tryz.results150, go_sem, x0, x1, x2, x3]; try rfl) rfl ?_
  exact ⟨rfl, hB9⟩

set_option maxRecDepth 100000 in
set_option maxHeartbeats 4000000 in
theorem num_no2 (s S : ByteArray) (k n d E : Int) (w : World) (h1 : -9223372036854775808 ≤ n) (h2 : n ≤ 9223372036854775807)
    (PA : Hid (∀ W : World, Pow W → Errs W → 9 ≤ W.heap.size → Calls Tryz.prog 149 #[.string s] W fun e w' => e = .returned (.tuple #[.agg #[.int .i64 k, .int .i64 n, .int .i64 d, .string S], .int .i64 E]) ∧ Below W.heap.size W w'))
    (ht : Pow w) (he : Errs w) (h8 : 9 ≤ w.heap.size) (hE : E = 0) (hk : ¬ k = 1) :
    Calls Tryz.prog 150 #[.string s] w fun e w' => e = .returned (.tuple #[.agg #[.int .i64 0, .int .i64 0, .int .i64 0, .string ⟨#[]⟩], .bool false]) ∧ Below w.heap.size w w' := by
  subst hE
  have HE : Hid (Errs w) := he
  have HP : Hid (Pow w) := ht
  clear he ht
  go_enter Tryz.func150, Tryz.ntmps150
  go_wp2_with fail
  refine (PA.out _ (HP.out.below ((Below.refl _ w).alloc (Nat.le_refl _) _)) (HE.out.alloc h8 _) (by simp; omega)).mono ?_
  rintro e w1 ⟨rfl, hb1⟩
  have R1 : Hid (BlkV w1 w.heap.size 0 0 0 ⟨#[]⟩) := BlkV.below (by constructor <;> simp (maxDischargeDepth := 12) [go_sem]) hb1 (by simp)
  have B1 : Below w.heap.size w w1 := ((Below.refl _ w).alloc (Nat.le_refl _) _).trans (hb1.mono (by simp))
  have z1 : w.heap.size < w1.heap.size := by have := hb1.size; simp at this; omega
  clear hb1
  go_upto_region 2 with fail
  refine wp_world ?_
  intro W2 hW2
  have R2 : Hid (BlkV W2 w.heap.size 0 0 0 ⟨#[]⟩) := by rw [hW2]; exact R1.out.below ((Below.refl w1.heap.size w1).alloc (Nat.le_refl _) _) z1
  have V2 : Hid (BlkV W2 w1.heap.size k n d S) := by rw [hW2]; constructor <;> simp (maxDischargeDepth := 12) [go_sem]
  have B2 : Below w.heap.size w W2 := by rw [hW2]; exact B1.alloc B1.size _
  clear hW2 R1 B1 z1
  obtain ⟨r0, r1, r2, r3, r4, r5, r6, r7⟩ := R2.out
  obtain ⟨v0, v1, v2, v3, -, -, -, -⟩ := V2.out
  go_wp2
  generalize hW9 : World.setCell _ _ _ = W9
  have b9 : BlkV W9 w.heap.size 0 0 0 ⟨#[]⟩ := by rw [← hW9]; exact R2.out.four
  have hB9 : Below w.heap.size w W9 := by rw [← hW9]; exact (((B2.setCell (by simp) _).setCell (by simp) _).setCell (by simp) _).setCell (by simp) _
  clear hW9
  obtain ⟨x0, x1, x2, x3, -, -, -, -⟩ := b9
  refine bodyPost_ret (by simp [results, Tryz.results150, go_sem, x0, x1, x2, x3]; try rfl) rfl ?_
  exact ⟨rfl, hB9⟩

set_option maxRecDepth 100000 in
set_option maxHeartbeats 4000000 in
theorem num_no3 (s S : ByteArray) (k n d E : Int) (w : World) (h1 : -9223372036854775808 ≤ n) (h2 : n ≤ 9223372036854775807)
    (PA : Hid (∀ W : World, Pow W → Errs W → 9 ≤ W.heap.size → Calls Tryz.prog 149 #[.string s] W fun e w' => e = .returned (.tuple #[.agg #[.int .i64 k, .int .i64 n, .int .i64 d, .string S], .int .i64 E]) ∧ Below W.heap.size W w'))
    (ht : Pow w) (he : Errs w) (h8 : 9 ≤ w.heap.size) (hE : E = 0) (hk : k = 1) (hn : n < 0) :
    Calls Tryz.prog 150 #[.string s] w fun e w' => e = .returned (.tuple #[.agg #[.int .i64 0, .int .i64 0, .int .i64 0, .string ⟨#[]⟩], .bool false]) ∧ Below w.heap.size w w' := by
  subst hE
  subst hk
  have HE : Hid (Errs w) := he
  have HP : Hid (Pow w) := ht
  clear he ht
  go_enter Tryz.func150, Tryz.ntmps150
  go_wp2_with fail
  refine (PA.out _ (HP.out.below ((Below.refl _ w).alloc (Nat.le_refl _) _)) (HE.out.alloc h8 _) (by simp; omega)).mono ?_
  rintro e w1 ⟨rfl, hb1⟩
  have R1 : Hid (BlkV w1 w.heap.size 0 0 0 ⟨#[]⟩) := BlkV.below (by constructor <;> simp (maxDischargeDepth := 12) [go_sem]) hb1 (by simp)
  have B1 : Below w.heap.size w w1 := ((Below.refl _ w).alloc (Nat.le_refl _) _).trans (hb1.mono (by simp))
  have z1 : w.heap.size < w1.heap.size := by have := hb1.size; simp at this; omega
  clear hb1
  go_upto_region 2 with fail
  refine wp_world ?_
  intro W2 hW2
  have R2 : Hid (BlkV W2 w.heap.size 0 0 0 ⟨#[]⟩) := by rw [hW2]; exact R1.out.below ((Below.refl w1.heap.size w1).alloc (Nat.le_refl _) _) z1
  have V2 : Hid (BlkV W2 w1.heap.size 1 n d S) := by rw [hW2]; constructor <;> simp (maxDischargeDepth := 12) [go_sem]
  have B2 : Below w.heap.size w W2 := by rw [hW2]; exact B1.alloc B1.size _
  clear hW2 R1 B1 z1
  obtain ⟨r0, r1, r2, r3, r4, r5, r6, r7⟩ := R2.out
  obtain ⟨v0, v1, v2, v3, -, -, -, -⟩ := V2.out
  go_wp2
  generalize hW9 : World.setCell _ _ _ = W9
  have b9 : BlkV W9 w.heap.size 0 0 0 ⟨#[]⟩ := by rw [← hW9]; exact R2.out.four
  have hB9 : Below w.heap.size w W9 := by rw [← hW9]; exact (((B2.setCell (by simp) _).setCell (by simp) _).setCell (by simp) _).setCell (by simp) _
  clear hW9
  obtain ⟨x0, x1, x2, x3, -, -, -, -⟩ := b9
  refine bodyPost_ret (by simp [results, Tryz.results150, go_sem, x0, x1, x2, x3]; try rfl) rfl ?_
  exact ⟨rfl, hB9⟩

set_option maxRecDepth 100000 in
set_option maxHeartbeats 4000000 in
theorem num_no4 (s S : ByteArray) (k n d E : Int) (w : World) (h1 : -9223372036854775808 ≤ n) (h2 : n ≤ 9223372036854775807)
    (PA : Hid (∀ W : World, Pow W → Errs W → 9 ≤ W.heap.size → Calls Tryz.prog 149 #[.string s] W fun e w' => e = .returned (.tuple #[.agg #[.int .i64 k, .int .i64 n, .int .i64 d, .string S], .int .i64 E]) ∧ Below W.heap.size W w'))
    (ht : Pow w) (he : Errs w) (h8 : 9 ≤ w.heap.size) (hE : E = 0) (hk : k = 1) (hn : 0 ≤ n) (hm : 1099511627776 < n) :
    Calls Tryz.prog 150 #[.string s] w fun e w' => e = .returned (.tuple #[.agg #[.int .i64 0, .int .i64 0, .int .i64 0, .string ⟨#[]⟩], .bool false]) ∧ Below w.heap.size w w' := by
  subst hE
  subst hk
  have HE : Hid (Errs w) := he
  have HP : Hid (Pow w) := ht
  clear he ht
  go_enter Tryz.func150, Tryz.ntmps150
  go_wp2_with fail
  refine (PA.out _ (HP.out.below ((Below.refl _ w).alloc (Nat.le_refl _) _)) (HE.out.alloc h8 _) (by simp; omega)).mono ?_
  rintro e w1 ⟨rfl, hb1⟩
  have R1 : Hid (BlkV w1 w.heap.size 0 0 0 ⟨#[]⟩) := BlkV.below (by constructor <;> simp (maxDischargeDepth := 12) [go_sem]) hb1 (by simp)
  have B1 : Below w.heap.size w w1 := ((Below.refl _ w).alloc (Nat.le_refl _) _).trans (hb1.mono (by simp))
  have z1 : w.heap.size < w1.heap.size := by have := hb1.size; simp at this; omega
  clear hb1
  go_upto_region 2 with fail
  refine wp_world ?_
  intro W2 hW2
  have R2 : Hid (BlkV W2 w.heap.size 0 0 0 ⟨#[]⟩) := by rw [hW2]; exact R1.out.below ((Below.refl w1.heap.size w1).alloc (Nat.le_refl _) _) z1
  have V2 : Hid (BlkV W2 w1.heap.size 1 n d S) := by rw [hW2]; constructor <;> simp (maxDischargeDepth := 12) [go_sem]
  have B2 : Below w.heap.size w W2 := by rw [hW2]; exact B1.alloc B1.size _
  clear hW2 R1 B1 z1
  obtain ⟨r0, r1, r2, r3, r4, r5, r6, r7⟩ := R2.out
  obtain ⟨v0, v1, v2, v3, -, -, -, -⟩ := V2.out
  go_wp2
  generalize hW9 : World.setCell _ _ _ = W9
  have b9 : BlkV W9 w.heap.size 0 0 0 ⟨#[]⟩ := by rw [← hW9]; exact R2.out.four
  have hB9 : Below w.heap.size w W9 := by rw [← hW9]; exact (((B2.setCell (by simp) _).setCell (by simp) _).setCell (by simp) _).setCell (by simp) _
  clear hW9
  obtain ⟨x0, x1, x2, x3, -, -, -, -⟩ := b9
  refine bodyPost_ret (by simp [results, Tryz.results150, go_sem, x0, x1, x2, x3]; try rfl) rfl ?_
  exact ⟨rfl, hB9⟩

set_option maxRecDepth 100000 in
set_option maxHeartbeats 4000000 in
theorem num_yes1 (s S : ByteArray) (k n d E : Int) (w : World) (h1 : -9223372036854775808 ≤ n) (h2 : n ≤ 9223372036854775807)
    (PA : Hid (∀ W : World, Pow W → Errs W → 9 ≤ W.heap.size → Calls Tryz.prog 149 #[.string s] W fun e w' => e = .returned (.tuple #[.agg #[.int .i64 k, .int .i64 n, .int .i64 d, .string S], .int .i64 E]) ∧ Below W.heap.size W w'))
    (ht : Pow w) (he : Errs w) (h8 : 9 ≤ w.heap.size) (hE : E = 0) (hk : k = 1) (hn : 0 ≤ n) (hm : n ≤ 1099511627776) :
    Calls Tryz.prog 150 #[.string s] w fun e w' => e = .returned (.tuple #[.agg #[.int .i64 k, .int .i64 n, .int .i64 d, .string S], .bool true]) ∧ Below w.heap.size w w' := by
  subst hE
  subst hk
  have HE : Hid (Errs w) := he
  have HP : Hid (Pow w) := ht
  clear he ht
  go_enter Tryz.func150, Tryz.ntmps150
  go_wp2_with fail
  refine (PA.out _ (HP.out.below ((Below.refl _ w).alloc (Nat.le_refl _) _)) (HE.out.alloc h8 _) (by simp; omega)).mono ?_
  rintro e w1 ⟨rfl, hb1⟩
  have R1 : Hid (BlkV w1 w.heap.size 0 0 0 ⟨#[]⟩) := BlkV.below (by constructor <;> simp (maxDischargeDepth := 12) [go_sem]) hb1 (by simp)
  have B1 : Below w.heap.size w w1 := ((Below.refl _ w).alloc (Nat.le_refl _) _).trans (hb1.mono (by simp))
  have z1 : w.heap.size < w1.heap.size := by have := hb1.size; simp at this; omega
  clear hb1
  go_upto_region 2 with fail
  refine wp_world ?_
  intro W2 hW2
  have R2 : Hid (BlkV W2 w.heap.size 0 0 0 ⟨#[]⟩) := by rw [hW2]; exact R1.out.below ((Below.refl w1.heap.size w1).alloc (Nat.le_refl _) _) z1
  have V2 : Hid (BlkV W2 w1.heap.size 1 n d S) := by rw [hW2]; constructor <;> simp (maxDischargeDepth := 12) [go_sem]
  have B2 : Below w.heap.size w W2 := by rw [hW2]; exact B1.alloc B1.size _
  clear hW2 R1 B1 z1
  obtain ⟨r0, r1, r2, r3, r4, r5, r6, r7⟩ := R2.out
  obtain ⟨v0, v1, v2, v3, -, -, -, -⟩ := V2.out
  go_wp2
  generalize hW9 : World.setCell _ _ _ = W9
  have b9 : BlkV W9 w.heap.size 1 n d S := by rw [← hW9]; exact R2.out.four
  have hB9 : Below w.heap.size w W9 := by rw [← hW9]; exact (((B2.setCell (by simp) _).setCell (by simp) _).setCell (by simp) _).setCell (by simp) _
  clear hW9
  obtain ⟨x0, x1, x2, x3, -, -, -, -⟩ := b9
  refine bodyPost_ret (by simp [results, Tryz.results150, go_sem, x0, x1, x2, x3]; try rfl) rfl ?_
  exact ⟨rfl, hB9⟩

/-- What number tells of a text. -/
def zeroV : Val := ⟨0, 0, 0, ⟨#[]⟩⟩
def numB (l : List UInt8) : Val × Bool :=
  if (prs l).2 = 0 ∧ (prs l).1.k = 1 ∧ 0 ≤ (prs l).1.n ∧ (prs l).1.n ≤ 1099511627776 then ((prs l).1, true) else (zeroV, false)
def Val.agg (v : Val) : Value := .agg #[.int .i64 v.k, .int .i64 v.n, .int .i64 v.d, .string v.s]
theorem lprs_fits (l : List UInt8) : (prs l).1.Fits := by
  have hz : Val.Fits ⟨0, 0, 0, ⟨#[]⟩⟩ := ⟨by simp, by simp, by simp, by simp⟩
  unfold prs
  split
  · split
    · exact gss_fits l
    · exact hz
  · exact hz
theorem lnumber_any (s : ByteArray) (w : World) (hs : s.size ≤ 35184372088830) (ht : Pow w) (he : Errs w) (h8 : 9 ≤ w.heap.size) :
    Calls Tryz.prog 150 #[.string s] w fun e w' => e = .returned (.tuple #[(numB s.data.toList).1.agg, .bool (numB s.data.toList).2]) ∧ Below w.heap.size w w' := by
  have PA := fun (W : World) (g1 : Pow W) (g2 : Errs W) (g3 : 9 ≤ W.heap.size) => parse_any s W hs g1 g2 g3
  have hf := lprs_fits s.data.toList
  unfold numB
  obtain ⟨g, hg⟩ : ∃ g, prs s.data.toList = g := ⟨_, rfl⟩
  rw [hg] at PA hf ⊢
  obtain ⟨⟨k, n, d, S⟩, E⟩ := g
  dsimp only at PA hf ⊢
  by_cases hE : E = 0
  · by_cases hk : k = 1
    · by_cases hn : 0 ≤ n
      · by_cases hm : n ≤ 1099511627776
        · rw [if_pos ⟨hE, hk, hn, hm⟩]
          exact num_yes1 s S k n d E w hf.n1 hf.n2 PA ht he h8 hE hk hn hm
        · rw [if_neg (fun x => hm x.2.2.2)]
          exact num_no4 s S k n d E w hf.n1 hf.n2 PA ht he h8 hE hk hn (by omega)
      · rw [if_neg (fun x => hn x.2.2.1)]
        exact num_no3 s S k n d E w hf.n1 hf.n2 PA ht he h8 hE hk (by omega)
    · rw [if_neg (fun x => hk x.2.1)]
      exact num_no2 s S k n d E w hf.n1 hf.n2 PA ht he h8 hE hk
  · rw [if_neg (fun x => hE x.1)]
    exact num_no1 s S k n d E w hf.n1 hf.n2 PA ht he h8 hE
end Go.Proofs.YticmebamclacaaaGreatDoor

namespace Go.Proofs.YticmebamclacaaaGreatDoor
open Go.RowKit Go.Shelf
set_option linter.unusedVariables false

set_option maxRecDepth 100000 in
set_option maxHeartbeats 4000000 in
theorem iv_1 (s A B : ByteArray) (a b : Val) (br oa ob : Bool) (w : World)
    (CU : Hid (∀ W : World, Calls Tryz.prog 159 #[.string s, .string ⟨#[44]⟩] W fun e w' => e = .returned (.tuple #[.string A, .string B, .bool br]) ∧ ∃ k, w' = W.drewN k))
    (NA : Hid (∀ W : World, Pow W → Errs W → 9 ≤ W.heap.size → Calls Tryz.prog 150 #[.string A] W fun e w' => e = .returned (.tuple #[.agg #[.int .i64 a.k, .int .i64 a.n, .int .i64 a.d, .string a.s], .bool oa]) ∧ Below W.heap.size W w'))
    (NB : Hid (∀ W : World, Pow W → Errs W → 9 ≤ W.heap.size → Calls Tryz.prog 150 #[.string B] W fun e w' => e = .returned (.tuple #[.agg #[.int .i64 b.k, .int .i64 b.n, .int .i64 b.d, .string b.s], .bool ob]) ∧ Below W.heap.size W w'))
    (ht : Pow w) (he : Errs w) (h8 : 9 ≤ w.heap.size) (h1 : br = false) :
    Calls Tryz.prog 148 #[.string s] w fun e w' => e = .returned (.bool false) ∧ Below w.heap.size w w' := by
  subst h1
  obtain ⟨ak, an, ad, aS⟩ := a
  obtain ⟨bk, bn, bd, bS⟩ := b
  dsimp only at NA NB ⊢
  have HE : Hid (Errs w) := he
  have HP : Hid (Pow w) := ht
  clear he ht
  go_enter Tryz.func148, Tryz.ntmps148
  go_wp2_with fail
  refine (CU.out _).mono ?_
  rintro e w0 ⟨rfl, k, rfl⟩
  have B0 : Below w.heap.size w (w.drewN k) := bdrewN k (Below.refl _ w)
  go_wp2_with fail
  refine (NA.out _ (HP.out.below B0) (HE.out.below B0 h8) h8).mono ?_
  rintro e w1 ⟨rfl, hb1⟩
  have B1 : Below w.heap.size w w1 := B0.trans (hb1.mono (Nat.le_refl _))
  have z1 : w.heap.size ≤ w1.heap.size := B1.size
  clear hb1 B0
  go_upto_region 3 with fail
  refine wp_world ?_
  intro W2 hW2
  have V2 : Hid (BlkV W2 w1.heap.size ak an ad aS) := by rw [hW2]; constructor <;> simp (maxDischargeDepth := 12) [go_sem]
  have B2 : Below w.heap.size w W2 := by rw [hW2]; exact B1.alloc B1.size _
  have z2 : w1.heap.size < W2.heap.size := by rw [hW2]; simp
  clear hW2
  go_wp2
  go_ret
  exact ⟨rfl, B2⟩
set_option maxRecDepth 100000 in
set_option maxHeartbeats 4000000 in
theorem iv_2 (s A B : ByteArray) (a b : Val) (br oa ob : Bool) (w : World)
    (CU : Hid (∀ W : World, Calls Tryz.prog 159 #[.string s, .string ⟨#[44]⟩] W fun e w' => e = .returned (.tuple #[.string A, .string B, .bool br]) ∧ ∃ k, w' = W.drewN k))
    (NA : Hid (∀ W : World, Pow W → Errs W → 9 ≤ W.heap.size → Calls Tryz.prog 150 #[.string A] W fun e w' => e = .returned (.tuple #[.agg #[.int .i64 a.k, .int .i64 a.n, .int .i64 a.d, .string a.s], .bool oa]) ∧ Below W.heap.size W w'))
    (NB : Hid (∀ W : World, Pow W → Errs W → 9 ≤ W.heap.size → Calls Tryz.prog 150 #[.string B] W fun e w' => e = .returned (.tuple #[.agg #[.int .i64 b.k, .int .i64 b.n, .int .i64 b.d, .string b.s], .bool ob]) ∧ Below W.heap.size W w'))
    (ht : Pow w) (he : Errs w) (h8 : 9 ≤ w.heap.size) (h1 : br = true) (h2 : oa = false) :
    Calls Tryz.prog 148 #[.string s] w fun e w' => e = .returned (.bool false) ∧ Below w.heap.size w w' := by
  subst h1
  subst h2
  obtain ⟨ak, an, ad, aS⟩ := a
  obtain ⟨bk, bn, bd, bS⟩ := b
  dsimp only at NA NB ⊢
  have HE : Hid (Errs w) := he
  have HP : Hid (Pow w) := ht
  clear he ht
  go_enter Tryz.func148, Tryz.ntmps148
  go_wp2_with fail
  refine (CU.out _).mono ?_
  rintro e w0 ⟨rfl, k, rfl⟩
  have B0 : Below w.heap.size w (w.drewN k) := bdrewN k (Below.refl _ w)
  go_wp2_with fail
  refine (NA.out _ (HP.out.below B0) (HE.out.below B0 h8) h8).mono ?_
  rintro e w1 ⟨rfl, hb1⟩
  have B1 : Below w.heap.size w w1 := B0.trans (hb1.mono (Nat.le_refl _))
  have z1 : w.heap.size ≤ w1.heap.size := B1.size
  clear hb1 B0
  go_upto_region 3 with fail
  refine wp_world ?_
  intro W2 hW2
  have V2 : Hid (BlkV W2 w1.heap.size ak an ad aS) := by rw [hW2]; constructor <;> simp (maxDischargeDepth := 12) [go_sem]
  have B2 : Below w.heap.size w W2 := by rw [hW2]; exact B1.alloc B1.size _
  have z2 : w1.heap.size < W2.heap.size := by rw [hW2]; simp
  clear hW2
  go_wp2
  go_ret
  exact ⟨rfl, B2⟩
set_option maxRecDepth 100000 in
set_option maxHeartbeats 4000000 in
theorem iv_3 (s A B : ByteArray) (a b : Val) (br oa ob : Bool) (w : World)
    (CU : Hid (∀ W : World, Calls Tryz.prog 159 #[.string s, .string ⟨#[44]⟩] W fun e w' => e = .returned (.tuple #[.string A, .string B, .bool br]) ∧ ∃ k, w' = W.drewN k))
    (NA : Hid (∀ W : World, Pow W → Errs W → 9 ≤ W.heap.size → Calls Tryz.prog 150 #[.string A] W fun e w' => e = .returned (.tuple #[.agg #[.int .i64 a.k, .int .i64 a.n, .int .i64 a.d, .string a.s], .bool oa]) ∧ Below W.heap.size W w'))
    (NB : Hid (∀ W : World, Pow W → Errs W → 9 ≤ W.heap.size → Calls Tryz.prog 150 #[.string B] W fun e w' => e = .returned (.tuple #[.agg #[.int .i64 b.k, .int .i64 b.n, .int .i64 b.d, .string b.s], .bool ob]) ∧ Below W.heap.size W w'))
    (ht : Pow w) (he : Errs w) (h8 : 9 ≤ w.heap.size) (h1 : br = true) (h2 : oa = true) (h3 : B = ⟨#[42]⟩) :
    Calls Tryz.prog 148 #[.string s] w fun e w' => e = .returned (.bool true) ∧ Below w.heap.size w w' := by
  subst h1
  subst h2
  subst h3
  obtain ⟨ak, an, ad, aS⟩ := a
  obtain ⟨bk, bn, bd, bS⟩ := b
  dsimp only at NA NB ⊢
  have HE : Hid (Errs w) := he
  have HP : Hid (Pow w) := ht
  clear he ht
  go_enter Tryz.func148, Tryz.ntmps148
  go_wp2_with fail
  refine (CU.out _).mono ?_
  rintro e w0 ⟨rfl, k, rfl⟩
  have B0 : Below w.heap.size w (w.drewN k) := bdrewN k (Below.refl _ w)
  go_wp2_with fail
  refine (NA.out _ (HP.out.below B0) (HE.out.below B0 h8) h8).mono ?_
  rintro e w1 ⟨rfl, hb1⟩
  have B1 : Below w.heap.size w w1 := B0.trans (hb1.mono (Nat.le_refl _))
  have z1 : w.heap.size ≤ w1.heap.size := B1.size
  clear hb1 B0
  go_upto_region 3 with fail
  refine wp_world ?_
  intro W2 hW2
  have V2 : Hid (BlkV W2 w1.heap.size ak an ad aS) := by rw [hW2]; constructor <;> simp (maxDischargeDepth := 12) [go_sem]
  have B2 : Below w.heap.size w W2 := by rw [hW2]; exact B1.alloc B1.size _
  have z2 : w1.heap.size < W2.heap.size := by rw [hW2]; simp
  clear hW2
  go_wp2
  go_ret
  exact ⟨rfl, B2⟩
set_option maxRecDepth 100000 in
set_option maxHeartbeats 4000000 in
theorem iv_4 (s A B : ByteArray) (a b : Val) (br oa ob : Bool) (w : World)
    (CU : Hid (∀ W : World, Calls Tryz.prog 159 #[.string s, .string ⟨#[44]⟩] W fun e w' => e = .returned (.tuple #[.string A, .string B, .bool br]) ∧ ∃ k, w' = W.drewN k))
    (NA : Hid (∀ W : World, Pow W → Errs W → 9 ≤ W.heap.size → Calls Tryz.prog 150 #[.string A] W fun e w' => e = .returned (.tuple #[.agg #[.int .i64 a.k, .int .i64 a.n, .int .i64 a.d, .string a.s], .bool oa]) ∧ Below W.heap.size W w'))
    (NB : Hid (∀ W : World, Pow W → Errs W → 9 ≤ W.heap.size → Calls Tryz.prog 150 #[.string B] W fun e w' => e = .returned (.tuple #[.agg #[.int .i64 b.k, .int .i64 b.n, .int .i64 b.d, .string b.s], .bool ob]) ∧ Below W.heap.size W w'))
    (ht : Pow w) (he : Errs w) (h8 : 9 ≤ w.heap.size) (h1 : br = true) (h2 : oa = true) (h3 : ¬ B = ⟨#[42]⟩) (h4 : ob = false) :
    Calls Tryz.prog 148 #[.string s] w fun e w' => e = .returned (.bool false) ∧ Below w.heap.size w w' := by
  subst h1
  subst h2
  subst h4
  have h3a : (B.toList == [42]) = false := by
    simp only [beq_eq_false_iff_ne, ne_eq]
    exact fun h => h3 (by rw [ByteArray.toList_eq] at h; exact ba_eq h)
  obtain ⟨ak, an, ad, aS⟩ := a
  obtain ⟨bk, bn, bd, bS⟩ := b
  dsimp only at NA NB ⊢
  have HE : Hid (Errs w) := he
  have HP : Hid (Pow w) := ht
  clear he ht
  go_enter Tryz.func148, Tryz.ntmps148
  go_wp2_with fail
  refine (CU.out _).mono ?_
  rintro e w0 ⟨rfl, k, rfl⟩
  have B0 : Below w.heap.size w (w.drewN k) := bdrewN k (Below.refl _ w)
  go_wp2_with fail
  refine (NA.out _ (HP.out.below B0) (HE.out.below B0 h8) h8).mono ?_
  rintro e w1 ⟨rfl, hb1⟩
  have B1 : Below w.heap.size w w1 := B0.trans (hb1.mono (Nat.le_refl _))
  have z1 : w.heap.size ≤ w1.heap.size := B1.size
  clear hb1 B0
  go_upto_region 3 with fail
  refine wp_world ?_
  intro W2 hW2
  have V2 : Hid (BlkV W2 w1.heap.size ak an ad aS) := by rw [hW2]; constructor <;> simp (maxDischargeDepth := 12) [go_sem]
  have B2 : Below w.heap.size w W2 := by rw [hW2]; exact B1.alloc B1.size _
  have z2 : w1.heap.size < W2.heap.size := by rw [hW2]; simp
  clear hW2
  go_wp2_with fail
  refine (NB.out _ (HP.out.below B2) (HE.out.below B2 h8) (by omega)).mono ?_
  rintro e w3 ⟨rfl, hb3⟩
  have V3 : Hid (BlkV w3 w1.heap.size ak an ad aS) := V2.out.below hb3 z2
  have B3 : Below w.heap.size w w3 := B2.trans (hb3.mono B2.size)
  have z3 : w1.heap.size < w3.heap.size := by have := hb3.size; omega
  clear hb3 V2 B2
  go_upto_region 8 with fail
  refine wp_world ?_
  intro W4 hW4
  have V4 : Hid (BlkV W4 w1.heap.size ak an ad aS) := by rw [hW4]; exact V3.out.below ((Below.refl w3.heap.size w3).alloc (Nat.le_refl _) _) z3
  have U4 : Hid (BlkV W4 w3.heap.size bk bn bd bS) := by rw [hW4]; constructor <;> simp (maxDischargeDepth := 12) [go_sem]
  have B4 : Below w.heap.size w W4 := by rw [hW4]; exact B3.alloc B3.size _
  clear hW4 V3 B3
  obtain ⟨v0, v1, v2, v3, -, -, -, -⟩ := V4.out
  obtain ⟨u0, u1, u2, u3, -, -, -, -⟩ := U4.out
  go_wp2
  go_ret
  exact ⟨rfl, B4⟩
set_option maxRecDepth 100000 in
set_option maxHeartbeats 4000000 in
theorem iv_5 (s A B : ByteArray) (a b : Val) (br oa ob : Bool) (w : World)
    (CU : Hid (∀ W : World, Calls Tryz.prog 159 #[.string s, .string ⟨#[44]⟩] W fun e w' => e = .returned (.tuple #[.string A, .string B, .bool br]) ∧ ∃ k, w' = W.drewN k))
    (NA : Hid (∀ W : World, Pow W → Errs W → 9 ≤ W.heap.size → Calls Tryz.prog 150 #[.string A] W fun e w' => e = .returned (.tuple #[.agg #[.int .i64 a.k, .int .i64 a.n, .int .i64 a.d, .string a.s], .bool oa]) ∧ Below W.heap.size W w'))
    (NB : Hid (∀ W : World, Pow W → Errs W → 9 ≤ W.heap.size → Calls Tryz.prog 150 #[.string B] W fun e w' => e = .returned (.tuple #[.agg #[.int .i64 b.k, .int .i64 b.n, .int .i64 b.d, .string b.s], .bool ob]) ∧ Below W.heap.size W w'))
    (ht : Pow w) (he : Errs w) (h8 : 9 ≤ w.heap.size) (h1 : br = true) (h2 : oa = true) (h3 : ¬ B = ⟨#[42]⟩) (h4 : ob = true) :
    Calls Tryz.prog 148 #[.string s] w fun e w' => e = .returned (.bool (decide (a.n ≤ b.n))) ∧ Below w.heap.size w w' := by
  subst h1
  subst h2
  subst h4
  have h3a : (B.toList == [42]) = false := by
    simp only [beq_eq_false_iff_ne, ne_eq]
    exact fun h => h3 (by rw [ByteArray.toList_eq] at h; exact ba_eq h)
  obtain ⟨ak, an, ad, aS⟩ := a
  obtain ⟨bk, bn, bd, bS⟩ := b
  dsimp only at NA NB ⊢
  have HE : Hid (Errs w) := he
  have HP : Hid (Pow w) := ht
  clear he ht
  go_enter Tryz.func148, Tryz.ntmps148
  go_wp2_with fail
  refine (CU.out _).mono ?_
  rintro e w0 ⟨rfl, k, rfl⟩
  have B0 : Below w.heap.size w (w.drewN k) := bdrewN k (Below.refl _ w)
  go_wp2_with fail
  refine (NA.out _ (HP.out.below B0) (HE.out.below B0 h8) h8).mono ?_
  rintro e w1 ⟨rfl, hb1⟩
  have B1 : Below w.heap.size w w1 := B0.trans (hb1.mono (Nat.le_refl _))
  have z1 : w.heap.size ≤ w1.heap.size := B1.size
  clear hb1 B0
  go_upto_region 3 with fail
  refine wp_world ?_
  intro W2 hW2
  have V2 : Hid (BlkV W2 w1.heap.size ak an ad aS) := by rw [hW2]; constructor <;> simp (maxDischargeDepth := 12) [go_sem]
  have B2 : Below w.heap.size w W2 := by rw [hW2]; exact B1.alloc B1.size _
  have z2 : w1.heap.size < W2.heap.size := by rw [hW2]; simp
  clear hW2
  go_wp2_with fail
  refine (NB.out _ (HP.out.below B2) (HE.out.below B2 h8) (by omega)).mono ?_
  rintro e w3 ⟨rfl, hb3⟩
  have V3 : Hid (BlkV w3 w1.heap.size ak an ad aS) := V2.out.below hb3 z2
  have B3 : Below w.heap.size w w3 := B2.trans (hb3.mono B2.size)
  have z3 : w1.heap.size < w3.heap.size := by have := hb3.size; omega
  clear hb3 V2 B2
  go_upto_region 8 with fail
  refine wp_world ?_
  intro W4 hW4
  have V4 : Hid (BlkV W4 w1.heap.size ak an ad aS) := by rw [hW4]; exact V3.out.below ((Below.refl w3.heap.size w3).alloc (Nat.le_refl _) _) z3
  have U4 : Hid (BlkV W4 w3.heap.size bk bn bd bS) := by rw [hW4]; constructor <;> simp (maxDischargeDepth := 12) [go_sem]
  have B4 : Below w.heap.size w W4 := by rw [hW4]; exact B3.alloc B3.size _
  clear hW4 V3 B3
  obtain ⟨v0, v1, v2, v3, -, -, -, -⟩ := V4.out
  obtain ⟨u0, u1, u2, u3, -, -, -, -⟩ := U4.out
  go_wp2
  go_ret
  exact ⟨rfl, B4⟩
/-- Whether a text is an interval's, without its brackets. -/
def ivB (l : List UInt8) : Bool :=
  (cutC l).2.2 && (numB (cutC l).1).2 && (decide ((cutC l).2.1 = [42]) || ((numB (cutC l).2.1).2 && decide ((numB (cutC l).1).1.n ≤ (numB (cutC l).2.1).1.n)))
theorem cutC_len : ∀ (l : List UInt8), (cutC l).1.length ≤ l.length ∧ (cutC l).2.1.length ≤ l.length
  | [] => by simp [cutC]
  | c :: r => by
    have ih := cutC_len r
    unfold cutC
    split
    · simp
    · simp; omega
theorem iv_any (s : ByteArray) (w : World) (hs : s.size ≤ 35184372088830) (ht : Pow w) (he : Errs w) (h8 : 9 ≤ w.heap.size) :
    Calls Tryz.prog 148 #[.string s] w fun e w' => e = .returned (.bool (ivB s.data.toList)) ∧ Below w.heap.size w w' := by
  have CU := fun (W : World) => comma_any s W (by omega)
  have hl : s.data.toList.length = s.size := by simp
  have hc := cutC_len s.data.toList
  unfold ivB
  obtain ⟨c, hg⟩ : ∃ c, cutC s.data.toList = c := ⟨_, rfl⟩
  rw [hg] at CU hc ⊢
  obtain ⟨A, B, br⟩ := c
  dsimp only at CU hc ⊢
  have NA := fun (W : World) (g1 : Pow W) (g2 : Errs W) (g3 : 9 ≤ W.heap.size) => lnumber_any ⟨A.toArray⟩ W (by show A.toArray.size ≤ _; simp; omega) g1 g2 g3
  have NB := fun (W : World) (g1 : Pow W) (g2 : Errs W) (g3 : 9 ≤ W.heap.size) => lnumber_any ⟨B.toArray⟩ W (by show B.toArray.size ≤ _; simp; omega) g1 g2 g3
  simp only [] at NA NB
  cases br
  · exact iv_1 s _ _ _ _ _ _ _ w CU NA NB ht he h8 rfl
  · cases ha : (numB A).2
    · exact iv_2 s _ _ _ _ _ _ _ w CU NA NB ht he h8 rfl ha
    · by_cases hb : B = [42]
      · rw [decide_eq_true hb]
        subst hb
        exact iv_3 s _ _ _ _ _ _ _ w CU NA NB ht he h8 rfl ha rfl
      · have hb' : ¬ (⟨B.toArray⟩ : ByteArray) = ⟨#[42]⟩ := by
          intro h
          apply hb
          have := congrArg (fun x : ByteArray => x.data.toList) h
          simpa using this
        rw [decide_eq_false hb]
        cases hq : (numB B).2
        · exact iv_4 s _ _ _ _ _ _ _ w CU NA NB ht he h8 rfl ha hb' hq
        · have q := iv_5 s _ _ _ _ _ _ _ w CU NA NB ht he h8 rfl ha hb' hq
          simpa using q
end Go.Proofs.YticmebamclacaaaGreatDoor

namespace Go.Proofs.YticmebamclacaaaGreatDoor
open Go.RowKit Go.Shelf LX
set_option linter.unusedVariables false

theorem ext_mid (s : ByteArray) (a b : Nat) : (s.extract a b).data.toList = (s.data.toList.drop a).take (b - a) := by
  simp [ByteArray.data_extract]
set_option maxRecDepth 100000 in
set_option maxHeartbeats 4000000 in
theorem said_3 (K : Int) (s S : ByteArray) (k n d E : Int) (ok : Bool) (w : World)
    (ht : Pow w) (he : Errs w) (h8 : 9 ≤ w.heap.size) :
    Calls Tryz.prog 120 #[.int .i64 3, .string s] w fun e w' => e = .returned (.tuple #[.agg #[.int .i64 0, .int .i64 0, .int .i64 0, .string ⟨#[]⟩], .bool (decide ((s.size : Int) ≤ 16))]) ∧ Below w.heap.size w w' := by
  have HE : Hid (Errs w) := he
  have HP : Hid (Pow w) := ht
  clear he ht
  go_enter Tryz.func120, Tryz.ntmps120
  go_upto_region 3 with fail
  refine wp_world ?_
  intro W2 hW2
  have R2 : Hid (BlkV W2 w.heap.size 0 0 0 ⟨#[]⟩) := by rw [hW2]; constructor <;> simp (maxDischargeDepth := 12) [go_sem]
  have B2 : Below w.heap.size w W2 := by rw [hW2]; exact (Below.refl _ w).alloc (Nat.le_refl _) _
  clear hW2
  obtain ⟨r0, r1, r2, r3, r4, r5, r6, r7⟩ := R2.out
  go_wp2
  generalize hW9 : World.setCell _ _ _ = W9
  have b9 : BlkV W9 w.heap.size 0 0 0 ⟨#[]⟩ := by rw [← hW9]; exact R2.out.four
  have hB9 : Below w.heap.size w W9 := by rw [← hW9]; exact (((B2.setCell (by simp) _).setCell (by simp) _).setCell (by simp) _).setCell (by simp) _
  clear hW9
  obtain ⟨x0, x1, x2, x3, -, -, -, -⟩ := b9
  refine bodyPost_ret (by simp [results, Tryz.results120, go_sem, x0, x1, x2, x3]; try rfl) rfl ?_
  exact ⟨rfl, hB9⟩

set_option maxRecDepth 100000 in
set_option maxHeartbeats 4000000 in
theorem said_0 (K : Int) (s S : ByteArray) (k n d E : Int) (ok : Bool) (w : World)
    (ht : Pow w) (he : Errs w) (h8 : 9 ≤ w.heap.size) (h3 : ¬ K = 3) (h5 : ¬ K = 5) (h6 : ¬ K = 6) (h7 : ¬ K = 7) :
    Calls Tryz.prog 120 #[.int .i64 K, .string s] w fun e w' => e = .returned (.tuple #[.agg #[.int .i64 0, .int .i64 0, .int .i64 0, .string ⟨#[]⟩], .bool true]) ∧ Below w.heap.size w w' := by
  have HE : Hid (Errs w) := he
  have HP : Hid (Pow w) := ht
  clear he ht
  go_enter Tryz.func120, Tryz.ntmps120
  go_upto_region 11 with fail
  refine wp_world ?_
  intro W2 hW2
  have R2 : Hid (BlkV W2 w.heap.size 0 0 0 ⟨#[]⟩) := by rw [hW2]; constructor <;> simp (maxDischargeDepth := 12) [go_sem]
  have B2 : Below w.heap.size w W2 := by rw [hW2]; exact (Below.refl _ w).alloc (Nat.le_refl _) _
  clear hW2
  obtain ⟨r0, r1, r2, r3, r4, r5, r6, r7⟩ := R2.out
  go_wp2
  generalize hW9 : World.setCell _ _ _ = W9
  have b9 : BlkV W9 w.heap.size 0 0 0 ⟨#[]⟩ := by rw [← hW9]; exact R2.out.four
  have hB9 : Below w.heap.size w W9 := by rw [← hW9]; exact (((B2.setCell (by simp) _).setCell (by simp) _).setCell (by simp) _).setCell (by simp) _
  clear hW9
  obtain ⟨x0, x1, x2, x3, -, -, -, -⟩ := b9
  refine bodyPost_ret (by simp [results, Tryz.results120, go_sem, x0, x1, x2, x3]; try rfl) rfl ?_
  exact ⟨rfl, hB9⟩

set_option maxRecDepth 100000 in
set_option maxHeartbeats 4000000 in
theorem said_6 (K : Int) (s S : ByteArray) (k n d E : Int) (ok : Bool) (w : World)
    (PA : Hid (∀ W : World, Pow W → Errs W → 9 ≤ W.heap.size → Calls Tryz.prog 149 #[.string s] W fun e w' => e = .returned (.tuple #[.agg #[.int .i64 k, .int .i64 n, .int .i64 d, .string S], .int .i64 E]) ∧ Below W.heap.size W w'))
    (ht : Pow w) (he : Errs w) (h8 : 9 ≤ w.heap.size) :
    Calls Tryz.prog 120 #[.int .i64 6, .string s] w fun e w' => e = .returned (.tuple #[.agg #[.int .i64 k, .int .i64 n, .int .i64 d, .string S], .bool (decide (E = 0))]) ∧ Below w.heap.size w w' := by
  have HE : Hid (Errs w) := he
  have HP : Hid (Pow w) := ht
  clear he ht
  go_enter Tryz.func120, Tryz.ntmps120
  go_wp2_with fail
  refine (PA.out _ (HP.out.below ((Below.refl _ w).alloc (Nat.le_refl _) _)) (HE.out.alloc h8 _) (by simp; omega)).mono ?_
  rintro e w1 ⟨rfl, hb1⟩
  have R1 : Hid (BlkV w1 w.heap.size 0 0 0 ⟨#[]⟩) := BlkV.below (by constructor <;> simp (maxDischargeDepth := 12) [go_sem]) hb1 (by simp)
  have B1 : Below w.heap.size w w1 := ((Below.refl _ w).alloc (Nat.le_refl _) _).trans (hb1.mono (by simp))
  have z1 : w.heap.size < w1.heap.size := by have := hb1.size; simp at this; omega
  clear hb1
  go_upto_region 8 with fail
  refine wp_world ?_
  intro W2 hW2
  have R2 : Hid (BlkV W2 w.heap.size 0 0 0 ⟨#[]⟩) := by rw [hW2]; exact R1.out.below ((Below.refl w1.heap.size w1).alloc (Nat.le_refl _) _) z1
  have V2 : Hid (BlkV W2 w1.heap.size k n d S) := by rw [hW2]; constructor <;> simp (maxDischargeDepth := 12) [go_sem]
  have B2 : Below w.heap.size w W2 := by rw [hW2]; exact B1.alloc B1.size _
  clear hW2 R1 B1 z1
  obtain ⟨r0, r1, r2, r3, r4, r5, r6, r7⟩ := R2.out
  obtain ⟨v0, v1, v2, v3, -, -, -, -⟩ := V2.out
  go_wp2
  generalize hW9 : World.setCell _ _ _ = W9
  have b9 : BlkV W9 w.heap.size k n d S := by rw [← hW9]; exact R2.out.four
  have hB9 : Below w.heap.size w W9 := by rw [← hW9]; exact (((B2.setCell (by simp) _).setCell (by simp) _).setCell (by simp) _).setCell (by simp) _
  clear hW9
  obtain ⟨x0, x1, x2, x3, -, -, -, -⟩ := b9
  refine bodyPost_ret (by simp [results, Tryz.results120, go_sem, x0, x1, x2, x3]; try rfl) rfl ?_
  exact ⟨rfl, hB9⟩

set_option maxRecDepth 100000 in
set_option maxHeartbeats 4000000 in
theorem said_7 (K : Int) (s S : ByteArray) (k n d E : Int) (ok : Bool) (w : World)
    (NU : Hid (∀ (t : ByteArray) (W : World), t.data.toList = s.data.toList.drop 1 → Pow W → Errs W → 9 ≤ W.heap.size → Calls Tryz.prog 150 #[.string t] W fun e w' => e = .returned (.tuple #[.agg #[.int .i64 k, .int .i64 n, .int .i64 d, .string S], .bool ok]) ∧ Below W.heap.size W w'))
    (ht : Pow w) (he : Errs w) (h8 : 9 ≤ w.heap.size) (hz : 1 ≤ s.size) :
    Calls Tryz.prog 120 #[.int .i64 7, .string s] w fun e w' => e = .returned (.tuple #[.agg #[.int .i64 k, .int .i64 n, .int .i64 d, .string S], .bool ok]) ∧ Below w.heap.size w w' := by
  have HE : Hid (Errs w) := he
  have HP : Hid (Pow w) := ht
  clear he ht
  go_enter Tryz.func120, Tryz.ntmps120
  have hz' : (1 : Int) ≤ s.size := by omega
  go_wp2_with fail
  refine (NU.out _ _ (ext_drop s 1 hz) (HP.out.below ((Below.refl _ w).alloc (Nat.le_refl _) _)) (HE.out.alloc h8 _) (by simp; omega)).mono ?_
  rintro e w1 ⟨rfl, hb1⟩
  have R1 : Hid (BlkV w1 w.heap.size 0 0 0 ⟨#[]⟩) := BlkV.below (by constructor <;> simp (maxDischargeDepth := 12) [go_sem]) hb1 (by simp)
  have B1 : Below w.heap.size w w1 := ((Below.refl _ w).alloc (Nat.le_refl _) _).trans (hb1.mono (by simp))
  have z1 : w.heap.size < w1.heap.size := by have := hb1.size; simp at this; omega
  clear hb1
  obtain ⟨r0, r1, r2, r3, r4, r5, r6, r7⟩ := R1.out
  go_wp2
  generalize hW9 : World.setCell _ _ _ = W9
  have b9 : BlkV W9 w.heap.size k n d S := by rw [← hW9]; exact R1.out.four
  have hB9 : Below w.heap.size w W9 := by rw [← hW9]; exact (((B1.setCell (by simp) _).setCell (by simp) _).setCell (by simp) _).setCell (by simp) _
  clear hW9
  obtain ⟨x0, x1, x2, x3, -, -, -, -⟩ := b9
  refine bodyPost_ret (by simp [results, Tryz.results120, go_sem, x0, x1, x2, x3]; try rfl) rfl ?_
  exact ⟨rfl, hB9⟩

set_option maxRecDepth 100000 in
set_option maxHeartbeats 4000000 in
theorem said_5 (K : Int) (s S : ByteArray) (k n d E : Int) (ok : Bool) (w : World)
    (IV : Hid (∀ (t : ByteArray) (W : World), t.data.toList = (s.data.toList.drop 1).take (s.size - 2) → Pow W → Errs W → 9 ≤ W.heap.size → Calls Tryz.prog 148 #[.string t] W fun e w' => e = .returned (.bool ok) ∧ Below W.heap.size W w'))
    (ht : Pow w) (he : Errs w) (h8 : 9 ≤ w.heap.size) (hz : 2 ≤ s.size) (hs : s.size ≤ 35184372088830) :
    Calls Tryz.prog 120 #[.int .i64 5, .string s] w fun e w' => e = .returned (.tuple #[.agg #[.int .i64 0, .int .i64 0, .int .i64 0, .string ⟨#[]⟩], .bool ok]) ∧ Below w.heap.size w w' := by
  have HE : Hid (Errs w) := he
  have HP : Hid (Pow w) := ht
  clear he ht
  go_enter Tryz.func120, Tryz.ntmps120
  obtain ⟨m, hm⟩ : ∃ m : Nat, s.size = m + 1 := ⟨s.size - 1, by omega⟩
  have hm1 : (1 : Int) ≤ m := by omega
  have hm2 : (m : Int) ≤ 35184372088829 := by omega
  have hm3 : (m : Int) ≤ (m : Int) + 1 := by omega
  go_wp2_with fail

  refine (IV.out _ _ (by rw [ext_mid]; congr 1; omega) (HP.out.below ((Below.refl _ w).alloc (Nat.le_refl _) _)) (HE.out.alloc h8 _) (by simp; omega)).mono ?_
  rintro e w1 ⟨rfl, hb1⟩
  have R1 : Hid (BlkV w1 w.heap.size 0 0 0 ⟨#[]⟩) := BlkV.below (by constructor <;> simp (maxDischargeDepth := 12) [go_sem]) hb1 (by simp)
  have B1 : Below w.heap.size w w1 := ((Below.refl _ w).alloc (Nat.le_refl _) _).trans (hb1.mono (by simp))
  have z1 : w.heap.size < w1.heap.size := by have := hb1.size; simp at this; omega
  clear hb1
  obtain ⟨r0, r1, r2, r3, r4, r5, r6, r7⟩ := R1.out
  go_wp2
  generalize hW9 : World.setCell _ _ _ = W9
  have b9 : BlkV W9 w.heap.size 0 0 0 ⟨#[]⟩ := by rw [← hW9]; exact R1.out.four
  have hB9 : Below w.heap.size w W9 := by rw [← hW9]; exact (((B1.setCell (by simp) _).setCell (by simp) _).setCell (by simp) _).setCell (by simp) _
  clear hW9
  obtain ⟨x0, x1, x2, x3, -, -, -, -⟩ := b9
  refine bodyPost_ret (by simp [results, Tryz.results120, go_sem, x0, x1, x2, x3]; try rfl) rfl ?_
  exact ⟨rfl, hB9⟩

/-- What a token of a kind says, and whether it may be. -/
def sdB (k : Nat) (l : List UInt8) : Val × Bool :=
  if k = 3 then (zeroV, decide (l.length ≤ 16)) else if k = 5 then (zeroV, ivB ((l.drop 1).take (l.length - 2))) else if k = 6 then ((prs l).1, decide ((prs l).2 = 0)) else if k = 7 then numB (l.drop 1) else (zeroV, true)
theorem said_any (K : Nat) (s : ByteArray) (w : World) (hs : s.size ≤ 35184372088830) (ht : Pow w) (he : Errs w) (h8 : 9 ≤ w.heap.size) (h5 : K = 5 → 2 ≤ s.size) (h7 : K = 7 → 1 ≤ s.size) :
    Calls Tryz.prog 120 #[.int .i64 K, .string s] w fun e w' => e = .returned (.tuple #[(sdB K s.data.toList).1.agg, .bool (sdB K s.data.toList).2]) ∧ Below w.heap.size w w' := by
  have hl : s.data.toList.length = s.size := by simp
  unfold sdB
  by_cases g3 : K = 3
  · subst g3
    rw [if_pos rfl, hl]
    have q := said_3 0 s s 0 0 0 0 true w ht he h8
    rw [show decide ((s.size : Int) ≤ 16) = decide (s.size ≤ 16) from decide_eq_decide.mpr (by omega)] at q
    exact q
  rw [if_neg g3]
  by_cases g5 : K = 5
  · subst g5
    rw [if_pos rfl, hl]
    have IV : ∀ (t : ByteArray) (W : World), t.data.toList = (s.data.toList.drop 1).take (s.size - 2) → Pow W → Errs W → 9 ≤ W.heap.size → Calls Tryz.prog 148 #[.string t] W fun e w' => e = .returned (.bool (ivB ((s.data.toList.drop 1).take (s.size - 2)))) ∧ Below W.heap.size W w' := by
      intro t W e1 q1 q2 q3
      have hlt : t.data.toList.length = t.size := by simp
      rw [e1] at hlt
      simp at hlt
      have q := iv_any t W (by omega) q1 q2 q3
      rw [e1] at q
      exact q
    exact said_5 0 s s 0 0 0 0 _ w IV ht he h8 (h5 rfl) hs
  rw [if_neg g5]
  by_cases g6 : K = 6
  · subst g6
    rw [if_pos rfl]
    exact said_6 0 s _ _ _ _ _ true w (fun W q1 q2 q3 => parse_any s W hs q1 q2 q3) ht he h8
  rw [if_neg g6]
  by_cases g7 : K = 7
  · subst g7
    rw [if_pos rfl]
    have NU : ∀ (t : ByteArray) (W : World), t.data.toList = s.data.toList.drop 1 → Pow W → Errs W → 9 ≤ W.heap.size → Calls Tryz.prog 150 #[.string t] W fun e w' => e = .returned (.tuple #[.agg #[.int .i64 (numB (s.data.toList.drop 1)).1.k, .int .i64 (numB (s.data.toList.drop 1)).1.n, .int .i64 (numB (s.data.toList.drop 1)).1.d, .string (numB (s.data.toList.drop 1)).1.s], .bool (numB (s.data.toList.drop 1)).2]) ∧ Below W.heap.size W w' := by
      intro t W e1 q1 q2 q3
      have hlt : t.data.toList.length = t.size := by simp
      rw [e1] at hlt
      simp at hlt
      have q := lnumber_any t W (by omega) q1 q2 q3
      rw [e1] at q
      exact q
    exact said_7 0 s _ _ _ _ 0 _ w NU ht he h8 (h7 rfl)
  rw [if_neg g7]
  exact said_0 K s s 0 0 0 0 true w ht he h8 (by omega) (by omega) (by omega) (by omega)
end Go.Proofs.YticmebamclacaaaGreatDoor
