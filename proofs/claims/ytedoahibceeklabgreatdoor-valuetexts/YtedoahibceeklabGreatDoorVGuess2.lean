/- What a text is taken for: guess at every text. -/
import Derived.Test.YtedoahibceeklabGreatDoorVGuess
namespace Go.Proofs.YtedoahibceeklabGreatDoor
open Go.RowKit Go.Shelf
set_option linter.unusedVariables false

theorem trim_len (l : List UInt8) : (Lib.trimSuffix l [34]).length ≤ l.length := by unfold Lib.trimSuffix; split <;> simp
theorem unquote_any (t : ByteArray) (w : World) (hs : t.size ≤ 140737488355000) (he : Errs w) (h8 : 8 ≤ w.heap.size) :
    Calls Tryz.prog 45 #[.string t] w fun e w' => e = .returned (.tuple #[.string (outS (unqS t.data.toList)), .bool (outB (unqS t.data.toList))]) ∧ Below w.heap.size w w' := by
  cases h : Lib.hasSuffix t.data.toList [34]
  · have e0 : unqS t.data.toList = none := by simp [unqS, h]
    rw [e0]
    exact unquote_no t w (by omega) h
  · have e0 : unqS t.data.toList = unq (Lib.trimSuffix t.data.toList [34]) := by simp [unqS, h]
    rw [e0]
    have hl := trim_len t.data.toList
    have hl2 : t.data.toList.length = t.size := by simp
    have q := unquote_yes t _ w (by omega) h rfl (by show (Lib.trimSuffix t.data.toList [34]).toArray.size ≤ _; simp; omega) he h8
    exact q

theorem pi_yes (s : ByteArray) (w : World) (hs : s.size ≤ 140737488355328) (h : (pint s.data.toList).2 = true) :
    Calls Tryz.prog 47 #[.string s, .int .i64 10, .int .i64 64] w fun e w' => e = .returned (.tuple #[.int .i64 (pint s.data.toList).1, .nilIface]) ∧ Below w.heap.size w w' := by
  cases hp : Lib.parseIntB 64 s.data.toList with
  | ok v =>
    have e0 : pint s.data.toList = (v, true) := by simp [pint, hp]
    rw [e0]
    refine (Tryz.strconv_ParseInt_10_at64_ok s (by omega) v hp w).mono ?_
    rintro e w' ⟨rfl, hw⟩
    refine ⟨rfl, ?_⟩
    rcases hw with rfl | ⟨t, rfl⟩
    · exact Below.refl _ _
    · exact Lib.bytesWorld_below w 5 t
  | «syntax» => simp [pint, hp] at h
  | range => simp [pint, hp] at h
theorem pi_no (s : ByteArray) (w : World) (hs : s.size ≤ 140737488355328) (h : (pint s.data.toList).2 = false) (he : Errs w) :
    Calls Tryz.prog 47 #[.string s, .int .i64 10, .int .i64 64] w fun e w' => ∃ N, e = .returned (.tuple #[.int .i64 (pint s.data.toList).1, .iface 116 (.pointer (some ⟨N, 0, none⟩))]) ∧ Below w.heap.size w w' := by
  obtain ⟨⟨e1, c1, d1⟩, ⟨e2, c2, d2⟩⟩ := he
  cases hp : Lib.parseIntB 64 s.data.toList with
  | ok v => simp [pint, hp] at h
  | «syntax» =>
    have e0 : pint s.data.toList = (0, false) := by simp [pint, hp]
    rw [e0]
    refine (Tryz.strconv_ParseInt_10_at64_syntax s (by omega) hp e1 w c1 d1).mono ?_
    rintro e w' ⟨N, rfl, -, -, hb⟩
    exact ⟨N, rfl, hb⟩
  | range =>
    have e0 : pint s.data.toList = (Lib.intSat 64 s.data.toList, false) := by simp [pint, hp]
    rw [e0]
    refine (Tryz.strconv_ParseInt_10_at64_range s (by omega) hp e2 w c2 d2).mono ?_
    rintro e w' ⟨N, rfl, -, -, hb⟩
    exact ⟨N, rfl, hb⟩

/-- What a text is taken for, and whether it may be. -/
def gss (l : List UInt8) : Val × Bool :=
  if Lib.hasPrefix l [34] then (⟨3, 0, 0, outS (unqS (l.drop 1))⟩, outB (unqS (l.drop 1)))
  else if (cutL l).2.2 = false then (⟨1, (pint l).1, 0, ⟨#[]⟩⟩, (pint l).2)
  else if (pint (cutL l).1).2 = false then (⟨1, (pint (cutL l).1).1, 0, ⟨#[]⟩⟩, false)
  else (⟨2, (pint (cutL l).1).1, (pint (cutL l).2.1).1, ⟨#[]⟩⟩, (pint (cutL l).2.1).2)

theorem Errs.alloc {w : World} (h : Errs w) (hs : 8 ≤ w.heap.size) (o : Obj) : Errs (w.alloc o) := h.below ((Below.refl _ w).alloc (Nat.le_refl _) o) hs

set_option maxRecDepth 100000 in
set_option maxHeartbeats 4000000 in
theorem guess_str (s : ByteArray) (w : World) (hs : s.size ≤ 140737488355000) (hp : Lib.hasPrefix s.data.toList [34] = true) (he : Errs w) (h8 : 8 ≤ w.heap.size) :
    Calls Tryz.prog 30 #[.string s] w fun e w' => e = .returned (.tuple #[.agg #[.int .i64 3, .int .i64 0, .int .i64 0, .string (outS (unqS (s.data.toList.drop 1)))], .bool (outB (unqS (s.data.toList.drop 1)))]) ∧ Below w.heap.size w w' := by
  obtain ⟨T, eT⟩ : ∃ T : ByteArray, Hid (outS (unqS (s.data.toList.drop 1)) = T) := ⟨_, rfl⟩
  obtain ⟨C, eC⟩ : ∃ C : Bool, Hid (outB (unqS (s.data.toList.drop 1)) = C) := ⟨_, rfl⟩
  have h1 : 1 ≤ s.size := by
    have : s.data.toList ≠ [] := by intro e; rw [e] at hp; simp [Lib.hasPrefix] at hp
    have h2 := List.length_pos_iff.2 this
    simp at h2
    exact h2
  have HP : Hid (∀ W : World, Calls Tryz.prog 44 #[.string s, .string ⟨#[34]⟩] W fun e w' => e = .returned (.bool true) ∧ w' = W) := fun W => by
    have q := Tryz.strings_HasPrefix s ⟨#[34]⟩ W
    rw [show (⟨#[34]⟩ : ByteArray).data.toList = [34] from rfl, hp] at q
    exact q
  have UQ : Hid (∀ W : World, Errs W → 8 ≤ W.heap.size → Calls Tryz.prog 45 #[.string (s.extract 1 s.size)] W fun e w' => e = .returned (.tuple #[.string T, .bool C]) ∧ Below W.heap.size W w') := fun W g1 g2 => by
    have q := unquote_any (s.extract 1 s.size) W (by simp; omega) g1 g2
    rw [ext_from, eT.out, eC.out] at q
    exact q
  rw [eT.out, eC.out]
  clear eT eC hp
  have h1' : (1 : Int) ≤ s.size := by omega
  have HE : Hid (Errs w) := he
  clear he
  go_enter Tryz.func30, Tryz.ntmps30
  go_wp2_with fail
  refine (HP.out _).mono ?_
  rintro e w0 ⟨rfl, rfl⟩
  go_wp2_with fail
  refine (UQ.out _ (HE.out.alloc h8 _) (by simp; omega)).mono ?_
  rintro e w1 ⟨rfl, hb⟩
  have bRR : Hid (BlkV w1 w.heap.size 0 0 0 ⟨#[]⟩) := BlkV.below (by constructor <;> simp (maxDischargeDepth := 12) [go_sem]) hb (by simp)
  obtain ⟨hc, hf, hz, hB⟩ := bf (w := w) (by go_grown) hb
  clear hc hf hb
  obtain ⟨r0, r1, r2, r3, r4, r5, r6, r7⟩ := bRR.out
  go_wp2
  generalize hW9 : World.setCell _ _ _ = W9
  have b9 : BlkV W9 w.heap.size 3 0 0 T := by rw [← hW9]; exact bRR.out.four
  have hB9 : Below w.heap.size w W9 := by rw [← hW9]; exact (((hB.setCell (by simp) _).setCell (by simp) _).setCell (by simp) _).setCell (by simp) _
  clear hW9
  obtain ⟨x0, x1, x2, x3, -, -, -, -⟩ := b9
  refine bodyPost_ret (by simp [results, Tryz.results30, go_sem, x0, x1, x2, x3]; try rfl) rfl ?_
  exact ⟨rfl, hB9⟩

set_option maxRecDepth 100000 in
set_option maxHeartbeats 4000000 in
theorem guess_int (s u D : ByteArray) (n : Int) (ok br : Bool) (w : World) (hp : Lib.hasPrefix s.data.toList [34] = false)
    (CU : Hid (∀ W : World, Calls Tryz.prog 46 #[.string s, .string ⟨#[47]⟩] W fun e w' => e = .returned (.tuple #[.string u, .string D, .bool br]) ∧ ∃ k, w' = W.drewN k))
    (PI : Hid (∀ W : World, Errs W → Calls Tryz.prog 47 #[.string u, .int .i64 10, .int .i64 64] W fun e w' => (∃ N, e = .returned (.tuple #[.int .i64 n, if ok = true then .nilIface else .iface 116 (.pointer (some ⟨N, 0, none⟩))])) ∧ Below W.heap.size W w'))
    (hb : br = false ∨ ok = false) (he : Errs w) (h8 : 8 ≤ w.heap.size) :
    Calls Tryz.prog 30 #[.string s] w fun e w' => e = .returned (.tuple #[.agg #[.int .i64 1, .int .i64 n, .int .i64 0, .string ⟨#[]⟩], .bool ok]) ∧ Below w.heap.size w w' := by
  have HP : Hid (∀ W : World, Calls Tryz.prog 44 #[.string s, .string ⟨#[34]⟩] W fun e w' => e = .returned (.bool false) ∧ w' = W) := fun W => by
    have q := Tryz.strings_HasPrefix s ⟨#[34]⟩ W
    rw [show (⟨#[34]⟩ : ByteArray).data.toList = [34] from rfl, hp] at q
    exact q
  clear hp
  have HE : Hid (Errs w) := he
  clear he
  cases ok
  · skip
    go_enter Tryz.func30, Tryz.ntmps30
    go_wp2_with fail
    refine (HP.out _).mono ?_
    rintro e w0 ⟨rfl, rfl⟩
    go_wp2_with fail
    refine (CU.out _).mono ?_
    rintro e w0 ⟨rfl, k, rfl⟩
    go_wp2_with fail
    refine (PI.out _ (HE.out.below (bdrewN k ((Below.refl _ w).alloc (Nat.le_refl _) _)) h8)).mono ?_
    rintro e w1 ⟨⟨N, rfl⟩, hb1⟩
    simp only [Bool.false_eq_true, if_false]
    have bRR : Hid (BlkV w1 w.heap.size 0 0 0 ⟨#[]⟩) := BlkV.below (by constructor <;> simp (maxDischargeDepth := 12) [go_sem]) hb1 (by simp)
    have hB : Below w.heap.size w w1 := Below.trans (bdrewN k ((Below.refl _ w).alloc (Nat.le_refl _) _)) (hb1.mono (by simp))
    clear hb1
    obtain ⟨r0, r1, r2, r3, r4, r5, r6, r7⟩ := bRR.out
    go_wp2
    go_region
    all_goals
      go_wp2
      generalize hW9 : World.setCell _ _ _ = W9
      have b9 : BlkV W9 w.heap.size 1 n 0 ⟨#[]⟩ := by rw [← hW9]; exact bRR.out.four
      have hB9 : Below w.heap.size w W9 := by rw [← hW9]; exact (((hB.setCell (by simp) _).setCell (by simp) _).setCell (by simp) _).setCell (by simp) _
      clear hW9
      obtain ⟨x0, x1, x2, x3, -, -, -, -⟩ := b9
      refine bodyPost_ret (by simp [results, Tryz.results30, go_sem, x0, x1, x2, x3]; try rfl) rfl ?_
      exact ⟨rfl, hB9.drew⟩
  · obtain rfl : br = false := by rcases hb with h | h; exact h; cases h
    go_enter Tryz.func30, Tryz.ntmps30
    go_wp2_with fail
    refine (HP.out _).mono ?_
    rintro e w0 ⟨rfl, rfl⟩
    go_wp2_with fail
    refine (CU.out _).mono ?_
    rintro e w0 ⟨rfl, k, rfl⟩
    go_wp2_with fail
    refine (PI.out _ (HE.out.below (bdrewN k ((Below.refl _ w).alloc (Nat.le_refl _) _)) h8)).mono ?_
    rintro e w1 ⟨⟨N, rfl⟩, hb1⟩
    simp only [if_true]
    have bRR : Hid (BlkV w1 w.heap.size 0 0 0 ⟨#[]⟩) := BlkV.below (by constructor <;> simp (maxDischargeDepth := 12) [go_sem]) hb1 (by simp)
    have hB : Below w.heap.size w w1 := Below.trans (bdrewN k ((Below.refl _ w).alloc (Nat.le_refl _) _)) (hb1.mono (by simp))
    clear hb1
    obtain ⟨r0, r1, r2, r3, r4, r5, r6, r7⟩ := bRR.out
    go_wp2
    go_region
    all_goals
      go_wp2
      generalize hW9 : World.setCell _ _ _ = W9
      have b9 : BlkV W9 w.heap.size 1 n 0 ⟨#[]⟩ := by rw [← hW9]; exact bRR.out.four
      have hB9 : Below w.heap.size w W9 := by rw [← hW9]; exact (((hB.setCell (by simp) _).setCell (by simp) _).setCell (by simp) _).setCell (by simp) _
      clear hW9
      obtain ⟨x0, x1, x2, x3, -, -, -, -⟩ := b9
      refine bodyPost_ret (by simp [results, Tryz.results30, go_sem, x0, x1, x2, x3]; try rfl) rfl ?_
      exact ⟨rfl, hB9.drew⟩

set_option maxRecDepth 100000 in
set_option maxHeartbeats 4000000 in
theorem guess_rat (s u D : ByteArray) (n d : Int) (ok : Bool) (w : World) (hp : Lib.hasPrefix s.data.toList [34] = false)
    (CU : Hid (∀ W : World, Calls Tryz.prog 46 #[.string s, .string ⟨#[47]⟩] W fun e w' => e = .returned (.tuple #[.string u, .string D, .bool true]) ∧ ∃ k, w' = W.drewN k))
    (PI : Hid (∀ W : World, Calls Tryz.prog 47 #[.string u, .int .i64 10, .int .i64 64] W fun e w' => e = .returned (.tuple #[.int .i64 n, .nilIface]) ∧ Below W.heap.size W w'))
    (PD : Hid (∀ W : World, Errs W → Calls Tryz.prog 47 #[.string D, .int .i64 10, .int .i64 64] W fun e w' => (∃ N, e = .returned (.tuple #[.int .i64 d, if ok = true then .nilIface else .iface 116 (.pointer (some ⟨N, 0, none⟩))])) ∧ Below W.heap.size W w'))
    (he : Errs w) (h8 : 8 ≤ w.heap.size) :
    Calls Tryz.prog 30 #[.string s] w fun e w' => e = .returned (.tuple #[.agg #[.int .i64 2, .int .i64 n, .int .i64 d, .string ⟨#[]⟩], .bool ok]) ∧ Below w.heap.size w w' := by
  have HP : Hid (∀ W : World, Calls Tryz.prog 44 #[.string s, .string ⟨#[34]⟩] W fun e w' => e = .returned (.bool false) ∧ w' = W) := fun W => by
    have q := Tryz.strings_HasPrefix s ⟨#[34]⟩ W
    rw [show (⟨#[34]⟩ : ByteArray).data.toList = [34] from rfl, hp] at q
    exact q
  clear hp
  have HE : Hid (Errs w) := he
  clear he
  cases ok
  · go_enter Tryz.func30, Tryz.ntmps30
    go_wp2_with fail
    refine (HP.out _).mono ?_
    rintro e w0 ⟨rfl, rfl⟩
    go_wp2_with fail
    refine (CU.out _).mono ?_
    rintro e w0 ⟨rfl, k, rfl⟩
    go_wp2_with fail
    refine (PI.out _).mono ?_
    rintro e w2 ⟨rfl, hb2⟩
    have b2 : Hid (BlkV w2 w.heap.size 0 0 0 ⟨#[]⟩) := BlkV.below (by constructor <;> simp (maxDischargeDepth := 12) [go_sem]) hb2 (by simp)
    have B2 : Below w.heap.size w w2 := Below.trans (bdrewN k ((Below.refl _ w).alloc (Nat.le_refl _) _)) (hb2.mono (by simp))
    have y2 : w.heap.size < w2.heap.size := by have zz := hb2.size; simp at zz; omega
    clear hb2
    go_wp2_with fail
    refine (PD.out _ (HE.out.below B2 h8)).mono ?_
    rintro e w1 ⟨⟨N, rfl⟩, hb1⟩
    simp only [Bool.false_eq_true, if_false]
    have bRR : Hid (BlkV w1 w.heap.size 0 0 0 ⟨#[]⟩) := b2.out.below hb1 y2
    have hB : Below w.heap.size w w1 := B2.trans (hb1.mono B2.size)
    clear hb1 b2
    obtain ⟨r0, r1, r2, r3, r4, r5, r6, r7⟩ := bRR.out
    go_wp2
    go_region
    all_goals
      go_wp2
      generalize hW9 : World.setCell _ _ _ = W9
      have b9 : BlkV W9 w.heap.size 2 n d ⟨#[]⟩ := by rw [← hW9]; exact bRR.out.four
      have hB9 : Below w.heap.size w W9 := by rw [← hW9]; exact (((hB.setCell (by simp) _).setCell (by simp) _).setCell (by simp) _).setCell (by simp) _
      clear hW9
      obtain ⟨x0, x1, x2, x3, -, -, -, -⟩ := b9
      refine bodyPost_ret (by simp [results, Tryz.results30, go_sem, x0, x1, x2, x3]; try rfl) rfl ?_
      exact ⟨rfl, hB9.drew⟩
  · go_enter Tryz.func30, Tryz.ntmps30
    go_wp2_with fail
    refine (HP.out _).mono ?_
    rintro e w0 ⟨rfl, rfl⟩
    go_wp2_with fail
    refine (CU.out _).mono ?_
    rintro e w0 ⟨rfl, k, rfl⟩
    go_wp2_with fail
    refine (PI.out _).mono ?_
    rintro e w2 ⟨rfl, hb2⟩
    have b2 : Hid (BlkV w2 w.heap.size 0 0 0 ⟨#[]⟩) := BlkV.below (by constructor <;> simp (maxDischargeDepth := 12) [go_sem]) hb2 (by simp)
    have B2 : Below w.heap.size w w2 := Below.trans (bdrewN k ((Below.refl _ w).alloc (Nat.le_refl _) _)) (hb2.mono (by simp))
    have y2 : w.heap.size < w2.heap.size := by have zz := hb2.size; simp at zz; omega
    clear hb2
    go_wp2_with fail
    refine (PD.out _ (HE.out.below B2 h8)).mono ?_
    rintro e w1 ⟨⟨N, rfl⟩, hb1⟩
    simp only [if_true]
    have bRR : Hid (BlkV w1 w.heap.size 0 0 0 ⟨#[]⟩) := b2.out.below hb1 y2
    have hB : Below w.heap.size w w1 := B2.trans (hb1.mono B2.size)
    clear hb1 b2
    obtain ⟨r0, r1, r2, r3, r4, r5, r6, r7⟩ := bRR.out
    go_wp2
    go_region
    all_goals
      go_wp2
      generalize hW9 : World.setCell _ _ _ = W9
      have b9 : BlkV W9 w.heap.size 2 n d ⟨#[]⟩ := by rw [← hW9]; exact bRR.out.four
      have hB9 : Below w.heap.size w W9 := by rw [← hW9]; exact (((hB.setCell (by simp) _).setCell (by simp) _).setCell (by simp) _).setCell (by simp) _
      clear hW9
      obtain ⟨x0, x1, x2, x3, -, -, -, -⟩ := b9
      refine bodyPost_ret (by simp [results, Tryz.results30, go_sem, x0, x1, x2, x3]; try rfl) rfl ?_
      exact ⟨rfl, hB9.drew⟩

theorem guess_any (s : ByteArray) (w : World) (hs : s.size ≤ 140737488355000) (he : Errs w) (h8 : 8 ≤ w.heap.size) :
    Calls Tryz.prog 30 #[.string s] w fun e w' => e = .returned (.tuple #[.agg #[.int .i64 (gss s.data.toList).1.k, .int .i64 (gss s.data.toList).1.n, .int .i64 (gss s.data.toList).1.d, .string (gss s.data.toList).1.s], .bool (gss s.data.toList).2]) ∧ Below w.heap.size w w' := by
  cases hp : Lib.hasPrefix s.data.toList [34]
  · have pw : ∀ (u : ByteArray), u.size ≤ 140737488355328 → Hid (∀ W : World, Errs W → Calls Tryz.prog 47 #[.string u, .int .i64 10, .int .i64 64] W fun e w' => (∃ N, e = .returned (.tuple #[.int .i64 (pint u.data.toList).1, if (pint u.data.toList).2 = true then .nilIface else .iface 116 (.pointer (some ⟨N, 0, none⟩))])) ∧ Below W.heap.size W w') := fun u hu W hW => by
      cases hk : (pint u.data.toList).2
      · refine (pi_no u W hu hk hW).mono ?_
        rintro e w' ⟨N, rfl, hb⟩
        exact ⟨⟨N, by simp⟩, hb⟩
      · refine (pi_yes u W hu hk).mono ?_
        rintro e w' ⟨rfl, hb⟩
        exact ⟨⟨0, by simp⟩, hb⟩
    cases hc : (cutL s.data.toList).2.2
    · have e0 : gss s.data.toList = (⟨1, (pint s.data.toList).1, 0, ⟨#[]⟩⟩, (pint s.data.toList).2) := by simp [gss, hp, hc]
      rw [e0]
      exact guess_int s s ⟨#[]⟩ _ _ false w hp (fun W => cut_no s W hc) (pw s (by omega)) (Or.inl rfl) he h8
    · have hl := cutL_yes _ hc
      have hsz : s.data.toList.length = s.size := by simp
      have l1 : (cutL s.data.toList).1.length ≤ s.size := by have := congrArg List.length hl.1; simp only [List.length_append, List.length_cons] at this; omega
      have l2 : (cutL s.data.toList).2.1.length ≤ s.size := by have := congrArg List.length hl.1; simp only [List.length_append, List.length_cons] at this; omega
      have q1 := pw ⟨(cutL s.data.toList).1.toArray⟩ (by show (cutL s.data.toList).1.toArray.size ≤ _; simp; omega)
      have q2 := pw ⟨(cutL s.data.toList).2.1.toArray⟩ (by show (cutL s.data.toList).2.1.toArray.size ≤ _; simp; omega)
      cases hk : (pint (cutL s.data.toList).1).2
      · have e0 : gss s.data.toList = (⟨1, (pint (cutL s.data.toList).1).1, 0, ⟨#[]⟩⟩, false) := by simp [gss, hp, hc, hk]
        rw [e0]
        rw [show (⟨(cutL s.data.toList).1.toArray⟩ : ByteArray).data.toList = (cutL s.data.toList).1 from rfl, hk] at q1
        exact guess_int s _ _ _ false true w hp (fun W => cut_yes s W hc (by omega)) q1 (Or.inr rfl) he h8
      · have e0 : gss s.data.toList = (⟨2, (pint (cutL s.data.toList).1).1, (pint (cutL s.data.toList).2.1).1, ⟨#[]⟩⟩, (pint (cutL s.data.toList).2.1).2) := by simp [gss, hp, hc, hk]
        rw [e0]
        refine guess_rat s ⟨(cutL s.data.toList).1.toArray⟩ ⟨(cutL s.data.toList).2.1.toArray⟩ _ _ _ w hp (fun W => cut_yes s W hc (by omega)) (fun W => ?_) q2 he h8
        exact pi_yes ⟨(cutL s.data.toList).1.toArray⟩ W (by show (cutL s.data.toList).1.toArray.size ≤ _; simp; omega) hk
  · have e0 : gss s.data.toList = (⟨3, 0, 0, outS (unqS (s.data.toList.drop 1))⟩, outB (unqS (s.data.toList.drop 1))) := by simp [gss, hp]
    rw [e0]
    exact guess_str s w hs hp he h8

end Go.Proofs.YtedoahibceeklabGreatDoor
