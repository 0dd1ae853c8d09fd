/- What stands behind the words let and letpast. -/
import Derived.Test.YticnfeolbfmgfaaGreatDoorZ08

namespace Go.Proofs.YticnfeolbfmgfaaGreatDoor
open Go.RowKit LX Go.Shelf
set_option linter.unusedVariables false

set_option maxRecDepth 100000 in
set_option maxHeartbeats 8000000 in
theorem shaped_t1 (m R sz N : Nat) (ts : List (Tok Val)) (d k : Int) (hd : ByteArray) (w : World) (h : RdAt m w R sz ts) (n : Nat) (pt : List (Tok Val) → Rd Tm) (pf : List (Tok Val) → Rd Fm) (pr : List (Tok Val) → Rd Rx) (hst : Shr pt) (hsr : Shr pr) (hN : ts.length ≤ N) (hk1 : 3 ≤ k) (hk2 : k ≤ 22) (hk : shp k = ⟨false, false, false, true, 0, 0, 1, false⟩) (hhd : (⟨(if k = 3 then [] else hdF k).toArray⟩ : ByteArray) = hd)
    (HT : ∀ (kk : Nat) (rr : List (Tok Val)) (W : World), rr.length ≤ N → RdAt m W R sz rr → Calls Tryz.prog 120 #[.pointer (some ⟨R, 0, none⟩), .int .i64 ((kk : Nat) : Int), .bool false, .int .i64 d] W (RdO m R sz W (fun l v w' => TmsOwn (fun q => W.heap.size ≤ q) w' v l) (rMany pt false n kk rr)))
    (HR : ∀ (kk : Nat) (rr : List (Tok Val)) (W : World), rr.length ≤ N → RdAt m W R sz rr → Calls Tryz.prog 158 #[.pointer (some ⟨R, 0, none⟩), .int .i64 ((kk : Nat) : Int), .int .i64 d] W (RdO m R sz W (fun l v w' => RxsOwn (fun q => W.heap.size ≤ q) w' v l) (rMany pr false n kk rr)))
    (HF : ∀ (kk : Nat) (more : Bool) (rr : List (Tok Val)) (W : World), rr.length ≤ N → RdAt m W R sz rr → Calls Tryz.prog 159 #[.pointer (some ⟨R, 0, none⟩), .int .i64 ((kk : Nat) : Int), .bool more, .int .i64 d] W (RdO m R sz W (fun l v w' => FmsOwn (fun q => W.heap.size ≤ q) w' v l) (rMany pf more n kk rr))) :
    Calls Tryz.prog 121 #[.pointer (some ⟨R, 0, none⟩), .int .i64 k, .int .i64 d] w (RdO m R sz w (FmV w) (pShaped sz n pt pf pr k ts)) := by
  have hlt := h.lt
  obtain ⟨RS, hRS⟩ : ∃ x : Rd Fm, Hid (pShaped sz n pt pf pr k ts = x) := ⟨_, rfl⟩
  rw [hRS.out]
  have hEQ : Hid (RS = (rIv sz ts).bind fun iv r5 => (rMany pt false n 0 r5).bind fun tms r6 => (rMany pr false n 0 r6).bind fun rx r7 => (rMany pf false n 1 r7).bind fun fs r8 => .ok (.mk k ⟨#[]⟩ 0 [] tms iv.1 iv.2.1 iv.2.2 fs rx) r8) := by
    show _ = _
    rw [← hRS.out]
    unfold pShaped
    rw [hk]
    rfl
  have cS : Hid (∀ W : World, Calls Tryz.prog 35 #[.int .i64 k] W fun e w' => e = .returned (.agg #[.string hd, .bool false, .bool false, .bool false, .bool true, .int .i64 ((0 : Nat) : Int), .int .i64 ((0 : Nat) : Int), .int .i64 ((1 : Nat) : Int), .bool false]) ∧ Below W.heap.size W w') := fun W => by
    have q := shape_any k W hk1 hk2
    rw [hk] at q
    rw [← hhd]
    exact q
  have CT : Hid (∀ (rr : List (Tok Val)) (W : World), rr.length ≤ N → RdAt m W R sz rr → Calls Tryz.prog 120 #[.pointer (some ⟨R, 0, none⟩), .int .i64 ((0 : Nat) : Int), .bool false, .int .i64 d] W (RdO m R sz W (fun l v w' => TmsOwn (fun q => W.heap.size ≤ q) w' v l) (rMany pt false n 0 rr))) := fun rr W hl hW => HT 0 rr W hl hW
  have CR : Hid (∀ (rr : List (Tok Val)) (W : World), rr.length ≤ N → RdAt m W R sz rr → Calls Tryz.prog 158 #[.pointer (some ⟨R, 0, none⟩), .int .i64 ((0 : Nat) : Int), .int .i64 d] W (RdO m R sz W (fun l v w' => RxsOwn (fun q => W.heap.size ≤ q) w' v l) (rMany pr false n 0 rr))) := fun rr W hl hW => HR 0 rr W hl hW
  have CF : Hid (∀ (rr : List (Tok Val)) (W : World), rr.length ≤ N → RdAt m W R sz rr → Calls Tryz.prog 159 #[.pointer (some ⟨R, 0, none⟩), .int .i64 ((1 : Nat) : Int), .bool false, .int .i64 d] W (RdO m R sz W (fun l v w' => FmsOwn (fun q => W.heap.size ≤ q) w' v l) (rMany pf false n 1 rr))) := fun rr W hl hW => HF 1 false rr W hl hW
  have CI : Hid (∀ (rr : List (Tok Val)) (W : World), RdAt m W R sz rr → Calls Tryz.prog 157 #[.pointer (some ⟨R, 0, none⟩)] W (RdO m R sz W (fun iv v _ => v = .agg #[.int .i64 iv.1, .int .i64 iv.2.1, .bool iv.2.2]) (rIv sz rr))) := fun rr W hW => rival_any m R sz rr W hW
  have STm : Hid (∀ kk ts a r, rMany pt false n kk ts = .ok a r → r.length ≤ ts.length) := fun kk ts a r e => sh_many (fun ts a r e => by have := hst ts a r e; omega) false n kk ts a r e
  have SRm : Hid (∀ kk ts a r, rMany pr false n kk ts = .ok a r → r.length ≤ ts.length) := fun kk ts a r e => sh_many (fun ts a r e => by have := hsr ts a r e; omega) false n kk ts a r e
  clear hRS HT HR HF hst hsr hk hhd
  go_enter Tryz.func121, Tryz.ntmps121
  go_wp2_with fail
  refine (cS.out _).mono ?_
  rintro e w1 ⟨rfl, hb1⟩
  have z1 : w.heap.size < w1.heap.size := by have := hb1.size; simp at this; omega
  have X1 : Hid (w1.heap[w.heap.size]? = some (.cells #[.int .i64 0, .string ⟨#[]⟩, .int .i64 0, .slice none 0 0, .slice none 0 0, .int .i64 0, .int .i64 0, .bool false, .slice none 0 0, .slice none 0 0] 29 (0, 0))) := (hb1.block w.heap.size (by simp)).trans (new_box w _)
  have F1 : Hid (Fr (fun k => k = R) w w1) := Fr.of_below (((Below.refl _ _).alloc (Nat.le_refl _) _).trans (hb1.mono (by simp)))
  have A1 : Hid (RdAt m w1 R sz ts) := h.below (((Below.refl _ _).alloc (Nat.le_refl _) _).trans (hb1.mono (by simp)))
  clear hb1 cS h
  go_upto_region 2 with fail
  refine wp_world ?_
  intro W2 hW2
  have S2 : Hid (W2.heap[w1.heap.size]? = some (.cells #[.string hd, .bool false, .bool false, .bool false, .bool true, .int .i64 ((0 : Nat) : Int), .int .i64 ((0 : Nat) : Int), .int .i64 ((1 : Nat) : Int), .bool false] 82 (0, 0))) := by rw [hW2]; exact (Below.heap_alloc _ _ _ (by simp)).trans (new_box w1 _)
  have B2 : Hid (W2.heap[w1.heap.size + 1]? = some (.cells #[.int .i64 k, .string ⟨#[]⟩, .int .i64 0, .slice none 0 0, .slice none 0 0, .int .i64 0, .int .i64 0, .bool false, .slice none 0 0, .slice none 0 0] 29 (0, 0))) := by
    rw [hW2]
    have q := new_box (w1.alloc (.cells #[.string hd, .bool false, .bool false, .bool false, .bool true, .int .i64 ((0 : Nat) : Int), .int .i64 ((0 : Nat) : Int), .int .i64 ((1 : Nat) : Int), .bool false] 82)) (.cells #[.int .i64 k, .string ⟨#[]⟩, .int .i64 0, .slice none 0 0, .slice none 0 0, .int .i64 0, .int .i64 0, .bool false, .slice none 0 0, .slice none 0 0] 29)
    simp only [World.size_alloc] at q
    exact q
  have X2 : Hid (W2.heap[w.heap.size]? = some (.cells #[.int .i64 0, .string ⟨#[]⟩, .int .i64 0, .slice none 0 0, .slice none 0 0, .int .i64 0, .int .i64 0, .bool false, .slice none 0 0, .slice none 0 0] 29 (0, 0))) := by rw [hW2]; exact (((Fr.refl (fun k => k = R) w1).alloc _).alloc _).heap X1.out (fun e => by omega)
  have F2 : Hid (Fr (fun k => k = R) w W2) := by rw [hW2]; exact (F1.out.alloc _).alloc _
  have A2 : Hid (RdAt m W2 R sz ts) := by rw [hW2]; exact A1.out.below (((Below.refl w1.heap.size w1).alloc (Nat.le_refl _) _).alloc (by simp) _)
  have zz : w1.heap.size + 2 = W2.heap.size := by rw [hW2]; simp
  clear hW2 F1 A1 X1
  generalize w1.heap.size = n7 at *
  have ZN : Hid (n7 + 2 = W2.heap.size) := zz
  obtain ⟨N2, hN2⟩ : ∃ x, Hid (W2.heap.size = x) := ⟨_, rfl⟩
  have zz2 : n7 + 2 = N2 := by rw [← hN2.out]; exact ZN.out
  have y2 : N2 ≤ W2.heap.size := Nat.le_of_eq hN2.out.symm
  clear zz ZN hN2
  obtain ⟨s0, s1, s2, s3, s4, s5, s6, s7, s8⟩ := bx9 S2.out
  have K3 : Hid (Calls Tryz.prog 157 #[.pointer (some ⟨R, 0, none⟩)] W2 (RdO m R sz W2 (fun iv v _ => v = .agg #[.int .i64 iv.1, .int .i64 iv.2.1, .bool iv.2.2]) (rIv sz ts))) := CI.out ts W2 A2.out
  cases hP3 : rIv sz ts with
  | bad er a =>
    rw [hP3] at K3 hEQ
    go_wp2_with fail
    refine K3.out.mono ?_
    rintro e w9 ⟨rfl, hF9⟩
    refine ⟨rfl, ?_⟩
    rw [hEQ.out]
    exact ⟨rfl, F2.out.trans hF9 (fun k e => Or.inl e)⟩
  | ok x3 r5 =>
    rw [hP3, Rd.bind_ok] at hEQ
    rw [hP3] at K3
    have hl3 := sh_iv sz _ _ _ hP3
    clear hP3
    go_wp2_with fail
    refine K3.out.mono ?_
    rintro e w3 ⟨v3, rfl, rfl, hA9, hF9⟩
    have F3 : Hid (Fr (fun k => k = R) w w3) := F2.out.trans hF9 (fun k e => Or.inl e)
    have S3 : Hid (w3.heap[n7]? = _) := hF9.heap S2.out (fun e => by omega)
    have B3 : Hid (w3.heap[n7 + 1]? = _) := hF9.heap B2.out (fun e => by omega)
    have X3 : Hid (w3.heap[w.heap.size]? = _) := hF9.heap X2.out (fun e => by omega)
    have A3 : Hid (RdAt m w3 R sz r5) := hA9
    have y3 : N2 ≤ w3.heap.size := Nat.le_trans y2 hF9.size
    clear hF9 hA9 K3 F2 S2 B2 X2 A2 s0 s1 s2 s3 s4 s5 s6 s7 s8 
    obtain ⟨b0, b1, b2, b3, b4, b5, b6, b7, b8, b9⟩ := bx10 B3.out
    obtain ⟨g0, g1, g2, g3, g4, g5, g6, g7, g8, g9⟩ := bz10 B3.out
    go_upto_region 11 with fail
    refine wp_world ?_
    intro W4 hW4
    have G4 : Hid (Fr (fun k => k = n7 + 1) w3 W4) := by rw [hW4]; exact (((Fr.refl (fun k => k = n7 + 1) w3).setCell (p := ⟨n7 + 1, 5, none⟩) (Or.inl rfl) _).setCell (p := ⟨n7 + 1, 6, none⟩) (Or.inl rfl) _).setCell (p := ⟨n7 + 1, 7, none⟩) (Or.inl rfl) _
    have B4 : Hid (W4.heap[n7 + 1]? = some (.cells #[.int .i64 k, .string ⟨#[]⟩, .int .i64 0, .slice none 0 0, .slice none 0 0, .int .i64 x3.1, .int .i64 x3.2.1, .bool x3.2.2, .slice none 0 0, .slice none 0 0] 29 (0, 0))) := by rw [hW4]; exact (set_heap (j := 7) (set_heap (j := 6) (set_heap (j := 5) B3.out (.int .i64 x3.1)) (.int .i64 x3.2.1)) (.bool x3.2.2))
    clear hW4
    have F4 : Hid (Fr (fun k => k = R) w W4) := F3.out.trans G4.out (fun k e => Or.inr (by omega))
    have S4 : Hid (W4.heap[n7]? = _) := G4.out.heap S3.out (fun e => by omega)
    have X4 : Hid (W4.heap[w.heap.size]? = _) := G4.out.heap X3.out (fun e => by omega)
    have A4 : Hid (RdAt m W4 R sz r5) := A3.out.fr G4.out (fun k e => by omega)
    have y4 : N2 ≤ W4.heap.size := Nat.le_trans y3 G4.out.size
    clear G4 F3 S3 B3 X3 A3 b0 b1 b2 b3 b4 b5 b6 b7 b8 b9 g0 g1 g2 g3 g4 g5 g6 g7 g8 g9 
    obtain ⟨s0, s1, s2, s3, s4, s5, s6, s7, s8⟩ := bx9 S4.out
    have K5 : Hid (Calls Tryz.prog 120 #[.pointer (some ⟨R, 0, none⟩), .int .i64 ((0 : Nat) : Int), .bool false, .int .i64 d] W4 (RdO m R sz W4 (fun l v w' => TmsOwn (fun q => W4.heap.size ≤ q) w' v l) (rMany pt false n 0 r5))) := CT.out r5 W4 (by omega) A4.out
    cases hP5 : rMany pt false n 0 r5 with
    | bad er a =>
      rw [hP5] at K5 hEQ
      go_wp2_with fail
      refine K5.out.mono ?_
      rintro e w9 ⟨rfl, hF9⟩
      refine ⟨rfl, ?_⟩
      rw [hEQ.out]
      exact ⟨rfl, F4.out.trans hF9 (fun k e => Or.inl e)⟩
    | ok x5 r6 =>
      rw [hP5, Rd.bind_ok] at hEQ
      rw [hP5] at K5
      have hl5 := STm.out _ _ _ _ hP5
      clear hP5
      go_wp2_with fail
      refine K5.out.mono ?_
      rintro e w5 ⟨v5, rfl, hQ9, hA9, hF9⟩
      have O50 : Hid (TmsOwn (fun q => N2 ≤ q) w5 v5 x5) := hQ9.mono (fun q hq _ => by omega)
      obtain ⟨p5, c5, rfl, -⟩ := hQ9.at.form
      obtain ⟨l5, el5⟩ : ∃ y, Hid (x5.length = y) := ⟨_, rfl⟩
      rw [el5.out] at O50 ⊢
      clear hQ9
      have F5 : Hid (Fr (fun k => k = R) w w5) := F4.out.trans hF9 (fun k e => Or.inl e)
      have S5 : Hid (w5.heap[n7]? = _) := hF9.heap S4.out (fun e => by omega)
      have B5 : Hid (w5.heap[n7 + 1]? = _) := hF9.heap B4.out (fun e => by omega)
      have X5 : Hid (w5.heap[w.heap.size]? = _) := hF9.heap X4.out (fun e => by omega)
      have A5 : Hid (RdAt m w5 R sz r6) := hA9
      have y5 : N2 ≤ w5.heap.size := Nat.le_trans y4 hF9.size
      clear hF9 hA9 K5 F4 S4 B4 X4 A4 s0 s1 s2 s3 s4 s5 s6 s7 s8 
      obtain ⟨b0, b1, b2, b3, b4, b5, b6, b7, b8, b9⟩ := bx10 B5.out
      obtain ⟨g0, g1, g2, g3, g4, g5, g6, g7, g8, g9⟩ := bz10 B5.out
      go_upto_region 12 with fail
      refine wp_world ?_
      intro W6 hW6
      have G6 : Hid (Fr (fun k => k = n7 + 1) w5 W6) := by rw [hW6]; exact (Fr.refl (fun k => k = n7 + 1) w5).setCell (p := ⟨n7 + 1, 4, none⟩) (Or.inl rfl) _
      have B6 : Hid (W6.heap[n7 + 1]? = some (.cells #[.int .i64 k, .string ⟨#[]⟩, .int .i64 0, .slice none 0 0, .slice p5 l5 c5, .int .i64 x3.1, .int .i64 x3.2.1, .bool x3.2.2, .slice none 0 0, .slice none 0 0] 29 (0, 0))) := by rw [hW6]; exact (set_heap (j := 4) B5.out (.slice p5 l5 c5))
      clear hW6
      have F6 : Hid (Fr (fun k => k = R) w W6) := F5.out.trans G6.out (fun k e => Or.inr (by omega))
      have S6 : Hid (W6.heap[n7]? = _) := G6.out.heap S5.out (fun e => by omega)
      have X6 : Hid (W6.heap[w.heap.size]? = _) := G6.out.heap X5.out (fun e => by omega)
      have A6 : Hid (RdAt m W6 R sz r6) := A5.out.fr G6.out (fun k e => by omega)
      have y6 : N2 ≤ W6.heap.size := Nat.le_trans y5 G6.out.size
      have O650 : Hid (TmsOwn (fun q => N2 ≤ q) W6 (.slice p5 l5 c5) x5) := O50.out.keep (fun q hq hlt9 => G6.out.block q hlt9 (fun e => by omega))
      clear G6 F5 S5 B5 X5 A5 b0 b1 b2 b3 b4 b5 b6 b7 b8 b9 g0 g1 g2 g3 g4 g5 g6 g7 g8 g9 O50
      obtain ⟨s0, s1, s2, s3, s4, s5, s6, s7, s8⟩ := bx9 S6.out
      have K7 : Hid (Calls Tryz.prog 158 #[.pointer (some ⟨R, 0, none⟩), .int .i64 ((0 : Nat) : Int), .int .i64 d] W6 (RdO m R sz W6 (fun l v w' => RxsOwn (fun q => W6.heap.size ≤ q) w' v l) (rMany pr false n 0 r6))) := CR.out r6 W6 (by omega) A6.out
      cases hP7 : rMany pr false n 0 r6 with
      | bad er a =>
        rw [hP7] at K7 hEQ
        go_wp2_with fail
        refine K7.out.mono ?_
        rintro e w9 ⟨rfl, hF9⟩
        refine ⟨rfl, ?_⟩
        rw [hEQ.out]
        exact ⟨rfl, F6.out.trans hF9 (fun k e => Or.inl e)⟩
      | ok x7 r7 =>
        rw [hP7, Rd.bind_ok] at hEQ
        rw [hP7] at K7
        have hl7 := SRm.out _ _ _ _ hP7
        clear hP7
        go_wp2_with fail
        refine K7.out.mono ?_
        rintro e w7 ⟨v7, rfl, hQ9, hA9, hF9⟩
        have O70 : Hid (RxsOwn (fun q => N2 ≤ q) w7 v7 x7) := hQ9.mono (fun q hq _ => by omega)
        obtain ⟨p7, c7, rfl, -⟩ := hQ9.at.form
        obtain ⟨l7, el7⟩ : ∃ y, Hid (x7.length = y) := ⟨_, rfl⟩
        rw [el7.out] at O70 ⊢
        clear hQ9
        have F7 : Hid (Fr (fun k => k = R) w w7) := F6.out.trans hF9 (fun k e => Or.inl e)
        have S7 : Hid (w7.heap[n7]? = _) := hF9.heap S6.out (fun e => by omega)
        have B7 : Hid (w7.heap[n7 + 1]? = _) := hF9.heap B6.out (fun e => by omega)
        have X7 : Hid (w7.heap[w.heap.size]? = _) := hF9.heap X6.out (fun e => by omega)
        have A7 : Hid (RdAt m w7 R sz r7) := hA9
        have y7 : N2 ≤ w7.heap.size := Nat.le_trans y6 hF9.size
        have O7650 : Hid (TmsOwn (fun q => N2 ≤ q) w7 (.slice p5 l5 c5) x5) := O650.out.keep (fun q hq hlt9 => hF9.block q hlt9 (fun e => by omega))
        clear hF9 hA9 K7 F6 S6 B6 X6 A6 s0 s1 s2 s3 s4 s5 s6 s7 s8 O650
        obtain ⟨b0, b1, b2, b3, b4, b5, b6, b7, b8, b9⟩ := bx10 B7.out
        obtain ⟨g0, g1, g2, g3, g4, g5, g6, g7, g8, g9⟩ := bz10 B7.out
        go_upto_region 13 with fail
        refine wp_world ?_
        intro W8 hW8
        have G8 : Hid (Fr (fun k => k = n7 + 1) w7 W8) := by rw [hW8]; exact (Fr.refl (fun k => k = n7 + 1) w7).setCell (p := ⟨n7 + 1, 9, none⟩) (Or.inl rfl) _
        have B8 : Hid (W8.heap[n7 + 1]? = some (.cells #[.int .i64 k, .string ⟨#[]⟩, .int .i64 0, .slice none 0 0, .slice p5 l5 c5, .int .i64 x3.1, .int .i64 x3.2.1, .bool x3.2.2, .slice none 0 0, .slice p7 l7 c7] 29 (0, 0))) := by rw [hW8]; exact (set_heap (j := 9) B7.out (.slice p7 l7 c7))
        clear hW8
        have F8 : Hid (Fr (fun k => k = R) w W8) := F7.out.trans G8.out (fun k e => Or.inr (by omega))
        have S8 : Hid (W8.heap[n7]? = _) := G8.out.heap S7.out (fun e => by omega)
        have X8 : Hid (W8.heap[w.heap.size]? = _) := G8.out.heap X7.out (fun e => by omega)
        have A8 : Hid (RdAt m W8 R sz r7) := A7.out.fr G8.out (fun k e => by omega)
        have y8 : N2 ≤ W8.heap.size := Nat.le_trans y7 G8.out.size
        have O87650 : Hid (TmsOwn (fun q => N2 ≤ q) W8 (.slice p5 l5 c5) x5) := O7650.out.keep (fun q hq hlt9 => G8.out.block q hlt9 (fun e => by omega))
        have O870 : Hid (RxsOwn (fun q => N2 ≤ q) W8 (.slice p7 l7 c7) x7) := O70.out.keep (fun q hq hlt9 => G8.out.block q hlt9 (fun e => by omega))
        clear G8 F7 S7 B7 X7 A7 b0 b1 b2 b3 b4 b5 b6 b7 b8 b9 g0 g1 g2 g3 g4 g5 g6 g7 g8 g9 O7650 O70
        obtain ⟨s0, s1, s2, s3, s4, s5, s6, s7, s8⟩ := bx9 S8.out
        have K9 : Hid (Calls Tryz.prog 159 #[.pointer (some ⟨R, 0, none⟩), .int .i64 ((1 : Nat) : Int), .bool false, .int .i64 d] W8 (RdO m R sz W8 (fun l v w' => FmsOwn (fun q => W8.heap.size ≤ q) w' v l) (rMany pf false n 1 r7))) := CF.out r7 W8 (by omega) A8.out
        cases hP9 : rMany pf false n 1 r7 with
        | bad er a =>
          rw [hP9] at K9 hEQ
          go_wp2_with fail
          refine K9.out.mono ?_
          rintro e w9 ⟨rfl, hF9⟩
          refine ⟨rfl, ?_⟩
          rw [hEQ.out]
          exact ⟨rfl, F8.out.trans hF9 (fun k e => Or.inl e)⟩
        | ok x9 r8 =>
          rw [hP9, Rd.bind_ok] at hEQ
          rw [hP9] at K9
          clear hP9
          go_wp2_with fail
          refine K9.out.mono ?_
          rintro e w9 ⟨v9, rfl, hQ9, hA9, hF9⟩
          have O90 : Hid (FmsOwn (fun q => N2 ≤ q) w9 v9 x9) := hQ9.mono (fun q hq _ => by omega)
          obtain ⟨p9, c9, rfl, -⟩ := hQ9.at.form
          obtain ⟨l9, el9⟩ : ∃ y, Hid (x9.length = y) := ⟨_, rfl⟩
          rw [el9.out] at O90 ⊢
          clear hQ9
          have F9 : Hid (Fr (fun k => k = R) w w9) := F8.out.trans hF9 (fun k e => Or.inl e)
          have S9 : Hid (w9.heap[n7]? = _) := hF9.heap S8.out (fun e => by omega)
          have B9 : Hid (w9.heap[n7 + 1]? = _) := hF9.heap B8.out (fun e => by omega)
          have X9 : Hid (w9.heap[w.heap.size]? = _) := hF9.heap X8.out (fun e => by omega)
          have A9 : Hid (RdAt m w9 R sz r8) := hA9
          have y9 : N2 ≤ w9.heap.size := Nat.le_trans y8 hF9.size
          have O987650 : Hid (TmsOwn (fun q => N2 ≤ q) w9 (.slice p5 l5 c5) x5) := O87650.out.keep (fun q hq hlt9 => hF9.block q hlt9 (fun e => by omega))
          have O9870 : Hid (RxsOwn (fun q => N2 ≤ q) w9 (.slice p7 l7 c7) x7) := O870.out.keep (fun q hq hlt9 => hF9.block q hlt9 (fun e => by omega))
          clear hF9 hA9 K9 F8 S8 B8 X8 A8 s0 s1 s2 s3 s4 s5 s6 s7 s8 O87650 O870
          obtain ⟨b0, b1, b2, b3, b4, b5, b6, b7, b8, b9⟩ := bx10 B9.out
          obtain ⟨g0, g1, g2, g3, g4, g5, g6, g7, g8, g9⟩ := bz10 B9.out
          go_upto_region 14 with fail
          refine wp_world ?_
          intro W10 hW10
          have G10 : Hid (Fr (fun k => k = n7 + 1) w9 W10) := by rw [hW10]; exact (Fr.refl (fun k => k = n7 + 1) w9).setCell (p := ⟨n7 + 1, 8, none⟩) (Or.inl rfl) _
          have B10 : Hid (W10.heap[n7 + 1]? = some (.cells #[.int .i64 k, .string ⟨#[]⟩, .int .i64 0, .slice none 0 0, .slice p5 l5 c5, .int .i64 x3.1, .int .i64 x3.2.1, .bool x3.2.2, .slice p9 l9 c9, .slice p7 l7 c7] 29 (0, 0))) := by rw [hW10]; exact (set_heap (j := 8) B9.out (.slice p9 l9 c9))
          clear hW10
          have F10 : Hid (Fr (fun k => k = R) w W10) := F9.out.trans G10.out (fun k e => Or.inr (by omega))
          have S10 : Hid (W10.heap[n7]? = _) := G10.out.heap S9.out (fun e => by omega)
          have X10 : Hid (W10.heap[w.heap.size]? = _) := G10.out.heap X9.out (fun e => by omega)
          have A10 : Hid (RdAt m W10 R sz r8) := A9.out.fr G10.out (fun k e => by omega)
          have y10 : N2 ≤ W10.heap.size := Nat.le_trans y9 G10.out.size
          have O10987650 : Hid (TmsOwn (fun q => N2 ≤ q) W10 (.slice p5 l5 c5) x5) := O987650.out.keep (fun q hq hlt9 => G10.out.block q hlt9 (fun e => by omega))
          have O109870 : Hid (RxsOwn (fun q => N2 ≤ q) W10 (.slice p7 l7 c7) x7) := O9870.out.keep (fun q hq hlt9 => G10.out.block q hlt9 (fun e => by omega))
          have O1090 : Hid (FmsOwn (fun q => N2 ≤ q) W10 (.slice p9 l9 c9) x9) := O90.out.keep (fun q hq hlt9 => G10.out.block q hlt9 (fun e => by omega))
          clear G10 F9 S9 B9 X9 A9 b0 b1 b2 b3 b4 b5 b6 b7 b8 b9 g0 g1 g2 g3 g4 g5 g6 g7 g8 g9 O987650 O9870 O90
          obtain ⟨b0, b1, b2, b3, b4, b5, b6, b7, b8, b9⟩ := bx10 B10.out
          obtain ⟨r0, r1, r2, r3, r4, r5, r6, r7, r8, r9⟩ := bx10 X10.out
          obtain ⟨q0, q1, q2, q3, q4, q5, q6, q7, q8, q9⟩ := bz10 X10.out
          go_wp2
          generalize hW9 : World.setCell _ _ _ = W9
          have X9 : W9.heap[w.heap.size]? = some (.cells #[.int .i64 k, .string ⟨#[]⟩, .int .i64 0, .slice none 0 0, .slice p5 l5 c5, .int .i64 x3.1, .int .i64 x3.2.1, .bool x3.2.2, .slice p9 l9 c9, .slice p7 l7 c7] 29 (0, 0)) := by rw [← hW9]; exact put10 X10.out
          have F9 : Fr (fun k => k = R) w W9 := by rw [← hW9]; exact frp10 F10.out (Or.inr (Nat.le_refl _)) _ _ _ _ _ _ _ _ _ _
          have G9 : Fr (fun k => k = w.heap.size) W10 W9 := by rw [← hW9]; exact frp10 (Fr.refl (fun k => k = w.heap.size) W10) (Or.inl rfl) _ _ _ _ _ _ _ _ _ _
          clear hW9
          obtain ⟨x0, x1, x2, x3, x4, x5, x6, x7, x8, x9⟩ := bx10 X9
          refine bodyPost_ret (by simp [results, Tryz.results121, go_sem, x0, x1, x2, x3, x4, x5, x6, x7, x8, x9]; try rfl) rfl ?_
          rw [hEQ.out]
          refine ⟨_, rfl, ⟨⟨.slice none 0 0, (.slice p5 l5 c5), (.slice p9 l9 c9), (.slice p7 l7 c7)⟩, rfl, ?_⟩, A10.out.fr G9 (fun k e => by omega), F9⟩
          exact ⟨⟨⟨rfl, Or.inl ⟨rfl, rfl⟩⟩, (show (0 : Nat) ≤ 9223372036854775807 from Nat.zero_le _), fun q hq => by cases hq⟩, (O10987650.out.keep (w' := W9) (fun q hq hlt9 => G9.block q hlt9 (fun e => by omega))).mono (fun q hq _ => by omega), (O1090.out.keep (w' := W9) (fun q hq hlt9 => G9.block q hlt9 (fun e => by omega))).mono (fun q hq _ => by omega), (O109870.out.keep (w' := W9) (fun q hq hlt9 => G9.block q hlt9 (fun e => by omega))).mono (fun q hq _ => by omega)⟩
set_option maxRecDepth 100000 in
set_option maxHeartbeats 8000000 in
theorem shaped_t2 (m R sz N : Nat) (ts : List (Tok Val)) (d k : Int) (hd : ByteArray) (w : World) (h : RdAt m w R sz ts) (n : Nat) (pt : List (Tok Val) → Rd Tm) (pf : List (Tok Val) → Rd Fm) (pr : List (Tok Val) → Rd Rx) (hst : Shr pt) (hsr : Shr pr) (hN : ts.length ≤ N) (hk1 : 3 ≤ k) (hk2 : k ≤ 22) (hk : shp k = ⟨false, false, false, true, 0, 0, 2, false⟩) (hhd : (⟨(if k = 3 then [] else hdF k).toArray⟩ : ByteArray) = hd)
    (HT : ∀ (kk : Nat) (rr : List (Tok Val)) (W : World), rr.length ≤ N → RdAt m W R sz rr → Calls Tryz.prog 120 #[.pointer (some ⟨R, 0, none⟩), .int .i64 ((kk : Nat) : Int), .bool false, .int .i64 d] W (RdO m R sz W (fun l v w' => TmsOwn (fun q => W.heap.size ≤ q) w' v l) (rMany pt false n kk rr)))
    (HR : ∀ (kk : Nat) (rr : List (Tok Val)) (W : World), rr.length ≤ N → RdAt m W R sz rr → Calls Tryz.prog 158 #[.pointer (some ⟨R, 0, none⟩), .int .i64 ((kk : Nat) : Int), .int .i64 d] W (RdO m R sz W (fun l v w' => RxsOwn (fun q => W.heap.size ≤ q) w' v l) (rMany pr false n kk rr)))
    (HF : ∀ (kk : Nat) (more : Bool) (rr : List (Tok Val)) (W : World), rr.length ≤ N → RdAt m W R sz rr → Calls Tryz.prog 159 #[.pointer (some ⟨R, 0, none⟩), .int .i64 ((kk : Nat) : Int), .bool more, .int .i64 d] W (RdO m R sz W (fun l v w' => FmsOwn (fun q => W.heap.size ≤ q) w' v l) (rMany pf more n kk rr))) :
    Calls Tryz.prog 121 #[.pointer (some ⟨R, 0, none⟩), .int .i64 k, .int .i64 d] w (RdO m R sz w (FmV w) (pShaped sz n pt pf pr k ts)) := by
  have hlt := h.lt
  obtain ⟨RS, hRS⟩ : ∃ x : Rd Fm, Hid (pShaped sz n pt pf pr k ts = x) := ⟨_, rfl⟩
  rw [hRS.out]
  have hEQ : Hid (RS = (rIv sz ts).bind fun iv r5 => (rMany pt false n 0 r5).bind fun tms r6 => (rMany pr false n 0 r6).bind fun rx r7 => (rMany pf false n 2 r7).bind fun fs r8 => .ok (.mk k ⟨#[]⟩ 0 [] tms iv.1 iv.2.1 iv.2.2 fs rx) r8) := by
    show _ = _
    rw [← hRS.out]
    unfold pShaped
    rw [hk]
    rfl
  have cS : Hid (∀ W : World, Calls Tryz.prog 35 #[.int .i64 k] W fun e w' => e = .returned (.agg #[.string hd, .bool false, .bool false, .bool false, .bool true, .int .i64 ((0 : Nat) : Int), .int .i64 ((0 : Nat) : Int), .int .i64 ((2 : Nat) : Int), .bool false]) ∧ Below W.heap.size W w') := fun W => by
    have q := shape_any k W hk1 hk2
    rw [hk] at q
    rw [← hhd]
    exact q
  have CT : Hid (∀ (rr : List (Tok Val)) (W : World), rr.length ≤ N → RdAt m W R sz rr → Calls Tryz.prog 120 #[.pointer (some ⟨R, 0, none⟩), .int .i64 ((0 : Nat) : Int), .bool false, .int .i64 d] W (RdO m R sz W (fun l v w' => TmsOwn (fun q => W.heap.size ≤ q) w' v l) (rMany pt false n 0 rr))) := fun rr W hl hW => HT 0 rr W hl hW
  have CR : Hid (∀ (rr : List (Tok Val)) (W : World), rr.length ≤ N → RdAt m W R sz rr → Calls Tryz.prog 158 #[.pointer (some ⟨R, 0, none⟩), .int .i64 ((0 : Nat) : Int), .int .i64 d] W (RdO m R sz W (fun l v w' => RxsOwn (fun q => W.heap.size ≤ q) w' v l) (rMany pr false n 0 rr))) := fun rr W hl hW => HR 0 rr W hl hW
  have CF : Hid (∀ (rr : List (Tok Val)) (W : World), rr.length ≤ N → RdAt m W R sz rr → Calls Tryz.prog 159 #[.pointer (some ⟨R, 0, none⟩), .int .i64 ((2 : Nat) : Int), .bool false, .int .i64 d] W (RdO m R sz W (fun l v w' => FmsOwn (fun q => W.heap.size ≤ q) w' v l) (rMany pf false n 2 rr))) := fun rr W hl hW => HF 2 false rr W hl hW
  have CI : Hid (∀ (rr : List (Tok Val)) (W : World), RdAt m W R sz rr → Calls Tryz.prog 157 #[.pointer (some ⟨R, 0, none⟩)] W (RdO m R sz W (fun iv v _ => v = .agg #[.int .i64 iv.1, .int .i64 iv.2.1, .bool iv.2.2]) (rIv sz rr))) := fun rr W hW => rival_any m R sz rr W hW
  have STm : Hid (∀ kk ts a r, rMany pt false n kk ts = .ok a r → r.length ≤ ts.length) := fun kk ts a r e => sh_many (fun ts a r e => by have := hst ts a r e; omega) false n kk ts a r e
  have SRm : Hid (∀ kk ts a r, rMany pr false n kk ts = .ok a r → r.length ≤ ts.length) := fun kk ts a r e => sh_many (fun ts a r e => by have := hsr ts a r e; omega) false n kk ts a r e
  clear hRS HT HR HF hst hsr hk hhd
  go_enter Tryz.func121, Tryz.ntmps121
  go_wp2_with fail
  refine (cS.out _).mono ?_
  rintro e w1 ⟨rfl, hb1⟩
  have z1 : w.heap.size < w1.heap.size := by have := hb1.size; simp at this; omega
  have X1 : Hid (w1.heap[w.heap.size]? = some (.cells #[.int .i64 0, .string ⟨#[]⟩, .int .i64 0, .slice none 0 0, .slice none 0 0, .int .i64 0, .int .i64 0, .bool false, .slice none 0 0, .slice none 0 0] 29 (0, 0))) := (hb1.block w.heap.size (by simp)).trans (new_box w _)
  have F1 : Hid (Fr (fun k => k = R) w w1) := Fr.of_below (((Below.refl _ _).alloc (Nat.le_refl _) _).trans (hb1.mono (by simp)))
  have A1 : Hid (RdAt m w1 R sz ts) := h.below (((Below.refl _ _).alloc (Nat.le_refl _) _).trans (hb1.mono (by simp)))
  clear hb1 cS h
  go_upto_region 2 with fail
  refine wp_world ?_
  intro W2 hW2
  have S2 : Hid (W2.heap[w1.heap.size]? = some (.cells #[.string hd, .bool false, .bool false, .bool false, .bool true, .int .i64 ((0 : Nat) : Int), .int .i64 ((0 : Nat) : Int), .int .i64 ((2 : Nat) : Int), .bool false] 82 (0, 0))) := by rw [hW2]; exact (Below.heap_alloc _ _ _ (by simp)).trans (new_box w1 _)
  have B2 : Hid (W2.heap[w1.heap.size + 1]? = some (.cells #[.int .i64 k, .string ⟨#[]⟩, .int .i64 0, .slice none 0 0, .slice none 0 0, .int .i64 0, .int .i64 0, .bool false, .slice none 0 0, .slice none 0 0] 29 (0, 0))) := by
    rw [hW2]
    have q := new_box (w1.alloc (.cells #[.string hd, .bool false, .bool false, .bool false, .bool true, .int .i64 ((0 : Nat) : Int), .int .i64 ((0 : Nat) : Int), .int .i64 ((2 : Nat) : Int), .bool false] 82)) (.cells #[.int .i64 k, .string ⟨#[]⟩, .int .i64 0, .slice none 0 0, .slice none 0 0, .int .i64 0, .int .i64 0, .bool false, .slice none 0 0, .slice none 0 0] 29)
    simp only [World.size_alloc] at q
    exact q
  have X2 : Hid (W2.heap[w.heap.size]? = some (.cells #[.int .i64 0, .string ⟨#[]⟩, .int .i64 0, .slice none 0 0, .slice none 0 0, .int .i64 0, .int .i64 0, .bool false, .slice none 0 0, .slice none 0 0] 29 (0, 0))) := by rw [hW2]; exact (((Fr.refl (fun k => k = R) w1).alloc _).alloc _).heap X1.out (fun e => by omega)
  have F2 : Hid (Fr (fun k => k = R) w W2) := by rw [hW2]; exact (F1.out.alloc _).alloc _
  have A2 : Hid (RdAt m W2 R sz ts) := by rw [hW2]; exact A1.out.below (((Below.refl w1.heap.size w1).alloc (Nat.le_refl _) _).alloc (by simp) _)
  have zz : w1.heap.size + 2 = W2.heap.size := by rw [hW2]; simp
  clear hW2 F1 A1 X1
  generalize w1.heap.size = n7 at *
  have ZN : Hid (n7 + 2 = W2.heap.size) := zz
  obtain ⟨N2, hN2⟩ : ∃ x, Hid (W2.heap.size = x) := ⟨_, rfl⟩
  have zz2 : n7 + 2 = N2 := by rw [← hN2.out]; exact ZN.out
  have y2 : N2 ≤ W2.heap.size := Nat.le_of_eq hN2.out.symm
  clear zz ZN hN2
  obtain ⟨s0, s1, s2, s3, s4, s5, s6, s7, s8⟩ := bx9 S2.out
  have K3 : Hid (Calls Tryz.prog 157 #[.pointer (some ⟨R, 0, none⟩)] W2 (RdO m R sz W2 (fun iv v _ => v = .agg #[.int .i64 iv.1, .int .i64 iv.2.1, .bool iv.2.2]) (rIv sz ts))) := CI.out ts W2 A2.out
  cases hP3 : rIv sz ts with
  | bad er a =>
    rw [hP3] at K3 hEQ
    go_wp2_with fail
    refine K3.out.mono ?_
    rintro e w9 ⟨rfl, hF9⟩
    refine ⟨rfl, ?_⟩
    rw [hEQ.out]
    exact ⟨rfl, F2.out.trans hF9 (fun k e => Or.inl e)⟩
  | ok x3 r5 =>
    rw [hP3, Rd.bind_ok] at hEQ
    rw [hP3] at K3
    have hl3 := sh_iv sz _ _ _ hP3
    clear hP3
    go_wp2_with fail
    refine K3.out.mono ?_
    rintro e w3 ⟨v3, rfl, rfl, hA9, hF9⟩
    have F3 : Hid (Fr (fun k => k = R) w w3) := F2.out.trans hF9 (fun k e => Or.inl e)
    have S3 : Hid (w3.heap[n7]? = _) := hF9.heap S2.out (fun e => by omega)
    have B3 : Hid (w3.heap[n7 + 1]? = _) := hF9.heap B2.out (fun e => by omega)
    have X3 : Hid (w3.heap[w.heap.size]? = _) := hF9.heap X2.out (fun e => by omega)
    have A3 : Hid (RdAt m w3 R sz r5) := hA9
    have y3 : N2 ≤ w3.heap.size := Nat.le_trans y2 hF9.size
    clear hF9 hA9 K3 F2 S2 B2 X2 A2 s0 s1 s2 s3 s4 s5 s6 s7 s8 
    obtain ⟨b0, b1, b2, b3, b4, b5, b6, b7, b8, b9⟩ := bx10 B3.out
    obtain ⟨g0, g1, g2, g3, g4, g5, g6, g7, g8, g9⟩ := bz10 B3.out
    go_upto_region 11 with fail
    refine wp_world ?_
    intro W4 hW4
    have G4 : Hid (Fr (fun k => k = n7 + 1) w3 W4) := by rw [hW4]; exact (((Fr.refl (fun k => k = n7 + 1) w3).setCell (p := ⟨n7 + 1, 5, none⟩) (Or.inl rfl) _).setCell (p := ⟨n7 + 1, 6, none⟩) (Or.inl rfl) _).setCell (p := ⟨n7 + 1, 7, none⟩) (Or.inl rfl) _
    have B4 : Hid (W4.heap[n7 + 1]? = some (.cells #[.int .i64 k, .string ⟨#[]⟩, .int .i64 0, .slice none 0 0, .slice none 0 0, .int .i64 x3.1, .int .i64 x3.2.1, .bool x3.2.2, .slice none 0 0, .slice none 0 0] 29 (0, 0))) := by rw [hW4]; exact (set_heap (j := 7) (set_heap (j := 6) (set_heap (j := 5) B3.out (.int .i64 x3.1)) (.int .i64 x3.2.1)) (.bool x3.2.2))
    clear hW4
    have F4 : Hid (Fr (fun k => k = R) w W4) := F3.out.trans G4.out (fun k e => Or.inr (by omega))
    have S4 : Hid (W4.heap[n7]? = _) := G4.out.heap S3.out (fun e => by omega)
    have X4 : Hid (W4.heap[w.heap.size]? = _) := G4.out.heap X3.out (fun e => by omega)
    have A4 : Hid (RdAt m W4 R sz r5) := A3.out.fr G4.out (fun k e => by omega)
    have y4 : N2 ≤ W4.heap.size := Nat.le_trans y3 G4.out.size
    clear G4 F3 S3 B3 X3 A3 b0 b1 b2 b3 b4 b5 b6 b7 b8 b9 g0 g1 g2 g3 g4 g5 g6 g7 g8 g9 
    obtain ⟨s0, s1, s2, s3, s4, s5, s6, s7, s8⟩ := bx9 S4.out
    have K5 : Hid (Calls Tryz.prog 120 #[.pointer (some ⟨R, 0, none⟩), .int .i64 ((0 : Nat) : Int), .bool false, .int .i64 d] W4 (RdO m R sz W4 (fun l v w' => TmsOwn (fun q => W4.heap.size ≤ q) w' v l) (rMany pt false n 0 r5))) := CT.out r5 W4 (by omega) A4.out
    cases hP5 : rMany pt false n 0 r5 with
    | bad er a =>
      rw [hP5] at K5 hEQ
      go_wp2_with fail
      refine K5.out.mono ?_
      rintro e w9 ⟨rfl, hF9⟩
      refine ⟨rfl, ?_⟩
      rw [hEQ.out]
      exact ⟨rfl, F4.out.trans hF9 (fun k e => Or.inl e)⟩
    | ok x5 r6 =>
      rw [hP5, Rd.bind_ok] at hEQ
      rw [hP5] at K5
      have hl5 := STm.out _ _ _ _ hP5
      clear hP5
      go_wp2_with fail
      refine K5.out.mono ?_
      rintro e w5 ⟨v5, rfl, hQ9, hA9, hF9⟩
      have O50 : Hid (TmsOwn (fun q => N2 ≤ q) w5 v5 x5) := hQ9.mono (fun q hq _ => by omega)
      obtain ⟨p5, c5, rfl, -⟩ := hQ9.at.form
      obtain ⟨l5, el5⟩ : ∃ y, Hid (x5.length = y) := ⟨_, rfl⟩
      rw [el5.out] at O50 ⊢
      clear hQ9
      have F5 : Hid (Fr (fun k => k = R) w w5) := F4.out.trans hF9 (fun k e => Or.inl e)
      have S5 : Hid (w5.heap[n7]? = _) := hF9.heap S4.out (fun e => by omega)
      have B5 : Hid (w5.heap[n7 + 1]? = _) := hF9.heap B4.out (fun e => by omega)
      have X5 : Hid (w5.heap[w.heap.size]? = _) := hF9.heap X4.out (fun e => by omega)
      have A5 : Hid (RdAt m w5 R sz r6) := hA9
      have y5 : N2 ≤ w5.heap.size := Nat.le_trans y4 hF9.size
      clear hF9 hA9 K5 F4 S4 B4 X4 A4 s0 s1 s2 s3 s4 s5 s6 s7 s8 
      obtain ⟨b0, b1, b2, b3, b4, b5, b6, b7, b8, b9⟩ := bx10 B5.out
      obtain ⟨g0, g1, g2, g3, g4, g5, g6, g7, g8, g9⟩ := bz10 B5.out
      go_upto_region 12 with fail
      refine wp_world ?_
      intro W6 hW6
      have G6 : Hid (Fr (fun k => k = n7 + 1) w5 W6) := by rw [hW6]; exact (Fr.refl (fun k => k = n7 + 1) w5).setCell (p := ⟨n7 + 1, 4, none⟩) (Or.inl rfl) _
      have B6 : Hid (W6.heap[n7 + 1]? = some (.cells #[.int .i64 k, .string ⟨#[]⟩, .int .i64 0, .slice none 0 0, .slice p5 l5 c5, .int .i64 x3.1, .int .i64 x3.2.1, .bool x3.2.2, .slice none 0 0, .slice none 0 0] 29 (0, 0))) := by rw [hW6]; exact (set_heap (j := 4) B5.out (.slice p5 l5 c5))
      clear hW6
      have F6 : Hid (Fr (fun k => k = R) w W6) := F5.out.trans G6.out (fun k e => Or.inr (by omega))
      have S6 : Hid (W6.heap[n7]? = _) := G6.out.heap S5.out (fun e => by omega)
      have X6 : Hid (W6.heap[w.heap.size]? = _) := G6.out.heap X5.out (fun e => by omega)
      have A6 : Hid (RdAt m W6 R sz r6) := A5.out.fr G6.out (fun k e => by omega)
      have y6 : N2 ≤ W6.heap.size := Nat.le_trans y5 G6.out.size
      have O650 : Hid (TmsOwn (fun q => N2 ≤ q) W6 (.slice p5 l5 c5) x5) := O50.out.keep (fun q hq hlt9 => G6.out.block q hlt9 (fun e => by omega))
      clear G6 F5 S5 B5 X5 A5 b0 b1 b2 b3 b4 b5 b6 b7 b8 b9 g0 g1 g2 g3 g4 g5 g6 g7 g8 g9 O50
      obtain ⟨s0, s1, s2, s3, s4, s5, s6, s7, s8⟩ := bx9 S6.out
      have K7 : Hid (Calls Tryz.prog 158 #[.pointer (some ⟨R, 0, none⟩), .int .i64 ((0 : Nat) : Int), .int .i64 d] W6 (RdO m R sz W6 (fun l v w' => RxsOwn (fun q => W6.heap.size ≤ q) w' v l) (rMany pr false n 0 r6))) := CR.out r6 W6 (by omega) A6.out
      cases hP7 : rMany pr false n 0 r6 with
      | bad er a =>
        rw [hP7] at K7 hEQ
        go_wp2_with fail
        refine K7.out.mono ?_
        rintro e w9 ⟨rfl, hF9⟩
        refine ⟨rfl, ?_⟩
        rw [hEQ.out]
        exact ⟨rfl, F6.out.trans hF9 (fun k e => Or.inl e)⟩
      | ok x7 r7 =>
        rw [hP7, Rd.bind_ok] at hEQ
        rw [hP7] at K7
        have hl7 := SRm.out _ _ _ _ hP7
        clear hP7
        go_wp2_with fail
        refine K7.out.mono ?_
        rintro e w7 ⟨v7, rfl, hQ9, hA9, hF9⟩
        have O70 : Hid (RxsOwn (fun q => N2 ≤ q) w7 v7 x7) := hQ9.mono (fun q hq _ => by omega)
        obtain ⟨p7, c7, rfl, -⟩ := hQ9.at.form
        obtain ⟨l7, el7⟩ : ∃ y, Hid (x7.length = y) := ⟨_, rfl⟩
        rw [el7.out] at O70 ⊢
        clear hQ9
        have F7 : Hid (Fr (fun k => k = R) w w7) := F6.out.trans hF9 (fun k e => Or.inl e)
        have S7 : Hid (w7.heap[n7]? = _) := hF9.heap S6.out (fun e => by omega)
        have B7 : Hid (w7.heap[n7 + 1]? = _) := hF9.heap B6.out (fun e => by omega)
        have X7 : Hid (w7.heap[w.heap.size]? = _) := hF9.heap X6.out (fun e => by omega)
        have A7 : Hid (RdAt m w7 R sz r7) := hA9
        have y7 : N2 ≤ w7.heap.size := Nat.le_trans y6 hF9.size
        have O7650 : Hid (TmsOwn (fun q => N2 ≤ q) w7 (.slice p5 l5 c5) x5) := O650.out.keep (fun q hq hlt9 => hF9.block q hlt9 (fun e => by omega))
        clear hF9 hA9 K7 F6 S6 B6 X6 A6 s0 s1 s2 s3 s4 s5 s6 s7 s8 O650
        obtain ⟨b0, b1, b2, b3, b4, b5, b6, b7, b8, b9⟩ := bx10 B7.out
        obtain ⟨g0, g1, g2, g3, g4, g5, g6, g7, g8, g9⟩ := bz10 B7.out
        go_upto_region 13 with fail
        refine wp_world ?_
        intro W8 hW8
        have G8 : Hid (Fr (fun k => k = n7 + 1) w7 W8) := by rw [hW8]; exact (Fr.refl (fun k => k = n7 + 1) w7).setCell (p := ⟨n7 + 1, 9, none⟩) (Or.inl rfl) _
        have B8 : Hid (W8.heap[n7 + 1]? = some (.cells #[.int .i64 k, .string ⟨#[]⟩, .int .i64 0, .slice none 0 0, .slice p5 l5 c5, .int .i64 x3.1, .int .i64 x3.2.1, .bool x3.2.2, .slice none 0 0, .slice p7 l7 c7] 29 (0, 0))) := by rw [hW8]; exact (set_heap (j := 9) B7.out (.slice p7 l7 c7))
        clear hW8
        have F8 : Hid (Fr (fun k => k = R) w W8) := F7.out.trans G8.out (fun k e => Or.inr (by omega))
        have S8 : Hid (W8.heap[n7]? = _) := G8.out.heap S7.out (fun e => by omega)
        have X8 : Hid (W8.heap[w.heap.size]? = _) := G8.out.heap X7.out (fun e => by omega)
        have A8 : Hid (RdAt m W8 R sz r7) := A7.out.fr G8.out (fun k e => by omega)
        have y8 : N2 ≤ W8.heap.size := Nat.le_trans y7 G8.out.size
        have O87650 : Hid (TmsOwn (fun q => N2 ≤ q) W8 (.slice p5 l5 c5) x5) := O7650.out.keep (fun q hq hlt9 => G8.out.block q hlt9 (fun e => by omega))
        have O870 : Hid (RxsOwn (fun q => N2 ≤ q) W8 (.slice p7 l7 c7) x7) := O70.out.keep (fun q hq hlt9 => G8.out.block q hlt9 (fun e => by omega))
        clear G8 F7 S7 B7 X7 A7 b0 b1 b2 b3 b4 b5 b6 b7 b8 b9 g0 g1 g2 g3 g4 g5 g6 g7 g8 g9 O7650 O70
        obtain ⟨s0, s1, s2, s3, s4, s5, s6, s7, s8⟩ := bx9 S8.out
        have K9 : Hid (Calls Tryz.prog 159 #[.pointer (some ⟨R, 0, none⟩), .int .i64 ((2 : Nat) : Int), .bool false, .int .i64 d] W8 (RdO m R sz W8 (fun l v w' => FmsOwn (fun q => W8.heap.size ≤ q) w' v l) (rMany pf false n 2 r7))) := CF.out r7 W8 (by omega) A8.out
        cases hP9 : rMany pf false n 2 r7 with
        | bad er a =>
          rw [hP9] at K9 hEQ
          go_wp2_with fail
          refine K9.out.mono ?_
          rintro e w9 ⟨rfl, hF9⟩
          refine ⟨rfl, ?_⟩
          rw [hEQ.out]
          exact ⟨rfl, F8.out.trans hF9 (fun k e => Or.inl e)⟩
        | ok x9 r8 =>
          rw [hP9, Rd.bind_ok] at hEQ
          rw [hP9] at K9
          clear hP9
          go_wp2_with fail
          refine K9.out.mono ?_
          rintro e w9 ⟨v9, rfl, hQ9, hA9, hF9⟩
          have O90 : Hid (FmsOwn (fun q => N2 ≤ q) w9 v9 x9) := hQ9.mono (fun q hq _ => by omega)
          obtain ⟨p9, c9, rfl, -⟩ := hQ9.at.form
          obtain ⟨l9, el9⟩ : ∃ y, Hid (x9.length = y) := ⟨_, rfl⟩
          rw [el9.out] at O90 ⊢
          clear hQ9
          have F9 : Hid (Fr (fun k => k = R) w w9) := F8.out.trans hF9 (fun k e => Or.inl e)
          have S9 : Hid (w9.heap[n7]? = _) := hF9.heap S8.out (fun e => by omega)
          have B9 : Hid (w9.heap[n7 + 1]? = _) := hF9.heap B8.out (fun e => by omega)
          have X9 : Hid (w9.heap[w.heap.size]? = _) := hF9.heap X8.out (fun e => by omega)
          have A9 : Hid (RdAt m w9 R sz r8) := hA9
          have y9 : N2 ≤ w9.heap.size := Nat.le_trans y8 hF9.size
          have O987650 : Hid (TmsOwn (fun q => N2 ≤ q) w9 (.slice p5 l5 c5) x5) := O87650.out.keep (fun q hq hlt9 => hF9.block q hlt9 (fun e => by omega))
          have O9870 : Hid (RxsOwn (fun q => N2 ≤ q) w9 (.slice p7 l7 c7) x7) := O870.out.keep (fun q hq hlt9 => hF9.block q hlt9 (fun e => by omega))
          clear hF9 hA9 K9 F8 S8 B8 X8 A8 s0 s1 s2 s3 s4 s5 s6 s7 s8 O87650 O870
          obtain ⟨b0, b1, b2, b3, b4, b5, b6, b7, b8, b9⟩ := bx10 B9.out
          obtain ⟨g0, g1, g2, g3, g4, g5, g6, g7, g8, g9⟩ := bz10 B9.out
          go_upto_region 14 with fail
          refine wp_world ?_
          intro W10 hW10
          have G10 : Hid (Fr (fun k => k = n7 + 1) w9 W10) := by rw [hW10]; exact (Fr.refl (fun k => k = n7 + 1) w9).setCell (p := ⟨n7 + 1, 8, none⟩) (Or.inl rfl) _
          have B10 : Hid (W10.heap[n7 + 1]? = some (.cells #[.int .i64 k, .string ⟨#[]⟩, .int .i64 0, .slice none 0 0, .slice p5 l5 c5, .int .i64 x3.1, .int .i64 x3.2.1, .bool x3.2.2, .slice p9 l9 c9, .slice p7 l7 c7] 29 (0, 0))) := by rw [hW10]; exact (set_heap (j := 8) B9.out (.slice p9 l9 c9))
          clear hW10
          have F10 : Hid (Fr (fun k => k = R) w W10) := F9.out.trans G10.out (fun k e => Or.inr (by omega))
          have S10 : Hid (W10.heap[n7]? = _) := G10.out.heap S9.out (fun e => by omega)
          have X10 : Hid (W10.heap[w.heap.size]? = _) := G10.out.heap X9.out (fun e => by omega)
          have A10 : Hid (RdAt m W10 R sz r8) := A9.out.fr G10.out (fun k e => by omega)
          have y10 : N2 ≤ W10.heap.size := Nat.le_trans y9 G10.out.size
          have O10987650 : Hid (TmsOwn (fun q => N2 ≤ q) W10 (.slice p5 l5 c5) x5) := O987650.out.keep (fun q hq hlt9 => G10.out.block q hlt9 (fun e => by omega))
          have O109870 : Hid (RxsOwn (fun q => N2 ≤ q) W10 (.slice p7 l7 c7) x7) := O9870.out.keep (fun q hq hlt9 => G10.out.block q hlt9 (fun e => by omega))
          have O1090 : Hid (FmsOwn (fun q => N2 ≤ q) W10 (.slice p9 l9 c9) x9) := O90.out.keep (fun q hq hlt9 => G10.out.block q hlt9 (fun e => by omega))
          clear G10 F9 S9 B9 X9 A9 b0 b1 b2 b3 b4 b5 b6 b7 b8 b9 g0 g1 g2 g3 g4 g5 g6 g7 g8 g9 O987650 O9870 O90
          obtain ⟨b0, b1, b2, b3, b4, b5, b6, b7, b8, b9⟩ := bx10 B10.out
          obtain ⟨r0, r1, r2, r3, r4, r5, r6, r7, r8, r9⟩ := bx10 X10.out
          obtain ⟨q0, q1, q2, q3, q4, q5, q6, q7, q8, q9⟩ := bz10 X10.out
          go_wp2
          generalize hW9 : World.setCell _ _ _ = W9
          have X9 : W9.heap[w.heap.size]? = some (.cells #[.int .i64 k, .string ⟨#[]⟩, .int .i64 0, .slice none 0 0, .slice p5 l5 c5, .int .i64 x3.1, .int .i64 x3.2.1, .bool x3.2.2, .slice p9 l9 c9, .slice p7 l7 c7] 29 (0, 0)) := by rw [← hW9]; exact put10 X10.out
          have F9 : Fr (fun k => k = R) w W9 := by rw [← hW9]; exact frp10 F10.out (Or.inr (Nat.le_refl _)) _ _ _ _ _ _ _ _ _ _
          have G9 : Fr (fun k => k = w.heap.size) W10 W9 := by rw [← hW9]; exact frp10 (Fr.refl (fun k => k = w.heap.size) W10) (Or.inl rfl) _ _ _ _ _ _ _ _ _ _
          clear hW9
          obtain ⟨x0, x1, x2, x3, x4, x5, x6, x7, x8, x9⟩ := bx10 X9
          refine bodyPost_ret (by simp [results, Tryz.results121, go_sem, x0, x1, x2, x3, x4, x5, x6, x7, x8, x9]; try rfl) rfl ?_
          rw [hEQ.out]
          refine ⟨_, rfl, ⟨⟨.slice none 0 0, (.slice p5 l5 c5), (.slice p9 l9 c9), (.slice p7 l7 c7)⟩, rfl, ?_⟩, A10.out.fr G9 (fun k e => by omega), F9⟩
          exact ⟨⟨⟨rfl, Or.inl ⟨rfl, rfl⟩⟩, (show (0 : Nat) ≤ 9223372036854775807 from Nat.zero_le _), fun q hq => by cases hq⟩, (O10987650.out.keep (w' := W9) (fun q hq hlt9 => G9.block q hlt9 (fun e => by omega))).mono (fun q hq _ => by omega), (O1090.out.keep (w' := W9) (fun q hq hlt9 => G9.block q hlt9 (fun e => by omega))).mono (fun q hq _ => by omega), (O109870.out.keep (w' := W9) (fun q hq hlt9 => G9.block q hlt9 (fun e => by omega))).mono (fun q hq _ => by omega)⟩
set_option maxRecDepth 100000 in
set_option maxHeartbeats 8000000 in
theorem shaped_tr (m R sz N : Nat) (ts : List (Tok Val)) (d k : Int) (hd : ByteArray) (w : World) (h : RdAt m w R sz ts) (n : Nat) (pt : List (Tok Val) → Rd Tm) (pf : List (Tok Val) → Rd Fm) (pr : List (Tok Val) → Rd Rx) (hst : Shr pt) (hsr : Shr pr) (hN : ts.length ≤ N) (hk1 : 3 ≤ k) (hk2 : k ≤ 22) (hk : shp k = ⟨false, false, false, true, 0, 1, 0, false⟩) (hhd : (⟨(if k = 3 then [] else hdF k).toArray⟩ : ByteArray) = hd)
    (HT : ∀ (kk : Nat) (rr : List (Tok Val)) (W : World), rr.length ≤ N → RdAt m W R sz rr → Calls Tryz.prog 120 #[.pointer (some ⟨R, 0, none⟩), .int .i64 ((kk : Nat) : Int), .bool false, .int .i64 d] W (RdO m R sz W (fun l v w' => TmsOwn (fun q => W.heap.size ≤ q) w' v l) (rMany pt false n kk rr)))
    (HR : ∀ (kk : Nat) (rr : List (Tok Val)) (W : World), rr.length ≤ N → RdAt m W R sz rr → Calls Tryz.prog 158 #[.pointer (some ⟨R, 0, none⟩), .int .i64 ((kk : Nat) : Int), .int .i64 d] W (RdO m R sz W (fun l v w' => RxsOwn (fun q => W.heap.size ≤ q) w' v l) (rMany pr false n kk rr)))
    (HF : ∀ (kk : Nat) (more : Bool) (rr : List (Tok Val)) (W : World), rr.length ≤ N → RdAt m W R sz rr → Calls Tryz.prog 159 #[.pointer (some ⟨R, 0, none⟩), .int .i64 ((kk : Nat) : Int), .bool more, .int .i64 d] W (RdO m R sz W (fun l v w' => FmsOwn (fun q => W.heap.size ≤ q) w' v l) (rMany pf more n kk rr))) :
    Calls Tryz.prog 121 #[.pointer (some ⟨R, 0, none⟩), .int .i64 k, .int .i64 d] w (RdO m R sz w (FmV w) (pShaped sz n pt pf pr k ts)) := by
  have hlt := h.lt
  obtain ⟨RS, hRS⟩ : ∃ x : Rd Fm, Hid (pShaped sz n pt pf pr k ts = x) := ⟨_, rfl⟩
  rw [hRS.out]
  have hEQ : Hid (RS = (rIv sz ts).bind fun iv r5 => (rMany pt false n 0 r5).bind fun tms r6 => (rMany pr false n 1 r6).bind fun rx r7 => (rMany pf false n 0 r7).bind fun fs r8 => .ok (.mk k ⟨#[]⟩ 0 [] tms iv.1 iv.2.1 iv.2.2 fs rx) r8) := by
    show _ = _
    rw [← hRS.out]
    unfold pShaped
    rw [hk]
    rfl
  have cS : Hid (∀ W : World, Calls Tryz.prog 35 #[.int .i64 k] W fun e w' => e = .returned (.agg #[.string hd, .bool false, .bool false, .bool false, .bool true, .int .i64 ((0 : Nat) : Int), .int .i64 ((1 : Nat) : Int), .int .i64 ((0 : Nat) : Int), .bool false]) ∧ Below W.heap.size W w') := fun W => by
    have q := shape_any k W hk1 hk2
    rw [hk] at q
    rw [← hhd]
    exact q
  have CT : Hid (∀ (rr : List (Tok Val)) (W : World), rr.length ≤ N → RdAt m W R sz rr → Calls Tryz.prog 120 #[.pointer (some ⟨R, 0, none⟩), .int .i64 ((0 : Nat) : Int), .bool false, .int .i64 d] W (RdO m R sz W (fun l v w' => TmsOwn (fun q => W.heap.size ≤ q) w' v l) (rMany pt false n 0 rr))) := fun rr W hl hW => HT 0 rr W hl hW
  have CR : Hid (∀ (rr : List (Tok Val)) (W : World), rr.length ≤ N → RdAt m W R sz rr → Calls Tryz.prog 158 #[.pointer (some ⟨R, 0, none⟩), .int .i64 ((1 : Nat) : Int), .int .i64 d] W (RdO m R sz W (fun l v w' => RxsOwn (fun q => W.heap.size ≤ q) w' v l) (rMany pr false n 1 rr))) := fun rr W hl hW => HR 1 rr W hl hW
  have CF : Hid (∀ (rr : List (Tok Val)) (W : World), rr.length ≤ N → RdAt m W R sz rr → Calls Tryz.prog 159 #[.pointer (some ⟨R, 0, none⟩), .int .i64 ((0 : Nat) : Int), .bool false, .int .i64 d] W (RdO m R sz W (fun l v w' => FmsOwn (fun q => W.heap.size ≤ q) w' v l) (rMany pf false n 0 rr))) := fun rr W hl hW => HF 0 false rr W hl hW
  have CI : Hid (∀ (rr : List (Tok Val)) (W : World), RdAt m W R sz rr → Calls Tryz.prog 157 #[.pointer (some ⟨R, 0, none⟩)] W (RdO m R sz W (fun iv v _ => v = .agg #[.int .i64 iv.1, .int .i64 iv.2.1, .bool iv.2.2]) (rIv sz rr))) := fun rr W hW => rival_any m R sz rr W hW
  have STm : Hid (∀ kk ts a r, rMany pt false n kk ts = .ok a r → r.length ≤ ts.length) := fun kk ts a r e => sh_many (fun ts a r e => by have := hst ts a r e; omega) false n kk ts a r e
  have SRm : Hid (∀ kk ts a r, rMany pr false n kk ts = .ok a r → r.length ≤ ts.length) := fun kk ts a r e => sh_many (fun ts a r e => by have := hsr ts a r e; omega) false n kk ts a r e
  clear hRS HT HR HF hst hsr hk hhd
  go_enter Tryz.func121, Tryz.ntmps121
  go_wp2_with fail
  refine (cS.out _).mono ?_
  rintro e w1 ⟨rfl, hb1⟩
  have z1 : w.heap.size < w1.heap.size := by have := hb1.size; simp at this; omega
  have X1 : Hid (w1.heap[w.heap.size]? = some (.cells #[.int .i64 0, .string ⟨#[]⟩, .int .i64 0, .slice none 0 0, .slice none 0 0, .int .i64 0, .int .i64 0, .bool false, .slice none 0 0, .slice none 0 0] 29 (0, 0))) := (hb1.block w.heap.size (by simp)).trans (new_box w _)
  have F1 : Hid (Fr (fun k => k = R) w w1) := Fr.of_below (((Below.refl _ _).alloc (Nat.le_refl _) _).trans (hb1.mono (by simp)))
  have A1 : Hid (RdAt m w1 R sz ts) := h.below (((Below.refl _ _).alloc (Nat.le_refl _) _).trans (hb1.mono (by simp)))
  clear hb1 cS h
  go_upto_region 2 with fail
  refine wp_world ?_
  intro W2 hW2
  have S2 : Hid (W2.heap[w1.heap.size]? = some (.cells #[.string hd, .bool false, .bool false, .bool false, .bool true, .int .i64 ((0 : Nat) : Int), .int .i64 ((1 : Nat) : Int), .int .i64 ((0 : Nat) : Int), .bool false] 82 (0, 0))) := by rw [hW2]; exact (Below.heap_alloc _ _ _ (by simp)).trans (new_box w1 _)
  have B2 : Hid (W2.heap[w1.heap.size + 1]? = some (.cells #[.int .i64 k, .string ⟨#[]⟩, .int .i64 0, .slice none 0 0, .slice none 0 0, .int .i64 0, .int .i64 0, .bool false, .slice none 0 0, .slice none 0 0] 29 (0, 0))) := by
    rw [hW2]
    have q := new_box (w1.alloc (.cells #[.string hd, .bool false, .bool false, .bool false, .bool true, .int .i64 ((0 : Nat) : Int), .int .i64 ((1 : Nat) : Int), .int .i64 ((0 : Nat) : Int), .bool false] 82)) (.cells #[.int .i64 k, .string ⟨#[]⟩, .int .i64 0, .slice none 0 0, .slice none 0 0, .int .i64 0, .int .i64 0, .bool false, .slice none 0 0, .slice none 0 0] 29)
    simp only [World.size_alloc] at q
    exact q
  have X2 : Hid (W2.heap[w.heap.size]? = some (.cells #[.int .i64 0, .string ⟨#[]⟩, .int .i64 0, .slice none 0 0, .slice none 0 0, .int .i64 0, .int .i64 0, .bool false, .slice none 0 0, .slice none 0 0] 29 (0, 0))) := by rw [hW2]; exact (((Fr.refl (fun k => k = R) w1).alloc _).alloc _).heap X1.out (fun e => by omega)
  have F2 : Hid (Fr (fun k => k = R) w W2) := by rw [hW2]; exact (F1.out.alloc _).alloc _
  have A2 : Hid (RdAt m W2 R sz ts) := by rw [hW2]; exact A1.out.below (((Below.refl w1.heap.size w1).alloc (Nat.le_refl _) _).alloc (by simp) _)
  have zz : w1.heap.size + 2 = W2.heap.size := by rw [hW2]; simp
  clear hW2 F1 A1 X1
  generalize w1.heap.size = n7 at *
  have ZN : Hid (n7 + 2 = W2.heap.size) := zz
  obtain ⟨N2, hN2⟩ : ∃ x, Hid (W2.heap.size = x) := ⟨_, rfl⟩
  have zz2 : n7 + 2 = N2 := by rw [← hN2.out]; exact ZN.out
  have y2 : N2 ≤ W2.heap.size := Nat.le_of_eq hN2.out.symm
  clear zz ZN hN2
  obtain ⟨s0, s1, s2, s3, s4, s5, s6, s7, s8⟩ := bx9 S2.out
  have K3 : Hid (Calls Tryz.prog 157 #[.pointer (some ⟨R, 0, none⟩)] W2 (RdO m R sz W2 (fun iv v _ => v = .agg #[.int .i64 iv.1, .int .i64 iv.2.1, .bool iv.2.2]) (rIv sz ts))) := CI.out ts W2 A2.out
  cases hP3 : rIv sz ts with
  | bad er a =>
    rw [hP3] at K3 hEQ
    go_wp2_with fail
    refine K3.out.mono ?_
    rintro e w9 ⟨rfl, hF9⟩
    refine ⟨rfl, ?_⟩
    rw [hEQ.out]
    exact ⟨rfl, F2.out.trans hF9 (fun k e => Or.inl e)⟩
  | ok x3 r5 =>
    rw [hP3, Rd.bind_ok] at hEQ
    rw [hP3] at K3
    have hl3 := sh_iv sz _ _ _ hP3
    clear hP3
    go_wp2_with fail
    refine K3.out.mono ?_
    rintro e w3 ⟨v3, rfl, rfl, hA9, hF9⟩
    have F3 : Hid (Fr (fun k => k = R) w w3) := F2.out.trans hF9 (fun k e => Or.inl e)
    have S3 : Hid (w3.heap[n7]? = _) := hF9.heap S2.out (fun e => by omega)
    have B3 : Hid (w3.heap[n7 + 1]? = _) := hF9.heap B2.out (fun e => by omega)
    have X3 : Hid (w3.heap[w.heap.size]? = _) := hF9.heap X2.out (fun e => by omega)
    have A3 : Hid (RdAt m w3 R sz r5) := hA9
    have y3 : N2 ≤ w3.heap.size := Nat.le_trans y2 hF9.size
    clear hF9 hA9 K3 F2 S2 B2 X2 A2 s0 s1 s2 s3 s4 s5 s6 s7 s8 
    obtain ⟨b0, b1, b2, b3, b4, b5, b6, b7, b8, b9⟩ := bx10 B3.out
    obtain ⟨g0, g1, g2, g3, g4, g5, g6, g7, g8, g9⟩ := bz10 B3.out
    go_upto_region 11 with fail
    refine wp_world ?_
    intro W4 hW4
    have G4 : Hid (Fr (fun k => k = n7 + 1) w3 W4) := by rw [hW4]; exact (((Fr.refl (fun k => k = n7 + 1) w3).setCell (p := ⟨n7 + 1, 5, none⟩) (Or.inl rfl) _).setCell (p := ⟨n7 + 1, 6, none⟩) (Or.inl rfl) _).setCell (p := ⟨n7 + 1, 7, none⟩) (Or.inl rfl) _
    have B4 : Hid (W4.heap[n7 + 1]? = some (.cells #[.int .i64 k, .string ⟨#[]⟩, .int .i64 0, .slice none 0 0, .slice none 0 0, .int .i64 x3.1, .int .i64 x3.2.1, .bool x3.2.2, .slice none 0 0, .slice none 0 0] 29 (0, 0))) := by rw [hW4]; exact (set_heap (j := 7) (set_heap (j := 6) (set_heap (j := 5) B3.out (.int .i64 x3.1)) (.int .i64 x3.2.1)) (.bool x3.2.2))
    clear hW4
    have F4 : Hid (Fr (fun k => k = R) w W4) := F3.out.trans G4.out (fun k e => Or.inr (by omega))
    have S4 : Hid (W4.heap[n7]? = _) := G4.out.heap S3.out (fun e => by omega)
    have X4 : Hid (W4.heap[w.heap.size]? = _) := G4.out.heap X3.out (fun e => by omega)
    have A4 : Hid (RdAt m W4 R sz r5) := A3.out.fr G4.out (fun k e => by omega)
    have y4 : N2 ≤ W4.heap.size := Nat.le_trans y3 G4.out.size
    clear G4 F3 S3 B3 X3 A3 b0 b1 b2 b3 b4 b5 b6 b7 b8 b9 g0 g1 g2 g3 g4 g5 g6 g7 g8 g9 
    obtain ⟨s0, s1, s2, s3, s4, s5, s6, s7, s8⟩ := bx9 S4.out
    have K5 : Hid (Calls Tryz.prog 120 #[.pointer (some ⟨R, 0, none⟩), .int .i64 ((0 : Nat) : Int), .bool false, .int .i64 d] W4 (RdO m R sz W4 (fun l v w' => TmsOwn (fun q => W4.heap.size ≤ q) w' v l) (rMany pt false n 0 r5))) := CT.out r5 W4 (by omega) A4.out
    cases hP5 : rMany pt false n 0 r5 with
    | bad er a =>
      rw [hP5] at K5 hEQ
      go_wp2_with fail
      refine K5.out.mono ?_
      rintro e w9 ⟨rfl, hF9⟩
      refine ⟨rfl, ?_⟩
      rw [hEQ.out]
      exact ⟨rfl, F4.out.trans hF9 (fun k e => Or.inl e)⟩
    | ok x5 r6 =>
      rw [hP5, Rd.bind_ok] at hEQ
      rw [hP5] at K5
      have hl5 := STm.out _ _ _ _ hP5
      clear hP5
      go_wp2_with fail
      refine K5.out.mono ?_
      rintro e w5 ⟨v5, rfl, hQ9, hA9, hF9⟩
      have O50 : Hid (TmsOwn (fun q => N2 ≤ q) w5 v5 x5) := hQ9.mono (fun q hq _ => by omega)
      obtain ⟨p5, c5, rfl, -⟩ := hQ9.at.form
      obtain ⟨l5, el5⟩ : ∃ y, Hid (x5.length = y) := ⟨_, rfl⟩
      rw [el5.out] at O50 ⊢
      clear hQ9
      have F5 : Hid (Fr (fun k => k = R) w w5) := F4.out.trans hF9 (fun k e => Or.inl e)
      have S5 : Hid (w5.heap[n7]? = _) := hF9.heap S4.out (fun e => by omega)
      have B5 : Hid (w5.heap[n7 + 1]? = _) := hF9.heap B4.out (fun e => by omega)
      have X5 : Hid (w5.heap[w.heap.size]? = _) := hF9.heap X4.out (fun e => by omega)
      have A5 : Hid (RdAt m w5 R sz r6) := hA9
      have y5 : N2 ≤ w5.heap.size := Nat.le_trans y4 hF9.size
      clear hF9 hA9 K5 F4 S4 B4 X4 A4 s0 s1 s2 s3 s4 s5 s6 s7 s8 
      obtain ⟨b0, b1, b2, b3, b4, b5, b6, b7, b8, b9⟩ := bx10 B5.out
      obtain ⟨g0, g1, g2, g3, g4, g5, g6, g7, g8, g9⟩ := bz10 B5.out
      go_upto_region 12 with fail
      refine wp_world ?_
      intro W6 hW6
      have G6 : Hid (Fr (fun k => k = n7 + 1) w5 W6) := by rw [hW6]; exact (Fr.refl (fun k => k = n7 + 1) w5).setCell (p := ⟨n7 + 1, 4, none⟩) (Or.inl rfl) _
      have B6 : Hid (W6.heap[n7 + 1]? = some (.cells #[.int .i64 k, .string ⟨#[]⟩, .int .i64 0, .slice none 0 0, .slice p5 l5 c5, .int .i64 x3.1, .int .i64 x3.2.1, .bool x3.2.2, .slice none 0 0, .slice none 0 0] 29 (0, 0))) := by rw [hW6]; exact (set_heap (j := 4) B5.out (.slice p5 l5 c5))
      clear hW6
      have F6 : Hid (Fr (fun k => k = R) w W6) := F5.out.trans G6.out (fun k e => Or.inr (by omega))
      have S6 : Hid (W6.heap[n7]? = _) := G6.out.heap S5.out (fun e => by omega)
      have X6 : Hid (W6.heap[w.heap.size]? = _) := G6.out.heap X5.out (fun e => by omega)
      have A6 : Hid (RdAt m W6 R sz r6) := A5.out.fr G6.out (fun k e => by omega)
      have y6 : N2 ≤ W6.heap.size := Nat.le_trans y5 G6.out.size
      have O650 : Hid (TmsOwn (fun q => N2 ≤ q) W6 (.slice p5 l5 c5) x5) := O50.out.keep (fun q hq hlt9 => G6.out.block q hlt9 (fun e => by omega))
      clear G6 F5 S5 B5 X5 A5 b0 b1 b2 b3 b4 b5 b6 b7 b8 b9 g0 g1 g2 g3 g4 g5 g6 g7 g8 g9 O50
      obtain ⟨s0, s1, s2, s3, s4, s5, s6, s7, s8⟩ := bx9 S6.out
      have K7 : Hid (Calls Tryz.prog 158 #[.pointer (some ⟨R, 0, none⟩), .int .i64 ((1 : Nat) : Int), .int .i64 d] W6 (RdO m R sz W6 (fun l v w' => RxsOwn (fun q => W6.heap.size ≤ q) w' v l) (rMany pr false n 1 r6))) := CR.out r6 W6 (by omega) A6.out
      cases hP7 : rMany pr false n 1 r6 with
      | bad er a =>
        rw [hP7] at K7 hEQ
        go_wp2_with fail
        refine K7.out.mono ?_
        rintro e w9 ⟨rfl, hF9⟩
        refine ⟨rfl, ?_⟩
        rw [hEQ.out]
        exact ⟨rfl, F6.out.trans hF9 (fun k e => Or.inl e)⟩
      | ok x7 r7 =>
        rw [hP7, Rd.bind_ok] at hEQ
        rw [hP7] at K7
        have hl7 := SRm.out _ _ _ _ hP7
        clear hP7
        go_wp2_with fail
        refine K7.out.mono ?_
        rintro e w7 ⟨v7, rfl, hQ9, hA9, hF9⟩
        have O70 : Hid (RxsOwn (fun q => N2 ≤ q) w7 v7 x7) := hQ9.mono (fun q hq _ => by omega)
        obtain ⟨p7, c7, rfl, -⟩ := hQ9.at.form
        obtain ⟨l7, el7⟩ : ∃ y, Hid (x7.length = y) := ⟨_, rfl⟩
        rw [el7.out] at O70 ⊢
        clear hQ9
        have F7 : Hid (Fr (fun k => k = R) w w7) := F6.out.trans hF9 (fun k e => Or.inl e)
        have S7 : Hid (w7.heap[n7]? = _) := hF9.heap S6.out (fun e => by omega)
        have B7 : Hid (w7.heap[n7 + 1]? = _) := hF9.heap B6.out (fun e => by omega)
        have X7 : Hid (w7.heap[w.heap.size]? = _) := hF9.heap X6.out (fun e => by omega)
        have A7 : Hid (RdAt m w7 R sz r7) := hA9
        have y7 : N2 ≤ w7.heap.size := Nat.le_trans y6 hF9.size
        have O7650 : Hid (TmsOwn (fun q => N2 ≤ q) w7 (.slice p5 l5 c5) x5) := O650.out.keep (fun q hq hlt9 => hF9.block q hlt9 (fun e => by omega))
        clear hF9 hA9 K7 F6 S6 B6 X6 A6 s0 s1 s2 s3 s4 s5 s6 s7 s8 O650
        obtain ⟨b0, b1, b2, b3, b4, b5, b6, b7, b8, b9⟩ := bx10 B7.out
        obtain ⟨g0, g1, g2, g3, g4, g5, g6, g7, g8, g9⟩ := bz10 B7.out
        go_upto_region 13 with fail
        refine wp_world ?_
        intro W8 hW8
        have G8 : Hid (Fr (fun k => k = n7 + 1) w7 W8) := by rw [hW8]; exact (Fr.refl (fun k => k = n7 + 1) w7).setCell (p := ⟨n7 + 1, 9, none⟩) (Or.inl rfl) _
        have B8 : Hid (W8.heap[n7 + 1]? = some (.cells #[.int .i64 k, .string ⟨#[]⟩, .int .i64 0, .slice none 0 0, .slice p5 l5 c5, .int .i64 x3.1, .int .i64 x3.2.1, .bool x3.2.2, .slice none 0 0, .slice p7 l7 c7] 29 (0, 0))) := by rw [hW8]; exact (set_heap (j := 9) B7.out (.slice p7 l7 c7))
        clear hW8
        have F8 : Hid (Fr (fun k => k = R) w W8) := F7.out.trans G8.out (fun k e => Or.inr (by omega))
        have S8 : Hid (W8.heap[n7]? = _) := G8.out.heap S7.out (fun e => by omega)
        have X8 : Hid (W8.heap[w.heap.size]? = _) := G8.out.heap X7.out (fun e => by omega)
        have A8 : Hid (RdAt m W8 R sz r7) := A7.out.fr G8.out (fun k e => by omega)
        have y8 : N2 ≤ W8.heap.size := Nat.le_trans y7 G8.out.size
        have O87650 : Hid (TmsOwn (fun q => N2 ≤ q) W8 (.slice p5 l5 c5) x5) := O7650.out.keep (fun q hq hlt9 => G8.out.block q hlt9 (fun e => by omega))
        have O870 : Hid (RxsOwn (fun q => N2 ≤ q) W8 (.slice p7 l7 c7) x7) := O70.out.keep (fun q hq hlt9 => G8.out.block q hlt9 (fun e => by omega))
        clear G8 F7 S7 B7 X7 A7 b0 b1 b2 b3 b4 b5 b6 b7 b8 b9 g0 g1 g2 g3 g4 g5 g6 g7 g8 g9 O7650 O70
        obtain ⟨s0, s1, s2, s3, s4, s5, s6, s7, s8⟩ := bx9 S8.out
        have K9 : Hid (Calls Tryz.prog 159 #[.pointer (some ⟨R, 0, none⟩), .int .i64 ((0 : Nat) : Int), .bool false, .int .i64 d] W8 (RdO m R sz W8 (fun l v w' => FmsOwn (fun q => W8.heap.size ≤ q) w' v l) (rMany pf false n 0 r7))) := CF.out r7 W8 (by omega) A8.out
        cases hP9 : rMany pf false n 0 r7 with
        | bad er a =>
          rw [hP9] at K9 hEQ
          go_wp2_with fail
          refine K9.out.mono ?_
          rintro e w9 ⟨rfl, hF9⟩
          refine ⟨rfl, ?_⟩
          rw [hEQ.out]
          exact ⟨rfl, F8.out.trans hF9 (fun k e => Or.inl e)⟩
        | ok x9 r8 =>
          rw [hP9, Rd.bind_ok] at hEQ
          rw [hP9] at K9
          clear hP9
          go_wp2_with fail
          refine K9.out.mono ?_
          rintro e w9 ⟨v9, rfl, hQ9, hA9, hF9⟩
          have O90 : Hid (FmsOwn (fun q => N2 ≤ q) w9 v9 x9) := hQ9.mono (fun q hq _ => by omega)
          obtain ⟨p9, c9, rfl, -⟩ := hQ9.at.form
          obtain ⟨l9, el9⟩ : ∃ y, Hid (x9.length = y) := ⟨_, rfl⟩
          rw [el9.out] at O90 ⊢
          clear hQ9
          have F9 : Hid (Fr (fun k => k = R) w w9) := F8.out.trans hF9 (fun k e => Or.inl e)
          have S9 : Hid (w9.heap[n7]? = _) := hF9.heap S8.out (fun e => by omega)
          have B9 : Hid (w9.heap[n7 + 1]? = _) := hF9.heap B8.out (fun e => by omega)
          have X9 : Hid (w9.heap[w.heap.size]? = _) := hF9.heap X8.out (fun e => by omega)
          have A9 : Hid (RdAt m w9 R sz r8) := hA9
          have y9 : N2 ≤ w9.heap.size := Nat.le_trans y8 hF9.size
          have O987650 : Hid (TmsOwn (fun q => N2 ≤ q) w9 (.slice p5 l5 c5) x5) := O87650.out.keep (fun q hq hlt9 => hF9.block q hlt9 (fun e => by omega))
          have O9870 : Hid (RxsOwn (fun q => N2 ≤ q) w9 (.slice p7 l7 c7) x7) := O870.out.keep (fun q hq hlt9 => hF9.block q hlt9 (fun e => by omega))
          clear hF9 hA9 K9 F8 S8 B8 X8 A8 s0 s1 s2 s3 s4 s5 s6 s7 s8 O87650 O870
          obtain ⟨b0, b1, b2, b3, b4, b5, b6, b7, b8, b9⟩ := bx10 B9.out
          obtain ⟨g0, g1, g2, g3, g4, g5, g6, g7, g8, g9⟩ := bz10 B9.out
          go_upto_region 14 with fail
          refine wp_world ?_
          intro W10 hW10
          have G10 : Hid (Fr (fun k => k = n7 + 1) w9 W10) := by rw [hW10]; exact (Fr.refl (fun k => k = n7 + 1) w9).setCell (p := ⟨n7 + 1, 8, none⟩) (Or.inl rfl) _
          have B10 : Hid (W10.heap[n7 + 1]? = some (.cells #[.int .i64 k, .string ⟨#[]⟩, .int .i64 0, .slice none 0 0, .slice p5 l5 c5, .int .i64 x3.1, .int .i64 x3.2.1, .bool x3.2.2, .slice p9 l9 c9, .slice p7 l7 c7] 29 (0, 0))) := by rw [hW10]; exact (set_heap (j := 8) B9.out (.slice p9 l9 c9))
          clear hW10
          have F10 : Hid (Fr (fun k => k = R) w W10) := F9.out.trans G10.out (fun k e => Or.inr (by omega))
          have S10 : Hid (W10.heap[n7]? = _) := G10.out.heap S9.out (fun e => by omega)
          have X10 : Hid (W10.heap[w.heap.size]? = _) := G10.out.heap X9.out (fun e => by omega)
          have A10 : Hid (RdAt m W10 R sz r8) := A9.out.fr G10.out (fun k e => by omega)
          have y10 : N2 ≤ W10.heap.size := Nat.le_trans y9 G10.out.size
          have O10987650 : Hid (TmsOwn (fun q => N2 ≤ q) W10 (.slice p5 l5 c5) x5) := O987650.out.keep (fun q hq hlt9 => G10.out.block q hlt9 (fun e => by omega))
          have O109870 : Hid (RxsOwn (fun q => N2 ≤ q) W10 (.slice p7 l7 c7) x7) := O9870.out.keep (fun q hq hlt9 => G10.out.block q hlt9 (fun e => by omega))
          have O1090 : Hid (FmsOwn (fun q => N2 ≤ q) W10 (.slice p9 l9 c9) x9) := O90.out.keep (fun q hq hlt9 => G10.out.block q hlt9 (fun e => by omega))
          clear G10 F9 S9 B9 X9 A9 b0 b1 b2 b3 b4 b5 b6 b7 b8 b9 g0 g1 g2 g3 g4 g5 g6 g7 g8 g9 O987650 O9870 O90
          obtain ⟨b0, b1, b2, b3, b4, b5, b6, b7, b8, b9⟩ := bx10 B10.out
          obtain ⟨r0, r1, r2, r3, r4, r5, r6, r7, r8, r9⟩ := bx10 X10.out
          obtain ⟨q0, q1, q2, q3, q4, q5, q6, q7, q8, q9⟩ := bz10 X10.out
          go_wp2
          generalize hW9 : World.setCell _ _ _ = W9
          have X9 : W9.heap[w.heap.size]? = some (.cells #[.int .i64 k, .string ⟨#[]⟩, .int .i64 0, .slice none 0 0, .slice p5 l5 c5, .int .i64 x3.1, .int .i64 x3.2.1, .bool x3.2.2, .slice p9 l9 c9, .slice p7 l7 c7] 29 (0, 0)) := by rw [← hW9]; exact put10 X10.out
          have F9 : Fr (fun k => k = R) w W9 := by rw [← hW9]; exact frp10 F10.out (Or.inr (Nat.le_refl _)) _ _ _ _ _ _ _ _ _ _
          have G9 : Fr (fun k => k = w.heap.size) W10 W9 := by rw [← hW9]; exact frp10 (Fr.refl (fun k => k = w.heap.size) W10) (Or.inl rfl) _ _ _ _ _ _ _ _ _ _
          clear hW9
          obtain ⟨x0, x1, x2, x3, x4, x5, x6, x7, x8, x9⟩ := bx10 X9
          refine bodyPost_ret (by simp [results, Tryz.results121, go_sem, x0, x1, x2, x3, x4, x5, x6, x7, x8, x9]; try rfl) rfl ?_
          rw [hEQ.out]
          refine ⟨_, rfl, ⟨⟨.slice none 0 0, (.slice p5 l5 c5), (.slice p9 l9 c9), (.slice p7 l7 c7)⟩, rfl, ?_⟩, A10.out.fr G9 (fun k e => by omega), F9⟩
          exact ⟨⟨⟨rfl, Or.inl ⟨rfl, rfl⟩⟩, (show (0 : Nat) ≤ 9223372036854775807 from Nat.zero_le _), fun q hq => by cases hq⟩, (O10987650.out.keep (w' := W9) (fun q hq hlt9 => G9.block q hlt9 (fun e => by omega))).mono (fun q hq _ => by omega), (O1090.out.keep (w' := W9) (fun q hq hlt9 => G9.block q hlt9 (fun e => by omega))).mono (fun q hq _ => by omega), (O109870.out.keep (w' := W9) (fun q hq hlt9 => G9.block q hlt9 (fun e => by omega))).mono (fun q hq _ => by omega)⟩
end Go.Proofs.YticnfeolbfmgfaaGreatDoor

namespace Go.Proofs.YticnfeolbfmgfaaGreatDoor
open Go.RowKit LX Go.Shelf
set_option linter.unusedVariables false

theorem nms_own9 {w : World} {N n : Nat} {v : Value} {L : List Value} {vs : List ByteArray} (h : w.ownsRow N 9 1 v n L) (hn : vs.length = n) (hL : vs.map Value.string = L) (hm : vs.length ≤ 9223372036854775807) : NmsOwn (fun q => N ≤ q) w v vs := by
  subst hL hn
  exact ⟨own_monoB h (Nat.zero_le _), hm, fun q hq => (World.ownsRow.lt h q hq).1⟩
theorem own_baseN {w : World} {e size n N : Nat} {v : Value} {L : List Value} (h : w.ownsRow 0 e size v n L) (hp : ∀ q, v.ownBlock = some q → N ≤ q) : w.ownsRow N e size v n L := by
  obtain ⟨h1, h2 | ⟨g, cap, cur, hv, hg, hh⟩⟩ := h
  · exact ⟨h1, Or.inl h2⟩
  · exact ⟨h1, Or.inr ⟨g, cap, cur, hv, hp g (by rw [hv]; rfl), hh⟩⟩
end Go.Proofs.YticnfeolbfmgfaaGreatDoor

namespace Go.Proofs.YticnfeolbfmgfaaGreatDoor
open Go.RowKit LX Go.Shelf
set_option linter.unusedVariables false

set_option maxRecDepth 100000 in
set_option maxHeartbeats 8000000 in
theorem shaped_ex (m R sz N : Nat) (ts : List (Tok Val)) (d k : Int) (hd : ByteArray) (w : World) (h : RdAt m w R sz ts) (n : Nat) (pt : List (Tok Val) → Rd Tm) (pf : List (Tok Val) → Rd Fm) (pr : List (Tok Val) → Rd Rx) (hst : Shr pt) (hsr : Shr pr) (hN : ts.length ≤ N) (hk1 : 3 ≤ k) (hk2 : k ≤ 22) (hk : shp k = ⟨false, false, true, false, 0, 0, 1, false⟩) (hhd : (⟨(if k = 3 then [] else hdF k).toArray⟩ : ByteArray) = hd)
    (HT : ∀ (kk : Nat) (rr : List (Tok Val)) (W : World), rr.length ≤ N → RdAt m W R sz rr → Calls Tryz.prog 120 #[.pointer (some ⟨R, 0, none⟩), .int .i64 ((kk : Nat) : Int), .bool false, .int .i64 d] W (RdO m R sz W (fun l v w' => TmsOwn (fun q => W.heap.size ≤ q) w' v l) (rMany pt false n kk rr)))
    (HR : ∀ (kk : Nat) (rr : List (Tok Val)) (W : World), rr.length ≤ N → RdAt m W R sz rr → Calls Tryz.prog 158 #[.pointer (some ⟨R, 0, none⟩), .int .i64 ((kk : Nat) : Int), .int .i64 d] W (RdO m R sz W (fun l v w' => RxsOwn (fun q => W.heap.size ≤ q) w' v l) (rMany pr false n kk rr)))
    (HF : ∀ (kk : Nat) (more : Bool) (rr : List (Tok Val)) (W : World), rr.length ≤ N → RdAt m W R sz rr → Calls Tryz.prog 159 #[.pointer (some ⟨R, 0, none⟩), .int .i64 ((kk : Nat) : Int), .bool more, .int .i64 d] W (RdO m R sz W (fun l v w' => FmsOwn (fun q => W.heap.size ≤ q) w' v l) (rMany pf more n kk rr))) :
    Calls Tryz.prog 121 #[.pointer (some ⟨R, 0, none⟩), .int .i64 k, .int .i64 d] w (RdO m R sz w (FmV w) (pShaped sz n pt pf pr k ts)) := by
  have hlt := h.lt
  obtain ⟨RS, hRS⟩ : ∃ x : Rd Fm, Hid (pShaped sz n pt pf pr k ts = x) := ⟨_, rfl⟩
  rw [hRS.out]
  have hEQ : Hid (RS = (rList sz ts).bind fun vs r4 => (rMany pt false n 0 r4).bind fun tms r6 => (rMany pr false n 0 r6).bind fun rx r7 => (rMany pf false n 1 r7).bind fun fs r8 => .ok (.mk k ⟨#[]⟩ 0 ([] ++ vs) tms 0 0 false fs rx) r8) := by
    show _ = _
    rw [← hRS.out]
    unfold pShaped
    rw [hk]
    rfl
  have cS : Hid (∀ W : World, Calls Tryz.prog 35 #[.int .i64 k] W fun e w' => e = .returned (.agg #[.string hd, .bool false, .bool false, .bool true, .bool false, .int .i64 ((0 : Nat) : Int), .int .i64 ((0 : Nat) : Int), .int .i64 ((1 : Nat) : Int), .bool false]) ∧ Below W.heap.size W w') := fun W => by
    have q := shape_any k W hk1 hk2
    rw [hk] at q
    rw [← hhd]
    exact q
  have CT : Hid (∀ (rr : List (Tok Val)) (W : World), rr.length ≤ N → RdAt m W R sz rr → Calls Tryz.prog 120 #[.pointer (some ⟨R, 0, none⟩), .int .i64 ((0 : Nat) : Int), .bool false, .int .i64 d] W (RdO m R sz W (fun l v w' => TmsOwn (fun q => W.heap.size ≤ q) w' v l) (rMany pt false n 0 rr))) := fun rr W hl hW => HT 0 rr W hl hW
  have CR : Hid (∀ (rr : List (Tok Val)) (W : World), rr.length ≤ N → RdAt m W R sz rr → Calls Tryz.prog 158 #[.pointer (some ⟨R, 0, none⟩), .int .i64 ((0 : Nat) : Int), .int .i64 d] W (RdO m R sz W (fun l v w' => RxsOwn (fun q => W.heap.size ≤ q) w' v l) (rMany pr false n 0 rr))) := fun rr W hl hW => HR 0 rr W hl hW
  have CF : Hid (∀ (rr : List (Tok Val)) (W : World), rr.length ≤ N → RdAt m W R sz rr → Calls Tryz.prog 159 #[.pointer (some ⟨R, 0, none⟩), .int .i64 ((1 : Nat) : Int), .bool false, .int .i64 d] W (RdO m R sz W (fun l v w' => FmsOwn (fun q => W.heap.size ≤ q) w' v l) (rMany pf false n 1 rr))) := fun rr W hl hW => HF 1 false rr W hl hW
  have CI : Hid (∀ (rr : List (Tok Val)) (W : World), RdAt m W R sz rr → Calls Tryz.prog 157 #[.pointer (some ⟨R, 0, none⟩)] W (RdO m R sz W (fun iv v _ => v = .agg #[.int .i64 iv.1, .int .i64 iv.2.1, .bool iv.2.2]) (rIv sz rr))) := fun rr W hW => rival_any m R sz rr W hW
  have STm : Hid (∀ kk ts a r, rMany pt false n kk ts = .ok a r → r.length ≤ ts.length) := fun kk ts a r e => sh_many (fun ts a r e => by have := hst ts a r e; omega) false n kk ts a r e
  have SRm : Hid (∀ kk ts a r, rMany pr false n kk ts = .ok a r → r.length ≤ ts.length) := fun kk ts a r e => sh_many (fun ts a r e => by have := hsr ts a r e; omega) false n kk ts a r e
  have CN : Hid (∀ (rr : List (Tok Val)) (W : World), RdAt m W R sz rr → Calls Tryz.prog 154 #[.pointer (some ⟨R, 0, none⟩)] W (RdO m R sz W (fun x v _ => v = .string x) (rName sz rr))) := fun rr W hW => rdname_any m R sz rr W hW
  have CO : Hid (∀ (rr : List (Tok Val)) (W : World), RdAt m W R sz rr → Calls Tryz.prog 155 #[.pointer (some ⟨R, 0, none⟩)] W (RdO m R sz W (fun k v _ => v = .int .i64 k) (rOp sz rr))) := fun rr W hW => roper_any m R sz rr W hW
  have CL : Hid (∀ (rr : List (Tok Val)) (W : World), RdAt m W R sz rr → Calls Tryz.prog 156 #[.pointer (some ⟨R, 0, none⟩)] W (RdO m R sz W (fun l v w' => OwnN W.heap.size v l w') (rList sz rr))) := fun rr W hW => rdnames_any m R sz rr W hW
  obtain ⟨i0, hi, hz0, hz1, hz2⟩ := info_parts inStA
  clear hRS HT HR HF hst hsr hk hhd
  go_enter Tryz.func121, Tryz.ntmps121
  go_wp2_with fail
  refine (cS.out _).mono ?_
  rintro e w1 ⟨rfl, hb1⟩
  have z1 : w.heap.size < w1.heap.size := by have := hb1.size; simp at this; omega
  have X1 : Hid (w1.heap[w.heap.size]? = some (.cells #[.int .i64 0, .string ⟨#[]⟩, .int .i64 0, .slice none 0 0, .slice none 0 0, .int .i64 0, .int .i64 0, .bool false, .slice none 0 0, .slice none 0 0] 29 (0, 0))) := (hb1.block w.heap.size (by simp)).trans (new_box w _)
  have F1 : Hid (Fr (fun k => k = R) w w1) := Fr.of_below (((Below.refl _ _).alloc (Nat.le_refl _) _).trans (hb1.mono (by simp)))
  have A1 : Hid (RdAt m w1 R sz ts) := h.below (((Below.refl _ _).alloc (Nat.le_refl _) _).trans (hb1.mono (by simp)))
  clear hb1 cS h
  go_upto_region 2 with fail
  refine wp_world ?_
  intro W2 hW2
  have S2 : Hid (W2.heap[w1.heap.size]? = some (.cells #[.string hd, .bool false, .bool false, .bool true, .bool false, .int .i64 ((0 : Nat) : Int), .int .i64 ((0 : Nat) : Int), .int .i64 ((1 : Nat) : Int), .bool false] 82 (0, 0))) := by rw [hW2]; exact (Below.heap_alloc _ _ _ (by simp)).trans (new_box w1 _)
  have B2 : Hid (W2.heap[w1.heap.size + 1]? = some (.cells #[.int .i64 k, .string ⟨#[]⟩, .int .i64 0, .slice none 0 0, .slice none 0 0, .int .i64 0, .int .i64 0, .bool false, .slice none 0 0, .slice none 0 0] 29 (0, 0))) := by
    rw [hW2]
    have q := new_box (w1.alloc (.cells #[.string hd, .bool false, .bool false, .bool true, .bool false, .int .i64 ((0 : Nat) : Int), .int .i64 ((0 : Nat) : Int), .int .i64 ((1 : Nat) : Int), .bool false] 82)) (.cells #[.int .i64 k, .string ⟨#[]⟩, .int .i64 0, .slice none 0 0, .slice none 0 0, .int .i64 0, .int .i64 0, .bool false, .slice none 0 0, .slice none 0 0] 29)
    simp only [World.size_alloc] at q
    exact q
  have X2 : Hid (W2.heap[w.heap.size]? = some (.cells #[.int .i64 0, .string ⟨#[]⟩, .int .i64 0, .slice none 0 0, .slice none 0 0, .int .i64 0, .int .i64 0, .bool false, .slice none 0 0, .slice none 0 0] 29 (0, 0))) := by rw [hW2]; exact (((Fr.refl (fun k => k = R) w1).alloc _).alloc _).heap X1.out (fun e => by omega)
  have F2 : Hid (Fr (fun k => k = R) w W2) := by rw [hW2]; exact (F1.out.alloc _).alloc _
  have A2 : Hid (RdAt m W2 R sz ts) := by rw [hW2]; exact A1.out.below (((Below.refl w1.heap.size w1).alloc (Nat.le_refl _) _).alloc (by simp) _)
  have zz : w1.heap.size + 2 = W2.heap.size := by rw [hW2]; simp
  clear hW2 F1 A1 X1
  generalize w1.heap.size = n7 at *
  have ZN : Hid (n7 + 2 = W2.heap.size) := zz
  obtain ⟨N2, hN2⟩ : ∃ x, Hid (W2.heap.size = x) := ⟨_, rfl⟩
  have zz2 : n7 + 2 = N2 := by rw [← hN2.out]; exact ZN.out
  have y2 : N2 ≤ W2.heap.size := Nat.le_of_eq hN2.out.symm
  clear zz ZN hN2
  obtain ⟨s0, s1, s2, s3, s4, s5, s6, s7, s8⟩ := bx9 S2.out
  obtain ⟨b0, b1, b2, b3, b4, b5, b6, b7, b8, b9⟩ := bx10 B2.out
  obtain ⟨g0, g1, g2, g3, g4, g5, g6, g7, g8, g9⟩ := bz10 B2.out
  have K13 : Hid (∀ W : World, Below W2.heap.size W2 W → Calls Tryz.prog 156 #[.pointer (some ⟨R, 0, none⟩)] W (RdO m R sz W (fun l v w' => OwnN W.heap.size v l w') (rList sz ts))) := fun W hW => CL.out ts W (A2.out.below hW)
  have hPc : Hid ((∃ er a, rList sz ts = .bad er a) ∨ ∃ x r, rList sz ts = .ok x r) := by
    cases hq : rList sz ts with
    | bad er a => exact Or.inl ⟨er, a, rfl⟩
    | ok x r => exact Or.inr ⟨x, r, rfl⟩
  have hy13 : N2 ≤ W2.heap.size := y2
  go_upto_region 8 with fail
  go_region_law (first | (go_simp; go_at_call 156; refine (K13.out _ (by go_grown)).mono ?_; intro e w13 q; rcases hPc.out with ⟨er, a, hP⟩ | ⟨x13, r4, hP⟩; (· (rw [hP] at q; obtain ⟨rfl, hF9⟩ := q; refine ⟨rfl, ?_⟩; rw [hEQ.out, hP]; exact ⟨rfl, (F2.out.drew).trans hF9 (fun k e => Or.inl e)⟩)); rw [hP] at q; obtain ⟨v9, rfl, hO9, hA9, hF9⟩ := q; obtain ⟨p9, c9, rfl, -⟩ := hO9.cap; have hxl := list_few A2.out.many hP; have z9 : N2 ≤ w13.heap.size := Nat.le_trans hy13 hF9.size; have B9 : Hid (w13.heap[n7 + 1]? = some (.cells #[.int .i64 k, .string ⟨#[]⟩, .int .i64 0, .slice none 0 0, .slice none 0 0, .int .i64 0, .int .i64 0, .bool false, .slice none 0 0, .slice none 0 0] 29 (0, 0))) := hF9.heap (show W2.drew.heap[n7 + 1]? = _ from B2.out) (fun e => by omega); have b39 := (bx10 B9.out).2.2.2.1; have h71 : n7 + 1 < w13.heap.size := (by omega)) | (refine step_append_srcQ rfl (.tmp 33) (.tmp 35) 22 rfl N2 9 i0 (.string ByteArray.empty) 1 16 Tryz.underlying22 hi hz0 hz1 hz2 rfl (by decide) (.slice none 0 0) 0 [] (by simp [Act.eval]) ⟨rfl, Or.inl ⟨rfl, rfl⟩⟩ (.slice p9 x13.length c9) x13.length (x13.map Value.string) (by simp [Act.eval]) (src_names hO9) (by intro u hu; obtain ⟨s, -, rfl⟩ := List.mem_map.1 hu; rfl) (by unfold maxLen; omega) (by omega) (by omega) (fun v' w9 h2 h3 => ?_); have G9 : Hid (Fr (fun _ => False) w13 w9) := (Fr.refl (fun _ => False) w13).grown h3 (fun k e => by cases e); have C9 : Hid (w9.heap[n7 + 1]? = some (.cells #[.int .i64 k, .string ⟨#[]⟩, .int .i64 0, .slice none 0 0, .slice none 0 0, .int .i64 0, .int .i64 0, .bool false, .slice none 0 0, .slice none 0 0] 29 (0, 0))) := G9.out.heap B9.out (fun q => q); have O9 : Hid (w9.ownsRow N2 9 1 v' x13.length (x13.map Value.string)) := (by have q := h2; unfold Hid; simpa using q); obtain ⟨pv13, cv13, rfl⟩ := row_form O9.out; have b49 := (bx10 C9.out).2.2.2.1; have f49 := (bz10 C9.out).2.2.2.1; clear h2 h3))
  all_goals (
    rw [hP, Rd.bind_ok] at hEQ
    have hl13 := sh_list sz _ _ _ hP
    have S9 : Hid (w9.heap[n7]? = _) := G9.out.heap (hF9.heap (show W2.drew.heap[n7]? = _ from S2.out) (fun e => by omega)) (fun q => q)
    have X9 : Hid (w9.heap[w.heap.size]? = _) := G9.out.heap (hF9.heap (show W2.drew.heap[w.heap.size]? = _ from X2.out) (fun e => by omega)) (fun q => q)
    have F9 : Hid (Fr (fun k => k = R) w w9) := ((F2.out.drew).trans hF9 (fun k e => Or.inl e)).trans G9.out (fun k q => q.elim)
    have A9 : Hid (RdAt m w9 R sz r4) := hA9.fr G9.out (fun k q => q.elim)
    have y9 : N2 ≤ w9.heap.size := Nat.le_trans z9 G9.out.size
    have M9 : Hid (NmsOwn (fun q => N2 ≤ q) w9 (.slice pv13 x13.length cv13) x13) := nms_own9 O9.out (by first | rfl | (simp; done) | (simp; omega)) (by first | rfl | simp) (by first | omega | (simp; done) | (simp; omega))
    clear hP hPc K13 S2 X2 F2 A2 B2 B9 hF9 hA9 O9 G9 b0 b1 b2 b3 b4 b5 b6 b7 b8 b9 g0 g1 g2 g3 g4 g5 g6 g7 g8 g9 s0 s1 s2 s3 s4 s5 s6 s7 s8 b39  hO9
    go_upto_region 9 with fail
    refine wp_world ?_
    intro W14 hW14
    have G14 : Hid (Fr (fun k => k = n7 + 1) w9 W14) := by rw [hW14]; exact (Fr.refl (fun k => k = n7 + 1) w9).setCell (p := ⟨n7 + 1, 3, none⟩) (Or.inl rfl) _
    have B14 : Hid (W14.heap[n7 + 1]? = some (.cells #[.int .i64 k, .string ⟨#[]⟩, .int .i64 0, .slice pv13 x13.length cv13, .slice none 0 0, .int .i64 0, .int .i64 0, .bool false, .slice none 0 0, .slice none 0 0] 29 (0, 0))) := by rw [hW14]; exact set_heap (j := 3) C9.out (.slice pv13 x13.length cv13)
    clear hW14
    have F14 : Hid (Fr (fun k => k = R) w W14) := F9.out.trans G14.out (fun k e => Or.inr (by omega))
    have S14 : Hid (W14.heap[n7]? = _) := G14.out.heap S9.out (fun e => by omega)
    have X14 : Hid (W14.heap[w.heap.size]? = _) := G14.out.heap X9.out (fun e => by omega)
    have A14 : Hid (RdAt m W14 R sz r4) := A9.out.fr G14.out (fun k e => by omega)
    have y14 : N2 ≤ W14.heap.size := Nat.le_trans y9 G14.out.size
    have M14 : Hid (NmsOwn (fun q => N2 ≤ q) W14 (.slice pv13 x13.length cv13) x13) := M9.out.keep (fun q hq hlt9 => G14.out.block q hlt9 (fun e => by omega))
    clear S9 X9 F9 A9 M9 C9 b49 f49 G14 y9 z9
    obtain ⟨s0, s1, s2, s3, s4, s5, s6, s7, s8⟩ := bx9 S14.out
    have K15 : Hid (Calls Tryz.prog 120 #[.pointer (some ⟨R, 0, none⟩), .int .i64 ((0 : Nat) : Int), .bool false, .int .i64 d] W14 (RdO m R sz W14 (fun l v w' => TmsOwn (fun q => W14.heap.size ≤ q) w' v l) (rMany pt false n 0 r4))) := CT.out r4 W14 (by omega) A14.out
    cases hP15 : rMany pt false n 0 r4 with
    | bad er a =>
      rw [hP15] at K15 hEQ
      go_wp2_with fail
      refine K15.out.mono ?_
      rintro e w9 ⟨rfl, hF9⟩
      refine ⟨rfl, ?_⟩
      rw [hEQ.out]
      exact ⟨rfl, F14.out.trans hF9 (fun k e => Or.inl e)⟩
    | ok x15 r6 =>
      rw [hP15, Rd.bind_ok] at hEQ
      rw [hP15] at K15
      have hl15 := STm.out _ _ _ _ hP15
      clear hP15
      go_wp2_with fail
      refine K15.out.mono ?_
      rintro e w15 ⟨v15, rfl, hQ9, hA9, hF9⟩
      have O150 : Hid (TmsOwn (fun q => N2 ≤ q) w15 v15 x15) := hQ9.mono (fun q hq _ => by omega)
      obtain ⟨p15, c15, rfl, -⟩ := hQ9.at.form
      obtain ⟨l15, el15⟩ : ∃ y, Hid (x15.length = y) := ⟨_, rfl⟩
      rw [el15.out] at O150 ⊢
      clear hQ9
      have F15 : Hid (Fr (fun k => k = R) w w15) := F14.out.trans hF9 (fun k e => Or.inl e)
      have S15 : Hid (w15.heap[n7]? = _) := hF9.heap S14.out (fun e => by omega)
      have B15 : Hid (w15.heap[n7 + 1]? = _) := hF9.heap B14.out (fun e => by omega)
      have X15 : Hid (w15.heap[w.heap.size]? = _) := hF9.heap X14.out (fun e => by omega)
      have A15 : Hid (RdAt m w15 R sz r6) := hA9
      have y15 : N2 ≤ w15.heap.size := Nat.le_trans y14 hF9.size
      have M1514 : Hid (NmsOwn (fun q => N2 ≤ q) w15 (.slice pv13 x13.length cv13) x13) := M14.out.keep (fun q hq hlt9 => hF9.block q hlt9 (fun e => by omega))
      clear hF9 hA9 K15 F14 S14 B14 X14 A14 s0 s1 s2 s3 s4 s5 s6 s7 s8 M14
      obtain ⟨b0, b1, b2, b3, b4, b5, b6, b7, b8, b9⟩ := bx10 B15.out
      obtain ⟨g0, g1, g2, g3, g4, g5, g6, g7, g8, g9⟩ := bz10 B15.out
      go_upto_region 12 with fail
      refine wp_world ?_
      intro W16 hW16
      have G16 : Hid (Fr (fun k => k = n7 + 1) w15 W16) := by rw [hW16]; exact (Fr.refl (fun k => k = n7 + 1) w15).setCell (p := ⟨n7 + 1, 4, none⟩) (Or.inl rfl) _
      have B16 : Hid (W16.heap[n7 + 1]? = some (.cells #[.int .i64 k, .string ⟨#[]⟩, .int .i64 0, .slice pv13 x13.length cv13, .slice p15 l15 c15, .int .i64 0, .int .i64 0, .bool false, .slice none 0 0, .slice none 0 0] 29 (0, 0))) := by rw [hW16]; exact (set_heap (j := 4) B15.out (.slice p15 l15 c15))
      clear hW16
      have F16 : Hid (Fr (fun k => k = R) w W16) := F15.out.trans G16.out (fun k e => Or.inr (by omega))
      have S16 : Hid (W16.heap[n7]? = _) := G16.out.heap S15.out (fun e => by omega)
      have X16 : Hid (W16.heap[w.heap.size]? = _) := G16.out.heap X15.out (fun e => by omega)
      have A16 : Hid (RdAt m W16 R sz r6) := A15.out.fr G16.out (fun k e => by omega)
      have y16 : N2 ≤ W16.heap.size := Nat.le_trans y15 G16.out.size
      have M161514 : Hid (NmsOwn (fun q => N2 ≤ q) W16 (.slice pv13 x13.length cv13) x13) := M1514.out.keep (fun q hq hlt9 => G16.out.block q hlt9 (fun e => by omega))
      have O16150 : Hid (TmsOwn (fun q => N2 ≤ q) W16 (.slice p15 l15 c15) x15) := O150.out.keep (fun q hq hlt9 => G16.out.block q hlt9 (fun e => by omega))
      clear G16 F15 S15 B15 X15 A15 b0 b1 b2 b3 b4 b5 b6 b7 b8 b9 g0 g1 g2 g3 g4 g5 g6 g7 g8 g9 M1514 O150
      obtain ⟨s0, s1, s2, s3, s4, s5, s6, s7, s8⟩ := bx9 S16.out
      have K17 : Hid (Calls Tryz.prog 158 #[.pointer (some ⟨R, 0, none⟩), .int .i64 ((0 : Nat) : Int), .int .i64 d] W16 (RdO m R sz W16 (fun l v w' => RxsOwn (fun q => W16.heap.size ≤ q) w' v l) (rMany pr false n 0 r6))) := CR.out r6 W16 (by omega) A16.out
      cases hP17 : rMany pr false n 0 r6 with
      | bad er a =>
        rw [hP17] at K17 hEQ
        go_wp2_with fail
        refine K17.out.mono ?_
        rintro e w9 ⟨rfl, hF9⟩
        refine ⟨rfl, ?_⟩
        rw [hEQ.out]
        exact ⟨rfl, F16.out.trans hF9 (fun k e => Or.inl e)⟩
      | ok x17 r7 =>
        rw [hP17, Rd.bind_ok] at hEQ
        rw [hP17] at K17
        have hl17 := SRm.out _ _ _ _ hP17
        clear hP17
        go_wp2_with fail
        refine K17.out.mono ?_
        rintro e w17 ⟨v17, rfl, hQ9, hA9, hF9⟩
        have O170 : Hid (RxsOwn (fun q => N2 ≤ q) w17 v17 x17) := hQ9.mono (fun q hq _ => by omega)
        obtain ⟨p17, c17, rfl, -⟩ := hQ9.at.form
        obtain ⟨l17, el17⟩ : ∃ y, Hid (x17.length = y) := ⟨_, rfl⟩
        rw [el17.out] at O170 ⊢
        clear hQ9
        have F17 : Hid (Fr (fun k => k = R) w w17) := F16.out.trans hF9 (fun k e => Or.inl e)
        have S17 : Hid (w17.heap[n7]? = _) := hF9.heap S16.out (fun e => by omega)
        have B17 : Hid (w17.heap[n7 + 1]? = _) := hF9.heap B16.out (fun e => by omega)
        have X17 : Hid (w17.heap[w.heap.size]? = _) := hF9.heap X16.out (fun e => by omega)
        have A17 : Hid (RdAt m w17 R sz r7) := hA9
        have y17 : N2 ≤ w17.heap.size := Nat.le_trans y16 hF9.size
        have M17161514 : Hid (NmsOwn (fun q => N2 ≤ q) w17 (.slice pv13 x13.length cv13) x13) := M161514.out.keep (fun q hq hlt9 => hF9.block q hlt9 (fun e => by omega))
        have O1716150 : Hid (TmsOwn (fun q => N2 ≤ q) w17 (.slice p15 l15 c15) x15) := O16150.out.keep (fun q hq hlt9 => hF9.block q hlt9 (fun e => by omega))
        clear hF9 hA9 K17 F16 S16 B16 X16 A16 s0 s1 s2 s3 s4 s5 s6 s7 s8 M161514 O16150
        obtain ⟨b0, b1, b2, b3, b4, b5, b6, b7, b8, b9⟩ := bx10 B17.out
        obtain ⟨g0, g1, g2, g3, g4, g5, g6, g7, g8, g9⟩ := bz10 B17.out
        go_upto_region 13 with fail
        refine wp_world ?_
        intro W18 hW18
        have G18 : Hid (Fr (fun k => k = n7 + 1) w17 W18) := by rw [hW18]; exact (Fr.refl (fun k => k = n7 + 1) w17).setCell (p := ⟨n7 + 1, 9, none⟩) (Or.inl rfl) _
        have B18 : Hid (W18.heap[n7 + 1]? = some (.cells #[.int .i64 k, .string ⟨#[]⟩, .int .i64 0, .slice pv13 x13.length cv13, .slice p15 l15 c15, .int .i64 0, .int .i64 0, .bool false, .slice none 0 0, .slice p17 l17 c17] 29 (0, 0))) := by rw [hW18]; exact (set_heap (j := 9) B17.out (.slice p17 l17 c17))
        clear hW18
        have F18 : Hid (Fr (fun k => k = R) w W18) := F17.out.trans G18.out (fun k e => Or.inr (by omega))
        have S18 : Hid (W18.heap[n7]? = _) := G18.out.heap S17.out (fun e => by omega)
        have X18 : Hid (W18.heap[w.heap.size]? = _) := G18.out.heap X17.out (fun e => by omega)
        have A18 : Hid (RdAt m W18 R sz r7) := A17.out.fr G18.out (fun k e => by omega)
        have y18 : N2 ≤ W18.heap.size := Nat.le_trans y17 G18.out.size
        have M1817161514 : Hid (NmsOwn (fun q => N2 ≤ q) W18 (.slice pv13 x13.length cv13) x13) := M17161514.out.keep (fun q hq hlt9 => G18.out.block q hlt9 (fun e => by omega))
        have O181716150 : Hid (TmsOwn (fun q => N2 ≤ q) W18 (.slice p15 l15 c15) x15) := O1716150.out.keep (fun q hq hlt9 => G18.out.block q hlt9 (fun e => by omega))
        have O18170 : Hid (RxsOwn (fun q => N2 ≤ q) W18 (.slice p17 l17 c17) x17) := O170.out.keep (fun q hq hlt9 => G18.out.block q hlt9 (fun e => by omega))
        clear G18 F17 S17 B17 X17 A17 b0 b1 b2 b3 b4 b5 b6 b7 b8 b9 g0 g1 g2 g3 g4 g5 g6 g7 g8 g9 M17161514 O1716150 O170
        obtain ⟨s0, s1, s2, s3, s4, s5, s6, s7, s8⟩ := bx9 S18.out
        have K19 : Hid (Calls Tryz.prog 159 #[.pointer (some ⟨R, 0, none⟩), .int .i64 ((1 : Nat) : Int), .bool false, .int .i64 d] W18 (RdO m R sz W18 (fun l v w' => FmsOwn (fun q => W18.heap.size ≤ q) w' v l) (rMany pf false n 1 r7))) := CF.out r7 W18 (by omega) A18.out
        cases hP19 : rMany pf false n 1 r7 with
        | bad er a =>
          rw [hP19] at K19 hEQ
          go_wp2_with fail
          refine K19.out.mono ?_
          rintro e w9 ⟨rfl, hF9⟩
          refine ⟨rfl, ?_⟩
          rw [hEQ.out]
          exact ⟨rfl, F18.out.trans hF9 (fun k e => Or.inl e)⟩
        | ok x19 r8 =>
          rw [hP19, Rd.bind_ok] at hEQ
          rw [hP19] at K19
          clear hP19
          go_wp2_with fail
          refine K19.out.mono ?_
          rintro e w19 ⟨v19, rfl, hQ9, hA9, hF9⟩
          have O190 : Hid (FmsOwn (fun q => N2 ≤ q) w19 v19 x19) := hQ9.mono (fun q hq _ => by omega)
          obtain ⟨p19, c19, rfl, -⟩ := hQ9.at.form
          obtain ⟨l19, el19⟩ : ∃ y, Hid (x19.length = y) := ⟨_, rfl⟩
          rw [el19.out] at O190 ⊢
          clear hQ9
          have F19 : Hid (Fr (fun k => k = R) w w19) := F18.out.trans hF9 (fun k e => Or.inl e)
          have S19 : Hid (w19.heap[n7]? = _) := hF9.heap S18.out (fun e => by omega)
          have B19 : Hid (w19.heap[n7 + 1]? = _) := hF9.heap B18.out (fun e => by omega)
          have X19 : Hid (w19.heap[w.heap.size]? = _) := hF9.heap X18.out (fun e => by omega)
          have A19 : Hid (RdAt m w19 R sz r8) := hA9
          have y19 : N2 ≤ w19.heap.size := Nat.le_trans y18 hF9.size
          have M191817161514 : Hid (NmsOwn (fun q => N2 ≤ q) w19 (.slice pv13 x13.length cv13) x13) := M1817161514.out.keep (fun q hq hlt9 => hF9.block q hlt9 (fun e => by omega))
          have O19181716150 : Hid (TmsOwn (fun q => N2 ≤ q) w19 (.slice p15 l15 c15) x15) := O181716150.out.keep (fun q hq hlt9 => hF9.block q hlt9 (fun e => by omega))
          have O1918170 : Hid (RxsOwn (fun q => N2 ≤ q) w19 (.slice p17 l17 c17) x17) := O18170.out.keep (fun q hq hlt9 => hF9.block q hlt9 (fun e => by omega))
          clear hF9 hA9 K19 F18 S18 B18 X18 A18 s0 s1 s2 s3 s4 s5 s6 s7 s8 M1817161514 O181716150 O18170
          obtain ⟨b0, b1, b2, b3, b4, b5, b6, b7, b8, b9⟩ := bx10 B19.out
          obtain ⟨g0, g1, g2, g3, g4, g5, g6, g7, g8, g9⟩ := bz10 B19.out
          go_upto_region 14 with fail
          refine wp_world ?_
          intro W20 hW20
          have G20 : Hid (Fr (fun k => k = n7 + 1) w19 W20) := by rw [hW20]; exact (Fr.refl (fun k => k = n7 + 1) w19).setCell (p := ⟨n7 + 1, 8, none⟩) (Or.inl rfl) _
          have B20 : Hid (W20.heap[n7 + 1]? = some (.cells #[.int .i64 k, .string ⟨#[]⟩, .int .i64 0, .slice pv13 x13.length cv13, .slice p15 l15 c15, .int .i64 0, .int .i64 0, .bool false, .slice p19 l19 c19, .slice p17 l17 c17] 29 (0, 0))) := by rw [hW20]; exact (set_heap (j := 8) B19.out (.slice p19 l19 c19))
          clear hW20
          have F20 : Hid (Fr (fun k => k = R) w W20) := F19.out.trans G20.out (fun k e => Or.inr (by omega))
          have S20 : Hid (W20.heap[n7]? = _) := G20.out.heap S19.out (fun e => by omega)
          have X20 : Hid (W20.heap[w.heap.size]? = _) := G20.out.heap X19.out (fun e => by omega)
          have A20 : Hid (RdAt m W20 R sz r8) := A19.out.fr G20.out (fun k e => by omega)
          have y20 : N2 ≤ W20.heap.size := Nat.le_trans y19 G20.out.size
          have M20191817161514 : Hid (NmsOwn (fun q => N2 ≤ q) W20 (.slice pv13 x13.length cv13) x13) := M191817161514.out.keep (fun q hq hlt9 => G20.out.block q hlt9 (fun e => by omega))
          have O2019181716150 : Hid (TmsOwn (fun q => N2 ≤ q) W20 (.slice p15 l15 c15) x15) := O19181716150.out.keep (fun q hq hlt9 => G20.out.block q hlt9 (fun e => by omega))
          have O201918170 : Hid (RxsOwn (fun q => N2 ≤ q) W20 (.slice p17 l17 c17) x17) := O1918170.out.keep (fun q hq hlt9 => G20.out.block q hlt9 (fun e => by omega))
          have O20190 : Hid (FmsOwn (fun q => N2 ≤ q) W20 (.slice p19 l19 c19) x19) := O190.out.keep (fun q hq hlt9 => G20.out.block q hlt9 (fun e => by omega))
          clear G20 F19 S19 B19 X19 A19 b0 b1 b2 b3 b4 b5 b6 b7 b8 b9 g0 g1 g2 g3 g4 g5 g6 g7 g8 g9 M191817161514 O19181716150 O1918170 O190
          obtain ⟨b0, b1, b2, b3, b4, b5, b6, b7, b8, b9⟩ := bx10 B20.out
          obtain ⟨r0, r1, r2, r3, r4, r5, r6, r7, r8, r9⟩ := bx10 X20.out
          obtain ⟨q0, q1, q2, q3, q4, q5, q6, q7, q8, q9⟩ := bz10 X20.out
          go_wp2
          generalize hW9 : World.setCell _ _ _ = W9
          have X9 : W9.heap[w.heap.size]? = some (.cells #[.int .i64 k, .string ⟨#[]⟩, .int .i64 0, .slice pv13 x13.length cv13, .slice p15 l15 c15, .int .i64 0, .int .i64 0, .bool false, .slice p19 l19 c19, .slice p17 l17 c17] 29 (0, 0)) := by rw [← hW9]; exact put10 X20.out
          have F9 : Fr (fun k => k = R) w W9 := by rw [← hW9]; exact frp10 F20.out (Or.inr (Nat.le_refl _)) _ _ _ _ _ _ _ _ _ _
          have G9 : Fr (fun k => k = w.heap.size) W20 W9 := by rw [← hW9]; exact frp10 (Fr.refl (fun k => k = w.heap.size) W20) (Or.inl rfl) _ _ _ _ _ _ _ _ _ _
          clear hW9
          obtain ⟨oc0, oc1, oc2, oc3, oc4, oc5, oc6, oc7, oc8, oc9⟩ := bx10 X9
          refine bodyPost_ret (by simp [results, Tryz.results121, go_sem, oc0, oc1, oc2, oc3, oc4, oc5, oc6, oc7, oc8, oc9]; try rfl) rfl ?_
          rw [hEQ.out]
          exact ⟨_, rfl, ⟨⟨(.slice pv13 x13.length cv13), (.slice p15 l15 c15), (.slice p19 l19 c19), (.slice p17 l17 c17)⟩, rfl, ⟨(M20191817161514.out.keep (w' := W9) (fun q hq hlt9 => G9.block q hlt9 (fun e => by omega))).mono (fun q hq _ => by omega), (O2019181716150.out.keep (w' := W9) (fun q hq hlt9 => G9.block q hlt9 (fun e => by omega))).mono (fun q hq _ => by omega), (O20190.out.keep (w' := W9) (fun q hq hlt9 => G9.block q hlt9 (fun e => by omega))).mono (fun q hq _ => by omega), (O201918170.out.keep (w' := W9) (fun q hq hlt9 => G9.block q hlt9 (fun e => by omega))).mono (fun q hq _ => by omega)⟩⟩, A20.out.fr G9 (fun k e => by omega), F9⟩)
end Go.Proofs.YticnfeolbfmgfaaGreatDoor

namespace Go.Proofs.YticnfeolbfmgfaaGreatDoor
open Go.RowKit LX Go.Shelf
set_option linter.unusedVariables false

set_option maxRecDepth 100000 in
set_option maxHeartbeats 8000000 in
theorem shaped_let (m R sz N : Nat) (ts : List (Tok Val)) (d k : Int) (hd : ByteArray) (w : World) (h : RdAt m w R sz ts) (n : Nat) (pt : List (Tok Val) → Rd Tm) (pf : List (Tok Val) → Rd Fm) (pr : List (Tok Val) → Rd Rx) (hst : Shr pt) (hsr : Shr pr) (hN : ts.length ≤ N) (hk1 : 3 ≤ k) (hk2 : k ≤ 22) (hk : shp k = ⟨true, false, true, false, 0, 0, 2, false⟩) (hhd : (⟨(if k = 3 then [] else hdF k).toArray⟩ : ByteArray) = hd)
    (HT : ∀ (kk : Nat) (rr : List (Tok Val)) (W : World), rr.length ≤ N → RdAt m W R sz rr → Calls Tryz.prog 120 #[.pointer (some ⟨R, 0, none⟩), .int .i64 ((kk : Nat) : Int), .bool false, .int .i64 d] W (RdO m R sz W (fun l v w' => TmsOwn (fun q => W.heap.size ≤ q) w' v l) (rMany pt false n kk rr)))
    (HR : ∀ (kk : Nat) (rr : List (Tok Val)) (W : World), rr.length ≤ N → RdAt m W R sz rr → Calls Tryz.prog 158 #[.pointer (some ⟨R, 0, none⟩), .int .i64 ((kk : Nat) : Int), .int .i64 d] W (RdO m R sz W (fun l v w' => RxsOwn (fun q => W.heap.size ≤ q) w' v l) (rMany pr false n kk rr)))
    (HF : ∀ (kk : Nat) (more : Bool) (rr : List (Tok Val)) (W : World), rr.length ≤ N → RdAt m W R sz rr → Calls Tryz.prog 159 #[.pointer (some ⟨R, 0, none⟩), .int .i64 ((kk : Nat) : Int), .bool more, .int .i64 d] W (RdO m R sz W (fun l v w' => FmsOwn (fun q => W.heap.size ≤ q) w' v l) (rMany pf more n kk rr))) :
    Calls Tryz.prog 121 #[.pointer (some ⟨R, 0, none⟩), .int .i64 k, .int .i64 d] w (RdO m R sz w (FmV w) (pShaped sz n pt pf pr k ts)) := by
  have hlt := h.lt
  obtain ⟨RS, hRS⟩ : ∃ x : Rd Fm, Hid (pShaped sz n pt pf pr k ts = x) := ⟨_, rfl⟩
  rw [hRS.out]
  have hEQ : Hid (RS = (rName sz ts).bind fun nm r1 => (rList sz r1).bind fun vs r4 => (rMany pt false n 0 r4).bind fun tms r6 => (rMany pr false n 0 r6).bind fun rx r7 => (rMany pf false n 2 r7).bind fun fs r8 => .ok (.mk k nm 0 ([] ++ vs) tms 0 0 false fs rx) r8) := by
    show _ = _
    rw [← hRS.out]
    unfold pShaped
    rw [hk]
    rfl
  have cS : Hid (∀ W : World, Calls Tryz.prog 35 #[.int .i64 k] W fun e w' => e = .returned (.agg #[.string hd, .bool true, .bool false, .bool true, .bool false, .int .i64 ((0 : Nat) : Int), .int .i64 ((0 : Nat) : Int), .int .i64 ((2 : Nat) : Int), .bool false]) ∧ Below W.heap.size W w') := fun W => by
    have q := shape_any k W hk1 hk2
    rw [hk] at q
    rw [← hhd]
    exact q
  have CT : Hid (∀ (rr : List (Tok Val)) (W : World), rr.length ≤ N → RdAt m W R sz rr → Calls Tryz.prog 120 #[.pointer (some ⟨R, 0, none⟩), .int .i64 ((0 : Nat) : Int), .bool false, .int .i64 d] W (RdO m R sz W (fun l v w' => TmsOwn (fun q => W.heap.size ≤ q) w' v l) (rMany pt false n 0 rr))) := fun rr W hl hW => HT 0 rr W hl hW
  have CR : Hid (∀ (rr : List (Tok Val)) (W : World), rr.length ≤ N → RdAt m W R sz rr → Calls Tryz.prog 158 #[.pointer (some ⟨R, 0, none⟩), .int .i64 ((0 : Nat) : Int), .int .i64 d] W (RdO m R sz W (fun l v w' => RxsOwn (fun q => W.heap.size ≤ q) w' v l) (rMany pr false n 0 rr))) := fun rr W hl hW => HR 0 rr W hl hW
  have CF : Hid (∀ (rr : List (Tok Val)) (W : World), rr.length ≤ N → RdAt m W R sz rr → Calls Tryz.prog 159 #[.pointer (some ⟨R, 0, none⟩), .int .i64 ((2 : Nat) : Int), .bool false, .int .i64 d] W (RdO m R sz W (fun l v w' => FmsOwn (fun q => W.heap.size ≤ q) w' v l) (rMany pf false n 2 rr))) := fun rr W hl hW => HF 2 false rr W hl hW
  have CI : Hid (∀ (rr : List (Tok Val)) (W : World), RdAt m W R sz rr → Calls Tryz.prog 157 #[.pointer (some ⟨R, 0, none⟩)] W (RdO m R sz W (fun iv v _ => v = .agg #[.int .i64 iv.1, .int .i64 iv.2.1, .bool iv.2.2]) (rIv sz rr))) := fun rr W hW => rival_any m R sz rr W hW
  have STm : Hid (∀ kk ts a r, rMany pt false n kk ts = .ok a r → r.length ≤ ts.length) := fun kk ts a r e => sh_many (fun ts a r e => by have := hst ts a r e; omega) false n kk ts a r e
  have SRm : Hid (∀ kk ts a r, rMany pr false n kk ts = .ok a r → r.length ≤ ts.length) := fun kk ts a r e => sh_many (fun ts a r e => by have := hsr ts a r e; omega) false n kk ts a r e
  have CN : Hid (∀ (rr : List (Tok Val)) (W : World), RdAt m W R sz rr → Calls Tryz.prog 154 #[.pointer (some ⟨R, 0, none⟩)] W (RdO m R sz W (fun x v _ => v = .string x) (rName sz rr))) := fun rr W hW => rdname_any m R sz rr W hW
  have CO : Hid (∀ (rr : List (Tok Val)) (W : World), RdAt m W R sz rr → Calls Tryz.prog 155 #[.pointer (some ⟨R, 0, none⟩)] W (RdO m R sz W (fun k v _ => v = .int .i64 k) (rOp sz rr))) := fun rr W hW => roper_any m R sz rr W hW
  have CL : Hid (∀ (rr : List (Tok Val)) (W : World), RdAt m W R sz rr → Calls Tryz.prog 156 #[.pointer (some ⟨R, 0, none⟩)] W (RdO m R sz W (fun l v w' => OwnN W.heap.size v l w') (rList sz rr))) := fun rr W hW => rdnames_any m R sz rr W hW
  obtain ⟨i0, hi, hz0, hz1, hz2⟩ := info_parts inStA
  clear hRS HT HR HF hst hsr hk hhd
  go_enter Tryz.func121, Tryz.ntmps121
  go_wp2_with fail
  refine (cS.out _).mono ?_
  rintro e w1 ⟨rfl, hb1⟩
  have z1 : w.heap.size < w1.heap.size := by have := hb1.size; simp at this; omega
  have X1 : Hid (w1.heap[w.heap.size]? = some (.cells #[.int .i64 0, .string ⟨#[]⟩, .int .i64 0, .slice none 0 0, .slice none 0 0, .int .i64 0, .int .i64 0, .bool false, .slice none 0 0, .slice none 0 0] 29 (0, 0))) := (hb1.block w.heap.size (by simp)).trans (new_box w _)
  have F1 : Hid (Fr (fun k => k = R) w w1) := Fr.of_below (((Below.refl _ _).alloc (Nat.le_refl _) _).trans (hb1.mono (by simp)))
  have A1 : Hid (RdAt m w1 R sz ts) := h.below (((Below.refl _ _).alloc (Nat.le_refl _) _).trans (hb1.mono (by simp)))
  clear hb1 cS h
  go_upto_region 2 with fail
  refine wp_world ?_
  intro W2 hW2
  have S2 : Hid (W2.heap[w1.heap.size]? = some (.cells #[.string hd, .bool true, .bool false, .bool true, .bool false, .int .i64 ((0 : Nat) : Int), .int .i64 ((0 : Nat) : Int), .int .i64 ((2 : Nat) : Int), .bool false] 82 (0, 0))) := by rw [hW2]; exact (Below.heap_alloc _ _ _ (by simp)).trans (new_box w1 _)
  have B2 : Hid (W2.heap[w1.heap.size + 1]? = some (.cells #[.int .i64 k, .string ⟨#[]⟩, .int .i64 0, .slice none 0 0, .slice none 0 0, .int .i64 0, .int .i64 0, .bool false, .slice none 0 0, .slice none 0 0] 29 (0, 0))) := by
    rw [hW2]
    have q := new_box (w1.alloc (.cells #[.string hd, .bool true, .bool false, .bool true, .bool false, .int .i64 ((0 : Nat) : Int), .int .i64 ((0 : Nat) : Int), .int .i64 ((2 : Nat) : Int), .bool false] 82)) (.cells #[.int .i64 k, .string ⟨#[]⟩, .int .i64 0, .slice none 0 0, .slice none 0 0, .int .i64 0, .int .i64 0, .bool false, .slice none 0 0, .slice none 0 0] 29)
    simp only [World.size_alloc] at q
    exact q
  have X2 : Hid (W2.heap[w.heap.size]? = some (.cells #[.int .i64 0, .string ⟨#[]⟩, .int .i64 0, .slice none 0 0, .slice none 0 0, .int .i64 0, .int .i64 0, .bool false, .slice none 0 0, .slice none 0 0] 29 (0, 0))) := by rw [hW2]; exact (((Fr.refl (fun k => k = R) w1).alloc _).alloc _).heap X1.out (fun e => by omega)
  have F2 : Hid (Fr (fun k => k = R) w W2) := by rw [hW2]; exact (F1.out.alloc _).alloc _
  have A2 : Hid (RdAt m W2 R sz ts) := by rw [hW2]; exact A1.out.below (((Below.refl w1.heap.size w1).alloc (Nat.le_refl _) _).alloc (by simp) _)
  have zz : w1.heap.size + 2 = W2.heap.size := by rw [hW2]; simp
  clear hW2 F1 A1 X1
  generalize w1.heap.size = n7 at *
  have ZN : Hid (n7 + 2 = W2.heap.size) := zz
  obtain ⟨N2, hN2⟩ : ∃ x, Hid (W2.heap.size = x) := ⟨_, rfl⟩
  have zz2 : n7 + 2 = N2 := by rw [← hN2.out]; exact ZN.out
  have y2 : N2 ≤ W2.heap.size := Nat.le_of_eq hN2.out.symm
  clear zz ZN hN2
  obtain ⟨s0, s1, s2, s3, s4, s5, s6, s7, s8⟩ := bx9 S2.out
  have K13 : Hid (Calls Tryz.prog 154 #[.pointer (some ⟨R, 0, none⟩)] W2 (RdO m R sz W2 (fun x v _ => v = .string x) (rName sz ts))) := CN.out ts W2 A2.out
  cases hP13 : rName sz ts with
  | bad er a =>
    rw [hP13] at K13 hEQ
    go_wp2_with fail
    refine K13.out.mono ?_
    rintro e w9 ⟨rfl, hF9⟩
    refine ⟨rfl, ?_⟩
    rw [hEQ.out]
    exact ⟨rfl, F2.out.trans hF9 (fun k e => Or.inl e)⟩
  | ok x13 r1 =>
    rw [hP13, Rd.bind_ok] at hEQ
    rw [hP13] at K13
    have hl13 := rName_shorter hP13
    clear hP13
    go_wp2_with fail
    refine K13.out.mono ?_
    rintro e w13 ⟨v13, rfl, rfl, hA9, hF9⟩
    have F13 : Hid (Fr (fun k => k = R) w w13) := F2.out.trans hF9 (fun k e => Or.inl e)
    have S13 : Hid (w13.heap[n7]? = _) := hF9.heap S2.out (fun e => by omega)
    have B13 : Hid (w13.heap[n7 + 1]? = _) := hF9.heap B2.out (fun e => by omega)
    have X13 : Hid (w13.heap[w.heap.size]? = _) := hF9.heap X2.out (fun e => by omega)
    have A13 : Hid (RdAt m w13 R sz r1) := hA9
    have y13 : N2 ≤ w13.heap.size := Nat.le_trans y2 hF9.size
    clear hF9 hA9 K13 F2 S2 B2 X2 A2 s0 s1 s2 s3 s4 s5 s6 s7 s8 
    obtain ⟨b0, b1, b2, b3, b4, b5, b6, b7, b8, b9⟩ := bx10 B13.out
    obtain ⟨g0, g1, g2, g3, g4, g5, g6, g7, g8, g9⟩ := bz10 B13.out
    go_upto_region 4 with fail
    refine wp_world ?_
    intro W14 hW14
    have G14 : Hid (Fr (fun k => k = n7 + 1) w13 W14) := by rw [hW14]; exact (Fr.refl (fun k => k = n7 + 1) w13).setCell (p := ⟨n7 + 1, 1, none⟩) (Or.inl rfl) _
    have B14 : Hid (W14.heap[n7 + 1]? = some (.cells #[.int .i64 k, .string x13, .int .i64 0, .slice none 0 0, .slice none 0 0, .int .i64 0, .int .i64 0, .bool false, .slice none 0 0, .slice none 0 0] 29 (0, 0))) := by rw [hW14]; exact (set_heap (j := 1) B13.out (.string x13))
    clear hW14
    have F14 : Hid (Fr (fun k => k = R) w W14) := F13.out.trans G14.out (fun k e => Or.inr (by omega))
    have S14 : Hid (W14.heap[n7]? = _) := G14.out.heap S13.out (fun e => by omega)
    have X14 : Hid (W14.heap[w.heap.size]? = _) := G14.out.heap X13.out (fun e => by omega)
    have A14 : Hid (RdAt m W14 R sz r1) := A13.out.fr G14.out (fun k e => by omega)
    have y14 : N2 ≤ W14.heap.size := Nat.le_trans y13 G14.out.size
    clear G14 F13 S13 B13 X13 A13 b0 b1 b2 b3 b4 b5 b6 b7 b8 b9 g0 g1 g2 g3 g4 g5 g6 g7 g8 g9 
    obtain ⟨s0, s1, s2, s3, s4, s5, s6, s7, s8⟩ := bx9 S14.out
    obtain ⟨b0, b1, b2, b3, b4, b5, b6, b7, b8, b9⟩ := bx10 B14.out
    obtain ⟨g0, g1, g2, g3, g4, g5, g6, g7, g8, g9⟩ := bz10 B14.out
    have K15 : Hid (∀ W : World, Below W14.heap.size W14 W → Calls Tryz.prog 156 #[.pointer (some ⟨R, 0, none⟩)] W (RdO m R sz W (fun l v w' => OwnN W.heap.size v l w') (rList sz r1))) := fun W hW => CL.out r1 W (A14.out.below hW)
    have hPc : Hid ((∃ er a, rList sz r1 = .bad er a) ∨ ∃ x r, rList sz r1 = .ok x r) := by
      cases hq : rList sz r1 with
      | bad er a => exact Or.inl ⟨er, a, rfl⟩
      | ok x r => exact Or.inr ⟨x, r, rfl⟩
    have hy15 : N2 ≤ W14.heap.size := y14
    go_upto_region 8 with fail
    go_region_law (first | (go_simp; go_at_call 156; refine (K15.out _ (by go_grown)).mono ?_; intro e w15 q; rcases hPc.out with ⟨er, a, hP⟩ | ⟨x15, r4, hP⟩; (· (rw [hP] at q; obtain ⟨rfl, hF9⟩ := q; refine ⟨rfl, ?_⟩; rw [hEQ.out, hP]; exact ⟨rfl, (F14.out.drew).trans hF9 (fun k e => Or.inl e)⟩)); rw [hP] at q; obtain ⟨v9, rfl, hO9, hA9, hF9⟩ := q; obtain ⟨p9, c9, rfl, -⟩ := hO9.cap; have hxl := list_few A14.out.many hP; have z9 : N2 ≤ w15.heap.size := Nat.le_trans hy15 hF9.size; have B9 : Hid (w15.heap[n7 + 1]? = some (.cells #[.int .i64 k, .string x13, .int .i64 0, .slice none 0 0, .slice none 0 0, .int .i64 0, .int .i64 0, .bool false, .slice none 0 0, .slice none 0 0] 29 (0, 0))) := hF9.heap (show W14.drew.heap[n7 + 1]? = _ from B14.out) (fun e => by omega); have b39 := (bx10 B9.out).2.2.2.1; have h71 : n7 + 1 < w15.heap.size := (by omega)) | (refine step_append_srcQ rfl (.tmp 33) (.tmp 35) 22 rfl N2 9 i0 (.string ByteArray.empty) 1 16 Tryz.underlying22 hi hz0 hz1 hz2 rfl (by decide) (.slice none 0 0) 0 [] (by simp [Act.eval]) ⟨rfl, Or.inl ⟨rfl, rfl⟩⟩ (.slice p9 x15.length c9) x15.length (x15.map Value.string) (by simp [Act.eval]) (src_names hO9) (by intro u hu; obtain ⟨s, -, rfl⟩ := List.mem_map.1 hu; rfl) (by unfold maxLen; omega) (by omega) (by omega) (fun v' w9 h2 h3 => ?_); have G9 : Hid (Fr (fun _ => False) w15 w9) := (Fr.refl (fun _ => False) w15).grown h3 (fun k e => by cases e); have C9 : Hid (w9.heap[n7 + 1]? = some (.cells #[.int .i64 k, .string x13, .int .i64 0, .slice none 0 0, .slice none 0 0, .int .i64 0, .int .i64 0, .bool false, .slice none 0 0, .slice none 0 0] 29 (0, 0))) := G9.out.heap B9.out (fun q => q); have O9 : Hid (w9.ownsRow N2 9 1 v' x15.length (x15.map Value.string)) := (by have q := h2; unfold Hid; simpa using q); obtain ⟨pv15, cv15, rfl⟩ := row_form O9.out; have b49 := (bx10 C9.out).2.2.2.1; have f49 := (bz10 C9.out).2.2.2.1; clear h2 h3))
    all_goals (
      rw [hP, Rd.bind_ok] at hEQ
      have hl15 := sh_list sz _ _ _ hP
      have S9 : Hid (w9.heap[n7]? = _) := G9.out.heap (hF9.heap (show W14.drew.heap[n7]? = _ from S14.out) (fun e => by omega)) (fun q => q)
      have X9 : Hid (w9.heap[w.heap.size]? = _) := G9.out.heap (hF9.heap (show W14.drew.heap[w.heap.size]? = _ from X14.out) (fun e => by omega)) (fun q => q)
      have F9 : Hid (Fr (fun k => k = R) w w9) := ((F14.out.drew).trans hF9 (fun k e => Or.inl e)).trans G9.out (fun k q => q.elim)
      have A9 : Hid (RdAt m w9 R sz r4) := hA9.fr G9.out (fun k q => q.elim)
      have y9 : N2 ≤ w9.heap.size := Nat.le_trans z9 G9.out.size
      have M9 : Hid (NmsOwn (fun q => N2 ≤ q) w9 (.slice pv15 x15.length cv15) x15) := nms_own9 O9.out (by first | rfl | (simp; done) | (simp; omega)) (by first | rfl | simp) (by first | omega | (simp; done) | (simp; omega))
      clear hP hPc K15 S14 X14 F14 A14 B14 B9 hF9 hA9 O9 G9 b0 b1 b2 b3 b4 b5 b6 b7 b8 b9 g0 g1 g2 g3 g4 g5 g6 g7 g8 g9 s0 s1 s2 s3 s4 s5 s6 s7 s8 b39  hO9
      go_upto_region 9 with fail
      refine wp_world ?_
      intro W16 hW16
      have G16 : Hid (Fr (fun k => k = n7 + 1) w9 W16) := by rw [hW16]; exact (Fr.refl (fun k => k = n7 + 1) w9).setCell (p := ⟨n7 + 1, 3, none⟩) (Or.inl rfl) _
      have B16 : Hid (W16.heap[n7 + 1]? = some (.cells #[.int .i64 k, .string x13, .int .i64 0, .slice pv15 x15.length cv15, .slice none 0 0, .int .i64 0, .int .i64 0, .bool false, .slice none 0 0, .slice none 0 0] 29 (0, 0))) := by rw [hW16]; exact set_heap (j := 3) C9.out (.slice pv15 x15.length cv15)
      clear hW16
      have F16 : Hid (Fr (fun k => k = R) w W16) := F9.out.trans G16.out (fun k e => Or.inr (by omega))
      have S16 : Hid (W16.heap[n7]? = _) := G16.out.heap S9.out (fun e => by omega)
      have X16 : Hid (W16.heap[w.heap.size]? = _) := G16.out.heap X9.out (fun e => by omega)
      have A16 : Hid (RdAt m W16 R sz r4) := A9.out.fr G16.out (fun k e => by omega)
      have y16 : N2 ≤ W16.heap.size := Nat.le_trans y9 G16.out.size
      have M16 : Hid (NmsOwn (fun q => N2 ≤ q) W16 (.slice pv15 x15.length cv15) x15) := M9.out.keep (fun q hq hlt9 => G16.out.block q hlt9 (fun e => by omega))
      clear S9 X9 F9 A9 M9 C9 b49 f49 G16 y9 z9
      obtain ⟨s0, s1, s2, s3, s4, s5, s6, s7, s8⟩ := bx9 S16.out
      have K17 : Hid (Calls Tryz.prog 120 #[.pointer (some ⟨R, 0, none⟩), .int .i64 ((0 : Nat) : Int), .bool false, .int .i64 d] W16 (RdO m R sz W16 (fun l v w' => TmsOwn (fun q => W16.heap.size ≤ q) w' v l) (rMany pt false n 0 r4))) := CT.out r4 W16 (by omega) A16.out
      cases hP17 : rMany pt false n 0 r4 with
      | bad er a =>
        rw [hP17] at K17 hEQ
        go_wp2_with fail
        refine K17.out.mono ?_
        rintro e w9 ⟨rfl, hF9⟩
        refine ⟨rfl, ?_⟩
        rw [hEQ.out]
        exact ⟨rfl, F16.out.trans hF9 (fun k e => Or.inl e)⟩
      | ok x17 r6 =>
        rw [hP17, Rd.bind_ok] at hEQ
        rw [hP17] at K17
        have hl17 := STm.out _ _ _ _ hP17
        clear hP17
        go_wp2_with fail
        refine K17.out.mono ?_
        rintro e w17 ⟨v17, rfl, hQ9, hA9, hF9⟩
        have O170 : Hid (TmsOwn (fun q => N2 ≤ q) w17 v17 x17) := hQ9.mono (fun q hq _ => by omega)
        obtain ⟨p17, c17, rfl, -⟩ := hQ9.at.form
        obtain ⟨l17, el17⟩ : ∃ y, Hid (x17.length = y) := ⟨_, rfl⟩
        rw [el17.out] at O170 ⊢
        clear hQ9
        have F17 : Hid (Fr (fun k => k = R) w w17) := F16.out.trans hF9 (fun k e => Or.inl e)
        have S17 : Hid (w17.heap[n7]? = _) := hF9.heap S16.out (fun e => by omega)
        have B17 : Hid (w17.heap[n7 + 1]? = _) := hF9.heap B16.out (fun e => by omega)
        have X17 : Hid (w17.heap[w.heap.size]? = _) := hF9.heap X16.out (fun e => by omega)
        have A17 : Hid (RdAt m w17 R sz r6) := hA9
        have y17 : N2 ≤ w17.heap.size := Nat.le_trans y16 hF9.size
        have M1716 : Hid (NmsOwn (fun q => N2 ≤ q) w17 (.slice pv15 x15.length cv15) x15) := M16.out.keep (fun q hq hlt9 => hF9.block q hlt9 (fun e => by omega))
        clear hF9 hA9 K17 F16 S16 B16 X16 A16 s0 s1 s2 s3 s4 s5 s6 s7 s8 M16
        obtain ⟨b0, b1, b2, b3, b4, b5, b6, b7, b8, b9⟩ := bx10 B17.out
        obtain ⟨g0, g1, g2, g3, g4, g5, g6, g7, g8, g9⟩ := bz10 B17.out
        go_upto_region 12 with fail
        refine wp_world ?_
        intro W18 hW18
        have G18 : Hid (Fr (fun k => k = n7 + 1) w17 W18) := by rw [hW18]; exact (Fr.refl (fun k => k = n7 + 1) w17).setCell (p := ⟨n7 + 1, 4, none⟩) (Or.inl rfl) _
        have B18 : Hid (W18.heap[n7 + 1]? = some (.cells #[.int .i64 k, .string x13, .int .i64 0, .slice pv15 x15.length cv15, .slice p17 l17 c17, .int .i64 0, .int .i64 0, .bool false, .slice none 0 0, .slice none 0 0] 29 (0, 0))) := by rw [hW18]; exact (set_heap (j := 4) B17.out (.slice p17 l17 c17))
        clear hW18
        have F18 : Hid (Fr (fun k => k = R) w W18) := F17.out.trans G18.out (fun k e => Or.inr (by omega))
        have S18 : Hid (W18.heap[n7]? = _) := G18.out.heap S17.out (fun e => by omega)
        have X18 : Hid (W18.heap[w.heap.size]? = _) := G18.out.heap X17.out (fun e => by omega)
        have A18 : Hid (RdAt m W18 R sz r6) := A17.out.fr G18.out (fun k e => by omega)
        have y18 : N2 ≤ W18.heap.size := Nat.le_trans y17 G18.out.size
        have M181716 : Hid (NmsOwn (fun q => N2 ≤ q) W18 (.slice pv15 x15.length cv15) x15) := M1716.out.keep (fun q hq hlt9 => G18.out.block q hlt9 (fun e => by omega))
        have O18170 : Hid (TmsOwn (fun q => N2 ≤ q) W18 (.slice p17 l17 c17) x17) := O170.out.keep (fun q hq hlt9 => G18.out.block q hlt9 (fun e => by omega))
        clear G18 F17 S17 B17 X17 A17 b0 b1 b2 b3 b4 b5 b6 b7 b8 b9 g0 g1 g2 g3 g4 g5 g6 g7 g8 g9 M1716 O170
        obtain ⟨s0, s1, s2, s3, s4, s5, s6, s7, s8⟩ := bx9 S18.out
        have K19 : Hid (Calls Tryz.prog 158 #[.pointer (some ⟨R, 0, none⟩), .int .i64 ((0 : Nat) : Int), .int .i64 d] W18 (RdO m R sz W18 (fun l v w' => RxsOwn (fun q => W18.heap.size ≤ q) w' v l) (rMany pr false n 0 r6))) := CR.out r6 W18 (by omega) A18.out
        cases hP19 : rMany pr false n 0 r6 with
        | bad er a =>
          rw [hP19] at K19 hEQ
          go_wp2_with fail
          refine K19.out.mono ?_
          rintro e w9 ⟨rfl, hF9⟩
          refine ⟨rfl, ?_⟩
          rw [hEQ.out]
          exact ⟨rfl, F18.out.trans hF9 (fun k e => Or.inl e)⟩
        | ok x19 r7 =>
          rw [hP19, Rd.bind_ok] at hEQ
          rw [hP19] at K19
          have hl19 := SRm.out _ _ _ _ hP19
          clear hP19
          go_wp2_with fail
          refine K19.out.mono ?_
          rintro e w19 ⟨v19, rfl, hQ9, hA9, hF9⟩
          have O190 : Hid (RxsOwn (fun q => N2 ≤ q) w19 v19 x19) := hQ9.mono (fun q hq _ => by omega)
          obtain ⟨p19, c19, rfl, -⟩ := hQ9.at.form
          obtain ⟨l19, el19⟩ : ∃ y, Hid (x19.length = y) := ⟨_, rfl⟩
          rw [el19.out] at O190 ⊢
          clear hQ9
          have F19 : Hid (Fr (fun k => k = R) w w19) := F18.out.trans hF9 (fun k e => Or.inl e)
          have S19 : Hid (w19.heap[n7]? = _) := hF9.heap S18.out (fun e => by omega)
          have B19 : Hid (w19.heap[n7 + 1]? = _) := hF9.heap B18.out (fun e => by omega)
          have X19 : Hid (w19.heap[w.heap.size]? = _) := hF9.heap X18.out (fun e => by omega)
          have A19 : Hid (RdAt m w19 R sz r7) := hA9
          have y19 : N2 ≤ w19.heap.size := Nat.le_trans y18 hF9.size
          have M19181716 : Hid (NmsOwn (fun q => N2 ≤ q) w19 (.slice pv15 x15.length cv15) x15) := M181716.out.keep (fun q hq hlt9 => hF9.block q hlt9 (fun e => by omega))
          have O1918170 : Hid (TmsOwn (fun q => N2 ≤ q) w19 (.slice p17 l17 c17) x17) := O18170.out.keep (fun q hq hlt9 => hF9.block q hlt9 (fun e => by omega))
          clear hF9 hA9 K19 F18 S18 B18 X18 A18 s0 s1 s2 s3 s4 s5 s6 s7 s8 M181716 O18170
          obtain ⟨b0, b1, b2, b3, b4, b5, b6, b7, b8, b9⟩ := bx10 B19.out
          obtain ⟨g0, g1, g2, g3, g4, g5, g6, g7, g8, g9⟩ := bz10 B19.out
          go_upto_region 13 with fail
          refine wp_world ?_
          intro W20 hW20
          have G20 : Hid (Fr (fun k => k = n7 + 1) w19 W20) := by rw [hW20]; exact (Fr.refl (fun k => k = n7 + 1) w19).setCell (p := ⟨n7 + 1, 9, none⟩) (Or.inl rfl) _
          have B20 : Hid (W20.heap[n7 + 1]? = some (.cells #[.int .i64 k, .string x13, .int .i64 0, .slice pv15 x15.length cv15, .slice p17 l17 c17, .int .i64 0, .int .i64 0, .bool false, .slice none 0 0, .slice p19 l19 c19] 29 (0, 0))) := by rw [hW20]; exact (set_heap (j := 9) B19.out (.slice p19 l19 c19))
          clear hW20
          have F20 : Hid (Fr (fun k => k = R) w W20) := F19.out.trans G20.out (fun k e => Or.inr (by omega))
          have S20 : Hid (W20.heap[n7]? = _) := G20.out.heap S19.out (fun e => by omega)
          have X20 : Hid (W20.heap[w.heap.size]? = _) := G20.out.heap X19.out (fun e => by omega)
          have A20 : Hid (RdAt m W20 R sz r7) := A19.out.fr G20.out (fun k e => by omega)
          have y20 : N2 ≤ W20.heap.size := Nat.le_trans y19 G20.out.size
          have M2019181716 : Hid (NmsOwn (fun q => N2 ≤ q) W20 (.slice pv15 x15.length cv15) x15) := M19181716.out.keep (fun q hq hlt9 => G20.out.block q hlt9 (fun e => by omega))
          have O201918170 : Hid (TmsOwn (fun q => N2 ≤ q) W20 (.slice p17 l17 c17) x17) := O1918170.out.keep (fun q hq hlt9 => G20.out.block q hlt9 (fun e => by omega))
          have O20190 : Hid (RxsOwn (fun q => N2 ≤ q) W20 (.slice p19 l19 c19) x19) := O190.out.keep (fun q hq hlt9 => G20.out.block q hlt9 (fun e => by omega))
          clear G20 F19 S19 B19 X19 A19 b0 b1 b2 b3 b4 b5 b6 b7 b8 b9 g0 g1 g2 g3 g4 g5 g6 g7 g8 g9 M19181716 O1918170 O190
          obtain ⟨s0, s1, s2, s3, s4, s5, s6, s7, s8⟩ := bx9 S20.out
          have K21 : Hid (Calls Tryz.prog 159 #[.pointer (some ⟨R, 0, none⟩), .int .i64 ((2 : Nat) : Int), .bool false, .int .i64 d] W20 (RdO m R sz W20 (fun l v w' => FmsOwn (fun q => W20.heap.size ≤ q) w' v l) (rMany pf false n 2 r7))) := CF.out r7 W20 (by omega) A20.out
          cases hP21 : rMany pf false n 2 r7 with
          | bad er a =>
            rw [hP21] at K21 hEQ
            go_wp2_with fail
            refine K21.out.mono ?_
            rintro e w9 ⟨rfl, hF9⟩
            refine ⟨rfl, ?_⟩
            rw [hEQ.out]
            exact ⟨rfl, F20.out.trans hF9 (fun k e => Or.inl e)⟩
          | ok x21 r8 =>
            rw [hP21, Rd.bind_ok] at hEQ
            rw [hP21] at K21
            clear hP21
            go_wp2_with fail
            refine K21.out.mono ?_
            rintro e w21 ⟨v21, rfl, hQ9, hA9, hF9⟩
            have O210 : Hid (FmsOwn (fun q => N2 ≤ q) w21 v21 x21) := hQ9.mono (fun q hq _ => by omega)
            obtain ⟨p21, c21, rfl, -⟩ := hQ9.at.form
            obtain ⟨l21, el21⟩ : ∃ y, Hid (x21.length = y) := ⟨_, rfl⟩
            rw [el21.out] at O210 ⊢
            clear hQ9
            have F21 : Hid (Fr (fun k => k = R) w w21) := F20.out.trans hF9 (fun k e => Or.inl e)
            have S21 : Hid (w21.heap[n7]? = _) := hF9.heap S20.out (fun e => by omega)
            have B21 : Hid (w21.heap[n7 + 1]? = _) := hF9.heap B20.out (fun e => by omega)
            have X21 : Hid (w21.heap[w.heap.size]? = _) := hF9.heap X20.out (fun e => by omega)
            have A21 : Hid (RdAt m w21 R sz r8) := hA9
            have y21 : N2 ≤ w21.heap.size := Nat.le_trans y20 hF9.size
            have M212019181716 : Hid (NmsOwn (fun q => N2 ≤ q) w21 (.slice pv15 x15.length cv15) x15) := M2019181716.out.keep (fun q hq hlt9 => hF9.block q hlt9 (fun e => by omega))
            have O21201918170 : Hid (TmsOwn (fun q => N2 ≤ q) w21 (.slice p17 l17 c17) x17) := O201918170.out.keep (fun q hq hlt9 => hF9.block q hlt9 (fun e => by omega))
            have O2120190 : Hid (RxsOwn (fun q => N2 ≤ q) w21 (.slice p19 l19 c19) x19) := O20190.out.keep (fun q hq hlt9 => hF9.block q hlt9 (fun e => by omega))
            clear hF9 hA9 K21 F20 S20 B20 X20 A20 s0 s1 s2 s3 s4 s5 s6 s7 s8 M2019181716 O201918170 O20190
            obtain ⟨b0, b1, b2, b3, b4, b5, b6, b7, b8, b9⟩ := bx10 B21.out
            obtain ⟨g0, g1, g2, g3, g4, g5, g6, g7, g8, g9⟩ := bz10 B21.out
            go_upto_region 14 with fail
            refine wp_world ?_
            intro W22 hW22
            have G22 : Hid (Fr (fun k => k = n7 + 1) w21 W22) := by rw [hW22]; exact (Fr.refl (fun k => k = n7 + 1) w21).setCell (p := ⟨n7 + 1, 8, none⟩) (Or.inl rfl) _
            have B22 : Hid (W22.heap[n7 + 1]? = some (.cells #[.int .i64 k, .string x13, .int .i64 0, .slice pv15 x15.length cv15, .slice p17 l17 c17, .int .i64 0, .int .i64 0, .bool false, .slice p21 l21 c21, .slice p19 l19 c19] 29 (0, 0))) := by rw [hW22]; exact (set_heap (j := 8) B21.out (.slice p21 l21 c21))
            clear hW22
            have F22 : Hid (Fr (fun k => k = R) w W22) := F21.out.trans G22.out (fun k e => Or.inr (by omega))
            have S22 : Hid (W22.heap[n7]? = _) := G22.out.heap S21.out (fun e => by omega)
            have X22 : Hid (W22.heap[w.heap.size]? = _) := G22.out.heap X21.out (fun e => by omega)
            have A22 : Hid (RdAt m W22 R sz r8) := A21.out.fr G22.out (fun k e => by omega)
            have y22 : N2 ≤ W22.heap.size := Nat.le_trans y21 G22.out.size
            have M22212019181716 : Hid (NmsOwn (fun q => N2 ≤ q) W22 (.slice pv15 x15.length cv15) x15) := M212019181716.out.keep (fun q hq hlt9 => G22.out.block q hlt9 (fun e => by omega))
            have O2221201918170 : Hid (TmsOwn (fun q => N2 ≤ q) W22 (.slice p17 l17 c17) x17) := O21201918170.out.keep (fun q hq hlt9 => G22.out.block q hlt9 (fun e => by omega))
            have O222120190 : Hid (RxsOwn (fun q => N2 ≤ q) W22 (.slice p19 l19 c19) x19) := O2120190.out.keep (fun q hq hlt9 => G22.out.block q hlt9 (fun e => by omega))
            have O22210 : Hid (FmsOwn (fun q => N2 ≤ q) W22 (.slice p21 l21 c21) x21) := O210.out.keep (fun q hq hlt9 => G22.out.block q hlt9 (fun e => by omega))
            clear G22 F21 S21 B21 X21 A21 b0 b1 b2 b3 b4 b5 b6 b7 b8 b9 g0 g1 g2 g3 g4 g5 g6 g7 g8 g9 M212019181716 O21201918170 O2120190 O210
            obtain ⟨b0, b1, b2, b3, b4, b5, b6, b7, b8, b9⟩ := bx10 B22.out
            obtain ⟨r0, r1, r2, r3, r4, r5, r6, r7, r8, r9⟩ := bx10 X22.out
            obtain ⟨q0, q1, q2, q3, q4, q5, q6, q7, q8, q9⟩ := bz10 X22.out
            go_wp2
            generalize hW9 : World.setCell _ _ _ = W9
            have X9 : W9.heap[w.heap.size]? = some (.cells #[.int .i64 k, .string x13, .int .i64 0, .slice pv15 x15.length cv15, .slice p17 l17 c17, .int .i64 0, .int .i64 0, .bool false, .slice p21 l21 c21, .slice p19 l19 c19] 29 (0, 0)) := by rw [← hW9]; exact put10 X22.out
            have F9 : Fr (fun k => k = R) w W9 := by rw [← hW9]; exact frp10 F22.out (Or.inr (Nat.le_refl _)) _ _ _ _ _ _ _ _ _ _
            have G9 : Fr (fun k => k = w.heap.size) W22 W9 := by rw [← hW9]; exact frp10 (Fr.refl (fun k => k = w.heap.size) W22) (Or.inl rfl) _ _ _ _ _ _ _ _ _ _
            clear hW9
            obtain ⟨oc0, oc1, oc2, oc3, oc4, oc5, oc6, oc7, oc8, oc9⟩ := bx10 X9
            refine bodyPost_ret (by simp [results, Tryz.results121, go_sem, oc0, oc1, oc2, oc3, oc4, oc5, oc6, oc7, oc8, oc9]; try rfl) rfl ?_
            rw [hEQ.out]
            exact ⟨_, rfl, ⟨⟨(.slice pv15 x15.length cv15), (.slice p17 l17 c17), (.slice p21 l21 c21), (.slice p19 l19 c19)⟩, rfl, ⟨(M22212019181716.out.keep (w' := W9) (fun q hq hlt9 => G9.block q hlt9 (fun e => by omega))).mono (fun q hq _ => by omega), (O2221201918170.out.keep (w' := W9) (fun q hq hlt9 => G9.block q hlt9 (fun e => by omega))).mono (fun q hq _ => by omega), (O22210.out.keep (w' := W9) (fun q hq hlt9 => G9.block q hlt9 (fun e => by omega))).mono (fun q hq _ => by omega), (O222120190.out.keep (w' := W9) (fun q hq hlt9 => G9.block q hlt9 (fun e => by omega))).mono (fun q hq _ => by omega)⟩⟩, A22.out.fr G9 (fun k e => by omega), F9⟩)
end Go.Proofs.YticnfeolbfmgfaaGreatDoor
