/- SyntaxNumbers: a few texts, there and back. -/
import Derived.Test.YticnfeolbfmgfaaGreatDoorZ11
import Derived.Deep.DeepCutAuto
import Derived.Test.YticnfeolbfmgfaaGreatDoorZ10
import Derived.Test.YticnfeolbfmgfaaGreatDoorZ09

namespace Go.Proofs.YticnfeolbfmgfaaGreatDoor
open Go.RowKit LX Go.Shelf
set_option linter.unusedVariables false

set_option maxRecDepth 100000 in
set_option maxHeartbeats 8000000 in
theorem shaped_agg (m R sz N : Nat) (ts : List (Tok Val)) (d k : Int) (hd : ByteArray) (w : World) (h : RdAt m w R sz ts) (n : Nat) (pt : List (Tok Val) → Rd Tm) (pf : List (Tok Val) → Rd Fm) (pr : List (Tok Val) → Rd Rx) (hst : Shr pt) (hsr : Shr pr) (hN : ts.length ≤ N) (hk1 : 3 ≤ k) (hk2 : k ≤ 22) (hk : shp k = ⟨true, true, true, false, 0, 0, 1, false⟩) (hhd : (⟨(if k = 3 then [] else hdF k).toArray⟩ : ByteArray) = hd)
    (HT : ∀ (kk : Nat) (rr : List (Tok Val)) (W : World), rr.length ≤ N → RdAt m W R sz rr → Calls Tryz.prog 120 #[.pointer (some ⟨R, 0, none⟩), .int .i64 ((kk : Nat) : Int), .bool false, .int .i64 d] W (RdO m R sz W (fun l v w' => TmsOwn (fun q => W.heap.size ≤ q) w' v l) (rMany pt false n kk rr)))
    (HR : ∀ (kk : Nat) (rr : List (Tok Val)) (W : World), rr.length ≤ N → RdAt m W R sz rr → Calls Tryz.prog 158 #[.pointer (some ⟨R, 0, none⟩), .int .i64 ((kk : Nat) : Int), .int .i64 d] W (RdO m R sz W (fun l v w' => RxsOwn (fun q => W.heap.size ≤ q) w' v l) (rMany pr false n kk rr)))
    (HF : ∀ (kk : Nat) (more : Bool) (rr : List (Tok Val)) (W : World), rr.length ≤ N → RdAt m W R sz rr → Calls Tryz.prog 159 #[.pointer (some ⟨R, 0, none⟩), .int .i64 ((kk : Nat) : Int), .bool more, .int .i64 d] W (RdO m R sz W (fun l v w' => FmsOwn (fun q => W.heap.size ≤ q) w' v l) (rMany pf more n kk rr))) :
    Calls Tryz.prog 121 #[.pointer (some ⟨R, 0, none⟩), .int .i64 k, .int .i64 d] w (RdO m R sz w (FmV w) (pShaped sz n pt pf pr k ts)) := by
  have hlt := h.lt
  obtain ⟨RS, hRS⟩ : ∃ x : Rd Fm, Hid (pShaped sz n pt pf pr k ts = x) := ⟨_, rfl⟩
  rw [hRS.out]
  have hEQ : Hid (RS = (rName sz ts).bind fun nm r1 => (rOp sz r1).bind fun op r2 => ((rName sz r2).bind fun x r' => .ok [x] r').bind fun v0 r3 => (rList sz r3).bind fun vs r4 => (rMany pt false n 0 r4).bind fun tms r6 => (rMany pr false n 0 r6).bind fun rx r7 => (rMany pf false n 1 r7).bind fun fs r8 => .ok (.mk k nm op (v0 ++ vs) tms 0 0 false fs rx) r8) := by
    show _ = _
    rw [← hRS.out]
    unfold pShaped
    rw [hk]
    rfl
  have cS : Hid (∀ W : World, Calls Tryz.prog 35 #[.int .i64 k] W fun e w' => e = .returned (.agg #[.string hd, .bool true, .bool true, .bool true, .bool false, .int .i64 ((0 : Nat) : Int), .int .i64 ((0 : Nat) : Int), .int .i64 ((1 : Nat) : Int), .bool false]) ∧ Below W.heap.size W w') := fun W => by
    have q := shape_any k W hk1 hk2
    rw [hk] at q
    rw [← hhd]
    exact q
  have CT : Hid (∀ (rr : List (Tok Val)) (W : World), rr.length ≤ N → RdAt m W R sz rr → Calls Tryz.prog 120 #[.pointer (some ⟨R, 0, none⟩), .int .i64 ((0 : Nat) : Int), .bool false, .int .i64 d] W (RdO m R sz W (fun l v w' => TmsOwn (fun q => W.heap.size ≤ q) w' v l) (rMany pt false n 0 rr))) := fun rr W hl hW => HT 0 rr W hl hW
  have CR : Hid (∀ (rr : List (Tok Val)) (W : World), rr.length ≤ N → RdAt m W R sz rr → Calls Tryz.prog 158 #[.pointer (some ⟨R, 0, none⟩), .int .i64 ((0 : Nat) : Int), .int .i64 d] W (RdO m R sz W (fun l v w' => RxsOwn (fun q => W.heap.size ≤ q) w' v l) (rMany pr false n 0 rr))) := fun rr W hl hW => HR 0 rr W hl hW
  have CF : Hid (∀ (rr : List (Tok Val)) (W : World), rr.length ≤ N → RdAt m W R sz rr → Calls Tryz.prog 159 #[.pointer (some ⟨R, 0, none⟩), .int .i64 ((1 : Nat) : Int), .bool false, .int .i64 d] W (RdO m R sz W (fun l v w' => FmsOwn (fun q => W.heap.size ≤ q) w' v l) (rMany pf false n 1 rr))) := fun rr W hl hW => HF 1 false rr W hl hW
  have CI : Hid (∀ (rr : List (Tok Val)) (W : World), RdAt m W R sz rr → Calls Tryz.prog 157 #[.pointer (some ⟨R, 0, none⟩)] W (RdO m R sz W (fun iv v _ => v = .agg #[.int .i64 iv.1, .int .i64 iv.2.1, .bool iv.2.2]) (rIv sz rr))) := fun rr W hW => rival_any m R sz rr W hW
  have STm : Hid (∀ kk ts a r, rMany pt false n kk ts = .ok a r → r.length ≤ ts.length) := fun kk ts a r e => sh_many (fun ts a r e => by have := hst ts a r e; omega) false n kk ts a r e
  have SRm : Hid (∀ kk ts a r, rMany pr false n kk ts = .ok a r → r.length ≤ ts.length) := fun kk ts a r e => sh_many (fun ts a r e => by have := hsr ts a r e; omega) false n kk ts a r e
  have CN : Hid (∀ (rr : List (Tok Val)) (W : World), RdAt m W R sz rr → Calls Tryz.prog 154 #[.pointer (some ⟨R, 0, none⟩)] W (RdO m R sz W (fun x v _ => v = .string x) (rName sz rr))) := fun rr W hW => rdname_any m R sz rr W hW
  have CO : Hid (∀ (rr : List (Tok Val)) (W : World), RdAt m W R sz rr → Calls Tryz.prog 155 #[.pointer (some ⟨R, 0, none⟩)] W (RdO m R sz W (fun k v _ => v = .int .i64 k) (rOp sz rr))) := fun rr W hW => roper_any m R sz rr W hW
  have CL : Hid (∀ (rr : List (Tok Val)) (W : World), RdAt m W R sz rr → Calls Tryz.prog 156 #[.pointer (some ⟨R, 0, none⟩)] W (RdO m R sz W (fun l v w' => OwnN W.heap.size v l w') (rList sz rr))) := fun rr W hW => rdnames_any m R sz rr W hW
  obtain ⟨i0, hi, hz0, hz1, hz2⟩ := info_parts inStA
  clear hRS HT HR HF hst hsr hk hhd
  go_enter Tryz.func121, Tryz.ntmps121
  go_wp2_with fail
  refine (cS.out _).mono ?_
  rintro e w1 ⟨rfl, hb1⟩
  have z1 : w.heap.size < w1.heap.size := by have := hb1.size; simp at this; omega
  have X1 : Hid (w1.heap[w.heap.size]? = some (.cells #[.int .i64 0, .string ⟨#[]⟩, .int .i64 0, .slice none 0 0, .slice none 0 0, .int .i64 0, .int .i64 0, .bool false, .slice none 0 0, .slice none 0 0] 29 (0, 0))) := (hb1.block w.heap.size (by simp)).trans (new_box w _)
  have F1 : Hid (Fr (fun k => k = R) w w1) := Fr.of_below (((Below.refl _ _).alloc (Nat.le_refl _) _).trans (hb1.mono (by simp)))
  have A1 : Hid (RdAt m w1 R sz ts) := h.below (((Below.refl _ _).alloc (Nat.le_refl _) _).trans (hb1.mono (by simp)))
  clear hb1 cS h
  go_upto_region 2 with fail
  refine wp_world ?_
  intro W2 hW2
  have S2 : Hid (W2.heap[w1.heap.size]? = some (.cells #[.string hd, .bool true, .bool true, .bool true, .bool false, .int .i64 ((0 : Nat) : Int), .int .i64 ((0 : Nat) : Int), .int .i64 ((1 : Nat) : Int), .bool false] 82 (0, 0))) := by rw [hW2]; exact (Below.heap_alloc _ _ _ (by simp)).trans (new_box w1 _)
  have B2 : Hid (W2.heap[w1.heap.size + 1]? = some (.cells #[.int .i64 k, .string ⟨#[]⟩, .int .i64 0, .slice none 0 0, .slice none 0 0, .int .i64 0, .int .i64 0, .bool false, .slice none 0 0, .slice none 0 0] 29 (0, 0))) := by
    rw [hW2]
    have q := new_box (w1.alloc (.cells #[.string hd, .bool true, .bool true, .bool true, .bool false, .int .i64 ((0 : Nat) : Int), .int .i64 ((0 : Nat) : Int), .int .i64 ((1 : Nat) : Int), .bool false] 82)) (.cells #[.int .i64 k, .string ⟨#[]⟩, .int .i64 0, .slice none 0 0, .slice none 0 0, .int .i64 0, .int .i64 0, .bool false, .slice none 0 0, .slice none 0 0] 29)
    simp only [World.size_alloc] at q
    exact q
  have X2 : Hid (W2.heap[w.heap.size]? = some (.cells #[.int .i64 0, .string ⟨#[]⟩, .int .i64 0, .slice none 0 0, .slice none 0 0, .int .i64 0, .int .i64 0, .bool false, .slice none 0 0, .slice none 0 0] 29 (0, 0))) := by rw [hW2]; exact (((Fr.refl (fun k => k = R) w1).alloc _).alloc _).heap X1.out (fun e => by omega)
  have F2 : Hid (Fr (fun k => k = R) w W2) := by rw [hW2]; exact (F1.out.alloc _).alloc _
  have A2 : Hid (RdAt m W2 R sz ts) := by rw [hW2]; exact A1.out.below (((Below.refl w1.heap.size w1).alloc (Nat.le_refl _) _).alloc (by simp) _)
  have zz : w1.heap.size + 2 = W2.heap.size := by rw [hW2]; simp
  clear hW2 F1 A1 X1
  generalize w1.heap.size = n7 at *
  have ZN : Hid (n7 + 2 = W2.heap.size) := zz
  obtain ⟨N2, hN2⟩ : ∃ x, Hid (W2.heap.size = x) := ⟨_, rfl⟩
  have zz2 : n7 + 2 = N2 := by rw [← hN2.out]; exact ZN.out
  have y2 : N2 ≤ W2.heap.size := Nat.le_of_eq hN2.out.symm
  clear zz ZN hN2
  obtain ⟨s0, s1, s2, s3, s4, s5, s6, s7, s8⟩ := bx9 S2.out
  have K13 : Hid (Calls Tryz.prog 154 #[.pointer (some ⟨R, 0, none⟩)] W2 (RdO m R sz W2 (fun x v _ => v = .string x) (rName sz ts))) := CN.out ts W2 A2.out
  cases hP13 : rName sz ts with
  | bad er a =>
    rw [hP13] at K13 hEQ
    go_wp2_with fail
    refine K13.out.mono ?_
    rintro e w9 ⟨rfl, hF9⟩
    refine ⟨rfl, ?_⟩
    rw [hEQ.out]
    exact ⟨rfl, F2.out.trans hF9 (fun k e => Or.inl e)⟩
  | ok x13 r1 =>
    rw [hP13, Rd.bind_ok] at hEQ
    rw [hP13] at K13
    have hl13 := rName_shorter hP13
    clear hP13
    go_wp2_with fail
    refine K13.out.mono ?_
    rintro e w13 ⟨v13, rfl, rfl, hA9, hF9⟩
    have F13 : Hid (Fr (fun k => k = R) w w13) := F2.out.trans hF9 (fun k e => Or.inl e)
    have S13 : Hid (w13.heap[n7]? = _) := hF9.heap S2.out (fun e => by omega)
    have B13 : Hid (w13.heap[n7 + 1]? = _) := hF9.heap B2.out (fun e => by omega)
    have X13 : Hid (w13.heap[w.heap.size]? = _) := hF9.heap X2.out (fun e => by omega)
    have A13 : Hid (RdAt m w13 R sz r1) := hA9
    have y13 : N2 ≤ w13.heap.size := Nat.le_trans y2 hF9.size
    clear hF9 hA9 K13 F2 S2 B2 X2 A2 s0 s1 s2 s3 s4 s5 s6 s7 s8 
    obtain ⟨b0, b1, b2, b3, b4, b5, b6, b7, b8, b9⟩ := bx10 B13.out
    obtain ⟨g0, g1, g2, g3, g4, g5, g6, g7, g8, g9⟩ := bz10 B13.out
    go_upto_region 4 with fail
    refine wp_world ?_
    intro W14 hW14
    have G14 : Hid (Fr (fun k => k = n7 + 1) w13 W14) := by rw [hW14]; exact (Fr.refl (fun k => k = n7 + 1) w13).setCell (p := ⟨n7 + 1, 1, none⟩) (Or.inl rfl) _
    have B14 : Hid (W14.heap[n7 + 1]? = some (.cells #[.int .i64 k, .string x13, .int .i64 0, .slice none 0 0, .slice none 0 0, .int .i64 0, .int .i64 0, .bool false, .slice none 0 0, .slice none 0 0] 29 (0, 0))) := by rw [hW14]; exact (set_heap (j := 1) B13.out (.string x13))
    clear hW14
    have F14 : Hid (Fr (fun k => k = R) w W14) := F13.out.trans G14.out (fun k e => Or.inr (by omega))
    have S14 : Hid (W14.heap[n7]? = _) := G14.out.heap S13.out (fun e => by omega)
    have X14 : Hid (W14.heap[w.heap.size]? = _) := G14.out.heap X13.out (fun e => by omega)
    have A14 : Hid (RdAt m W14 R sz r1) := A13.out.fr G14.out (fun k e => by omega)
    have y14 : N2 ≤ W14.heap.size := Nat.le_trans y13 G14.out.size
    clear G14 F13 S13 B13 X13 A13 b0 b1 b2 b3 b4 b5 b6 b7 b8 b9 g0 g1 g2 g3 g4 g5 g6 g7 g8 g9 
    obtain ⟨s0, s1, s2, s3, s4, s5, s6, s7, s8⟩ := bx9 S14.out
    have K15 : Hid (Calls Tryz.prog 155 #[.pointer (some ⟨R, 0, none⟩)] W14 (RdO m R sz W14 (fun k v _ => v = .int .i64 k) (rOp sz r1))) := CO.out r1 W14 A14.out
    cases hP15 : rOp sz r1 with
    | bad er a =>
      rw [hP15] at K15 hEQ
      go_wp2_with fail
      refine K15.out.mono ?_
      rintro e w9 ⟨rfl, hF9⟩
      refine ⟨rfl, ?_⟩
      rw [hEQ.out]
      exact ⟨rfl, F14.out.trans hF9 (fun k e => Or.inl e)⟩
    | ok x15 r2 =>
      rw [hP15, Rd.bind_ok] at hEQ
      rw [hP15] at K15
      have hl15 := sh_op sz _ _ _ hP15
      clear hP15
      go_wp2_with fail
      refine K15.out.mono ?_
      rintro e w15 ⟨v15, rfl, rfl, hA9, hF9⟩
      have F15 : Hid (Fr (fun k => k = R) w w15) := F14.out.trans hF9 (fun k e => Or.inl e)
      have S15 : Hid (w15.heap[n7]? = _) := hF9.heap S14.out (fun e => by omega)
      have B15 : Hid (w15.heap[n7 + 1]? = _) := hF9.heap B14.out (fun e => by omega)
      have X15 : Hid (w15.heap[w.heap.size]? = _) := hF9.heap X14.out (fun e => by omega)
      have A15 : Hid (RdAt m w15 R sz r2) := hA9
      have y15 : N2 ≤ w15.heap.size := Nat.le_trans y14 hF9.size
      clear hF9 hA9 K15 F14 S14 B14 X14 A14 s0 s1 s2 s3 s4 s5 s6 s7 s8 
      obtain ⟨b0, b1, b2, b3, b4, b5, b6, b7, b8, b9⟩ := bx10 B15.out
      obtain ⟨g0, g1, g2, g3, g4, g5, g6, g7, g8, g9⟩ := bz10 B15.out
      go_upto_region 6 with fail
      refine wp_world ?_
      intro W16 hW16
      have G16 : Hid (Fr (fun k => k = n7 + 1) w15 W16) := by rw [hW16]; exact (Fr.refl (fun k => k = n7 + 1) w15).setCell (p := ⟨n7 + 1, 2, none⟩) (Or.inl rfl) _
      have B16 : Hid (W16.heap[n7 + 1]? = some (.cells #[.int .i64 k, .string x13, .int .i64 x15, .slice none 0 0, .slice none 0 0, .int .i64 0, .int .i64 0, .bool false, .slice none 0 0, .slice none 0 0] 29 (0, 0))) := by rw [hW16]; exact (set_heap (j := 2) B15.out (.int .i64 x15))
      clear hW16
      have F16 : Hid (Fr (fun k => k = R) w W16) := F15.out.trans G16.out (fun k e => Or.inr (by omega))
      have S16 : Hid (W16.heap[n7]? = _) := G16.out.heap S15.out (fun e => by omega)
      have X16 : Hid (W16.heap[w.heap.size]? = _) := G16.out.heap X15.out (fun e => by omega)
      have A16 : Hid (RdAt m W16 R sz r2) := A15.out.fr G16.out (fun k e => by omega)
      have y16 : N2 ≤ W16.heap.size := Nat.le_trans y15 G16.out.size
      clear G16 F15 S15 B15 X15 A15 b0 b1 b2 b3 b4 b5 b6 b7 b8 b9 g0 g1 g2 g3 g4 g5 g6 g7 g8 g9 
      obtain ⟨s0, s1, s2, s3, s4, s5, s6, s7, s8⟩ := bx9 S16.out
      obtain ⟨b0, b1, b2, b3, b4, b5, b6, b7, b8, b9⟩ := bx10 B16.out
      obtain ⟨g0, g1, g2, g3, g4, g5, g6, g7, g8, g9⟩ := bz10 B16.out
      have K17 : Hid (∀ W : World, Below W16.heap.size W16 W → Calls Tryz.prog 154 #[.pointer (some ⟨R, 0, none⟩)] W (RdO m R sz W (fun x v _ => v = .string x) (rName sz r2))) := fun W hW => CN.out r2 W (A16.out.below hW)
      have hPc : Hid ((∃ er a, rName sz r2 = .bad er a) ∨ ∃ x r, rName sz r2 = .ok x r) := by
        cases hq : rName sz r2 with
        | bad er a => exact Or.inl ⟨er, a, rfl⟩
        | ok x r => exact Or.inr ⟨x, r, rfl⟩
      have hy17 : N2 ≤ W16.heap.size := y16
      go_upto_region 6 with fail
      go_cut [] (fun wx => ∃ x17 r3 pv17 cv17, Hid (rName sz r2 = .ok x17 r3) ∧ Hid (Fr (fun k => k = R) w wx) ∧ Hid (wx.heap[n7]? = some (.cells #[.string hd, .bool true, .bool true, .bool true, .bool false, .int .i64 ((0 : Nat) : Int), .int .i64 ((0 : Nat) : Int), .int .i64 ((1 : Nat) : Int), .bool false] 82 (0, 0))) ∧ Hid (wx.heap[n7 + 1]? = some (.cells #[.int .i64 k, .string x13, .int .i64 x15, .slice pv17 1 cv17, .slice none 0 0, .int .i64 0, .int .i64 0, .bool false, .slice none 0 0, .slice none 0 0] 29 (0, 0))) ∧ Hid (wx.heap[w.heap.size]? = some (.cells #[.int .i64 0, .string ⟨#[]⟩, .int .i64 0, .slice none 0 0, .slice none 0 0, .int .i64 0, .int .i64 0, .bool false, .slice none 0 0, .slice none 0 0] 29 (0, 0))) ∧ Hid (RdAt m wx R sz r3) ∧ N2 ≤ wx.heap.size ∧ Hid (NmsOwn (fun q => N2 ≤ q) wx (.slice pv17 1 cv17) [x17]))
      case first =>
        go_region_law (first | (go_simp; go_at_call 154; refine (K17.out _ (by go_grown)).mono ?_; intro e w17 q; rcases hPc.out with ⟨er, a, hP⟩ | ⟨x17, r3, hP⟩; (· (rw [hP] at q; obtain ⟨rfl, hF9⟩ := q; refine ⟨rfl, ?_⟩; rw [hEQ.out, hP]; exact ⟨rfl, (F16.out.drew).trans hF9 (fun k e => Or.inl e)⟩)); rw [hP] at q; obtain ⟨v9, rfl, rfl, hA9, hF9⟩ := q; have z9 : N2 ≤ w17.heap.size := Nat.le_trans hy17 hF9.size; have B9 : Hid (w17.heap[n7 + 1]? = some (.cells #[.int .i64 k, .string x13, .int .i64 x15, .slice none 0 0, .slice none 0 0, .int .i64 0, .int .i64 0, .bool false, .slice none 0 0, .slice none 0 0] 29 (0, 0))) := hF9.heap (show W16.drew.heap[n7 + 1]? = _ from B16.out) (fun e => by omega); have b39 := (bx10 B9.out).2.2.2.1; have h71 : n7 + 1 < w17.heap.size := (by omega)) | (refine step_append_at rfl (.tmp 24) (.tmp 27) 22 rfl N2 9 i0 (.string ByteArray.empty) 1 16 Tryz.underlying22 hi hz0 hz1 hz2 rfl (by decide) (.slice none 0 0) 0 [] (by simp [Act.eval]) ⟨rfl, Or.inl ⟨rfl, rfl⟩⟩ ⟨w17.heap.size, 0, none⟩ 1 1 [.string x17] (by simp [Act.eval]) rfl (by intro j u hj; rw [Addr.add_lit]; (rcases j with _ | j) <;> simp at hj <;> subst hj <;> simp (maxDischargeDepth := 12) [go_sem]) (by intro u hu; simp at hu; subst hu; rfl) (by unfold maxLen; omega) (by omega) (by simp; omega) (fun v' w9 h2 h3 _ => ?_); have G9 : Hid (Fr (fun _ => False) w17 w9) := ((Fr.refl (fun _ => False) w17).alloc _).grown h3 (fun k e => by cases e); have C9 : Hid (w9.heap[n7 + 1]? = some (.cells #[.int .i64 k, .string x13, .int .i64 x15, .slice none 0 0, .slice none 0 0, .int .i64 0, .int .i64 0, .bool false, .slice none 0 0, .slice none 0 0] 29 (0, 0))) := G9.out.heap B9.out (fun q => q); have O9 : Hid (w9.ownsRow N2 9 1 v' 1 [Value.string x17]) := (by have q := h2; unfold Hid; simpa using q); obtain ⟨pv17, cv17, rfl⟩ := row_form O9.out; have b49 := (bx10 C9.out).2.2.2.1; have f49 := (bz10 C9.out).2.2.2.1; clear h2 h3))
        all_goals (
          have S9 : Hid (w9.heap[n7]? = _) := G9.out.heap (hF9.heap (show W16.drew.heap[n7]? = _ from S16.out) (fun e => by omega)) (fun q => q)
          have X9 : Hid (w9.heap[w.heap.size]? = _) := G9.out.heap (hF9.heap (show W16.drew.heap[w.heap.size]? = _ from X16.out) (fun e => by omega)) (fun q => q)
          have F9 : Hid (Fr (fun k => k = R) w w9) := ((F16.out.drew).trans hF9 (fun k e => Or.inl e)).trans G9.out (fun k q => q.elim)
          have A9 : Hid (RdAt m w9 R sz r3) := hA9.fr G9.out (fun k q => q.elim)
          have y9 : N2 ≤ w9.heap.size := Nat.le_trans z9 G9.out.size
          have M9 : Hid (NmsOwn (fun q => N2 ≤ q) w9 (.slice pv17 1 cv17) [x17]) := nms_own9 O9.out (by first | rfl | (simp; done) | (simp; omega)) (by first | rfl | simp) (by first | omega | (simp; done) | (simp; omega))
          go_wp2_with fail
          go_meet
          generalize hW18 : World.setCell _ _ _ = W18
          have G18 : Hid (Fr (fun k => k = n7 + 1) w9 W18) := by rw [← hW18]; exact (Fr.refl (fun k => k = n7 + 1) w9).setCell (p := ⟨n7 + 1, 3, none⟩) (Or.inl rfl) _
          have B18 : Hid (W18.heap[n7 + 1]? = some (.cells #[.int .i64 k, .string x13, .int .i64 x15, .slice pv17 1 cv17, .slice none 0 0, .int .i64 0, .int .i64 0, .bool false, .slice none 0 0, .slice none 0 0] 29 (0, 0))) := by rw [← hW18]; exact set_heap (j := 3) C9.out (.slice pv17 1 cv17)
          have F18 : Hid (Fr (fun k => k = R) w W18) := F9.out.trans G18.out (fun k e => Or.inr (by omega))
          have S18 : Hid (W18.heap[n7]? = _) := G18.out.heap S9.out (fun e => by omega)
          have X18 : Hid (W18.heap[w.heap.size]? = _) := G18.out.heap X9.out (fun e => by omega)
          have A18 : Hid (RdAt m W18 R sz r3) := A9.out.fr G18.out (fun k e => by omega)
          have y18 : N2 ≤ W18.heap.size := Nat.le_trans y9 G18.out.size
          have M18 : Hid (NmsOwn (fun q => N2 ≤ q) W18 (.slice pv17 1 cv17) [x17]) := M9.out.keep (fun q hq hlt9 => G18.out.block q hlt9 (fun e => by omega))
          exact ⟨x17, r3, pv17, cv17, hP, F18, S18, B18, X18, A18, y18, M18⟩)
      case rest =>
      obtain ⟨x17, r3, pv17, cv17, hP, F18, S18, B18, X18, A18, y18, M18⟩ := hcut
      rw [hP.out, Rd.bind_ok] at hEQ
      rw [Rd.bind_ok] at hEQ
      have hl17 := rName_shorter hP.out
      obtain ⟨W18, eW18⟩ : ∃ x, x = wc := ⟨_, rfl⟩
      rw [← eW18] at F18 S18 B18 X18 A18 y18 M18 ⊢
      clear eW18 hP hPc K17 S16 X16 F16 A16 B16 b0 b1 b2 b3 b4 b5 b6 b7 b8 b9 g0 g1 g2 g3 g4 g5 g6 g7 g8 g9 s0 s1 s2 s3 s4 s5 s6 s7 s8 hy17
      obtain ⟨s0, s1, s2, s3, s4, s5, s6, s7, s8⟩ := bx9 S18.out
      obtain ⟨b0, b1, b2, b3, b4, b5, b6, b7, b8, b9⟩ := bx10 B18.out
      obtain ⟨g0, g1, g2, g3, g4, g5, g6, g7, g8, g9⟩ := bz10 B18.out
      have K19 : Hid (∀ W : World, Below W18.heap.size W18 W → Calls Tryz.prog 156 #[.pointer (some ⟨R, 0, none⟩)] W (RdO m R sz W (fun l v w' => OwnN W.heap.size v l w') (rList sz r3))) := fun W hW => CL.out r3 W (A18.out.below hW)
      have hPc : Hid ((∃ er a, rList sz r3 = .bad er a) ∨ ∃ x r, rList sz r3 = .ok x r) := by
        cases hq : rList sz r3 with
        | bad er a => exact Or.inl ⟨er, a, rfl⟩
        | ok x r => exact Or.inr ⟨x, r, rfl⟩
      have HON : Hid (W18.ownsRow N2 9 1 (.slice pv17 1 cv17) 1 [Value.string x17]) := own_baseN M18.out.1 M18.out.2.2
      have hOK : ∀ k, (Value.ownBlock (.slice pv17 1 cv17)) = some k → N2 ≤ k := fun k hk => M18.out.2.2 k hk
      have hy19 : N2 ≤ W18.heap.size := y18
      go_upto_region 8 with fail
      go_cut [] (fun wx => ∃ x19 r4 pv19 cv19, Hid (rList sz r3 = .ok x19 r4) ∧ Hid (Fr (fun k => k = R) w wx) ∧ Hid (wx.heap[n7]? = some (.cells #[.string hd, .bool true, .bool true, .bool true, .bool false, .int .i64 ((0 : Nat) : Int), .int .i64 ((0 : Nat) : Int), .int .i64 ((1 : Nat) : Int), .bool false] 82 (0, 0))) ∧ Hid (wx.heap[n7 + 1]? = some (.cells #[.int .i64 k, .string x13, .int .i64 x15, .slice pv19 (1 + x19.length) cv19, .slice none 0 0, .int .i64 0, .int .i64 0, .bool false, .slice none 0 0, .slice none 0 0] 29 (0, 0))) ∧ Hid (wx.heap[w.heap.size]? = some (.cells #[.int .i64 0, .string ⟨#[]⟩, .int .i64 0, .slice none 0 0, .slice none 0 0, .int .i64 0, .int .i64 0, .bool false, .slice none 0 0, .slice none 0 0] 29 (0, 0))) ∧ Hid (RdAt m wx R sz r4) ∧ N2 ≤ wx.heap.size ∧ Hid (NmsOwn (fun q => N2 ≤ q) wx (.slice pv19 (1 + x19.length) cv19) ([x17] ++ x19)))
      case first =>
        go_region_law (first | (go_simp; go_at_call 156; refine (K19.out _ (by go_grown)).mono ?_; intro e w19 q; rcases hPc.out with ⟨er, a, hP⟩ | ⟨x19, r4, hP⟩; (· (rw [hP] at q; obtain ⟨rfl, hF9⟩ := q; refine ⟨rfl, ?_⟩; rw [hEQ.out, hP]; exact ⟨rfl, (F18.out.drew).trans hF9 (fun k e => Or.inl e)⟩)); rw [hP] at q; obtain ⟨v9, rfl, hO9, hA9, hF9⟩ := q; obtain ⟨p9, c9, rfl, -⟩ := hO9.cap; have hxl := list_few A18.out.many hP; have hON : w19.ownsRow N2 9 1 (.slice pv17 1 cv17) 1 [Value.string x17] := hF9.row (show W18.drew.ownsRow N2 9 1 (.slice pv17 1 cv17) 1 [Value.string x17] from HON.out) (fun k hk e => by have := hOK k hk; omega); have z9 : N2 ≤ w19.heap.size := Nat.le_trans hy19 hF9.size; have B9 : Hid (w19.heap[n7 + 1]? = some (.cells #[.int .i64 k, .string x13, .int .i64 x15, .slice pv17 1 cv17, .slice none 0 0, .int .i64 0, .int .i64 0, .bool false, .slice none 0 0, .slice none 0 0] 29 (0, 0))) := hF9.heap (show W18.drew.heap[n7 + 1]? = _ from B18.out) (fun e => by omega); have b39 := (bx10 B9.out).2.2.2.1; have h71 : n7 + 1 < w19.heap.size := (by omega)) | (refine step_append_srcQ rfl (.tmp 33) (.tmp 35) 22 rfl N2 9 i0 (.string ByteArray.empty) 1 16 Tryz.underlying22 hi hz0 hz1 hz2 rfl (by decide) (.slice pv17 1 cv17) 1 [Value.string x17] (by simp [Act.eval]) hON (.slice p9 x19.length c9) x19.length (x19.map Value.string) (by simp [Act.eval]) (src_names hO9) (by intro u hu; obtain ⟨s, -, rfl⟩ := List.mem_map.1 hu; rfl) (by unfold maxLen; omega) (by omega) (by omega) (fun v' w9 h2 h3 => ?_); have G9 : Hid (Fr (fun k => N2 ≤ k) w19 w9) := (Fr.refl (fun k => N2 ≤ k) w19).grown h3 (fun k e => Or.inl (hOK k e)); have C9 : Hid (w9.heap[n7 + 1]? = some (.cells #[.int .i64 k, .string x13, .int .i64 x15, .slice pv17 1 cv17, .slice none 0 0, .int .i64 0, .int .i64 0, .bool false, .slice none 0 0, .slice none 0 0] 29 (0, 0))) := G9.out.heap B9.out (fun q => by omega); have O9 : Hid (w9.ownsRow N2 9 1 v' (1 + x19.length) ([Value.string x17] ++ x19.map Value.string)) := (by have q := h2; unfold Hid; simpa using q); obtain ⟨pv19, cv19, rfl⟩ := row_form O9.out; have b49 := (bx10 C9.out).2.2.2.1; have f49 := (bz10 C9.out).2.2.2.1; clear h2 h3))
        all_goals (
          have S9 : Hid (w9.heap[n7]? = _) := G9.out.heap (hF9.heap (show W18.drew.heap[n7]? = _ from S18.out) (fun e => by omega)) (fun q => by omega)
          have X9 : Hid (w9.heap[w.heap.size]? = _) := G9.out.heap (hF9.heap (show W18.drew.heap[w.heap.size]? = _ from X18.out) (fun e => by omega)) (fun q => by omega)
          have F9 : Hid (Fr (fun k => k = R) w w9) := ((F18.out.drew).trans hF9 (fun k e => Or.inl e)).trans G9.out (fun k q => Or.inr (by omega))
          have A9 : Hid (RdAt m w9 R sz r4) := hA9.fr G9.out (fun k q => by omega)
          have y9 : N2 ≤ w9.heap.size := Nat.le_trans z9 G9.out.size
          have M9 : Hid (NmsOwn (fun q => N2 ≤ q) w9 (.slice pv19 (1 + x19.length) cv19) ([x17] ++ x19)) := nms_own9 O9.out (by first | rfl | (simp; done) | (simp; omega)) (by first | rfl | simp) (by first | omega | (simp; done) | (simp; omega))
          go_wp2_with fail
          go_meet
          generalize hW20 : World.setCell _ _ _ = W20
          have G20 : Hid (Fr (fun k => k = n7 + 1) w9 W20) := by rw [← hW20]; exact (Fr.refl (fun k => k = n7 + 1) w9).setCell (p := ⟨n7 + 1, 3, none⟩) (Or.inl rfl) _
          have B20 : Hid (W20.heap[n7 + 1]? = some (.cells #[.int .i64 k, .string x13, .int .i64 x15, .slice pv19 (1 + x19.length) cv19, .slice none 0 0, .int .i64 0, .int .i64 0, .bool false, .slice none 0 0, .slice none 0 0] 29 (0, 0))) := by rw [← hW20]; exact set_heap (j := 3) C9.out (.slice pv19 (1 + x19.length) cv19)
          have F20 : Hid (Fr (fun k => k = R) w W20) := F9.out.trans G20.out (fun k e => Or.inr (by omega))
          have S20 : Hid (W20.heap[n7]? = _) := G20.out.heap S9.out (fun e => by omega)
          have X20 : Hid (W20.heap[w.heap.size]? = _) := G20.out.heap X9.out (fun e => by omega)
          have A20 : Hid (RdAt m W20 R sz r4) := A9.out.fr G20.out (fun k e => by omega)
          have y20 : N2 ≤ W20.heap.size := Nat.le_trans y9 G20.out.size
          have M20 : Hid (NmsOwn (fun q => N2 ≤ q) W20 (.slice pv19 (1 + x19.length) cv19) ([x17] ++ x19)) := M9.out.keep (fun q hq hlt9 => G20.out.block q hlt9 (fun e => by omega))
          exact ⟨x19, r4, pv19, cv19, hP, F20, S20, B20, X20, A20, y20, M20⟩)
      case rest =>
      obtain ⟨x19, r4, pv19, cv19, hP, F20, S20, B20, X20, A20, y20, M20⟩ := hcut
      rw [hP.out, Rd.bind_ok] at hEQ
      have hl19 := sh_list sz _ _ _ hP.out
      obtain ⟨W20, eW20⟩ : ∃ x, x = wc := ⟨_, rfl⟩
      rw [← eW20] at F20 S20 B20 X20 A20 y20 M20 ⊢
      clear eW20 hP hPc K19 S18 X18 F18 A18 B18 b0 b1 b2 b3 b4 b5 b6 b7 b8 b9 g0 g1 g2 g3 g4 g5 g6 g7 g8 g9 s0 s1 s2 s3 s4 s5 s6 s7 s8 M18 HON hOK hy19
      obtain ⟨s0, s1, s2, s3, s4, s5, s6, s7, s8⟩ := bx9 S20.out
      have K21 : Hid (Calls Tryz.prog 120 #[.pointer (some ⟨R, 0, none⟩), .int .i64 ((0 : Nat) : Int), .bool false, .int .i64 d] W20 (RdO m R sz W20 (fun l v w' => TmsOwn (fun q => W20.heap.size ≤ q) w' v l) (rMany pt false n 0 r4))) := CT.out r4 W20 (by omega) A20.out
      cases hP21 : rMany pt false n 0 r4 with
      | bad er a =>
        rw [hP21] at K21 hEQ
        go_wp2_with fail
        refine K21.out.mono ?_
        rintro e w9 ⟨rfl, hF9⟩
        refine ⟨rfl, ?_⟩
        rw [hEQ.out]
        exact ⟨rfl, F20.out.trans hF9 (fun k e => Or.inl e)⟩
      | ok x21 r6 =>
        rw [hP21, Rd.bind_ok] at hEQ
        rw [hP21] at K21
        have hl21 := STm.out _ _ _ _ hP21
        clear hP21
        go_wp2_with fail
        refine K21.out.mono ?_
        rintro e w21 ⟨v21, rfl, hQ9, hA9, hF9⟩
        have O210 : Hid (TmsOwn (fun q => N2 ≤ q) w21 v21 x21) := hQ9.mono (fun q hq _ => by omega)
        obtain ⟨p21, c21, rfl, -⟩ := hQ9.at.form
        obtain ⟨l21, el21⟩ : ∃ y, Hid (x21.length = y) := ⟨_, rfl⟩
        rw [el21.out] at O210 ⊢
        clear hQ9
        have F21 : Hid (Fr (fun k => k = R) w w21) := F20.out.trans hF9 (fun k e => Or.inl e)
        have S21 : Hid (w21.heap[n7]? = _) := hF9.heap S20.out (fun e => by omega)
        have B21 : Hid (w21.heap[n7 + 1]? = _) := hF9.heap B20.out (fun e => by omega)
        have X21 : Hid (w21.heap[w.heap.size]? = _) := hF9.heap X20.out (fun e => by omega)
        have A21 : Hid (RdAt m w21 R sz r6) := hA9
        have y21 : N2 ≤ w21.heap.size := Nat.le_trans y20 hF9.size
        have M2120 : Hid (NmsOwn (fun q => N2 ≤ q) w21 (.slice pv19 (1 + x19.length) cv19) ([x17] ++ x19)) := M20.out.keep (fun q hq hlt9 => hF9.block q hlt9 (fun e => by omega))
        clear hF9 hA9 K21 F20 S20 B20 X20 A20 s0 s1 s2 s3 s4 s5 s6 s7 s8 M20
        obtain ⟨b0, b1, b2, b3, b4, b5, b6, b7, b8, b9⟩ := bx10 B21.out
        obtain ⟨g0, g1, g2, g3, g4, g5, g6, g7, g8, g9⟩ := bz10 B21.out
        go_upto_region 12 with fail
        refine wp_world ?_
        intro W22 hW22
        have G22 : Hid (Fr (fun k => k = n7 + 1) w21 W22) := by rw [hW22]; exact (Fr.refl (fun k => k = n7 + 1) w21).setCell (p := ⟨n7 + 1, 4, none⟩) (Or.inl rfl) _
        have B22 : Hid (W22.heap[n7 + 1]? = some (.cells #[.int .i64 k, .string x13, .int .i64 x15, .slice pv19 (1 + x19.length) cv19, .slice p21 l21 c21, .int .i64 0, .int .i64 0, .bool false, .slice none 0 0, .slice none 0 0] 29 (0, 0))) := by rw [hW22]; exact (set_heap (j := 4) B21.out (.slice p21 l21 c21))
        clear hW22
        have F22 : Hid (Fr (fun k => k = R) w W22) := F21.out.trans G22.out (fun k e => Or.inr (by omega))
        have S22 : Hid (W22.heap[n7]? = _) := G22.out.heap S21.out (fun e => by omega)
        have X22 : Hid (W22.heap[w.heap.size]? = _) := G22.out.heap X21.out (fun e => by omega)
        have A22 : Hid (RdAt m W22 R sz r6) := A21.out.fr G22.out (fun k e => by omega)
        have y22 : N2 ≤ W22.heap.size := Nat.le_trans y21 G22.out.size
        have M222120 : Hid (NmsOwn (fun q => N2 ≤ q) W22 (.slice pv19 (1 + x19.length) cv19) ([x17] ++ x19)) := M2120.out.keep (fun q hq hlt9 => G22.out.block q hlt9 (fun e => by omega))
        have O22210 : Hid (TmsOwn (fun q => N2 ≤ q) W22 (.slice p21 l21 c21) x21) := O210.out.keep (fun q hq hlt9 => G22.out.block q hlt9 (fun e => by omega))
        clear G22 F21 S21 B21 X21 A21 b0 b1 b2 b3 b4 b5 b6 b7 b8 b9 g0 g1 g2 g3 g4 g5 g6 g7 g8 g9 M2120 O210
        obtain ⟨s0, s1, s2, s3, s4, s5, s6, s7, s8⟩ := bx9 S22.out
        have K23 : Hid (Calls Tryz.prog 158 #[.pointer (some ⟨R, 0, none⟩), .int .i64 ((0 : Nat) : Int), .int .i64 d] W22 (RdO m R sz W22 (fun l v w' => RxsOwn (fun q => W22.heap.size ≤ q) w' v l) (rMany pr false n 0 r6))) := CR.out r6 W22 (by omega) A22.out
        cases hP23 : rMany pr false n 0 r6 with
        | bad er a =>
          rw [hP23] at K23 hEQ
          go_wp2_with fail
          refine K23.out.mono ?_
          rintro e w9 ⟨rfl, hF9⟩
          refine ⟨rfl, ?_⟩
          rw [hEQ.out]
          exact ⟨rfl, F22.out.trans hF9 (fun k e => Or.inl e)⟩
        | ok x23 r7 =>
          rw [hP23, Rd.bind_ok] at hEQ
          rw [hP23] at K23
          have hl23 := SRm.out _ _ _ _ hP23
          clear hP23
          go_wp2_with fail
          refine K23.out.mono ?_
          rintro e w23 ⟨v23, rfl, hQ9, hA9, hF9⟩
          have O230 : Hid (RxsOwn (fun q => N2 ≤ q) w23 v23 x23) := hQ9.mono (fun q hq _ => by omega)
          obtain ⟨p23, c23, rfl, -⟩ := hQ9.at.form
          obtain ⟨l23, el23⟩ : ∃ y, Hid (x23.length = y) := ⟨_, rfl⟩
          rw [el23.out] at O230 ⊢
          clear hQ9
          have F23 : Hid (Fr (fun k => k = R) w w23) := F22.out.trans hF9 (fun k e => Or.inl e)
          have S23 : Hid (w23.heap[n7]? = _) := hF9.heap S22.out (fun e => by omega)
          have B23 : Hid (w23.heap[n7 + 1]? = _) := hF9.heap B22.out (fun e => by omega)
          have X23 : Hid (w23.heap[w.heap.size]? = _) := hF9.heap X22.out (fun e => by omega)
          have A23 : Hid (RdAt m w23 R sz r7) := hA9
          have y23 : N2 ≤ w23.heap.size := Nat.le_trans y22 hF9.size
          have M23222120 : Hid (NmsOwn (fun q => N2 ≤ q) w23 (.slice pv19 (1 + x19.length) cv19) ([x17] ++ x19)) := M222120.out.keep (fun q hq hlt9 => hF9.block q hlt9 (fun e => by omega))
          have O2322210 : Hid (TmsOwn (fun q => N2 ≤ q) w23 (.slice p21 l21 c21) x21) := O22210.out.keep (fun q hq hlt9 => hF9.block q hlt9 (fun e => by omega))
          clear hF9 hA9 K23 F22 S22 B22 X22 A22 s0 s1 s2 s3 s4 s5 s6 s7 s8 M222120 O22210
          obtain ⟨b0, b1, b2, b3, b4, b5, b6, b7, b8, b9⟩ := bx10 B23.out
          obtain ⟨g0, g1, g2, g3, g4, g5, g6, g7, g8, g9⟩ := bz10 B23.out
          go_upto_region 13 with fail
          refine wp_world ?_
          intro W24 hW24
          have G24 : Hid (Fr (fun k => k = n7 + 1) w23 W24) := by rw [hW24]; exact (Fr.refl (fun k => k = n7 + 1) w23).setCell (p := ⟨n7 + 1, 9, none⟩) (Or.inl rfl) _
          have B24 : Hid (W24.heap[n7 + 1]? = some (.cells #[.int .i64 k, .string x13, .int .i64 x15, .slice pv19 (1 + x19.length) cv19, .slice p21 l21 c21, .int .i64 0, .int .i64 0, .bool false, .slice none 0 0, .slice p23 l23 c23] 29 (0, 0))) := by rw [hW24]; exact (set_heap (j := 9) B23.out (.slice p23 l23 c23))
          clear hW24
          have F24 : Hid (Fr (fun k => k = R) w W24) := F23.out.trans G24.out (fun k e => Or.inr (by omega))
          have S24 : Hid (W24.heap[n7]? = _) := G24.out.heap S23.out (fun e => by omega)
          have X24 : Hid (W24.heap[w.heap.size]? = _) := G24.out.heap X23.out (fun e => by omega)
          have A24 : Hid (RdAt m W24 R sz r7) := A23.out.fr G24.out (fun k e => by omega)
          have y24 : N2 ≤ W24.heap.size := Nat.le_trans y23 G24.out.size
          have M2423222120 : Hid (NmsOwn (fun q => N2 ≤ q) W24 (.slice pv19 (1 + x19.length) cv19) ([x17] ++ x19)) := M23222120.out.keep (fun q hq hlt9 => G24.out.block q hlt9 (fun e => by omega))
          have O242322210 : Hid (TmsOwn (fun q => N2 ≤ q) W24 (.slice p21 l21 c21) x21) := O2322210.out.keep (fun q hq hlt9 => G24.out.block q hlt9 (fun e => by omega))
          have O24230 : Hid (RxsOwn (fun q => N2 ≤ q) W24 (.slice p23 l23 c23) x23) := O230.out.keep (fun q hq hlt9 => G24.out.block q hlt9 (fun e => by omega))
          clear G24 F23 S23 B23 X23 A23 b0 b1 b2 b3 b4 b5 b6 b7 b8 b9 g0 g1 g2 g3 g4 g5 g6 g7 g8 g9 M23222120 O2322210 O230
          obtain ⟨s0, s1, s2, s3, s4, s5, s6, s7, s8⟩ := bx9 S24.out
          have K25 : Hid (Calls Tryz.prog 159 #[.pointer (some ⟨R, 0, none⟩), .int .i64 ((1 : Nat) : Int), .bool false, .int .i64 d] W24 (RdO m R sz W24 (fun l v w' => FmsOwn (fun q => W24.heap.size ≤ q) w' v l) (rMany pf false n 1 r7))) := CF.out r7 W24 (by omega) A24.out
          cases hP25 : rMany pf false n 1 r7 with
          | bad er a =>
            rw [hP25] at K25 hEQ
            go_wp2_with fail
            refine K25.out.mono ?_
            rintro e w9 ⟨rfl, hF9⟩
            refine ⟨rfl, ?_⟩
            rw [hEQ.out]
            exact ⟨rfl, F24.out.trans hF9 (fun k e => Or.inl e)⟩
          | ok x25 r8 =>
            rw [hP25, Rd.bind_ok] at hEQ
            rw [hP25] at K25
            clear hP25
            go_wp2_with fail
            refine K25.out.mono ?_
            rintro e w25 ⟨v25, rfl, hQ9, hA9, hF9⟩
            have O250 : Hid (FmsOwn (fun q => N2 ≤ q) w25 v25 x25) := hQ9.mono (fun q hq _ => by omega)
            obtain ⟨p25, c25, rfl, -⟩ := hQ9.at.form
            obtain ⟨l25, el25⟩ : ∃ y, Hid (x25.length = y) := ⟨_, rfl⟩
            rw [el25.out] at O250 ⊢
            clear hQ9
            have F25 : Hid (Fr (fun k => k = R) w w25) := F24.out.trans hF9 (fun k e => Or.inl e)
            have S25 : Hid (w25.heap[n7]? = _) := hF9.heap S24.out (fun e => by omega)
            have B25 : Hid (w25.heap[n7 + 1]? = _) := hF9.heap B24.out (fun e => by omega)
            have X25 : Hid (w25.heap[w.heap.size]? = _) := hF9.heap X24.out (fun e => by omega)
            have A25 : Hid (RdAt m w25 R sz r8) := hA9
            have y25 : N2 ≤ w25.heap.size := Nat.le_trans y24 hF9.size
            have M252423222120 : Hid (NmsOwn (fun q => N2 ≤ q) w25 (.slice pv19 (1 + x19.length) cv19) ([x17] ++ x19)) := M2423222120.out.keep (fun q hq hlt9 => hF9.block q hlt9 (fun e => by omega))
            have O25242322210 : Hid (TmsOwn (fun q => N2 ≤ q) w25 (.slice p21 l21 c21) x21) := O242322210.out.keep (fun q hq hlt9 => hF9.block q hlt9 (fun e => by omega))
            have O2524230 : Hid (RxsOwn (fun q => N2 ≤ q) w25 (.slice p23 l23 c23) x23) := O24230.out.keep (fun q hq hlt9 => hF9.block q hlt9 (fun e => by omega))
            clear hF9 hA9 K25 F24 S24 B24 X24 A24 s0 s1 s2 s3 s4 s5 s6 s7 s8 M2423222120 O242322210 O24230
            obtain ⟨b0, b1, b2, b3, b4, b5, b6, b7, b8, b9⟩ := bx10 B25.out
            obtain ⟨g0, g1, g2, g3, g4, g5, g6, g7, g8, g9⟩ := bz10 B25.out
            go_upto_region 14 with fail
            refine wp_world ?_
            intro W26 hW26
            have G26 : Hid (Fr (fun k => k = n7 + 1) w25 W26) := by rw [hW26]; exact (Fr.refl (fun k => k = n7 + 1) w25).setCell (p := ⟨n7 + 1, 8, none⟩) (Or.inl rfl) _
            have B26 : Hid (W26.heap[n7 + 1]? = some (.cells #[.int .i64 k, .string x13, .int .i64 x15, .slice pv19 (1 + x19.length) cv19, .slice p21 l21 c21, .int .i64 0, .int .i64 0, .bool false, .slice p25 l25 c25, .slice p23 l23 c23] 29 (0, 0))) := by rw [hW26]; exact (set_heap (j := 8) B25.out (.slice p25 l25 c25))
            clear hW26
            have F26 : Hid (Fr (fun k => k = R) w W26) := F25.out.trans G26.out (fun k e => Or.inr (by omega))
            have S26 : Hid (W26.heap[n7]? = _) := G26.out.heap S25.out (fun e => by omega)
            have X26 : Hid (W26.heap[w.heap.size]? = _) := G26.out.heap X25.out (fun e => by omega)
            have A26 : Hid (RdAt m W26 R sz r8) := A25.out.fr G26.out (fun k e => by omega)
            have y26 : N2 ≤ W26.heap.size := Nat.le_trans y25 G26.out.size
            have M26252423222120 : Hid (NmsOwn (fun q => N2 ≤ q) W26 (.slice pv19 (1 + x19.length) cv19) ([x17] ++ x19)) := M252423222120.out.keep (fun q hq hlt9 => G26.out.block q hlt9 (fun e => by omega))
            have O2625242322210 : Hid (TmsOwn (fun q => N2 ≤ q) W26 (.slice p21 l21 c21) x21) := O25242322210.out.keep (fun q hq hlt9 => G26.out.block q hlt9 (fun e => by omega))
            have O262524230 : Hid (RxsOwn (fun q => N2 ≤ q) W26 (.slice p23 l23 c23) x23) := O2524230.out.keep (fun q hq hlt9 => G26.out.block q hlt9 (fun e => by omega))
            have O26250 : Hid (FmsOwn (fun q => N2 ≤ q) W26 (.slice p25 l25 c25) x25) := O250.out.keep (fun q hq hlt9 => G26.out.block q hlt9 (fun e => by omega))
            clear G26 F25 S25 B25 X25 A25 b0 b1 b2 b3 b4 b5 b6 b7 b8 b9 g0 g1 g2 g3 g4 g5 g6 g7 g8 g9 M252423222120 O25242322210 O2524230 O250
            obtain ⟨b0, b1, b2, b3, b4, b5, b6, b7, b8, b9⟩ := bx10 B26.out
            obtain ⟨r0, r1, r2, r3, r4, r5, r6, r7, r8, r9⟩ := bx10 X26.out
            obtain ⟨q0, q1, q2, q3, q4, q5, q6, q7, q8, q9⟩ := bz10 X26.out
            go_wp2
            generalize hW9 : World.setCell _ _ _ = W9
            have X9 : W9.heap[w.heap.size]? = some (.cells #[.int .i64 k, .string x13, .int .i64 x15, .slice pv19 (1 + x19.length) cv19, .slice p21 l21 c21, .int .i64 0, .int .i64 0, .bool false, .slice p25 l25 c25, .slice p23 l23 c23] 29 (0, 0)) := by rw [← hW9]; exact put10 X26.out
            have F9 : Fr (fun k => k = R) w W9 := by rw [← hW9]; exact frp10 F26.out (Or.inr (Nat.le_refl _)) _ _ _ _ _ _ _ _ _ _
            have G9 : Fr (fun k => k = w.heap.size) W26 W9 := by rw [← hW9]; exact frp10 (Fr.refl (fun k => k = w.heap.size) W26) (Or.inl rfl) _ _ _ _ _ _ _ _ _ _
            clear hW9
            obtain ⟨oc0, oc1, oc2, oc3, oc4, oc5, oc6, oc7, oc8, oc9⟩ := bx10 X9
            refine bodyPost_ret (by simp [results, Tryz.results121, go_sem, oc0, oc1, oc2, oc3, oc4, oc5, oc6, oc7, oc8, oc9]; try rfl) rfl ?_
            rw [hEQ.out]
            exact ⟨_, rfl, ⟨⟨(.slice pv19 (1 + x19.length) cv19), (.slice p21 l21 c21), (.slice p25 l25 c25), (.slice p23 l23 c23)⟩, rfl, ⟨(M26252423222120.out.keep (w' := W9) (fun q hq hlt9 => G9.block q hlt9 (fun e => by omega))).mono (fun q hq _ => by omega), (O2625242322210.out.keep (w' := W9) (fun q hq hlt9 => G9.block q hlt9 (fun e => by omega))).mono (fun q hq _ => by omega), (O26250.out.keep (w' := W9) (fun q hq hlt9 => G9.block q hlt9 (fun e => by omega))).mono (fun q hq _ => by omega), (O262524230.out.keep (w' := W9) (fun q hq hlt9 => G9.block q hlt9 (fun e => by omega))).mono (fun q hq _ => by omega)⟩⟩, A26.out.fr G9 (fun k e => by omega), F9⟩
end Go.Proofs.YticnfeolbfmgfaaGreatDoor

namespace Go.Proofs.YticnfeolbfmgfaaGreatDoor
open Go.RowKit LX Go.Shelf
set_option linter.unusedVariables false

theorem shaped_any (m R sz N : Nat) (ts : List (Tok Val)) (d k : Int) (w : World) (h : RdAt m w R sz ts) (n : Nat) (pt : List (Tok Val) → Rd Tm) (pf : List (Tok Val) → Rd Fm) (pr : List (Tok Val) → Rd Rx) (hst : Shr pt) (hsr : Shr pr) (hN : ts.length ≤ N) (hk1 : 4 ≤ k) (hk2 : k ≤ 22)
    (HT : ∀ (kk : Nat) (rr : List (Tok Val)) (W : World), rr.length ≤ N → RdAt m W R sz rr → Calls Tryz.prog 120 #[.pointer (some ⟨R, 0, none⟩), .int .i64 ((kk : Nat) : Int), .bool false, .int .i64 d] W (RdO m R sz W (fun l v w' => TmsOwn (fun q => W.heap.size ≤ q) w' v l) (rMany pt false n kk rr)))
    (HR : ∀ (kk : Nat) (rr : List (Tok Val)) (W : World), rr.length ≤ N → RdAt m W R sz rr → Calls Tryz.prog 158 #[.pointer (some ⟨R, 0, none⟩), .int .i64 ((kk : Nat) : Int), .int .i64 d] W (RdO m R sz W (fun l v w' => RxsOwn (fun q => W.heap.size ≤ q) w' v l) (rMany pr false n kk rr)))
    (HF : ∀ (kk : Nat) (more : Bool) (rr : List (Tok Val)) (W : World), rr.length ≤ N → RdAt m W R sz rr → Calls Tryz.prog 159 #[.pointer (some ⟨R, 0, none⟩), .int .i64 ((kk : Nat) : Int), .bool more, .int .i64 d] W (RdO m R sz W (fun l v w' => FmsOwn (fun q => W.heap.size ≤ q) w' v l) (rMany pf more n kk rr))) : Calls Tryz.prog 121 #[.pointer (some ⟨R, 0, none⟩), .int .i64 k, .int .i64 d] w (RdO m R sz w (FmV w) (pShaped sz n pt pf pr k ts)) := by
  by_cases e4 : k = 4
  · subst e4; exact shaped_terms m R sz N ts d 4 _ w h n pt pf pr hst hsr hN (by omega) (by omega) rfl rfl HT HR HF
  by_cases e5 : k = 5
  · subst e5; exact shaped_terms m R sz N ts d 5 _ w h n pt pf pr hst hsr hN (by omega) (by omega) rfl rfl HT HR HF
  by_cases e6 : k = 6
  · subst e6; exact shaped_terms m R sz N ts d 6 _ w h n pt pf pr hst hsr hN (by omega) (by omega) rfl rfl HT HR HF
  by_cases e7 : k = 7
  · subst e7; exact shaped_one m R sz N ts d 7 _ w h n pt pf pr hst hsr hN (by omega) (by omega) rfl rfl HT HR HF
  by_cases e8 : k = 8
  · subst e8; exact shaped_two m R sz N ts d 8 _ w h n pt pf pr hst hsr hN (by omega) (by omega) rfl rfl HT HR HF
  by_cases e9 : k = 9
  · subst e9; exact shaped_two m R sz N ts d 9 _ w h n pt pf pr hst hsr hN (by omega) (by omega) rfl rfl HT HR HF
  by_cases e10 : k = 10
  · subst e10; exact shaped_ex m R sz N ts d 10 _ w h n pt pf pr hst hsr hN (by omega) (by omega) rfl rfl HT HR HF
  by_cases e11 : k = 11
  · subst e11; exact shaped_t1 m R sz N ts d 11 _ w h n pt pf pr hst hsr hN (by omega) (by omega) rfl rfl HT HR HF
  by_cases e12 : k = 12
  · subst e12; exact shaped_t1 m R sz N ts d 12 _ w h n pt pf pr hst hsr hN (by omega) (by omega) rfl rfl HT HR HF
  by_cases e13 : k = 13
  · subst e13; exact shaped_t1 m R sz N ts d 13 _ w h n pt pf pr hst hsr hN (by omega) (by omega) rfl rfl HT HR HF
  by_cases e14 : k = 14
  · subst e14; exact shaped_t1 m R sz N ts d 14 _ w h n pt pf pr hst hsr hN (by omega) (by omega) rfl rfl HT HR HF
  by_cases e15 : k = 15
  · subst e15; exact shaped_t2 m R sz N ts d 15 _ w h n pt pf pr hst hsr hN (by omega) (by omega) rfl rfl HT HR HF
  by_cases e16 : k = 16
  · subst e16; exact shaped_t2 m R sz N ts d 16 _ w h n pt pf pr hst hsr hN (by omega) (by omega) rfl rfl HT HR HF
  by_cases e17 : k = 17
  · subst e17; exact shaped_tr m R sz N ts d 17 _ w h n pt pf pr hst hsr hN (by omega) (by omega) rfl rfl HT HR HF
  by_cases e18 : k = 18
  · subst e18; exact shaped_tr m R sz N ts d 18 _ w h n pt pf pr hst hsr hN (by omega) (by omega) rfl rfl HT HR HF
  by_cases e19 : k = 19
  · subst e19; exact shaped_agg m R sz N ts d 19 _ w h n pt pf pr hst hsr hN (by omega) (by omega) rfl rfl HT HR HF
  by_cases e20 : k = 20
  · subst e20; exact shaped_let m R sz N ts d 20 _ w h n pt pf pr hst hsr hN (by omega) (by omega) rfl rfl HT HR HF
  by_cases e21 : k = 21
  · subst e21; exact shaped_let m R sz N ts d 21 _ w h n pt pf pr hst hsr hN (by omega) (by omega) rfl rfl HT HR HF
  by_cases e22 : k = 22
  · subst e22; exact shaped_join m R sz N ts d 22 _ w h n pt pf pr hst hsr hN (by omega) (by omega) rfl rfl HT HR HF
  omega
theorem headed_any (m R sz N : Nat) (ts : List (Tok Val)) (d : Int) (w : World) (h : RdAt m w R sz ts) (n : Nat) (pt : List (Tok Val) → Rd Tm) (pf : List (Tok Val) → Rd Fm) (pr : List (Tok Val) → Rd Rx) (hst : Shr pt) (hsr : Shr pr) (hN : ts.length ≤ N)
    (HT0 : ∀ (rr : List (Tok Val)) (W : World), rr.length ≤ N → RdAt m W R sz rr → Calls Tryz.prog 120 #[.pointer (some ⟨R, 0, none⟩), .int .i64 ((0 : Nat) : Int), .bool true, .int .i64 d] W (RdO m R sz W (fun l v w' => TmsOwn (fun q => W.heap.size ≤ q) w' v l) (rMany pt true n 0 rr)))
    (HT : ∀ (kk : Nat) (rr : List (Tok Val)) (W : World), rr.length ≤ N → RdAt m W R sz rr → Calls Tryz.prog 120 #[.pointer (some ⟨R, 0, none⟩), .int .i64 ((kk : Nat) : Int), .bool false, .int .i64 d] W (RdO m R sz W (fun l v w' => TmsOwn (fun q => W.heap.size ≤ q) w' v l) (rMany pt false n kk rr)))
    (HR : ∀ (kk : Nat) (rr : List (Tok Val)) (W : World), rr.length ≤ N → RdAt m W R sz rr → Calls Tryz.prog 158 #[.pointer (some ⟨R, 0, none⟩), .int .i64 ((kk : Nat) : Int), .int .i64 d] W (RdO m R sz W (fun l v w' => RxsOwn (fun q => W.heap.size ≤ q) w' v l) (rMany pr false n kk rr)))
    (HF : ∀ (kk : Nat) (more : Bool) (rr : List (Tok Val)) (W : World), rr.length ≤ N → RdAt m W R sz rr → Calls Tryz.prog 159 #[.pointer (some ⟨R, 0, none⟩), .int .i64 ((kk : Nat) : Int), .bool more, .int .i64 d] W (RdO m R sz W (fun l v w' => FmsOwn (fun q => W.heap.size ≤ q) w' v l) (rMany pf more n kk rr))) : Calls Tryz.prog 75 #[.pointer (some ⟨R, 0, none⟩), .int .i64 d] w (RdO m R sz w (FmV w) (pHead sz n pt pf pr ts)) := by
  obtain ⟨u, hu, hT, hlu⟩ := pHead_eq sz n pt pf pr ts
  rw [hu]
  have hlN : u.length ≤ N := by omega
  cases hb : nameB (txB (tkH sz ts)) with
  | true =>
    have hx : (tkH sz ts).x ≠ [] := fun e => by
      have e2 : txB (tkH sz ts) = ⟨#[]⟩ := by unfold txB; rw [e]
      rw [e2, nameB_nil] at hb
      cases hb
    obtain ⟨t, ht⟩ := hT hx
    rw [if_pos rfl]
    exact headed_name m R sz ts d w h n pt hb t u ht (fun W hW => HT0 u W hlN hW)
  | false =>
    rw [if_neg (by simp)]
    refine headed_word m R sz ts d w h n pt pf pr hb u (fun ⟨k, e⟩ => hT (fun hx => ?_)) (fun kk W h4 h22 hW => shaped_any m R sz N u d kk W hW n pt pf pr hst hsr hlN h4 h22 HT HR HF)
    rw [hx] at e
    revert e
    have hn : kindIn hdF [] 4 19 = none := rfl
    rw [hn]
    intro e
    cases e
theorem headR_any (m R sz N : Nat) (ts : List (Tok Val)) (d : Int) (w : World) (h : RdAt m w R sz ts) (n : Nat) (pf : List (Tok Val) → Rd Fm) (pr : List (Tok Val) → Rd Rx) (hN : ts.length ≤ N)
    (HR : ∀ (kk : Nat) (rr : List (Tok Val)) (W : World), rr.length ≤ N → RdAt m W R sz rr → Calls Tryz.prog 158 #[.pointer (some ⟨R, 0, none⟩), .int .i64 ((kk : Nat) : Int), .int .i64 d] W (RdO m R sz W (fun l v w' => RxsOwn (fun q => W.heap.size ≤ q) w' v l) (rMany pr false n kk rr)))
    (HF : ∀ (kk : Nat) (more : Bool) (rr : List (Tok Val)) (W : World), rr.length ≤ N → RdAt m W R sz rr → Calls Tryz.prog 159 #[.pointer (some ⟨R, 0, none⟩), .int .i64 ((kk : Nat) : Int), .bool more, .int .i64 d] W (RdO m R sz W (fun l v w' => FmsOwn (fun q => W.heap.size ≤ q) w' v l) (rMany pf more n kk rr))) :
    Calls Tryz.prog 225 #[.pointer (some ⟨R, 0, none⟩), .int .i64 d] w (RdO m R sz w (RxV w) (pHeadR sz n pf pr ts)) := by
  obtain ⟨u, hu, hT⟩ := pHeadR_eq sz n pf pr ts
  rw [hu]
  have hlu : (tkH sz ts).x ≠ [] → u.length ≤ N := fun hx => by
    obtain ⟨t, ht⟩ := hT hx
    rw [ht] at hN
    simp at hN
    omega
  by_cases h2 : (tkH sz ts).x = hdR 2
  · have hx : (tkH sz ts).x ≠ [] := by rw [h2]; decide
    obtain ⟨t, ht⟩ := hT hx
    rw [if_pos h2]
    exact headR_2 m R sz ts d w h n pf h2 t u ht (fun W hW => HF 1 false u W (hlu hx) hW)
  rw [if_neg h2]
  by_cases h3 : (tkH sz ts).x = hdR 3
  · have hx : (tkH sz ts).x ≠ [] := by rw [h3]; decide
    obtain ⟨t, ht⟩ := hT hx
    rw [if_pos h3]
    exact headR_3 m R sz ts d w h n pr h3 t u ht (fun W hW => HR 2 u W (hlu hx) hW)
  rw [if_neg h3]
  by_cases h4 : (tkH sz ts).x = hdR 4
  · have hx : (tkH sz ts).x ≠ [] := by rw [h4]; decide
    obtain ⟨t, ht⟩ := hT hx
    rw [if_pos h4]
    exact headR_4 m R sz ts d w h n pr h4 t u ht (fun W hW => HR 2 u W (hlu hx) hW)
  rw [if_neg h4]
  by_cases h5 : (tkH sz ts).x = hdR 5
  · have hx : (tkH sz ts).x ≠ [] := by rw [h5]; decide
    obtain ⟨t, ht⟩ := hT hx
    rw [if_pos h5]
    exact headR_5 m R sz ts d w h n pr h5 t u ht (fun W hW => HR 1 u W (hlu hx) hW)
  rw [if_neg h5]
  exact headR_none m R sz ts d w h h2 h3 h4 h5
theorem FR_any (m R sz : Nat) : ∀ n : Nat, (∀ (d : Int) (ts : List (Tok Val)) (w : World), ts.length < n → 0 ≤ d → d ≤ 25 → RdAt m w R sz ts → Calls Tryz.prog 31 #[.pointer (some ⟨R, 0, none⟩), .int .i64 d] w (RdO m R sz w (FmV w) ((pFR sz n).1 d ts))) ∧ (∀ (d : Int) (ts : List (Tok Val)) (w : World), ts.length < n → 0 ≤ d → d ≤ 25 → RdAt m w R sz ts → Calls Tryz.prog 188 #[.pointer (some ⟨R, 0, none⟩), .int .i64 d] w (RdO m R sz w (RxV w) ((pFR sz n).2 d ts)))
  | 0 => ⟨fun d ts w hn => absurd hn (Nat.not_lt_zero _), fun d ts w hn => absurd hn (Nat.not_lt_zero _)⟩
  | n + 1 => by
    have ih := FR_any m R sz n
    have HT : ∀ (d : Int), 0 ≤ d → d ≤ 25 → ∀ (kk : Nat) (more : Bool) (rr : List (Tok Val)) (W : World), rr.length < n → RdAt m W R sz rr → Calls Tryz.prog 120 #[.pointer (some ⟨R, 0, none⟩), .int .i64 kk, .bool more, .int .i64 d] W (RdO m R sz W (fun l v w' => TmsOwn (fun q => W.heap.size ≤ q) w' v l) (rMany (pT sz n d) more n kk rr)) := fun d h0 h1 kk more rr W hr hW => rterms_any m R sz n kk d more rr W hr h0 h1 hW
    have HF : ∀ (d : Int), 0 ≤ d → d ≤ 25 → ∀ (kk : Nat) (more : Bool) (rr : List (Tok Val)) (W : World), rr.length < n → RdAt m W R sz rr → Calls Tryz.prog 159 #[.pointer (some ⟨R, 0, none⟩), .int .i64 ((kk : Nat) : Int), .bool more, .int .i64 d] W (RdO m R sz W (fun l v w' => FmsOwn (fun q => W.heap.size ≤ q) w' v l) (rMany ((pFR sz n).1 d) more n kk rr)) := fun d h0 h1 kk more rr W hr hW => formulas_step m R sz rr.length d ((pFR sz n).1 d) (shr_FR sz n d).1 (fun ts' W' hl hW' => ih.1 d ts' W' (by omega) h0 h1 hW') more n kk rr W (Nat.le_refl _) hr hW
    have HR : ∀ (d : Int), 0 ≤ d → d ≤ 25 → ∀ (kk : Nat) (rr : List (Tok Val)) (W : World), rr.length < n → RdAt m W R sz rr → Calls Tryz.prog 158 #[.pointer (some ⟨R, 0, none⟩), .int .i64 ((kk : Nat) : Int), .int .i64 d] W (RdO m R sz W (fun l v w' => RxsOwn (fun q => W.heap.size ≤ q) w' v l) (rMany ((pFR sz n).2 d) false n kk rr)) := fun d h0 h1 kk rr W hr hW => regexes_step m R sz rr.length d ((pFR sz n).2 d) (shr_FR sz n d).2 (fun ts' W' hl hW' => ih.2 d ts' W' (by omega) h0 h1 hW') n kk rr W (Nat.le_refl _) hr hW
    have deepK : ∀ (d : Int) (ts : List (Tok Val)) (w : World), RdAt m w R sz ts → (tkH sz ts).x ≠ [] → (∀ t u, ts = t :: u → (tkH sz ts).k ≠ 0) := fun d ts w h hx t u ht => by
      rw [ht]
      exact (h.ok t (by rw [ht]; simp)).2.1
    constructor
    · intro d ts w hn h0 h1 h
      by_cases hd : 24 < d ∧ (tkH sz ts).k ≠ 0
      · have e : (pFR sz (n + 1)).1 d ts = .bad 71 (tkH sz ts).at_ := pForm_deep sz n _ _ _ d ts hd
        rw [e]
        exact formula_deep m R sz ts d w h hd
      obtain ⟨u, hu, hT⟩ := pForm_eq sz n (pT sz n (d + 1)) ((pFR sz n).1 (d + 1)) ((pFR sz n).2 (d + 1)) d ts hd h.ok
      have e : (pFR sz (n + 1)).1 d ts = _ := hu
      rw [e]
      by_cases h2 : (tkH sz ts).x = [116, 114, 117, 101]
      · obtain ⟨t, ht⟩ := hT (by rw [h2]; decide)
        rw [if_pos h2]
        exact formula_true m R sz ts d w h hd h2 t u ht
      rw [if_neg h2]
      by_cases h3 : (tkH sz ts).x = [102, 97, 108, 115, 101]
      · obtain ⟨t, ht⟩ := hT (by rw [h3]; decide)
        rw [if_pos h3]
        exact formula_false m R sz ts d w h hd h3 t u ht
      rw [if_neg h3]
      by_cases h4 : (tkH sz ts).x = [40]
      · have hx : (tkH sz ts).x ≠ [] := by rw [h4]; decide
        obtain ⟨t, ht⟩ := hT hx
        rw [if_pos h4]
        have hk0 := deepK d ts w h hx t u ht
        have hd2 : d ≤ 24 := by
          by_cases h24 : 24 < d
          · exact absurd ⟨h24, hk0⟩ hd
          · omega
        have hlu : u.length + 1 ≤ n := by rw [ht] at hn; simp at hn; omega
        exact formula_open m R sz ts d w h _ hd h0 (by omega) h2 h3 h4 t u ht (fun W hW => headed_any m R sz u.length u (d + 1) W hW n _ _ _ (shr_T sz n (d + 1)) (shr_FR sz n (d + 1)).2 (Nat.le_refl _) (fun rr W hl hW => HT (d + 1) (by omega) (by omega) 0 true rr W (by omega) hW) (fun kk rr W hl hW => HT (d + 1) (by omega) (by omega) kk false rr W (by omega) hW) (fun kk rr W hl hW => HR (d + 1) (by omega) (by omega) kk rr W (by omega) hW) (fun kk more rr W hl hW => HF (d + 1) (by omega) (by omega) kk more rr W (by omega) hW))
      rw [if_neg h4]
      exact formula_none m R sz ts d w h hd h2 h3 h4
    · intro d ts w hn h0 h1 h
      by_cases hd : 24 < d ∧ (tkH sz ts).k ≠ 0
      · have e : (pFR sz (n + 1)).2 d ts = .bad 71 (tkH sz ts).at_ := pRegex_deep sz n _ _ d ts hd
        rw [e]
        exact regex_deep m R sz ts d w h hd
      obtain ⟨u, hu, hT⟩ := pRegex_eq sz n ((pFR sz n).1 (d + 1)) ((pFR sz n).2 (d + 1)) d ts hd h.ok
      have e : (pFR sz (n + 1)).2 d ts = _ := hu
      rw [e]
      by_cases h2 : (tkH sz ts).x = [97, 110, 121]
      · obtain ⟨t, ht⟩ := hT (by rw [h2]; decide)
        rw [if_pos h2]
        exact regex_one m R sz ts d w h hd h2 t u ht
      rw [if_neg h2]
      by_cases h4 : (tkH sz ts).x = [40]
      · have hx : (tkH sz ts).x ≠ [] := by rw [h4]; decide
        obtain ⟨t, ht⟩ := hT hx
        rw [if_pos h4]
        have hk0 := deepK d ts w h hx t u ht
        have hd2 : d ≤ 24 := by
          by_cases h24 : 24 < d
          · exact absurd ⟨h24, hk0⟩ hd
          · omega
        have hlu : u.length + 1 ≤ n := by rw [ht] at hn; simp at hn; omega
        exact regex_open m R sz ts d w h _ hd h0 (by omega) h2 h4 t u ht (fun W hW => headR_any m R sz u.length u (d + 1) W hW n _ _ (Nat.le_refl _) (fun kk rr W hl hW => HR (d + 1) (by omega) (by omega) kk rr W (by omega) hW) (fun kk more rr W hl hW => HF (d + 1) (by omega) (by omega) kk more rr W (by omega) hW))
      rw [if_neg h4]
      exact regex_none m R sz ts d w h hd h2 h4
end Go.Proofs.YticnfeolbfmgfaaGreatDoor

namespace Go.Proofs.YticnfeolbfmgfaaGreatDoor
open Go.RowKit LX Go.Shelf
set_option linter.unusedVariables false

/-- What all tokens come to. -/
def WhO (sz : Nat) (w : World) (L : List (Tok Val)) (e : Ending) (w' : World) : Prop := Below w.heap.size w w' ∧ ((∃ er a, pAll sz L = .bad er a ∧ e = faultE er a) ∨ ∃ f v, pAll sz L = .ok f [] ∧ e = .returned v ∧ FmV w f v w')
set_option maxRecDepth 100000 in
set_option maxHeartbeats 8000000 in
theorem whole_syn (sz : Nat) (L : List (Tok Val)) (b off c : Nat) (w : World) (hL : L.length + 1 ≤ c ∧ b < w.heap.size ∧ (L.length ≤ 16384 ∧ ∀ t ∈ L, TkOk t) ∧ (∀ i (h : i < L.length), TkC w b (off + i * 7) L[i]) ∧ TkC w b (off + L.length * 7) (endT sz)) :
    Calls Tryz.prog 18 #[.slice (some ⟨b, off, none⟩) (L.length + 1) c] w (WhO sz w L) := by
  obtain ⟨h2, hb, h5, h6, h7⟩ := hL
  have HO : Hid (∀ er a, (pFR sz (L.length + 1)).1 1 L = .bad er a → pAll sz L = .bad er a) := fun er a e => by unfold pAll; rw [e]; rfl
  have HO2 : Hid (∀ f r, (pFR sz (L.length + 1)).1 1 L = .ok f r → pAll sz L = (match r with | [] => .ok f [] | t :: _ => .bad 70 t.at_)) := fun f r e => by unfold pAll; rw [e]; rfl
  go_enter Tryz.func18, Tryz.ntmps18
  go_upto_region 2 with fail
  refine wp_world ?_
  intro W2 hW2
  have X2 : Hid (W2.heap[w.heap.size]? = some (.cells #[.int .i64 0, .string ⟨#[]⟩, .int .i64 0, .slice none 0 0, .slice none 0 0, .int .i64 0, .int .i64 0, .bool false, .slice none 0 0, .slice none 0 0] 29 (0, 0))) := by rw [hW2]; exact (Below.heap_alloc _ _ _ (by simp)).trans (new_box w _)
  have R2 : Hid (W2.heap[w.heap.size + 1]? = some (.cells #[.slice (some ⟨b, off, none⟩) (L.length + 1) c] 74 (0, 0))) := by
    rw [hW2]
    have q := new_box (w.alloc (.cells #[.int .i64 0, .string ⟨#[]⟩, .int .i64 0, .slice none 0 0, .slice none 0 0, .int .i64 0, .int .i64 0, .bool false, .slice none 0 0, .slice none 0 0] 29)) (.cells #[.slice (some ⟨b, off, none⟩) (L.length + 1) c] 74)
    simp only [World.size_alloc] at q
    exact q
  have B2 : Hid (Below w.heap.size w W2) := by rw [hW2]; exact ((Below.refl _ _).alloc (Nat.le_refl _) _).alloc (by simp) _
  have z2 : W2.heap.size = w.heap.size + 2 := by rw [hW2]; simp
  clear hW2
  have A2 : Hid (RdAt (w.heap.size + 2) W2 (w.heap.size + 1) sz L) := ⟨b, off, c, R2.out, h2, by omega, ⟨by omega, by omega, by omega⟩, h5, fun i hi => (h6 i hi).fr (P := fun _ => False) (Fr.of_below B2.out) hb (fun q => q), h7.fr (P := fun _ => False) (Fr.of_below B2.out) hb (fun q => q)⟩
  have CF : Hid (Calls Tryz.prog 31 #[.pointer (some ⟨w.heap.size + 1, 0, none⟩), .int .i64 1] W2 (RdO (w.heap.size + 2) (w.heap.size + 1) sz W2 (FmV W2) ((pFR sz (L.length + 1)).1 1 L))) := (FR_any (w.heap.size + 2) (w.heap.size + 1) sz (L.length + 1)).1 1 L W2 (by omega) (by omega) (by omega) A2.out
  have Z2 : Hid (W2.heap.size = w.heap.size + 2) := z2
  clear h2 h5 h6 h7 R2 A2 z2
  cases hP : (pFR sz (L.length + 1)).1 1 L with
  | bad er a =>
    rw [hP] at CF
    go_wp2_with fail
    refine CF.out.mono ?_
    rintro e w3 ⟨rfl, hF3⟩
    exact ⟨rfl, B2.out.trans (hF3.below B2.out.size (fun k e => by omega)), Or.inl ⟨er, a, HO.out er a hP, rfl⟩⟩
  | ok ff r =>
    rw [hP] at CF
    have hA := HO2.out ff r hP
    clear HO HO2 hP
    go_wp2_with fail
    refine CF.out.mono ?_
    rintro e w3 ⟨v3, rfl, ⟨q3, rfl, hQ3⟩, hA3, hF3⟩
    have HQ : Hid (QOwn (fun q => W2.heap.size ≤ q) w3 (ff, q3)) := hQ3
    obtain ⟨uv, ut, us, ur⟩ := q3
    obtain ⟨k1, k2, k3, k4⟩ := hQ3.at
    dsimp only at k1 k2 k3 k4
    obtain ⟨-, qv, dv, rfl, -⟩ := k1
    obtain ⟨qt, dt, rfl, -⟩ := k2.form
    obtain ⟨qs, ds, rfl, -⟩ := k3.form
    obtain ⟨qr, dr, rfl, -⟩ := k4.form
    clear k2 k3 k4 hQ3
    have zz := Z2.out
    have X3 : Hid (w3.heap[w.heap.size]? = some (.cells #[.int .i64 0, .string ⟨#[]⟩, .int .i64 0, .slice none 0 0, .slice none 0 0, .int .i64 0, .int .i64 0, .bool false, .slice none 0 0, .slice none 0 0] 29 (0, 0))) := hF3.heap X2.out (fun e => by omega)
    have B3 : Hid (Below w.heap.size w w3) := B2.out.trans (hF3.below B2.out.size (fun k e => by omega))
    have A3 : Hid (RdAt (w.heap.size + 2) w3 (w.heap.size + 1) sz r) := hA3
    have z3 : W2.heap.size ≤ w3.heap.size := hF3.size
    clear hF3 hA3 CF X2 B2
    obtain ⟨fk, efk⟩ : ∃ x, Hid (ff.k = x) := ⟨_, rfl⟩
    obtain ⟨fnm, efn⟩ : ∃ x, Hid (ff.nm = x) := ⟨_, rfl⟩
    obtain ⟨fop, efo⟩ : ∃ x, Hid (ff.op = x) := ⟨_, rfl⟩
    obtain ⟨flo, efl⟩ : ∃ x, Hid (ff.lo = x) := ⟨_, rfl⟩
    obtain ⟨fhi, efh⟩ : ∃ x, Hid (ff.hi = x) := ⟨_, rfl⟩
    obtain ⟨fop2, efp⟩ : ∃ x, Hid (ff.opn = x) := ⟨_, rfl⟩
    obtain ⟨nv, env⟩ : ∃ x, Hid (ff.vars.length = x) := ⟨_, rfl⟩
    obtain ⟨nt, ent⟩ : ∃ x, Hid (ff.terms.length = x) := ⟨_, rfl⟩
    obtain ⟨ns, ens⟩ : ∃ x, Hid (ff.subs.length = x) := ⟨_, rfl⟩
    obtain ⟨nr, enr⟩ : ∃ x, Hid (ff.rgx.length = x) := ⟨_, rfl⟩
    rw [efk.out, efn.out, efo.out, efl.out, efh.out, efp.out, env.out, ent.out, ens.out, enr.out]
    rw [env.out, ent.out, ens.out, enr.out] at HQ
    go_upto_region 3 with fail
    refine wp_world ?_
    intro W4 hW4
    have X4 : Hid (W4.heap[w.heap.size]? = some (.cells #[.int .i64 0, .string ⟨#[]⟩, .int .i64 0, .slice none 0 0, .slice none 0 0, .int .i64 0, .int .i64 0, .bool false, .slice none 0 0, .slice none 0 0] 29 (0, 0))) := by rw [hW4]; exact (Below.heap_alloc _ _ _ (lt_heap X3.out)).trans X3.out
    have Y4 : Hid (W4.heap[w3.heap.size]? = some (.cells #[.int .i64 fk, .string fnm, .int .i64 fop, .slice qv nv dv, .slice qt nt dt, .int .i64 flo, .int .i64 fhi, .bool fop2, .slice qs ns ds, .slice qr nr dr] 29 (0, 0))) := by rw [hW4]; exact new_box w3 _
    have B4 : Hid (Below w.heap.size w W4) := by rw [hW4]; exact B3.out.alloc B3.out.size _
    have A4 : Hid (RdAt (w.heap.size + 2) W4 (w.heap.size + 1) sz r) := by rw [hW4]; exact A3.out.below ((Below.refl w3.heap.size w3).alloc (Nat.le_refl _) _)
    have Q4 : Hid (QOwn (fun q => W2.heap.size ≤ q ∧ q < w3.heap.size) W4 (ff, (⟨.slice qv nv dv, .slice qt nt dt, .slice qs ns ds, .slice qr nr dr⟩ : FQ))) := by rw [hW4]; exact (HQ.out.mono (P' := fun q => W2.heap.size ≤ q ∧ q < w3.heap.size) (fun q h1 h2 => ⟨h1, h2⟩)).keep (fun q hq hlt => Below.heap_alloc _ _ q hq.2)
    have z4 : w3.heap.size < W4.heap.size := by rw [hW4]; simp
    clear hW4 X3 B3 A3 HQ
    generalize w3.heap.size = n3 at *
    have hok := A4.out.ok
    have CN : Hid (Calls Tryz.prog 32 #[.pointer (some ⟨w.heap.size + 1, 0, none⟩)] W4 (NxO (w.heap.size + 2) (w.heap.size + 1) sz r W4 (.agg #[.int .i64 (tkH sz r).k, .int .i64 (tkH sz r).at_, .string (txB (tkH sz r)), .int .i64 (tkH sz r).v.k, .int .i64 (tkH sz r).v.n, .int .i64 (tkH sz r).v.d, .string (tkH sz r).v.s]))) := next_at _ _ sz r W4 A4.out
    have hk0 : (tkH sz r).k = 0 ∨ (tkH sz r).k ≠ 0 := by omega
    have HB : Hid ((tkH sz r).k = 0 → pAll sz L = .ok ff []) := fun e => by
      rw [hA]
      cases r with
      | nil => rfl
      | cons t l => exact absurd e (hok t (by simp)).2.1
    have HB2 : Hid ((tkH sz r).k ≠ 0 → pAll sz L = .bad 70 (tkH sz r).at_) := fun e => by
      rw [hA]
      cases r with
      | nil => exact absurd rfl e
      | cons t l => rfl
    clear hA hok
    generalize (tkH sz r).k = tk at *
    generalize (tkH sz r).at_ = ta at *
    generalize txB (tkH sz r) = tx at *
    generalize (tkH sz r).v.k = vk at *
    generalize (tkH sz r).v.n = vn at *
    generalize (tkH sz r).v.d = vd at *
    generalize (tkH sz r).v.s = vs at *
    rcases hk0 with hk0 | hk0
    · subst hk0
      go_wp2_with fail
      refine CN.out.mono ?_
      rintro e w5 ⟨rfl, hF5, -⟩
      have X5 : Hid (w5.heap[w.heap.size]? = some (.cells #[.int .i64 0, .string ⟨#[]⟩, .int .i64 0, .slice none 0 0, .slice none 0 0, .int .i64 0, .int .i64 0, .bool false, .slice none 0 0, .slice none 0 0] 29 (0, 0))) := hF5.heap X4.out (fun e => by omega)
      have Y5 : Hid (w5.heap[n3]? = some (.cells #[.int .i64 fk, .string fnm, .int .i64 fop, .slice qv nv dv, .slice qt nt dt, .int .i64 flo, .int .i64 fhi, .bool fop2, .slice qs ns ds, .slice qr nr dr] 29 (0, 0))) := hF5.heap Y4.out (fun e => by omega)
      have Q5 : Hid (QOwn (fun q => W2.heap.size ≤ q ∧ q < n3) w5 (ff, (⟨.slice qv nv dv, .slice qt nt dt, .slice qs ns ds, .slice qr nr dr⟩ : FQ))) := Q4.out.keep (fun q hq hlt => hF5.block q hlt (fun e => by omega))
      have B5 : Hid (Below w.heap.size w w5) := B4.out.trans (hF5.below B4.out.size (fun k e => by omega))
      have z5 : n3 < w5.heap.size := lt_heap Y5.out
      clear hF5 CN X4 Y4 Q4 B4 A4
      go_upto_region 6 with fail
      refine wp_world ?_
      intro W6 hW6
      have K6 : Hid (Below w5.heap.size w5 W6) := by rw [hW6]; exact (Below.refl _ _).alloc (Nat.le_refl _) _
      clear hW6
      have X6 : Hid (W6.heap[w.heap.size]? = some (.cells #[.int .i64 0, .string ⟨#[]⟩, .int .i64 0, .slice none 0 0, .slice none 0 0, .int .i64 0, .int .i64 0, .bool false, .slice none 0 0, .slice none 0 0] 29 (0, 0))) := (K6.out.block _ (lt_heap X5.out)).trans X5.out
      have Y6 : Hid (W6.heap[n3]? = some (.cells #[.int .i64 fk, .string fnm, .int .i64 fop, .slice qv nv dv, .slice qt nt dt, .int .i64 flo, .int .i64 fhi, .bool fop2, .slice qs ns ds, .slice qr nr dr] 29 (0, 0))) := (K6.out.block _ z5).trans Y5.out
      have Q6 : Hid (QOwn (fun q => W2.heap.size ≤ q ∧ q < n3) W6 (ff, (⟨.slice qv nv dv, .slice qt nt dt, .slice qs ns ds, .slice qr nr dr⟩ : FQ))) := Q5.out.keep (fun q hq hlt => K6.out.block q hlt)
      have B6 : Hid (Below w.heap.size w W6) := B5.out.trans (K6.out.mono B5.out.size)
      have F6 : Hid (Fr (fun k => w.heap.size ≤ k) w W6) := Fr.of_below B6.out
      clear K6 X5 Y5 Q5 B5
      obtain ⟨y0, y1, y2, y3, y4, y5, y6, y7, y8, y9⟩ := bx10 Y6.out
      obtain ⟨r0, r1, r2, r3, r4, r5, r6, r7, r8, r9⟩ := bx10 X6.out
      obtain ⟨q0, q1, q2, q3, q4, q5, q6, q7, q8, q9⟩ := bz10 X6.out
      go_wp2
      generalize hW9 : World.setCell _ _ _ = W9
      have X9 : W9.heap[w.heap.size]? = some (.cells #[.int .i64 fk, .string fnm, .int .i64 fop, .slice qv nv dv, .slice qt nt dt, .int .i64 flo, .int .i64 fhi, .bool fop2, .slice qs ns ds, .slice qr nr dr] 29 (0, 0)) := by rw [← hW9]; exact put10 X6.out
      have F9 : Fr (fun k => w.heap.size ≤ k) w W9 := by rw [← hW9]; exact frp10 F6.out (Or.inr (Nat.le_refl _)) _ _ _ _ _ _ _ _ _ _
      have G9 : Fr (fun k => k = w.heap.size) W6 W9 := by rw [← hW9]; exact frp10 (Fr.refl (fun k => k = w.heap.size) W6) (Or.inl rfl) _ _ _ _ _ _ _ _ _ _
      clear hW9
      obtain ⟨x0, x1, x2, x3, x4, x5, x6, x7, x8, x9⟩ := bx10 X9
      refine bodyPost_ret (by simp [results, Tryz.results18, go_sem, x0, x1, x2, x3, x4, x5, x6, x7, x8, x9]; try rfl) rfl ?_
      have Q9 : QOwn (fun q => w.heap.size ≤ q) W9 (ff, (⟨.slice qv nv dv, .slice qt nt dt, .slice qs ns ds, .slice qr nr dr⟩ : FQ)) := (Q6.out.keep (w' := W9) (fun q hq hlt => G9.block q hlt (fun e => by omega))).mono (fun q hq _ => by omega)
      refine ⟨F9.below (Nat.le_refl _) (fun k e => e), Or.inr ⟨ff, _, HB.out (by trivial), rfl, ⟨(⟨.slice qv nv dv, .slice qt nt dt, .slice qs ns ds, .slice qr nr dr⟩ : FQ), ?_, Q9⟩⟩⟩
      rw [efk.out, efn.out, efo.out, efl.out, efh.out, efp.out]
    · have hk' : ¬ (tk : Int) = 0 := by omega
      go_wp2_with fail
      refine CN.out.mono ?_
      rintro e w5 ⟨rfl, hF5, -⟩
      have B5 : Hid (Below w.heap.size w w5) := B4.out.trans (hF5.below B4.out.size (fun k e => by omega))
      clear hF5 CN
      go_wp2_with fail
      refine (misplaced_at _ _ _ _ _ _ _ _).mono ?_
      rintro e w6 ⟨rfl, hb6⟩
      have B6 : Below w.heap.size w w6 := (B5.out.alloc B5.out.size _).trans (hb6.mono (by have := B5.out.size; simp; omega))
      clear hb6
      go_wp2
      exact ⟨rfl, B6, Or.inl ⟨70, _, HB2.out hk0, rfl⟩⟩
end Go.Proofs.YticnfeolbfmgfaaGreatDoor

namespace Go.Proofs.YticnfeolbfmgfaaGreatDoor
open Go.RowKit LX Go.Shelf
set_option linter.unusedVariables false

/-- What a text is read as: a formula, or an error and a place. -/
def prsP (l : List UInt8) : Option Fm × Int × Int :=
  if 16384 < l.length then (none, 2, 0) else
  match (T sdB l 0).2 with
  | some p => (none, 50, (p : Int))
  | none => match pAll l.length (T sdB l 0).1 with
    | .bad e a => (none, e, a)
    | .ok f _ => if chkF f = 0 then (some f, 0, 0) else (none, chkF f, 0)
def PsQ (l : List UInt8) (w : World) (e : Ending) (w' : World) : Prop := Below w.heap.size w w' ∧ ((∃ er a, prsP l = (none, er, a) ∧ e = .returned (.tuple #[zFm, .int .i64 er, .int .i64 a])) ∨ ∃ f v, prsP l = (some f, 0, 0) ∧ e = .returned (.tuple #[v, .int .i64 0, .int .i64 0]) ∧ FmV w f v w')
theorem parse_syn (s : ByteArray) (w : World) (ht : Pow w) (he : Errs w) (h8 : 6 ≤ w.heap.size) : Calls Tryz.prog 9 #[.string s] w (PsQ s.data.toList w) := by
  have hl : s.data.toList.length = s.size := by simp
  by_cases hs : 16384 < s.size
  · refine (par_bad s 2 0 w (by decide) (fun W hW => tokens_long s W hs)).mono ?_
    rintro e w' ⟨rfl, hb⟩
    exact ⟨hb, Or.inl ⟨2, 0, by unfold prsP; rw [if_pos (by omega)], rfl⟩⟩
  have hs' : s.size ≤ 16384 := by omega
  have e0 : prsP s.data.toList = (match (T sdB s.data.toList 0).2 with | some p => (none, 50, (p : Int)) | none => match pAll s.data.toList.length (T sdB s.data.toList 0).1 with | .bad e a => (none, e, a) | .ok f _ => if chkF f = 0 then (some f, 0, 0) else (none, chkF f, 0)) := by unfold prsP; rw [if_neg (by omega)]
  have TR : ∀ W : World, Below w.heap.size w W → _ := fun W hW => tokens_run s W hs' (ht.below hW) (he.below hW h8) (Nat.le_trans h8 hW.size)
  cases hT : (T sdB s.data.toList 0).2 with
  | some p =>
    rw [hT] at e0
    refine (par_bad s 50 p w (by decide) (fun W hW => (TR W hW).mono ?_)).mono ?_
    · rintro e w' ⟨hb, ⟨q, hq, rfl⟩ | ⟨hq, -⟩⟩
      · rw [hT] at hq
        injection hq with hq
        subst hq
        exact ⟨rfl, hb⟩
      · rw [hT] at hq; cases hq
    · rintro e w' ⟨rfl, hb⟩
      exact ⟨hb, Or.inl ⟨50, p, e0, rfl⟩⟩
  | none =>
    rw [hT] at e0
    dsimp only at e0
    obtain ⟨n1, n2⟩ := toks_ok (l := s.data.toList) (by omega)
    have CT : Hid (∀ W : World, Below w.heap.size w W → Calls Tryz.prog 17 #[.string s] W fun e w' => ∃ v, e = .returned (.tuple #[v, .int .i64 0, .int .i64 0]) ∧ OwnT7 (W.heap.size + 1) v (T sdB s.data.toList 0).1 w' ∧ Below W.heap.size W w') := fun W hW => (TR W hW).mono (by
      rintro e w' ⟨hb, ⟨q, hq, rfl⟩ | ⟨hq, v, rfl, hO⟩⟩
      · rw [hT] at hq; cases hq
      · exact ⟨v, rfl, hO, hb⟩)
    generalize (T sdB s.data.toList 0).1 = L at *
    rw [hl] at e0
    have WH : ∀ (W : World) (b c : Nat), TksAt W s.size L b c → Calls Tryz.prog 18 #[.slice (some ⟨b, 0, none⟩) (L.length + 1) c] W (WhO s.size W L) := fun W b c hT => whole_syn s.size L b 0 c W ⟨hT.1, hT.2.1, ⟨n1, n2⟩, hT.2.2.1, hT.2.2.2⟩
    cases hP : pAll s.size L with
    | bad er a =>
      rw [hP] at e0
      refine (par_fault s L w hs' n1 CT er a (fun W b c hT => (WH W b c hT).mono ?_)).mono ?_
      · rintro e w' ⟨hb, ⟨er', a', h, rfl⟩ | ⟨f, v, h, -⟩⟩
        · rw [hP] at h
          injection h with h1 h2
          subst h1 h2
          exact ⟨rfl, hb⟩
        · rw [hP] at h; cases h
      · rintro e w' ⟨rfl, hb⟩
        exact ⟨hb, Or.inl ⟨er, a, e0, rfl⟩⟩
    | ok f r =>
      rw [hP] at e0
      dsimp only at e0
      obtain ⟨fk, fnm, fop, fvs, fts, flo, fhi, fpn, fss, frs⟩ := f
      have WC : Hid (∀ (W : World) (b c : Nat), TksAt W s.size L b c → Calls Tryz.prog 18 #[.slice (some ⟨b, 0, none⟩) (L.length + 1) c] W fun e w' => ∃ v, e = .returned v ∧ FmV W (Fm.mk fk fnm fop fvs fts flo fhi fpn fss frs) v w' ∧ Below W.heap.size W w') := fun W b c hT => (WH W b c hT).mono (by
        rintro e w' ⟨hb, ⟨er', a', h, -⟩ | ⟨f, v, h, rfl, hv⟩⟩
        · rw [hP] at h; cases h
        · rw [hP] at h
          injection h with h1 h2
          subst h1
          exact ⟨v, rfl, hv, hb⟩)
      have CK : Hid (∀ (q : FQ) (W : World), QAt W ((Fm.mk fk fnm fop fvs fts flo fhi fpn fss frs), q) → Calls Tryz.prog 19 #[.agg #[.int .i64 fk, .string fnm, .int .i64 fop, q.v, q.t, .int .i64 flo, .int .i64 fhi, .bool fpn, q.s, q.r]] W fun r w' => r = .returned (.int .i64 (chkF (Fm.mk fk fnm fop fvs fts flo fhi fpn fss frs))) ∧ Below W.heap.size W w') := fun q W hq => check_fm (Fm.mk fk fnm fop fvs fts flo fhi fpn fss frs) q W hq
      by_cases hc : chkF (Fm.mk fk fnm fop fvs fts flo fhi fpn fss frs) = 0
      · rw [if_pos hc] at e0
        rw [hc] at CK
        refine (par_ok s L w hs' n1 CT fk fop flo fhi fnm fpn fvs fts fss frs WC CK).mono ?_
        rintro e w' ⟨v, rfl, hv, hb⟩
        exact ⟨hb, Or.inr ⟨_, v, e0, rfl, hv⟩⟩
      · rw [if_neg hc] at e0
        refine (par_unfit s L w hs' n1 CT fk fop flo fhi fnm fpn fvs fts fss frs WC _ CK hc).mono ?_
        rintro e w' ⟨rfl, hb⟩
        exact ⟨hb, Or.inl ⟨_, 0, e0, rfl⟩⟩
end Go.Proofs.YticnfeolbfmgfaaGreatDoor

namespace Go.Proofs.YticnfeolbfmgfaaGreatDoor
open Go.RowKit LX Go.Shelf
set_option linter.unusedVariables false

theorem psq_some {l : List UInt8} {w w' : World} {e : Ending} {f : Fm} (h : PsQ l w e w') (hl : prsP l = (some f, 0, 0)) : ∃ v, e = .returned (.tuple #[v, .int .i64 0, .int .i64 0]) ∧ FmV w f v w' ∧ Below w.heap.size w w' := by
  obtain ⟨hb, ⟨er, a, h1, -⟩ | ⟨g, v, h1, h2, h3⟩⟩ := h
  · rw [hl] at h1; cases h1
  · rw [hl] at h1
    injection h1 with h1
    injection h1 with h1
    subst h1
    exact ⟨v, h2, h3, hb⟩
theorem psq_none {l : List UInt8} {w w' : World} {e : Ending} {er a : Int} (h : PsQ l w e w') (hl : prsP l = (none, er, a)) : e = .returned (.tuple #[zFm, .int .i64 er, .int .i64 a]) ∧ Below w.heap.size w w' := by
  obtain ⟨hb, ⟨er', a', h1, h2⟩ | ⟨g, v, h1, -⟩⟩ := h
  · rw [hl] at h1
    injection h1 with _ h1
    injection h1 with h1 h3
    subst h1 h3
    exact ⟨h2, hb⟩
  · rw [hl] at h1; cases h1
def lvT1 : List UInt8 := [32, 40, 32, 111, 110, 99, 101, 91, 48, 44, 53, 93, 40, 112, 34, 97, 34, 41, 41, 32]
def lvT2 : List UInt8 := [40, 97, 110, 100, 32, 116, 114, 117, 101, 41]
def lvS : List UInt8 := [40, 111, 110, 99, 101, 32, 91, 48, 44, 53, 93, 32, 40, 112, 32, 34, 97, 34, 41, 41]
def lvG : Fm := .mk 3 ⟨#[112]⟩ 0 [] [.mk 2 ⟨#[]⟩ ⟨3, 0, 0, ⟨#[97]⟩⟩ []] 0 0 false [] []
def lvFm : Fm := .mk 13 ⟨#[]⟩ 0 [] [] 0 5 false [lvG] []
theorem lv_1 : prsP lvT1 = (some lvFm, 0, 0) := by kernel_rfl
theorem lv_2 : prsP lvT2 = (none, 70, 9) := by kernel_rfl
theorem lv_3 : prtP lvFm = lvS := by kernel_rfl
theorem lv_4 : chkF lvFm = 0 := by kernel_rfl
/-- What a formula that was read looks like, when it lies in a box. -/
theorem fm_slices {w : World} {f : Fm} {uv ut us ur : Value} (h : QAt w (f, (⟨uv, ut, us, ur⟩ : FQ))) : ∃ qv dv qt dt qs ds qr dr, uv = .slice qv f.vars.length dv ∧ ut = .slice qt f.terms.length dt ∧ us = .slice qs f.subs.length ds ∧ ur = .slice qr f.rgx.length dr := by
  obtain ⟨k1, k2, k3, k4⟩ := h
  dsimp only at k1 k2 k3 k4
  obtain ⟨-, qv, dv, e1, -⟩ := k1
  obtain ⟨qt, dt, e2, -⟩ := k2.form
  obtain ⟨qs, ds, e3, -⟩ := k3.form
  obtain ⟨qr, dr, e4, -⟩ := k4.form
  exact ⟨qv, dv, qt, dt, qs, ds, qr, dr, e1, e2, e3, e4⟩
set_option maxRecDepth 100000 in
set_option maxHeartbeats 8000000 in
theorem live_syn (w : World) (ht : Pow w) (he : Errs w) (h8 : 6 ≤ w.heap.size) : Calls Tryz.prog 11 #[] w fun e w' => e = .returned (.bool true) ∧ Below w.heap.size w w' := by
  have C1 : Hid (Calls Tryz.prog 9 #[.string ⟨#[32, 40, 32, 111, 110, 99, 101, 91, 48, 44, 53, 93, 40, 112, 34, 97, 34, 41, 41, 32]⟩] w (PsQ lvT1 w)) := parse_syn ⟨#[32, 40, 32, 111, 110, 99, 101, 91, 48, 44, 53, 93, 40, 112, 34, 97, 34, 41, 41, 32]⟩ w ht he h8
  have C3 : Hid (∀ W : World, Below w.heap.size w W → Calls Tryz.prog 9 #[.string ⟨#[40, 97, 110, 100, 32, 116, 114, 117, 101, 41]⟩] W (PsQ lvT2 W)) := fun W hW => parse_syn ⟨#[40, 97, 110, 100, 32, 116, 114, 117, 101, 41]⟩ W (ht.below hW) (he.below hW h8) (Nat.le_trans h8 hW.size)
  have C2 : Hid (∀ (q : FQ) (W : World), Below w.heap.size w W → QAt W (lvFm, q) → Calls Tryz.prog 10 #[.agg #[.int .i64 13, .string ⟨#[]⟩, .int .i64 0, q.v, q.t, .int .i64 0, .int .i64 5, .bool false, q.s, q.r]] W fun e w' => e = .returned (.tuple #[.string ⟨lvS.toArray⟩, .int .i64 0]) ∧ Below W.heap.size W w') := fun q W hW hq => by
    have h := print_syn lvFm q W hq (ht.below hW)
    rw [lv_3, lv_4] at h
    exact h
  go_enter Tryz.func11, Tryz.ntmps11
  go_wp2_with fail
  refine C1.out.mono ?_
  intro e w1 hP1
  obtain ⟨v1, rfl, ⟨⟨uv, ut, us, ur⟩, rfl, hQ1⟩, hb1⟩ := psq_some hP1 lv_1
  obtain ⟨qv, dv, qt, dt, qs, ds, qr, dr, rfl, rfl, rfl, rfl⟩ := fm_slices hQ1.at
  have Q1 : Hid (QOwn (fun q => w.heap.size ≤ q) w1 (lvFm, (⟨.slice qv 0 dv, .slice qt 0 dt, .slice qs 1 ds, .slice qr 0 dr⟩ : FQ))) := hQ1
  have B1 : Below w.heap.size w w1 := hb1
  clear hQ1 hb1 hP1 C1
  simp only [show lvFm.k = 13 from rfl, show lvFm.nm = ⟨#[]⟩ from rfl, show lvFm.op = 0 from rfl, show lvFm.lo = 0 from rfl, show lvFm.hi = 5 from rfl, show lvFm.opn = false from rfl, show lvFm.vars.length = 0 from rfl, show lvFm.terms.length = 0 from rfl, show lvFm.subs.length = 1 from rfl, show lvFm.rgx.length = 0 from rfl]
  go_upto_region 2 with fail
  refine wp_world ?_
  intro W2 hW2
  have X2 : Hid (W2.heap[w1.heap.size]? = some (.cells #[.int .i64 13, .string ⟨#[]⟩, .int .i64 0, .slice qv 0 dv, .slice qt 0 dt, .int .i64 0, .int .i64 5, .bool false, .slice qs 1 ds, .slice qr 0 dr] 29 (0, 0))) := by rw [hW2]; exact new_box w1 _
  have b12 : Below w1.heap.size w1 W2 := by rw [hW2]; exact (Below.refl _ _).alloc (Nat.le_refl _) _
  have B2 : Below w.heap.size w W2 := B1.trans (b12.mono B1.size)
  have Q2 : Hid (QAt W2 (lvFm, (⟨.slice qv 0 dv, .slice qt 0 dt, .slice qs 1 ds, .slice qr 0 dr⟩ : FQ))) := Q1.out.at.below b12
  clear hW2 Q1 b12 B1
  generalize w1.heap.size = g1 at *
  obtain ⟨x0, x1, x2, x3, x4, x5, x6, x7, x8, x9⟩ := bx10 X2.out
  go_wp2_with fail
  refine (C2.out ⟨.slice qv 0 dv, .slice qt 0 dt, .slice qs 1 ds, .slice qr 0 dr⟩ W2 B2 Q2.out).mono ?_
  rintro e w3 ⟨rfl, hb3⟩
  have X3 : Hid (w3.heap[g1]? = some (.cells #[.int .i64 13, .string ⟨#[]⟩, .int .i64 0, .slice qv 0 dv, .slice qt 0 dt, .int .i64 0, .int .i64 5, .bool false, .slice qs 1 ds, .slice qr 0 dr] 29 (0, 0))) := (hb3.block _ (lt_heap X2.out)).trans X2.out
  have B3 : Below w.heap.size w w3 := B2.trans (hb3.mono B2.size)
  have Q3 : Hid (QAt w3 (lvFm, (⟨.slice qv 0 dv, .slice qt 0 dt, .slice qs 1 ds, .slice qr 0 dr⟩ : FQ))) := Q2.out.below hb3
  clear hb3 X2 B2 Q2 C2 x0 x1 x2 x3 x4 x5 x6 x7 x8 x9
  go_wp2_with fail
  refine (C3.out w3 B3).mono ?_
  intro e w4 hP4
  obtain ⟨rfl, hb4⟩ := psq_none hP4 lv_2
  have X4 : Hid (w4.heap[g1]? = some (.cells #[.int .i64 13, .string ⟨#[]⟩, .int .i64 0, .slice qv 0 dv, .slice qt 0 dt, .int .i64 0, .int .i64 5, .bool false, .slice qs 1 ds, .slice qr 0 dr] 29 (0, 0))) := (hb4.block _ (lt_heap X3.out)).trans X3.out
  have B4 : Below w.heap.size w w4 := B3.trans (hb4.mono B3.size)
  have Q4 : Hid (QAt w4 (lvFm, (⟨.slice qv 0 dv, .slice qt 0 dt, .slice qs 1 ds, .slice qr 0 dr⟩ : FQ))) := Q3.out.below hb4
  clear hb4 X3 B3 Q3 C3 hP4
  unfold zFm
  go_upto_region 4 with fail
  refine wp_world ?_
  intro W5 hW5
  have b45 : Below w4.heap.size w4 W5 := by rw [hW5]; exact (Below.refl _ _).alloc (Nat.le_refl _) _
  have X5 : Hid (W5.heap[g1]? = some (.cells #[.int .i64 13, .string ⟨#[]⟩, .int .i64 0, .slice qv 0 dv, .slice qt 0 dt, .int .i64 0, .int .i64 5, .bool false, .slice qs 1 ds, .slice qr 0 dr] 29 (0, 0))) := (b45.block _ (lt_heap X4.out)).trans X4.out
  have B5 : Below w.heap.size w W5 := B4.trans (b45.mono B4.size)
  have Q5 : QAt W5 (lvFm, (⟨.slice qv 0 dv, .slice qt 0 dt, .slice qs 1 ds, .slice qr 0 dr⟩ : FQ)) := Q4.out.below b45
  clear hW5 b45 X4 B4 Q4
  obtain ⟨x0, x1, x2, x3, x4, x5, x6, x7, x8, x9⟩ := bx10 X5.out
  obtain ⟨-, -, hS5, -⟩ := Q5
  dsimp only at hS5
  obtain ⟨ps, cs, es, -, -, hx⟩ := hS5.form
  injection es with es1 es2 es3
  clear es2
  subst es1 es3
  obtain ⟨bs, os, uv6, ut6, us6, ur6, hp6, hb6, hc6, -, hT6, -, -⟩ := hx 0 (by decide)
  subst hp6
  obtain ⟨-, -, -, -, t4, -, -, -, -, -⟩ := hc6
  obtain ⟨pt, ct, et, -, -, hy⟩ := hT6.form
  subst et
  obtain ⟨bt, ot, u7, hp7, hb7, hc7, -, -⟩ := hy 0 (by decide)
  subst hp7
  obtain ⟨-, -, -, -, -, r5, -⟩ := hc7
  have t4' : W5.cell? ⟨bs, os + 4, none⟩ = some (.slice (some ⟨bt, ot, none⟩) 1 ct) := by rw [show os + 4 = os + 0 * 10 + 4 by omega]; exact t4
  have r5' : W5.cell? ⟨bt, ot + 5, none⟩ = some (.string ⟨#[97]⟩) := by rw [show ot + 5 = ot + 0 * 7 + 5 by omega]; exact r5
  clear t4 r5 hx hy hT6 hS5 X5
  unfold lvS
  go_wp2
  go_ret
  exact ⟨rfl, B5⟩
end Go.Proofs.YticnfeolbfmgfaaGreatDoor

namespace Go.Proofs.YticnfeolbfmgfaaGreatDoor
open Go.RowKit LX Go.Shelf
set_option linter.unusedVariables false

def mxs : List Nat → Nat
  | [] => 0
  | x :: l => max x (mxs l)
theorem mxs_ge : ∀ {l : List Nat} {x : Nat}, x ∈ l → x ≤ mxs l
  | [], x, h => by cases h
  | y :: l, x, h => by
    rw [mxs]
    rcases List.mem_cons.1 h with rfl | h
    · omega
    · have := mxs_ge h; omega
/-- A bound of the free variables, and of those of all parts. -/
def ub : Nat → Fm → Nat × Nat
  | 0, _ => (0, 0)
  | n + 1, f =>
    let ps := (ptsF f).map (ub n)
    let a := if f.k = 10 then (ps.headD (0, 0)).1 else if f.k = 19 then 1 + (f.vars.drop 1).length else if f.k = 20 ∨ f.k = 21 then (ps.getD 1 (0, 0)).1 else (tvss f.terms).length + (ps.map Prod.fst).sum
    (a, max (mxs (ps.map Prod.snd)) a)
theorem sum_ub (g : Fm → List ByteArray) (b : Fm → Nat) : ∀ l : List Fm, (∀ f ∈ l, (g f).length ≤ b f) → ((l.map g).flatten).length ≤ (l.map b).sum
  | [], _ => by simp
  | f :: l, h => by
    have h1 := sum_ub g b l (fun x hx => h x (by simp [hx]))
    have h2 := h f (by simp)
    rw [List.map_cons, List.flatten_cons, List.length_append, List.map_cons, List.sum_cons]
    omega
theorem ub_ok : ∀ (n : Nat) (f : Fm), nodF f ≤ n → (fre f).1.length ≤ (ub n f).1 ∧ (fre f).2 ≤ (ub n f).2 := by
  intro n
  induction n with
  | zero => intro f hm; rw [nodF_eq] at hm; omega
  | succ n ih =>
    intro f hm
    have hp := pts_nod f
    have IH : ∀ g ∈ ptsF f, (fre g).1.length ≤ (ub n g).1 ∧ (fre g).2 ≤ (ub n g).2 := fun g hg => ih g (by
      obtain ⟨i, hi, rfl⟩ := List.getElem_of_mem hg
      have := nodFs_get (ptsF f) i hi
      omega)
    have h1 : (fre f).1.length ≤ (ub (n + 1) f).1 := by
      rw [fre_eq]
      show (freO f ((ptsF f).map fun g => (fre g).1)).length ≤ (if f.k = 10 then (((ptsF f).map (ub n)).headD (0, 0)).1 else if f.k = 19 then 1 + (f.vars.drop 1).length else if f.k = 20 ∨ f.k = 21 then (((ptsF f).map (ub n)).getD 1 (0, 0)).1 else (tvss f.terms).length + (((ptsF f).map (ub n)).map Prod.fst).sum)
      unfold freO
      by_cases h10 : f.k = 10
      · rw [if_pos h10, if_pos h10]
        refine Nat.le_trans (List.length_filter_le _ _) ?_
        cases hP : ptsF f with
        | nil => simp
        | cons g l => exact (IH g (by rw [hP]; simp)).1
      rw [if_neg h10, if_neg h10]
      by_cases h19 : f.k = 19
      · rw [if_pos h19, if_pos h19]
        have h := uniN_len [[f.nm], f.vars.drop 1]
        rw [List.flatten_cons, List.flatten_cons, List.flatten_nil, List.append_nil, List.length_append, List.length_singleton] at h
        exact h
      rw [if_neg h19, if_neg h19]
      by_cases h20 : f.k = 20 ∨ f.k = 21
      · rw [if_pos h20, if_pos h20]
        by_cases hl : 1 < (ptsF f).length
        · rw [getD_lt _ _ _ (by rw [List.length_map]; exact hl), getD_lt _ _ _ (by rw [List.length_map]; exact hl), List.getElem_map, List.getElem_map]
          exact (IH _ (List.getElem_mem hl)).1
        · rw [List.getD_eq_getElem?_getD, List.getElem?_eq_none (by rw [List.length_map]; omega)]
          simp
      rw [if_neg h20, if_neg h20]
      have g1 := uniN_len [tvss f.terms, uniN ((ptsF f).map fun g => (fre g).1)]
      have g2 := uniN_len ((ptsF f).map fun g => (fre g).1)
      rw [List.flatten_cons, List.flatten_cons, List.flatten_nil, List.append_nil, List.length_append] at g1
      have g3 := sum_ub (fun g => (fre g).1) (fun g => (ub n g).1) (ptsF f) (fun g hg => (IH g hg).1)
      rw [List.map_map]
      have g4 : ((ptsF f).map (Prod.fst ∘ ub n)).sum = ((ptsF f).map fun g => (ub n g).1).sum := rfl
      rw [g4]
      omega
    refine ⟨h1, ?_⟩
    rw [fre_eq] at h1 ⊢
    show max _ _ ≤ max (mxs (((ptsF f).map (ub n)).map Prod.snd)) (ub (n + 1) f).1
    refine Nat.max_le.2 ⟨mx_le fun x hx => ?_, Nat.le_trans h1 (Nat.le_max_right _ _)⟩
    obtain ⟨g, hg, rfl⟩ := List.mem_map.1 hx
    refine Nat.le_trans (IH g hg).2 (Nat.le_trans (mxs_ge ?_) (Nat.le_max_left _ _))
    rw [List.map_map]
    exact List.mem_map.2 ⟨g, hg, rfl⟩
theorem chk_ub {f : Fm} (h1 : (frun 1 (0, 0) f).1 = 0) (n : Nat) (h2 : decide (nodF f ≤ n) = true) (h3 : decide ((ub n f).2 ≤ 8) = true) : chkF f = 0 := by
  unfold chkF
  have := (ub_ok n f (of_decide_eq_true h2)).2
  have h4 := of_decide_eq_true h3
  rw [if_pos h1, if_neg (by omega)]
/-- What the tokens of a text come to, if they come to something. -/
def rdF (l : List UInt8) : Fm := match pAll l.length (T sdB l 0).1 with | .ok f _ => f | .bad _ _ => fmK 1
theorem prs_rd {l : List UInt8} (hl : decide (l.length ≤ 16384) = true) (hT : (T sdB l 0).2 = none) (hP : pAll l.length (T sdB l 0).1 = .ok (rdF l) []) (h1 : (frun 1 (0, 0) (rdF l)).1 = 0) (n : Nat) (h2 : decide (nodF (rdF l) ≤ n) = true) (h3 : decide ((ub n (rdF l)).2 ≤ 8) = true) (h4 : txF (rdF l) = l) : ∃ f, prsP l = (some f, 0, 0) ∧ prtP f = l ∧ chkF f = 0 := by
  have hc := chk_ub h1 n h2 h3
  have hl' := of_decide_eq_true hl
  refine ⟨rdF l, ?_, ?_, hc⟩
  · unfold prsP
    rw [if_neg (by omega), hT, hP]
    dsimp only
    rw [if_pos hc]
  · unfold prtP
    rw [if_pos hc]
    exact h4
end Go.Proofs.YticnfeolbfmgfaaGreatDoor

namespace Go.Proofs.YticnfeolbfmgfaaGreatDoor
open Go.RowKit LX Go.Shelf
set_option linter.unusedVariables false

def nmL : List ByteArray := [⟨#[116, 114, 117, 101]⟩, ⟨#[40, 112, 41]⟩, ⟨#[40, 97, 103, 103, 32, 110, 32, 99, 110, 116, 32, 120, 32, 40, 41, 32, 40, 113, 32, 120, 41, 41]⟩, ⟨#[40, 101, 120, 105, 115, 116, 115, 32, 40, 120, 32, 121, 41, 32, 40, 112, 32, 120, 32, 121, 41, 41]⟩, ⟨#[40, 108, 101, 116, 32, 114, 32, 40, 120, 41, 32, 116, 114, 117, 101, 32, 40, 114, 32, 49, 41, 41]⟩, ⟨#[40, 98, 101, 102, 111, 114, 101, 32, 91, 48, 44, 42, 93, 32, 40, 115, 101, 113, 32, 97, 110, 121, 32, 40, 116, 101, 115, 116, 32, 40, 112, 41, 41, 41, 41]⟩, ⟨#[40, 106, 111, 105, 110, 32, 40, 112, 32, 120, 41, 32, 40, 110, 111, 116, 32, 40, 113, 32, 120, 41, 41, 41]⟩, ⟨#[40, 97, 110, 100, 32, 40, 112, 32, 120, 32, 49, 47, 50, 41, 32, 40, 60, 61, 32, 120, 32, 40, 43, 32, 121, 32, 45, 50, 41, 41, 41]⟩]
theorem nm_0 : ∃ f, prsP [116, 114, 117, 101] = (some f, 0, 0) ∧ prtP f = [116, 114, 117, 101] ∧ chkF f = 0 := prs_rd (by kernel_rfl) (by kernel_rfl) (by kernel_rfl) (by kernel_rfl) 40 (by kernel_rfl) (by kernel_rfl) (by kernel_rfl)
theorem nm_1 : ∃ f, prsP [40, 112, 41] = (some f, 0, 0) ∧ prtP f = [40, 112, 41] ∧ chkF f = 0 := prs_rd (by kernel_rfl) (by kernel_rfl) (by kernel_rfl) (by kernel_rfl) 40 (by kernel_rfl) (by kernel_rfl) (by kernel_rfl)
theorem nm_2 : ∃ f, prsP [40, 97, 103, 103, 32, 110, 32, 99, 110, 116, 32, 120, 32, 40, 41, 32, 40, 113, 32, 120, 41, 41] = (some f, 0, 0) ∧ prtP f = [40, 97, 103, 103, 32, 110, 32, 99, 110, 116, 32, 120, 32, 40, 41, 32, 40, 113, 32, 120, 41, 41] ∧ chkF f = 0 := prs_rd (by kernel_rfl) (by kernel_rfl) (by kernel_rfl) (by kernel_rfl) 40 (by kernel_rfl) (by kernel_rfl) (by kernel_rfl)
theorem nm_3 : ∃ f, prsP [40, 101, 120, 105, 115, 116, 115, 32, 40, 120, 32, 121, 41, 32, 40, 112, 32, 120, 32, 121, 41, 41] = (some f, 0, 0) ∧ prtP f = [40, 101, 120, 105, 115, 116, 115, 32, 40, 120, 32, 121, 41, 32, 40, 112, 32, 120, 32, 121, 41, 41] ∧ chkF f = 0 := prs_rd (by kernel_rfl) (by kernel_rfl) (by kernel_rfl) (by kernel_rfl) 40 (by kernel_rfl) (by kernel_rfl) (by kernel_rfl)
theorem nm_4 : ∃ f, prsP [40, 108, 101, 116, 32, 114, 32, 40, 120, 41, 32, 116, 114, 117, 101, 32, 40, 114, 32, 49, 41, 41] = (some f, 0, 0) ∧ prtP f = [40, 108, 101, 116, 32, 114, 32, 40, 120, 41, 32, 116, 114, 117, 101, 32, 40, 114, 32, 49, 41, 41] ∧ chkF f = 0 := prs_rd (by kernel_rfl) (by kernel_rfl) (by kernel_rfl) (by kernel_rfl) 40 (by kernel_rfl) (by kernel_rfl) (by kernel_rfl)
theorem nm_5 : ∃ f, prsP [40, 98, 101, 102, 111, 114, 101, 32, 91, 48, 44, 42, 93, 32, 40, 115, 101, 113, 32, 97, 110, 121, 32, 40, 116, 101, 115, 116, 32, 40, 112, 41, 41, 41, 41] = (some f, 0, 0) ∧ prtP f = [40, 98, 101, 102, 111, 114, 101, 32, 91, 48, 44, 42, 93, 32, 40, 115, 101, 113, 32, 97, 110, 121, 32, 40, 116, 101, 115, 116, 32, 40, 112, 41, 41, 41, 41] ∧ chkF f = 0 := prs_rd (by kernel_rfl) (by kernel_rfl) (by kernel_rfl) (by kernel_rfl) 40 (by kernel_rfl) (by kernel_rfl) (by kernel_rfl)
theorem nm_6 : ∃ f, prsP [40, 106, 111, 105, 110, 32, 40, 112, 32, 120, 41, 32, 40, 110, 111, 116, 32, 40, 113, 32, 120, 41, 41, 41] = (some f, 0, 0) ∧ prtP f = [40, 106, 111, 105, 110, 32, 40, 112, 32, 120, 41, 32, 40, 110, 111, 116, 32, 40, 113, 32, 120, 41, 41, 41] ∧ chkF f = 0 := prs_rd (by kernel_rfl) (by kernel_rfl) (by kernel_rfl) (by kernel_rfl) 40 (by kernel_rfl) (by kernel_rfl) (by kernel_rfl)
theorem nm_7 : ∃ f, prsP [40, 97, 110, 100, 32, 40, 112, 32, 120, 32, 49, 47, 50, 41, 32, 40, 60, 61, 32, 120, 32, 40, 43, 32, 121, 32, 45, 50, 41, 41, 41] = (some f, 0, 0) ∧ prtP f = [40, 97, 110, 100, 32, 40, 112, 32, 120, 32, 49, 47, 50, 41, 32, 40, 60, 61, 32, 120, 32, 40, 43, 32, 121, 32, 45, 50, 41, 41, 41] ∧ chkF f = 0 := prs_rd (by kernel_rfl) (by kernel_rfl) (by kernel_rfl) (by kernel_rfl) 40 (by kernel_rfl) (by kernel_rfl) (by kernel_rfl)
theorem nm_all : ∀ i (h : i < nmL.length), ∃ f, prsP nmL[i].data.toList = (some f, 0, 0) ∧ prtP f = nmL[i].data.toList ∧ chkF f = 0
  | 0, _ => nm_0
  | 1, _ => nm_1
  | 2, _ => nm_2
  | 3, _ => nm_3
  | 4, _ => nm_4
  | 5, _ => nm_5
  | 6, _ => nm_6
  | 7, _ => nm_7
  | n + 8, h => by exact absurd h (by show ¬ n + 8 < 8; omega)
theorem nmL_len : nmL.length = 8 := rfl
set_option maxRecDepth 100000 in
set_option maxHeartbeats 8000000 in
theorem numbers_syn (w : World) (ht : Pow w) (he : Errs w) (h8 : 6 ≤ w.heap.size) : Calls Tryz.prog 3 #[] w fun e w' => e = .returned (.bool true) ∧ Below w.heap.size w w' := by
  have CP : Hid (∀ (s : ByteArray) (W : World), Below w.heap.size w W → Calls Tryz.prog 9 #[.string s] W (PsQ s.data.toList W)) := fun s W hW => parse_syn s W (ht.below hW) (he.below hW h8) (Nat.le_trans h8 hW.size)
  have CL : Hid (∀ W : World, Below w.heap.size w W → Calls Tryz.prog 11 #[] W fun e w' => e = .returned (.bool true) ∧ Below W.heap.size W w') := fun W hW => live_syn W (ht.below hW) (he.below hW h8) (Nat.le_trans h8 hW.size)
  have HT : Hid (Pow w) := ht
  clear ht he
  go_enter Tryz.func3, Tryz.ntmps3
  go_upto_region 2 with fail
  refine wp_world ?_
  intro W1 hW1
  have X1 : Hid (W1.heap[w.heap.size]? = some (.cells #[.string ⟨#[116, 114, 117, 101]⟩, .string ⟨#[40, 112, 41]⟩, .string ⟨#[40, 97, 103, 103, 32, 110, 32, 99, 110, 116, 32, 120, 32, 40, 41, 32, 40, 113, 32, 120, 41, 41]⟩, .string ⟨#[40, 101, 120, 105, 115, 116, 115, 32, 40, 120, 32, 121, 41, 32, 40, 112, 32, 120, 32, 121, 41, 41]⟩, .string ⟨#[40, 108, 101, 116, 32, 114, 32, 40, 120, 41, 32, 116, 114, 117, 101, 32, 40, 114, 32, 49, 41, 41]⟩, .string ⟨#[40, 98, 101, 102, 111, 114, 101, 32, 91, 48, 44, 42, 93, 32, 40, 115, 101, 113, 32, 97, 110, 121, 32, 40, 116, 101, 115, 116, 32, 40, 112, 41, 41, 41, 41]⟩, .string ⟨#[40, 106, 111, 105, 110, 32, 40, 112, 32, 120, 41, 32, 40, 110, 111, 116, 32, 40, 113, 32, 120, 41, 41, 41]⟩, .string ⟨#[40, 97, 110, 100, 32, 40, 112, 32, 120, 32, 49, 47, 50, 41, 32, 40, 60, 61, 32, 120, 32, 40, 43, 32, 121, 32, 45, 50, 41, 41, 41]⟩] 9 (0, 0))) := by rw [hW1]; exact new_box w _
  have B1 : Below w.heap.size w W1 := by rw [hW1]; exact (Below.refl _ _).alloc (Nat.le_refl _) _
  clear hW1
  have HX : Hid (∀ i (h : i < nmL.length), W1.cell? ⟨w.heap.size, i, none⟩ = some (.string nmL[i])) := by
    intro i h
    rw [nmL_len] at h
    rw [Lib.cell_of_heap X1.out]
    match i, h with
    | 0, _ => rfl
    | 1, _ => rfl
    | 2, _ => rfl
    | 3, _ => rfl
    | 4, _ => rfl
    | 5, _ => rfl
    | 6, _ => rfl
    | 7, _ => rfl
    | n + 8, h => exact absurd h (by omega)
  have lX := lt_heap X1.out
  clear X1
  go_wp2_with fail
  go_loopw [2] (fun v wr => ∃ k : Nat, k ≤ 8 ∧ v = .int .i64 k ∧ Below W1.heap.size W1 wr) (fun v _ => 8 - (intOf v).toNat)
  case atStart => exact ⟨0, by omega, rfl, Below.refl _ _⟩
  case round =>
    obtain ⟨k, hk, rfl, hB⟩ := hrel
    have BW : Below w.heap.size w wr := B1.trans (hB.mono B1.size)
    by_cases hlt : k < 8
    case neg =>
      have c2 : ¬ (k : Int) < 8 := by omega
      go_wp2_with fail
      refine (CL.out wr BW).mono ?_
      rintro e w9 ⟨rfl, hb9⟩
      go_wp2
      go_ret
      exact ⟨rfl, BW.trans (hb9.mono BW.size)⟩
    have hlt' : (k : Int) < 8 := by omega
    have kx : k < nmL.length := hlt
    obtain ⟨f, hf1, hf2, hf3⟩ := nm_all k kx
    have a0 : wr.cell? ⟨w.heap.size, k, none⟩ = some (.string nmL[k]) := (hB.cell (p := ⟨w.heap.size, k, none⟩) lX).trans (HX.out k kx)
    have CP1 : Hid (Calls Tryz.prog 9 #[.string nmL[k]] wr (PsQ nmL[k].data.toList wr)) := CP.out nmL[k] wr BW
    have HF1 : Hid (prsP nmL[k].data.toList = (some f, 0, 0)) := hf1
    have HS : Hid ((⟨(prtP f).toArray⟩ : ByteArray) = nmL[k]) := (congrArg (fun l : List UInt8 => (⟨l.toArray⟩ : ByteArray)) hf2).trans (mkD _)
    have HF3 : Hid (chkF f = 0) := hf3
    clear hf1 hf2 hf3
    generalize nmL[k] = S at *
    go_wp2_with fail
    refine CP1.out.mono ?_
    intro e w2 hP2
    obtain ⟨v2, rfl, ⟨⟨uv, ut, us, ur⟩, rfl, hQ2⟩, hb2⟩ := psq_some hP2 HF1.out
    obtain ⟨qv, dv, qt, dt, qs, ds, qr, dr, rfl, rfl, rfl, rfl⟩ := fm_slices hQ2.at
    dsimp only
    have hB2 : Below W1.heap.size W1 w2 := hB.trans (hb2.mono hB.size)
    have Q2 : Hid (QAt w2 (f, (⟨.slice qv f.vars.length dv, .slice qt f.terms.length dt, .slice qs f.subs.length ds, .slice qr f.rgx.length dr⟩ : FQ))) := hQ2.at
    have CQ : Hid (∀ W : World, Below w2.heap.size w2 W → Calls Tryz.prog 10 #[.agg #[.int .i64 f.k, .string f.nm, .int .i64 f.op, .slice qv f.vars.length dv, .slice qt f.terms.length dt, .int .i64 f.lo, .int .i64 f.hi, .bool f.opn, .slice qs f.subs.length ds, .slice qr f.rgx.length dr]] W fun e w' => e = .returned (.tuple #[.string S, .int .i64 0]) ∧ Below W.heap.size W w') := fun W hW => by
      have h := print_syn f ⟨.slice qv f.vars.length dv, .slice qt f.terms.length dt, .slice qs f.subs.length ds, .slice qr f.rgx.length dr⟩ W (Q2.out.below hW) (HT.out.below (B1.trans ((hB2.trans (hW.mono hB2.size)).mono B1.size)))
      rw [HS.out, HF3.out] at h
      exact h
    have hB0 : Below W1.heap.size W1 wr := hB
    clear hQ2 hb2 hP2 CP1 Q2 HS HF1 HF3 hB
    generalize f.k = fk at *
    generalize f.nm = fnm at *
    generalize f.op = fop at *
    generalize f.lo = flo at *
    generalize f.hi = fhi at *
    generalize f.opn = fpn at *
    generalize f.vars.length = nv at *
    generalize f.terms.length = nt at *
    generalize f.subs.length = ns at *
    generalize f.rgx.length = nr at *
    go_wp2_with fail
    refine (CQ.out _ ((Below.refl w2.heap.size w2).alloc (Nat.le_refl _) _)).mono ?_
    rintro e w3 ⟨rfl, hb3⟩
    have hB3 : Below W1.heap.size W1 w3 := (hB2.alloc hB2.size _).trans (hb3.mono (by have := hB2.size; simp only [World.size_alloc]; omega))
    have a3 : w3.cell? ⟨w.heap.size, k, none⟩ = some (.string S) := (hB3.cell (p := ⟨w.heap.size, k, none⟩) lX).trans ((Below.cell hB0 (p := ⟨w.heap.size, k, none⟩) lX).symm.trans a0)
    go_wp2
    exact ⟨⟨k + 1, by omega, by go_num, hB3⟩, by simp [intOf]; omega⟩
end Go.Proofs.YticnfeolbfmgfaaGreatDoor
