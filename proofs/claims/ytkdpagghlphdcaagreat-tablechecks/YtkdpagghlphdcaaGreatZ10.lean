/- A table that came in, and how large it may be. -/
import Derived.Test.YtkdpagghlphdcaaGreatZ09
import Derived.Test.YtkdpagghlphdcaaGreatZ06
import Derived.Test.YtkdpagghlphdcaaGreatZ08
import Derived.SizedLaws

namespace Go.Proofs.YtkdpagghlphdcaaGreat
open Go.RowKit Go.Shelf Go.Sort
set_option linter.unusedVariables false

/-- What else is the call's own stands while a row is put behind rows. -/
theorem keep_arr {T : Nat} {x u b A b' : Value} {zs : List Value} {B e size n : Nat} {v : Value} {xs : List Value} {wx w2 : World} (h : wx.ownsRow B e size v n xs) (hb : wx.ownsRow T 37 1 b zs.length zs) (h3 : (wx.alloc (.cells #[x] 37)).grownBy w2 b.ownBlock)
    (T3 : w2.heap[T]? = some (.cells #[A, b'] 25 (0, 0))) (n1 : e ≠ 37) (n2 : e ≠ 25) : (w2.setCell ⟨T, 1, none⟩ u).ownsRow B e size v n xs := by
  have a1 := World.ownsRow.alloc h (.cells #[x] 37)
  have a2 := World.ownsRow.kept a1 h3 (own_ne2 a1 (World.ownsRow.alloc hb _) n1)
  exact World.ownsRow.kept a2 (grownBy_setCell w2 T 1 u) (Or.inr (own_ne a2 T3 n2))

set_option maxRecDepth 100000 in
set_option maxHeartbeats 8000000 in
theorem copied_any {V R : Value} {vs : List ByteArray} {rs : List (List Val)} {w : World} (hV : StrsAt w V vs) (hA : TabRows w R rs) (bv : vs.length * 16 ≤ 140737488355328) (br : rs.length * 24 ≤ 140737488355328) (bs : ∀ r ∈ rs, r.length * 40 ≤ 140737488355328) :
    Calls Tryz.prog 11 #[.agg #[V, R]] w fun e w' => ∃ t, e = .returned t ∧ OwnT w.heap.size t vs rs w' ∧ Below w.heap.size w w' := by
  have HS : Hid (∀ W, Below w.heap.size w W → Src W 1 V vs.length (vs.map Value.string)) := fun W hW => src_strs (hV.below hW)
  obtain ⟨p, cv, rfl⟩ := hV.form
  obtain ⟨q, c, rfl, HX0⟩ := hA.form
  have HX : Hid (∀ k (hk : k < rs.length), ∃ b off u, q = some ⟨b, off, none⟩ ∧ b < w.heap.size ∧ w.cell? ⟨b, off + k, none⟩ = some u ∧ RowAt w u rs[k]) := HX0
  have SX : Hid (∀ r ∈ rs, r.length * 40 ≤ 140737488355328) := bs
  obtain ⟨n, en⟩ : ∃ n : Nat, Hid (rs.length = n) := ⟨_, rfl⟩
  obtain ⟨m, em⟩ : ∃ m : Nat, Hid (vs.length = m) := ⟨_, rfl⟩
  rw [en.out] at br ⊢
  rw [em.out] at bv HS ⊢
  clear hA hV HX0 bs
  go_enter Tryz.func11, Tryz.ntmps11
  obtain ⟨i0, hi, hz0, hz1, hz2⟩ := info_parts inS
  go_upto_region 1 with fail
  refine wp_world ?_
  intro w7 h7
  have VT : Hid (Var w7 w.heap.size (.slice p m cv) (.slice q n c)) := by
    rw [h7]
    exact (Var.made w _ _).below ((Below.refl _ _).alloc (Nat.le_refl _) _)
  have VR : Hid (Var w7 (w.heap.size + 1) (.slice none 0 0) (.slice none 0 0)) := by
    rw [h7]
    have h := Var.made (w.alloc (.cells #[.slice p m cv, .slice q n c] 25)) (.slice none 0 0) (.slice none 0 0)
    exact at_size (P := fun g => Var _ g _ _) h (by simp)
  have K7 : Below w.heap.size w w7 := by rw [h7]; go_grown
  have Z7 : Hid (w7.heap.size = w.heap.size + 2) := by rw [h7]; show _ = _; simp
  clear h7
  go_upto_region 2 with fail
  refine wp_world ?_
  intro W0 hW0
  have VO : Hid (Var W0 w7.heap.size (.slice none 0 0) (.slice none 0 0)) := by
    rw [hW0]
    exact Var.made _ _ _
  have K0 : Below w7.heap.size w7 W0 := by rw [hW0]; go_grown
  clear hW0
  have KK0 : Hid (Below w.heap.size w W0) := K7.trans (K0.mono K7.size)
  have a0 := (VT.out.below K0).c0
  have o0 := VO.out.c0
  have hK := K0.size
  have h63 : 0 + m ≤ maxLen := by unfold maxLen; omega
  have hby : (0 + m) * 16 ≤ 140737488355328 := by omega
  go_wp2_with (at_builtin; refine wpList_append_src rfl (.tmp 7) (.tmp 9) 22 rfl w7.heap.size 9 i0 _ 1 16 Tryz.underlying22 hi hz0 hz1 hz2 rfl (by decide) (.slice none 0 0) 0 [] rfl (World.ownsRow_nil _ _ _ _) (.slice p m cv) m (vs.map Value.string) rfl (HS.out _ KK0.out) ?one h63 hby hK ?grow)
  case one => (intro u hu; obtain ⟨x, -, rfl⟩ := List.mem_map.1 hu; rfl)
  case grow =>
    intro v' w3 h2 h3 h4
    obtain ⟨pA, nA, cA, rfl⟩ := slice_of h2
    have T3 : w3.heap[w7.heap.size]? = some (.cells #[.slice none 0 0, .slice none 0 0] 25 (0, 0)) := (h3.block _ (Array.getElem?_eq_some_iff.1 VO.out).1 (fun e => by cases e)).trans VO.out
    have x0 := cell_of_heap T3 0 rfl
    have f0 := frozen_of_heap T3 0
    have hg := grownBy_setCell w3 w7.heap.size 0 (.slice pA nA cA)
    have T1 : Hid ((w3.setCell ⟨w7.heap.size, 0, none⟩ (.slice pA nA cA)).heap[w7.heap.size]? = some (.cells #[.slice pA nA cA, .slice none 0 0] 25 (0, 0))) := by
      show _ = _
      rw [setCell_eq]
      show (w3.heap.modify _ _)[_]? = _
      rw [Array.getElem?_modify, if_pos rfl, T3]
      rfl
    have S1 : Hid (OwnS w7.heap.size (.slice pA nA cA) vs (w3.setCell ⟨w7.heap.size, 0, none⟩ (.slice pA nA cA))) := by
      have h := World.ownsRow.kept h2 hg (Or.inr (own_ne h2 T3 (by decide)))
      show World.ownsRow _ _ _ _ _ _ _
      rw [em.out]
      simpa using h
    have B1 : Hid (Below w7.heap.size w7 (w3.setCell ⟨w7.heap.size, 0, none⟩ (.slice pA nA cA))) := by
      have b2 := K0.grown h3 hK (fun q hq => by cases hq)
      exact b2.grown hg b2.size (fun q hq => by injection hq with hq; omega)
    clear h2 h3 h4 hg T3 a0 o0 hK h63 hby VO K0 KK0 HS i0 hi hz0 hz1 hz2
    obtain ⟨i0, hi, hz0, hz1, hz2⟩ := info_parts inR
    obtain ⟨i1, hi', hy0, hy1, hy2⟩ := info_parts inV
    go_wp2
    clear x0 f0
    generalize w3.setCell ⟨w7.heap.size, 0, none⟩ (.slice pA nA cA) = W1 at T1 S1 B1 ⊢
    go_loopw [4] (fun v wr => ∃ i : Nat, i ≤ n ∧ v = .int .i64 i ∧ Hid (∃ b zs, wr.heap[w7.heap.size]? = some (.cells #[.slice pA nA cA, b] 25 (0, 0)) ∧ wr.ownsRow w7.heap.size 37 1 b zs.length zs ∧ OwnRs w7.heap.size zs (rs.take i) wr ∧ Below w7.heap.size w7 wr) ∧ Hid (OwnS w7.heap.size (.slice pA nA cA) vs wr)) (fun v _ => n - (intOf v).toNat)
    case atStart => exact ⟨0, Nat.zero_le _, rfl, ⟨.slice none 0 0, [], T1.out, World.ownsRow_nil _ _ _ _, OwnRs.nil _ _, B1.out⟩, S1⟩
    case round =>
      obtain ⟨i, hk, rfl, hI, hS⟩ := hrel
      obtain ⟨b, zs, hT, hob, hrs, hB⟩ := hI.out
      obtain ⟨pb, nb, cb, rfl⟩ := slice_of hob
      have KW : Below w.heap.size w wr := K7.trans (hB.mono K7.size)
      have VW : Hid (Var wr w.heap.size (.slice p m cv) (.slice q n c)) := VT.out.below hB
      have a1 := VW.out.c1
      by_cases hlt : i < n
      · have kx : i < rs.length := by have := en.out; omega
        obtain ⟨bx, off, v, rfl, hbx, x1, x2⟩ := HX.out i kx
        have q1 := (KW.cell (p := ⟨bx, off + i, none⟩) hbx).trans x1
        have l1 := SX.out rs[i] (List.getElem_mem kx)
        have hstep : Hid (rs.take (i + 1) = rs.take i ++ [rs[i]]) := List.take_succ_eq_append_getElem kx
        have X0 : Hid (Src wr 4 v rs[i].length (flat rs[i])) := src_row (x2.below KW)
        obtain ⟨pu, cu, rfl⟩ := x2.form
        generalize rs[i] = r at *
        clear x1 x2
        have h63 : 0 + r.length ≤ maxLen := by unfold maxLen; omega
        have hby : (0 + r.length) * 40 ≤ 140737488355328 := by omega
        have hT1 : Hid (wr.heap[w7.heap.size]? = some (.cells #[.slice pA nA cA, .slice pb nb cb] 25 (0, 0))) := hT
        have hob1 : Hid (wr.ownsRow w7.heap.size 37 1 (.slice pb nb cb) zs.length zs) := hob
        have hrs1 : Hid (OwnRs w7.heap.size zs (rs.take i) wr) := hrs
        have hB1 : Hid (Below w7.heap.size w7 wr) := hB
        clear hT hob hrs hB hI
        go_upto_region 7 with fail
        go_wp2_with (at_builtin; refine wpList_append_src rfl (.tmp 19) (.tmp 24) 37 rfl wr.heap.size 47 i1 _ 4 40 Tryz.underlying37 hi' hy0 hy1 hy2 rfl (by decide) (.slice none 0 0) 0 [] rfl (World.ownsRow_nil _ _ _ _) (.slice pu r.length cu) r.length (flat r) rfl X0.out (flat_one r) h63 hby (Nat.le_refl _) ?grow)
        case grow =>
          intro v' w4 h2 h3 h4
          obtain ⟨px, nx, cx, rfl⟩ := slice_of h2
          have HX1 : Hid (OwnV wr.heap.size (.slice px nx cx) r w4) := by
            show World.ownsRow _ _ _ _ _ _ _
            simpa using h2
          have HW1 : Hid (Below wr.heap.size wr w4) := (Below.refl _ _).grown h3 (Nat.le_refl _) (fun q hq => by cases hq)
          have hTl : w7.heap.size < wr.heap.size := (Array.getElem?_eq_some_iff.1 hT1.out).1
          have HT2 : Hid (w4.heap[w7.heap.size]? = some (.cells #[.slice pA nA cA, .slice pb nb cb] 25 (0, 0))) := (HW1.out.block _ hTl).trans hT1.out
          have HOB2 : Hid (w4.ownsRow w7.heap.size 37 1 (.slice pb nb cb) zs.length zs) := own_below hob1.out HW1.out
          have HS2 : Hid (OwnS w7.heap.size (.slice pA nA cA) vs w4) := own_below hS.out HW1.out
          have hzl : zs.length = i := by
            have h1 := hrs1.out.1
            rw [List.length_take, en.out] at h1
            omega
          have hz63 : zs.length + 1 ≤ maxLen := by unfold maxLen; omega
          have hzby : (zs.length + 1) * 24 ≤ 140737488355328 := by omega
          have HZL : Hid (zs.length = i) := hzl
          have o1 := cell_of_heap HT2.out 1 rfl
          have hsz4 : w7.heap.size ≤ (w4.alloc (.cells #[.slice px nx cx] 37)).heap.size := by simp; have := HW1.out.size; omega
          have HSRC : Hid (Src (w4.alloc (.cells #[.slice px nx cx] 37)) 1 (.slice (some ⟨w4.heap.size, 0, none⟩) 1 1) 1 [.slice px nx cx]) := Or.inr ⟨_, 1, rfl, rfl, fun j x hj => by
            rw [Addr.add_lit, Nat.zero_add]
            exact cell_of_heap (heap_alloc w4 _) j (by simpa using hj)⟩
          have HO4 : Hid ((w4.alloc (.cells #[.slice px nx cx] 37)).ownsRow w7.heap.size 37 1 (.slice pb nb cb) zs.length zs) := World.ownsRow.alloc HOB2.out _
          clear h2 h3 h4 hzl h63 hby a1 q1 X0 l1
          go_upto_region 8 with fail
          go_wp2_with (at_builtin; refine wpList_append_src rfl (.tmp 27) (.tmp 29) 23 rfl w7.heap.size 37 i0 _ 1 24 Tryz.underlying23 hi hz0 hz1 hz2 rfl (by decide) (.slice pb nb cb) zs.length zs rfl HO4.out (.slice (some ⟨w4.heap.size, 0, none⟩) 1 1) 1 [.slice px nx cx] rfl HSRC.out ?one2 hz63 hzby hsz4 ?grow2)
          case one2 => (intro u hu; simp at hu; subst hu; rfl)
          case grow2 =>
            intro v2 w5 h5 h6 h7
            obtain ⟨pv, nv, cv2, T3, t3, f3, W3, rfl⟩ := arr_step2 px nx cx pb nb cb (.slice pA nA cA) zs v2 r (rs.take i) wr w7 w4 w5 hTl HT2.out HOB2.out hrs1.out hB1.out HW1.out HX1.out h5 h6
            have S3 : Hid (OwnS w7.heap.size (.slice pA nA cA) vs (w5.setCell ⟨w7.heap.size, 1, none⟩ (.slice pv nv cv2))) := keep_arr HS2.out HOB2.out h6 T3 (by decide) (by decide)
            rw [← hstep.out] at W3
            clear h5 h6 h7 T3 HX1 HOB2 HT2 HS2 HSRC HO4 o1 hsz4
            go_wp2
            exact ⟨⟨i + 1, by omega, by go_num, W3, S3⟩, by simp [intOf]; omega⟩
      · have c2 : ¬ (i : Int) < n := by omega
        have ei : rs.take i = rs := List.take_of_length_le (by have := en.out; omega)
        rw [ei] at hrs
        have g1 : w.heap.size + 1 < w7.heap.size := by have := Z7.out; omega
        have HT : Hid (OwnT w7.heap.size (.agg #[.slice pA nA cA, .slice pb nb cb]) vs rs wr) := ⟨_, _, zs, rfl, hS.out, hob, hrs⟩
        have VRW := VR.out.below hB
        have VOW : Var wr w7.heap.size (.slice pA nA cA) (.slice pb nb cb) := hT
        have o0 := VOW.c0
        have o1 := VOW.c1
        have r0 := VRW.c0
        have r1 := VRW.c1
        have f0 := frozen_of_heap VRW 0
        have f1 := frozen_of_heap VRW 1
        have y0 : (wr.setCell ⟨w.heap.size + 1, 0, none⟩ (.slice pA nA cA)).cell? ⟨w.heap.size + 1, 0, none⟩ = some (.slice pA nA cA) := set_same r0
        have y1 : ((wr.setCell ⟨w.heap.size + 1, 0, none⟩ (.slice pA nA cA)).setCell ⟨w.heap.size + 1, 1, none⟩ (.slice pb nb cb)).cell? ⟨w.heap.size + 1, 1, none⟩ = some (.slice pb nb cb) := set_same ((set_other (by simp)).trans r1)
        have HSET : Hid (Below w.heap.size w ((wr.setCell ⟨w.heap.size + 1, 0, none⟩ (.slice pA nA cA)).setCell ⟨w.heap.size + 1, 1, none⟩ (.slice pb nb cb))) := by
          have b2 := KW.grown (grownBy_setCell wr (w.heap.size + 1) 0 (.slice pA nA cA)) KW.size (fun q hq => by injection hq with hq; omega)
          exact b2.grown (grownBy_setCell _ (w.heap.size + 1) 1 (.slice pb nb cb)) b2.size (fun q hq => by injection hq with hq; omega)
        have hle : w.heap.size ≤ w7.heap.size := K7.size
        clear hI hS hob hrs hB hT VRW VOW
        go_wp2
        (try simp only [Exit.inBlock, Exit.then])
        refine bodyPost_ret (by simp [results, Tryz.results11, go_sem, y0, y1]; try rfl) rfl ?_
        exact ⟨_, rfl, ((HT.out.set g1).set g1).base hle, HSET.out⟩

end Go.Proofs.YtkdpagghlphdcaaGreat

namespace Go.Proofs.YtkdpagghlphdcaaGreat
open Go.RowKit Go.Shelf Go.Sort
set_option linter.unusedVariables false

theorem rowsS_comm : ∀ xs ys : List (List Val), rowsS xs ys = rowsS ys xs
  | [], [] => rfl
  | [], _ :: _ => rfl
  | _ :: _, [] => rfl
  | x :: xs, y :: ys => by simp only [rowsS]; rw [rowS_comm x y, rowsS_comm xs ys]
theorem rowsS_refl : ∀ xs : List (List Val), rowsS xs xs = true
  | [] => rfl
  | x :: xs => by simp only [rowsS]; rw [(rowS_iff).2 rfl, rowsS_refl xs]; rfl

set_option maxRecDepth 100000 in
set_option maxHeartbeats 4000000 in
theorem tasks_any {V R U Q Y : Value} {vs us : List ByteArray} {xs ys : List (List Val)} {zs : List Val} (w : World) (hV : StrsAt w V vs) (lv : vs.length ≤ 9223372036854775807) (hA : TabRows w R xs) (fx : ∀ r ∈ xs, ∀ v ∈ r, v.Fits) (sx : ∀ r ∈ xs, r.length ≤ 9223372036854775807) (lx : xs.length ≤ 9223372036854775807)
    (hU : StrsAt w U us) (lu : us.length ≤ 9223372036854775807) (hB : TabRows w Q ys) (fy : ∀ r ∈ ys, ∀ v ∈ r, v.Fits) (sy : ∀ r ∈ ys, r.length ≤ 9223372036854775807) (ly : ys.length ≤ 9223372036854775807) (hY : RowAt w Y zs) (fz : ∀ v ∈ zs, v.Fits) (lzz : zs.length ≤ 9223372036854775807) :
    Calls Tryz.prog 6 #[.agg #[V, R], .agg #[U, Q], Y] w fun e w' => e = .returned (.bool true) ∧ Below w.heap.size w w' := by
  obtain ⟨p1, k1, eV⟩ := hV.form
  obtain ⟨L, eL⟩ : ∃ L : Bool, Hid ((decide (vs = us) && rowsS xs ys) = L) := ⟨_, rfl⟩
  obtain ⟨K, eK⟩ : ∃ K : Bool, Hid (anyS zs xs = K) := ⟨_, rfl⟩
  have c1 : Hid (∀ W : World, Below w.heap.size w W → Calls Tryz.prog 14 #[.agg #[V, R], .agg #[U, Q]] W fun e w' => e = .returned (.bool L) ∧ Below W.heap.size W w') := fun W hW => by
    have h := dsame_any (hV.below hW) (hU.below hW) (hA.below hW) (hB.below hW) lv lu fx fy sx lx ly
    rwa [eL.out] at h
  have c2 : Hid (∀ W : World, Below w.heap.size w W → Calls Tryz.prog 19 #[.agg #[V, R], Y] W fun e w' => e = .returned (.bool K) ∧ Below W.heap.size W w') := fun W hW => by
    have h := dhas_any eV (hA.below hW) (hY.below hW) fx fz lx sx
    rwa [eK.out] at h
  have c3 : Hid (∀ W : World, Below w.heap.size w W → Calls Tryz.prog 20 #[.agg #[V, R], .agg #[U, Q]] W fun e w' => e = .returned (.bool L) ∧ Below W.heap.size W w') := fun W hW => by
    have h := tabsame_any V R U Q vs us xs ys W (hV.below hW) (hU.below hW) (hA.below hW) (hB.below hW) lv lu lx ly sx sy
    rwa [eL.out] at h
  have c4 : Hid (∀ W : World, Below w.heap.size w W → Calls Tryz.prog 21 #[.agg #[V, R], Y] W fun e w' => e = .returned (.bool K) ∧ Below W.heap.size W w') := fun W hW => by
    have h := tabhas_any V R Y _ _ _ eV xs zs W (hA.below hW) (hY.below hW) lx sx lzz
    rwa [eK.out] at h
  have c5 : Hid (∀ W : World, Below w.heap.size w W → Calls Tryz.prog 20 #[.agg #[U, Q], .agg #[V, R]] W fun e w' => e = .returned (.bool L) ∧ Below W.heap.size W w') := fun W hW => by
    have h := tabsame_any U Q V R us vs ys xs W (hU.below hW) (hV.below hW) (hB.below hW) (hA.below hW) lu lv ly lx sy sx
    rw [rowsS_comm, show decide (us = vs) = decide (vs = us) from decide_eq_decide.2 eq_comm] at h
    rwa [eL.out] at h
  have c6 : Hid (∀ W : World, Below w.heap.size w W → Calls Tryz.prog 20 #[.agg #[V, R], .agg #[V, R]] W fun e w' => e = .returned (.bool true) ∧ Below W.heap.size W w') := fun W hW => by
    have h := tabsame_any V R V R vs vs xs xs W (hV.below hW) (hV.below hW) (hA.below hW) (hA.below hW) lv lv lx lx sx sx
    rw [rowsS_refl, show decide (vs = vs) = true by simp] at h
    exact h
  obtain ⟨p2, k2, eU⟩ := hU.form
  obtain ⟨p3, k3, eR, -⟩ := hA.form
  obtain ⟨p4, k4, eQ, -⟩ := hB.form
  obtain ⟨p5, k5, eY⟩ := hY.form
  subst eV eU eR eQ eY
  generalize vs.length = m1 at *
  generalize us.length = m2 at *
  generalize xs.length = m3 at *
  generalize ys.length = m4 at *
  generalize zs.length = m5 at *
  clear hV hU hA hB hY fx fy fz sx sy eL eK
  go_enter Tryz.func6, Tryz.ntmps6
  go_wp2_with fail
  refine (c1.out _ (by go_grown)).mono ?_
  rintro e w1 ⟨rfl, hb1⟩
  have K1 : Below w.heap.size w w1 := by
    obtain ⟨hw1, -⟩ := bg0 (n := w.heap.size) (W0 := w) (by go_grown) (by go_size) hb1
    exact hw1
  have VA : Hid (Var w1 w.heap.size (.slice p1 m1 k1) (.slice p3 m3 k3)) := ((Var.made w _ _).below ((Below.refl _ _).alloc (Nat.le_refl _) _)).below hb1
  have VB : Hid (Var w1 (w.heap.size + 1) (.slice p2 m2 k2) (.slice p4 m4 k4)) := by
    have h := Var.made (w.alloc (.cells #[.slice p1 m1 k1, .slice p3 m3 k3] 25)) (.slice p2 m2 k2) (.slice p4 m4 k4)
    exact (at_size (P := fun g => Var _ g _ _) h (by simp)).below hb1
  clear c1 hb1
  have a0 := VA.out.c0
  have a1 := VA.out.c1
  have b0 := VB.out.c0
  have b1 := VB.out.c1
  go_wp2_with fail
  refine (c2.out _ (by exact K1)).mono ?_
  rintro e w2 ⟨rfl, hb2⟩
  have K2 : Below w.heap.size w w2 := K1.trans (hb2.mono K1.size)
  have VA2 : Hid (Var w2 w.heap.size (.slice p1 m1 k1) (.slice p3 m3 k3)) := VA.out.below hb2
  have VB2 : Hid (Var w2 (w.heap.size + 1) (.slice p2 m2 k2) (.slice p4 m4 k4)) := VB.out.below hb2
  clear a0 a1 b0 b1 hb2 VA VB c2
  have a0 := VA2.out.c0
  have a1 := VA2.out.c1
  have b0 := VB2.out.c0
  have b1 := VB2.out.c1
  go_wp2_with fail
  refine (tlive_any _).mono ?_
  rintro e w3 ⟨rfl, hb3⟩
  have K3 : Below w.heap.size w w3 := K2.trans (hb3.mono K2.size)
  have VA3 : Hid (Var w3 w.heap.size (.slice p1 m1 k1) (.slice p3 m3 k3)) := VA2.out.below hb3
  have VB3 : Hid (Var w3 (w.heap.size + 1) (.slice p2 m2 k2) (.slice p4 m4 k4)) := VB2.out.below hb3
  clear a0 a1 b0 b1 hb3 VA2 VB2
  have a0 := VA3.out.c0
  have a1 := VA3.out.c1
  have b0 := VB3.out.c0
  have b1 := VB3.out.c1
  go_wp2_with fail
  refine (c3.out _ (by exact K3)).mono ?_
  rintro e w4 ⟨rfl, hb4⟩
  have K4 : Below w.heap.size w w4 := K3.trans (hb4.mono K3.size)
  have VA4 : Hid (Var w4 w.heap.size (.slice p1 m1 k1) (.slice p3 m3 k3)) := VA3.out.below hb4
  have VB4 : Hid (Var w4 (w.heap.size + 1) (.slice p2 m2 k2) (.slice p4 m4 k4)) := VB3.out.below hb4
  clear a0 a1 b0 b1 hb4 VA3 VB3 c3
  have a0 := VA4.out.c0
  have a1 := VA4.out.c1
  have b0 := VB4.out.c0
  have b1 := VB4.out.c1
  go_wp2_with fail
  refine (c4.out _ (by exact K4)).mono ?_
  rintro e w5 ⟨rfl, hb5⟩
  have K5 : Below w.heap.size w w5 := K4.trans (hb5.mono K4.size)
  have VA5 : Hid (Var w5 w.heap.size (.slice p1 m1 k1) (.slice p3 m3 k3)) := VA4.out.below hb5
  have VB5 : Hid (Var w5 (w.heap.size + 1) (.slice p2 m2 k2) (.slice p4 m4 k4)) := VB4.out.below hb5
  clear a0 a1 b0 b1 hb5 VA4 VB4 c4
  have a0 := VA5.out.c0
  have a1 := VA5.out.c1
  have b0 := VB5.out.c0
  have b1 := VB5.out.c1
  go_wp2_with fail
  refine (c5.out _ (by exact K5)).mono ?_
  rintro e w6 ⟨rfl, hb6⟩
  have K6 : Below w.heap.size w w6 := K5.trans (hb6.mono K5.size)
  have VA6 : Hid (Var w6 w.heap.size (.slice p1 m1 k1) (.slice p3 m3 k3)) := VA5.out.below hb6
  have VB6 : Hid (Var w6 (w.heap.size + 1) (.slice p2 m2 k2) (.slice p4 m4 k4)) := VB5.out.below hb6
  clear a0 a1 b0 b1 hb6 VA5 VB5 c5
  have a0 := VA6.out.c0
  have a1 := VA6.out.c1
  have b0 := VB6.out.c0
  have b1 := VB6.out.c1
  go_wp2_with fail
  refine (c6.out _ (by exact K6)).mono ?_
  rintro e w7 ⟨rfl, hb7⟩
  have K7 : Below w.heap.size w w7 := K6.trans (hb7.mono K6.size)
  have VA7 : Hid (Var w7 w.heap.size (.slice p1 m1 k1) (.slice p3 m3 k3)) := VA6.out.below hb7
  have VB7 : Hid (Var w7 (w.heap.size + 1) (.slice p2 m2 k2) (.slice p4 m4 k4)) := VB6.out.below hb7
  clear a0 a1 b0 b1 hb7 VA6 VB6 c6
  have a0 := VA7.out.c0
  have a1 := VA7.out.c1
  have b0 := VB7.out.c0
  have b1 := VB7.out.c1
  go_wp2
  go_ret
  exact ⟨rfl, K7⟩

end Go.Proofs.YtkdpagghlphdcaaGreat

namespace Go.Proofs.YtkdpagghlphdcaaGreat
open Go.RowKit Go.Shelf Go.Sort
set_option linter.unusedVariables false

/-- copied, in the form of the walks. -/
theorem copied_two {V R : Value} {vs : List ByteArray} {rs : List (List Val)} {w : World} (hV : StrsAt w V vs) (hA : TabRows w R rs) (bv : vs.length * 16 ≤ 140737488355328) (br : rs.length * 24 ≤ 140737488355328) (bs : ∀ r ∈ rs, r.length * 40 ≤ 140737488355328) :
    Calls Tryz.prog 11 #[.agg #[V, R]] w fun e w' => ∃ pa na ca pb nb cb, e = .returned (.agg #[.slice pa na ca, .slice pb nb cb]) ∧ OwnT w.heap.size (.agg #[.slice pa na ca, .slice pb nb cb]) vs rs w' ∧ Below w.heap.size w w' := by
  refine (copied_any hV hA bv br bs).mono ?_
  rintro e w' ⟨t, rfl, ht, hb⟩
  obtain ⟨p, c, p', c', rfl⟩ := own_forms ht
  exact ⟨_, _, _, _, _, _, rfl, ht, hb⟩

set_option maxRecDepth 100000 in
set_option maxHeartbeats 4000000 in
theorem tchecks_any {V R : Value} {vs : List ByteArray} {xs : List (List Val)} (w : World) (hV : StrsAt w V vs) (lv : vs.length ≤ 9223372036854775807) (hA : TabRows w R xs) (fx : ∀ r ∈ xs, ∀ v ∈ r, v.Fits) (sx : ∀ r ∈ xs, r.length ≤ 9223372036854775807) (lx : xs.length ≤ 9223372036854775807)
    (bv : vs.length * 16 ≤ 140737488355328) (bx : xs.length * 24 ≤ 140737488355328) (bs : ∀ r ∈ xs, r.length * 40 ≤ 140737488355328) :
    Calls Tryz.prog 4 #[.agg #[V, R]] w fun e w' => e = .returned (.bool true) ∧ Below w.heap.size w w' := by
  obtain ⟨E, eE⟩ : ∃ E : Int, Hid (tabChk vs xs = E) := ⟨_, rfl⟩
  have c1 : Hid (∀ W : World, Below w.heap.size w W → Calls Tryz.prog 11 #[.agg #[V, R]] W fun e w' => ∃ pa na ca pb nb cb, e = .returned (.agg #[.slice pa na ca, .slice pb nb cb]) ∧ OwnT W.heap.size (.agg #[.slice pa na ca, .slice pb nb cb]) vs xs w' ∧ Below W.heap.size W w') := fun W hW => copied_two (hV.below hW) (hA.below hW) bv bx bs
  have c2 : Hid (∀ W : World, Below w.heap.size w W → Calls Tryz.prog 12 #[.agg #[V, R]] W fun e w' => e = .returned (.int .i64 E) ∧ Below W.heap.size W w') := fun W hW => by
    have h := tcheck_any V R vs xs W (hV.below hW) lv fx sx (hA.below hW) lx
    rwa [eE.out] at h
  have c3 : Hid (∀ (W : World) (U Q : Value), StrsAt W U vs → TabRows W Q xs → Calls Tryz.prog 13 #[.agg #[U, Q]] W fun e w' => e = .returned (.int .i64 E) ∧ Below W.heap.size W w') := fun W U Q h1 h2 => by
    have h := dcheck_any h1 h2 lv fx lx sx
    rwa [eE.out] at h
  have c4 : Hid (∀ (W : World) (U Q : Value), Below w.heap.size w W → StrsAt W U vs → TabRows W Q xs → Calls Tryz.prog 14 #[.agg #[V, R], .agg #[U, Q]] W fun e w' => e = .returned (.bool true) ∧ Below W.heap.size W w') := fun W U Q hW h1 h2 => by
    have h := dsame_any (hV.below hW) h1 (hA.below hW) h2 lv lv fx fx sx lx lx
    rw [rowsS_refl, show decide (vs = vs) = true by simp] at h
    exact h
  obtain ⟨p1, k1, eV⟩ := hV.form
  obtain ⟨p3, k3, eR, -⟩ := hA.form
  subst eV eR
  obtain ⟨m1, em1⟩ : ∃ m1, Hid (vs.length = m1) := ⟨_, rfl⟩
  obtain ⟨m3, em3⟩ : ∃ m3, Hid (xs.length = m3) := ⟨_, rfl⟩
  rw [em1.out, em3.out] at c1 c2 c4 ⊢
  clear hV hA fx sx eE bv bx bs lv lx
  go_enter Tryz.func4, Tryz.ntmps4
  go_wp2_with fail
  refine (c1.out _ (by go_grown)).mono ?_
  rintro e w1 ⟨pa, na, ca, pb, nb, cb, rfl, ht, hb1⟩
  have VA : Hid (Var w1 w.heap.size (.slice p1 m1 k1) (.slice p3 m3 k3)) := (Var.made w _ _).below hb1
  have HC : Hid (StrsAt w1 (.slice pa na ca) vs ∧ TabRows w1 (.slice pb nb cb) xs) := own_two ht
  have K1 : Below w.heap.size w w1 := by
    obtain ⟨hw1, -⟩ := bg0 (n := w.heap.size) (W0 := w) (by go_grown) (by go_size) hb1
    exact hw1
  clear c1 hb1 ht
  go_upto_region 2 with fail
  refine wp_world ?_
  intro W1 hW1
  have H1 : Below w1.heap.size w1 W1 := by rw [hW1]; go_grown
  have VI1 : Hid (Var W1 w1.heap.size (.slice pa na ca) (.slice pb nb cb)) := by rw [hW1]; exact Var.made _ _ _
  clear hW1
  have VA1 : Hid (Var W1 w.heap.size (.slice p1 m1 k1) (.slice p3 m3 k3)) := VA.out.below H1
  have HC1 : Hid (StrsAt W1 (.slice pa na ca) vs ∧ TabRows W1 (.slice pb nb cb) xs) := ⟨HC.out.1.below H1, HC.out.2.below H1⟩
  have KK1 : Below w.heap.size w W1 := K1.trans (H1.mono K1.size)
  generalize w1.heap.size = g1 at VI1 ⊢
  clear VA HC K1 H1
  have a0 := VA1.out.c0
  have a1 := VA1.out.c1
  have b0 := VI1.out.c0
  have b1 := VI1.out.c1
  go_wp2_with fail
  refine (c2.out _ (by exact KK1)).mono ?_
  rintro e w2 ⟨rfl, hb2⟩
  have K2 : Below w.heap.size w w2 := KK1.trans (hb2.mono KK1.size)
  have VA2 : Hid (Var w2 w.heap.size (.slice p1 m1 k1) (.slice p3 m3 k3)) := VA1.out.below hb2
  have VI2 : Hid (Var w2 g1 (.slice pa na ca) (.slice pb nb cb)) := VI1.out.below hb2
  have HC2 : Hid (StrsAt w2 (.slice pa na ca) vs ∧ TabRows w2 (.slice pb nb cb) xs) := ⟨HC1.out.1.below hb2, HC1.out.2.below hb2⟩
  clear a0 a1 b0 b1 hb2 VA1 VI1 HC1 c2
  have a0 := VA2.out.c0
  have a1 := VA2.out.c1
  have b0 := VI2.out.c0
  have b1 := VI2.out.c1
  go_wp2_with fail
  refine (c3.out _ _ _ HC2.out.1 HC2.out.2).mono ?_
  rintro e w3 ⟨rfl, hb3⟩
  have K3 : Below w.heap.size w w3 := K2.trans (hb3.mono K2.size)
  have VA3 : Hid (Var w3 w.heap.size (.slice p1 m1 k1) (.slice p3 m3 k3)) := VA2.out.below hb3
  have VI3 : Hid (Var w3 g1 (.slice pa na ca) (.slice pb nb cb)) := VI2.out.below hb3
  have HC3 : Hid (StrsAt w3 (.slice pa na ca) vs ∧ TabRows w3 (.slice pb nb cb) xs) := ⟨HC2.out.1.below hb3, HC2.out.2.below hb3⟩
  clear a0 a1 b0 b1 hb3 VA2 VI2 HC2 c3
  have a0 := VA3.out.c0
  have a1 := VA3.out.c1
  have b0 := VI3.out.c0
  have b1 := VI3.out.c1
  go_wp2_with fail
  refine (c4.out _ _ _ K3 HC3.out.1 HC3.out.2).mono ?_
  rintro e w4 ⟨rfl, hb4⟩
  have K4 : Below w.heap.size w w4 := K3.trans (hb4.mono K3.size)
  have VA4 : Hid (Var w4 w.heap.size (.slice p1 m1 k1) (.slice p3 m3 k3)) := VA3.out.below hb4
  have VI4 : Hid (Var w4 g1 (.slice pa na ca) (.slice pb nb cb)) := VI3.out.below hb4
  have HC4 : Hid (StrsAt w4 (.slice pa na ca) vs ∧ TabRows w4 (.slice pb nb cb) xs) := ⟨HC3.out.1.below hb4, HC3.out.2.below hb4⟩
  clear a0 a1 b0 b1 hb4 VA3 VI3 HC3 c4
  have a0 := VA4.out.c0
  have a1 := VA4.out.c1
  have b0 := VI4.out.c0
  have b1 := VI4.out.c1
  go_wp2_with fail
  refine (tlive_any _).mono ?_
  rintro e w5 ⟨rfl, hb5⟩
  have K5 : Below w.heap.size w w5 := K4.trans (hb5.mono K4.size)
  have VA5 : Hid (Var w5 w.heap.size (.slice p1 m1 k1) (.slice p3 m3 k3)) := VA4.out.below hb5
  have VI5 : Hid (Var w5 g1 (.slice pa na ca) (.slice pb nb cb)) := VI4.out.below hb5
  have HC5 : Hid (StrsAt w5 (.slice pa na ca) vs ∧ TabRows w5 (.slice pb nb cb) xs) := ⟨HC4.out.1.below hb5, HC4.out.2.below hb5⟩
  clear a0 a1 b0 b1 hb5 VA4 VI4 HC4
  have a0 := VA5.out.c0
  have a1 := VA5.out.c1
  have b0 := VI5.out.c0
  have b1 := VI5.out.c1
  go_wp2
  go_ret
  exact ⟨rfl, K5⟩

end Go.Proofs.YtkdpagghlphdcaaGreat

namespace Go.Proofs.YtkdpagghlphdcaaGreat
open Go.Joins Go.ChangeShapes Go.WideShapes Go.ChangeAt Go.RowKit Go.Deep
set_option linter.unusedVariables false
set_option maxRecDepth 100000

theorem wAll_mem {H : Type} {P : Program} {e : TypeId} : ∀ {l : List (DataW H)} {d : DataW H} {k : Nat}, d ∈ l → k ∈ d.weights P e → k ∈ DataW.weightsAll P e l
  | [], _, _, h, _ => by cases h
  | x :: l, d, k, h, hk => by
    rw [DataW.weightsAll]
    rcases List.mem_cons.1 h with rfl | h
    · exact List.mem_append_left _ hk
    · exact List.mem_append_right _ (wAll_mem h hk)
theorem bytesStr : Tryz.prog.bytesOf 9 = 16 := by kernel_rfl
theorem bytesRow : Tryz.prog.bytesOf 37 = 24 := by kernel_rfl
theorem bytesVal2 : Tryz.prog.bytesOf 47 = 40 := by kernel_rfl
/-- No part of it weighs more than a call may hold. -/
def Light {H : Type} (t : TypeId) (d : DataW H) : Prop := ∀ k ∈ d.weights Tryz.prog t, k ≤ 140737488355328

theorem opens_strs {H : Type} {enc : TypeId × Value → H} {w : World} {sp : Nat → Bool} {held : Bool} {n : Nat} {v : Value} {x : DataW H × List MemPlace} (h : DataW.trod enc Tryz.prog w 0 sp held n 22 [v] = some x) (hlt : ∀ y ∈ x.2, y.block < w.heap.size) :
    ∃ vs : List ByteArray, StrsAt w v vs ∧ vs.length ≤ 9223372036854775807 ∧ (∀ p n c, v = .slice p n c → n ≤ c) ∧ (Light 22 x.1 → vs.length * 16 ≤ 140737488355328) := by
  rcases open_slice1 Tryz.underlying22 (by kernel_rfl) h with ⟨hcs, hx⟩ | ⟨a, len, cap, m, n', V, D, Pl, hcs, hb, hl, hm, em, hx, he⟩
  · injection hcs with hcs
    subst hcs
    exact ⟨[], ⟨none, 0, rfl, Or.inl rfl⟩, by simp, (fun p n c e => by injection e with _ e1 e2; omega), fun _ => by simp⟩
  · injection hcs with hcs
    subst hcs hx
    have hlm : len ≤ m := by rw [em]; split <;> omega
    have each : ∀ i, i < len → ∃ s : ByteArray, w.cell? (a.add i) = some (.string s) := fun i hi => by
      obtain ⟨h1, h2⟩ := he i (by omega)
      obtain ⟨s, e3, _, _⟩ := DataW.trod_string Tryz.underlying9 h2
      injection e3 with e3
      exact ⟨s, e3 ▸ h1⟩
    obtain ⟨f, hf⟩ := choose_lt each
    refine ⟨(List.range len).map f, ⟨some a, cap, by simp, ?_⟩, by simp; unfold maxLen at hm; omega, (fun p n c e => by injection e with _ e1 e2; omega), (fun hL => by
      have h := hL ((((List.range len).map D).length + ((List.range (m - len)).map fun j => D (len + j)).length) * Tryz.prog.bytesOf 9) (by simp only [DataW.weights, Tryz.underlying22]; exact List.mem_cons_self)
      rw [bytesStr] at h
      simp only [List.length_map, List.length_range] at h ⊢
      omega)⟩
    by_cases h0 : len = 0
    · exact Or.inl (by simp [h0])
    · right
      obtain ⟨b, off, spot⟩ := a
      have hspot : spot = none := by simpa [Addr.add] using World.cell?_spot (hf 0 (by omega))
      subst hspot
      refine ⟨b, off, rfl, hlt (.cell b off) (List.mem_append_left _ (row_mem (s := none) (by omega))), ?_⟩
      intro i hi
      have hi' : i < len := by simpa using hi
      have c0 := hf i hi'
      simp only [add_plain] at c0
      simpa using c0

theorem opens_vrow {H : Type} {enc : TypeId × Value → H} {w : World} {sp : Nat → Bool} {held : Bool} {n : Nat} {v : Value} {x : DataW H × List MemPlace} (h : DataW.trod enc Tryz.prog w 0 sp held n 37 [v] = some x) (hlt : ∀ y ∈ x.2, y.block < w.heap.size) :
    ∃ xs : List Val, RowAt w v xs ∧ (∀ y ∈ xs, y.Fits) ∧ xs.length ≤ 9223372036854775807 ∧ (∀ p n c, v = .slice p n c → n ≤ c) ∧ (Light 37 x.1 → xs.length * 40 ≤ 140737488355328) := by
  rcases open_slice Tryz.underlying37 h with ⟨hcs, hx⟩ | ⟨a, len, cap, m, n', D, Pl, hcs, hb, hl, hm, em, hx, he⟩
  · injection hcs with hcs
    subst hcs
    exact ⟨[], ⟨none, 0, rfl, Or.inl rfl⟩, by simp, by simp, (fun p n c e => by injection e with _ e1 e2; omega), fun _ => by simp⟩
  · injection hcs with hcs
    subst hcs hx
    have hlm : len ≤ m := by rw [em]; split <;> omega
    have each : ∀ i, i < len → ∃ X : Val, X.Fits ∧ w.cell? ((a.add (i * 4)).add 0) = some (.int .i64 X.k) ∧ w.cell? ((a.add (i * 4)).add 1) = some (.int .i64 X.n) ∧ w.cell? ((a.add (i * 4)).add 2) = some (.int .i64 X.d) ∧ w.cell? ((a.add (i * 4)).add 3) = some (.string X.s) := fun i hi => by
      obtain ⟨cs, h1, h2⟩ := he i (by omega)
      rw [cellsVal] at h1
      exact open_val h1 h2
    obtain ⟨f, hf⟩ := choose_lt each
    refine ⟨(List.range len).map f, ⟨some a, cap, by simp, ?_⟩, ?_, by simp; unfold maxLen at hm; omega, (fun p n c e => by injection e with _ e1 e2; omega), (fun hL => by
      have h := hL ((((List.range len).map D).length + ((List.range (m - len)).map fun j => D (len + j)).length) * Tryz.prog.bytesOf 47) (by simp only [DataW.weights, Tryz.underlying37]; exact List.mem_cons_self)
      rw [bytesVal2] at h
      simp only [List.length_map, List.length_range] at h ⊢
      omega)⟩
    · by_cases h0 : len = 0
      · exact Or.inl (by simp [h0])
      · right
        obtain ⟨b, off, spot⟩ := a
        have hspot : spot = none := by simpa [Addr.add] using World.cell?_spot (hf 0 (by omega)).2.1
        subst hspot
        refine ⟨b, off, rfl, hlt (.cell b off) (List.mem_append_left _ (row_mem (s := none) (by rw [cellsVal]; omega))), ?_⟩
        intro i hi
        have hi' : i < len := by simpa using hi
        obtain ⟨_, c0, c1, c2, c3⟩ := hf i hi'
        simp only [add_plain, Nat.add_zero] at c0 c1 c2 c3
        simp only [List.getElem_map, List.getElem_range]
        exact ⟨c0, c1, c2, c3⟩
    · intro y hy
      simp at hy
      obtain ⟨i, hi, rfl⟩ := hy
      exact (hf i hi).1

theorem opens_rows {H : Type} {enc : TypeId × Value → H} {w : World} {sp : Nat → Bool} {held : Bool} {n : Nat} {v : Value} {x : DataW H × List MemPlace} (h : DataW.trod enc Tryz.prog w 0 sp held n 23 [v] = some x) (hlt : ∀ y ∈ x.2, y.block < w.heap.size) :
    ∃ rs : List (List Val), TabRows w v rs ∧ (∀ r ∈ rs, ∀ y ∈ r, y.Fits) ∧ (∀ r ∈ rs, r.length ≤ 9223372036854775807) ∧ rs.length ≤ 9223372036854775807 ∧ (∀ p n c, v = .slice p n c → n ≤ c) ∧ (Light 23 x.1 → rs.length * 24 ≤ 140737488355328 ∧ ∀ r ∈ rs, r.length * 40 ≤ 140737488355328) := by
  rcases open_slice1 Tryz.underlying23 (by kernel_rfl) h with ⟨hcs, hx⟩ | ⟨a, len, cap, m, n', V, D, Pl, hcs, hb, hl, hm, em, hx, he⟩
  · injection hcs with hcs
    subst hcs
    exact ⟨[], ⟨none, 0, rfl, Or.inl rfl⟩, by simp, by simp, by simp, (fun p n c e => by injection e with _ e1 e2; omega), fun _ => ⟨by simp, by simp⟩⟩
  · injection hcs with hcs
    subst hcs hx
    have hlm : len ≤ m := by rw [em]; split <;> omega
    have each : ∀ i, i < len → ∃ xs : List Val, w.cell? (a.add i) = some (V i) ∧ RowAt w (V i) xs ∧ (∀ y ∈ xs, y.Fits) ∧ xs.length ≤ 9223372036854775807 ∧ (Light 37 (D i) → xs.length * 40 ≤ 140737488355328) := fun i hi => by
      obtain ⟨h1, h2⟩ := he i (by omega)
      obtain ⟨xs, r1, r2, r3, _, r5⟩ := opens_vrow h2 (fun y hy => hlt y (List.mem_append_right _ (List.mem_flatMap.2 ⟨i, by simp; omega, hy⟩)))
      exact ⟨xs, h1, r1, r2, r3, r5⟩
    obtain ⟨f, hf⟩ := choose_lt each
    refine ⟨(List.range len).map f, ⟨some a, cap, by simp, ?_⟩, ?_, ?_, by simp; unfold maxLen at hm; omega, (fun p n c e => by injection e with _ e1 e2; omega), (fun hL => ⟨by
      have h := hL ((((List.range len).map D).length + ((List.range (m - len)).map fun j => D (len + j)).length) * Tryz.prog.bytesOf 37) (by simp only [DataW.weights, Tryz.underlying23]; exact List.mem_cons_self)
      rw [bytesRow] at h
      simp only [List.length_map, List.length_range] at h ⊢
      omega, fun r hr => by
      simp at hr
      obtain ⟨i, hi, rfl⟩ := hr
      refine (hf i hi).2.2.2.2 (fun k hk => hL k ?_)
      simp only [DataW.weights, Tryz.underlying23]
      exact List.mem_cons_of_mem _ (List.mem_append_left _ (wAll_mem (List.mem_map.2 ⟨i, by simpa using hi, rfl⟩) hk))⟩)⟩
    · by_cases h0 : len = 0
      · exact Or.inl (by simp [h0])
      · right
        obtain ⟨b, off, spot⟩ := a
        have hspot : spot = none := by simpa [Addr.add] using World.cell?_spot (hf 0 (by omega)).1
        subst hspot
        refine ⟨b, off, rfl, hlt (.cell b off) (List.mem_append_left _ (row_mem (s := none) (by omega))), ?_⟩
        intro i hi
        have hi' : i < len := by simpa using hi
        obtain ⟨c0, c1, _⟩ := hf i hi'
        simp only [add_plain] at c0
        refine ⟨_, c0, ?_⟩
        simpa using c1
    · intro r hr
      simp at hr
      obtain ⟨i, hi, rfl⟩ := hr
      exact (hf i hi).2.2.1
    · intro r hr
      simp at hr
      obtain ⟨i, hi, rfl⟩ := hr
      exact (hf i hi).2.2.2.1

theorem opens_tab {H : Type} {enc : TypeId × Value → H} {W : World} {r : Reach} {b0 : Nat} {v : Value} {d : DataW H} {p : List MemPlace} (hv : Value.okWide Tryz.prog W r b0 25 v) (h : DataW.Trod enc Tryz.prog W 0 (fun _ => true) true 25 v d p) (hlt : ∀ y ∈ p, y.block < W.heap.size) :
    ∃ V R vs rs, v = .agg #[V, R] ∧ StrsAt W V vs ∧ vs.length ≤ 9223372036854775807 ∧ (∀ p n c, V = .slice p n c → n ≤ c) ∧ TabRows W R rs ∧ (∀ r ∈ rs, ∀ y ∈ r, y.Fits) ∧ (∀ r ∈ rs, r.length ≤ 9223372036854775807) ∧ rs.length ≤ 9223372036854775807 ∧ (∀ p n c, R = .slice p n c → n ≤ c) ∧ (Light 25 d → vs.length * 16 ≤ 140737488355328 ∧ rs.length * 24 ≤ 140737488355328 ∧ ∀ r ∈ rs, r.length * 40 ≤ 140737488355328) := by
  obtain ⟨V, R, y0, y1, n, rfl, ed, rfl, h0, h1⟩ := open_agg2 Tryz.underlying25 (by kernel_rfl) (by kernel_rfl) hv h
  obtain ⟨vs, a1, a2, a3, a4⟩ := opens_strs h0 (fun y hy => hlt y (List.mem_append_left _ hy))
  obtain ⟨rs, c1, c2, c3, c4, c5, c6⟩ := opens_rows h1 (fun y hy => hlt y (List.mem_append_right _ hy))
  refine ⟨V, R, vs, rs, rfl, a1, a2, a3, c1, c2, c3, c4, c5, fun hL => ?_⟩
  rw [ed] at hL
  have e : DataW.weights Tryz.prog 25 (.agg [y0.1, y1.1]) = y0.1.weights Tryz.prog 22 ++ (y1.1.weights Tryz.prog 23 ++ []) := by
    simp only [DataW.weights, Tryz.underlying25]
    rfl
  have h1' := c6 (fun k hk => hL k (by rw [e]; exact List.mem_append_right _ (List.mem_append_left _ hk)))
  exact ⟨a4 (fun k hk => hL k (by rw [e]; exact List.mem_append_left _ hk)), h1'⟩

end Go.Proofs.YtkdpagghlphdcaaGreat
