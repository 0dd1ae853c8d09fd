/- The document's side: one table taken from another. -/
import Derived.Test.YteipohpfaofchaaGreatZ09
import Derived.Test.YteipohpfaofchaaGreatZ06
import Derived.Test.YteipohpfaofchaaGreatZ07

namespace Go.Proofs.YteipohpfaofchaaGreat
open Go.RowKit Go.Shelf Go.Sort
set_option linter.unusedVariables false

/-- putR, with where each row lies. -/
def putP (y : Value × List Val) : List (Value × List Val) → List (Value × List Val)
  | [] => [y]
  | x :: l => if rowC y.2 x.2 < 0 then y :: x :: l else if rowC y.2 x.2 = 0 then x :: l else x :: putP y l
theorem putP_snd (y : Value × List Val) : ∀ l, (putP y l).map (·.2) = putR y.2 (l.map (·.2))
  | [] => rfl
  | x :: l => by
    have ih := putP_snd y l
    simp only [putP, List.map_cons, putR]
    split <;> (try split) <;> simp_all

set_option maxRecDepth 100000 in
set_option maxHeartbeats 4000000 in
theorem dput_any {R Y : Value} {G : List (Value × List Val)} {y : List Val} {w : World} (hR : ValsAt w R (G.map (·.1))) (hG : ∀ x ∈ G, RowAt w x.1 x.2 ∧ (∀ v ∈ x.2, v.Fits) ∧ x.2.length ≤ 9223372036854775807) (hY : RowAt w Y y) (fy : ∀ v ∈ y, v.Fits) (ly : y.length ≤ 9223372036854775807) (lg : G.length + 1 ≤ 5864062014805) :
    Calls Tryz.prog 87 #[R, Y] w fun e w' => ∃ v, e = .returned v ∧ w'.ownsRow w.heap.size 37 1 v (putP (Y, y) G).length ((putP (Y, y) G).map (·.1)) ∧ Below w.heap.size w w' := by
  obtain ⟨i0, hi, hz0, hz1, hz2⟩ := info_parts inR
  obtain ⟨p, c, rfl, HV0⟩ := hR.form
  have HV : Hid (∀ k (hk : k < (G.map (·.1)).length), ∃ b off, p = some ⟨b, off, none⟩ ∧ b < w.heap.size ∧ w.cell? ⟨b, off + k, none⟩ = some (G.map (·.1))[k]) := HV0
  have HG : Hid (∀ x ∈ G, RowAt w x.1 x.2 ∧ (∀ v ∈ x.2, v.Fits) ∧ x.2.length ≤ 9223372036854775807) := hG
  have HY : Hid (RowAt w Y y) := hY
  have FY : Hid (∀ v ∈ y, v.Fits) := fy
  obtain ⟨py, cy, rfl⟩ := hY.form
  have LY : Hid (y.length ≤ 9223372036854775807) := ly
  obtain ⟨n, en⟩ : ∃ n : Nat, Hid (G.length = n) := ⟨_, rfl⟩
  obtain ⟨ny, eny⟩ : ∃ ny : Nat, Hid (y.length = ny) := ⟨_, rfl⟩
  rw [List.length_map, en.out]
  rw [en.out] at lg
  rw [eny.out] at HY ⊢
  clear hR hG hY HV0 fy ly
  obtain ⟨z, ez⟩ : ∃ z : Value × List Val, Hid ((Value.slice py ny cy, y) = z) := ⟨_, rfl⟩
  rw [ez.out]
  go_enter Tryz.func87, Tryz.ntmps87
  go_wp2
  go_loopw [5, 6, 7] (fun o d i wr => ∃ (k : Nat) (P : List (Value × List Val)) (dn : Bool), k ≤ n ∧ d = .bool dn ∧ i = .int .i64 k ∧ Hid (wr.ownsRow w.heap.size 37 1 o P.length (P.map (·.1))) ∧ Hid (putP z G = P ++ (if dn then G.drop k else putP z (G.drop k))) ∧ P.length ≤ k + 1 ∧ (dn = false → P.length ≤ k) ∧ Below w.heap.size w wr) (fun _ _ i _ => n - (intOf i).toNat)
  case atStart => exact ⟨0, [], false, Nat.zero_le _, rfl, rfl, (show World.ownsRow _ _ _ _ _ _ _ from World.ownsRow_nil _ _ _ _), (show putP z G = [] ++ putP z (G.drop 0) by simp), by simp, by simp, Below.refl _ _⟩
  case round =>
    obtain ⟨k, P, dn, hk, rfl, rfl, HO, hr, lP, lP2, hB⟩ := hrel
    by_cases hlt : k < n
    · have kx : k < G.length := by have := en.out; omega
      have kx2 : k < (G.map (·.1)).length := by rw [List.length_map]; exact kx
      obtain ⟨b, off, rfl, hb, x1⟩ := HV.out k kx2
      have q1 := (hB.cell (p := ⟨b, off + k, none⟩) hb).trans x1
      rw [List.getElem_map] at q1 x1
      obtain ⟨g1, g2, g3⟩ := HG.out G[k] (List.getElem_mem kx)
      have hd : Hid (G.drop k = G[k] :: G.drop (k + 1)) := List.drop_eq_getElem_cons kx
      rw [hd.out] at hr
      clear hd
      generalize G[k] = x at q1 x1 g1 g2 g3 hr
      obtain ⟨U, r⟩ := x
      dsimp only at q1 x1 g1 g2 g3
      have HU : Hid (RowAt w U r) := g1
      obtain ⟨pu, cu, rfl⟩ := g1.form
      obtain ⟨nu, enu⟩ : ∃ nu : Nat, Hid (r.length = nu) := ⟨_, rfl⟩
      rw [enu.out] at q1 x1 hr HU
      have HX1 : Hid (w.cell? ⟨b, off + k, none⟩ = some (.slice pu nu cu)) := x1
      clear x1
      have FU : Hid (∀ v ∈ r, v.Fits) := g2
      have LU : Hid (r.length ≤ 9223372036854775807) := g3
      clear g1 g2 g3
      cases dn with
      | true =>
        have hr2 : Hid (putP z G = (P ++ [(Value.slice pu nu cu, r)]) ++ (if true then G.drop (k + 1) else putP z (G.drop (k + 1)))) := by
          have h := hr.out
          show _ = _
          rw [h]
          simp
        clear hr
        obtain ⟨poa, noa, coa, rfl⟩ := slice_of HO.out
        have HSRCa : Hid (Src (wr.alloc (.cells #[Value.slice pu nu cu] 37)) 1 (.slice (some ⟨wr.heap.size, 0, none⟩) 1 1) 1 [Value.slice pu nu cu]) := Or.inr ⟨_, 1, rfl, rfl, fun j x hj => by
          rw [Addr.add_lit, Nat.zero_add]
          exact cell_of_heap (heap_alloc wr _) j (by simpa using hj)⟩
        have HOa : Hid ((wr.alloc (.cells #[Value.slice pu nu cu] 37)).ownsRow w.heap.size 37 1 (.slice poa noa coa) (P).length ((P).map (·.1))) := World.ownsRow.alloc HO.out _
        have HKa : Hid (∀ q, (Value.slice poa noa coa).ownBlock = some q → w.heap.size ≤ q) := fun q hq => (World.ownsRow.lt HOa.out q hq).1
        have sa1 : (P).length + 1 ≤ maxLen := by unfold maxLen; (try simp only [List.length_append, List.length_cons, List.length_nil]); omega
        have sa2 : ((P).length + 1) * 24 ≤ 140737488355328 := by (try simp only [List.length_append, List.length_cons, List.length_nil]); omega
        have sa3 : w.heap.size ≤ (wr.alloc (.cells #[Value.slice pu nu cu] 37)).heap.size := by simp; have := hB.size; omega
        have Ba : Hid (Below w.heap.size w (wr.alloc (.cells #[Value.slice pu nu cu] 37))) := hB.alloc hB.size _
        clear HO
        go_wp2_with (at_builtin; refine wpList_append_src rfl (.tmp 31) (.tmp 36) 23 rfl w.heap.size 37 i0 _ 1 24 Tryz.underlying23 hi hz0 hz1 hz2 rfl (by decide) (.slice poa noa coa) (P).length ((P).map (·.1)) rfl HOa.out (.slice (some ⟨wr.heap.size, 0, none⟩) 1 1) 1 [Value.slice pu nu cu] rfl HSRCa.out ?onea sa1 sa2 sa3 ?growa)
        case onea => first | rfl | (intro u hu; simp at hu; subst hu; rfl)
        case growa =>
          intro v' w3 h2 h3 _
          have O3 : Hid (w3.ownsRow w.heap.size 37 1 v' ((P) ++ [(Value.slice pu nu cu, r)]).length (((P) ++ [(Value.slice pu nu cu, r)]).map (·.1))) := by
            show World.ownsRow _ _ _ _ _ _ _
            rw [List.length_append, List.map_append]
            first | exact h2 | simpa using h2
          have B3 : Below w.heap.size w w3 := Ba.out.grown h3 sa3 HKa.out
          clear h2 h3 HSRCa HOa HKa Ba
          go_wp2
          exact ⟨⟨k + 1, (P) ++ [(Value.slice pu nu cu, r)], true, by omega, by trivial, by go_num, O3, hr2, (by simp only [List.length_append, List.length_cons, List.length_nil]; omega), (by intro h; first | (cases h; done) | (simp only [List.length_append, List.length_cons, List.length_nil]; omega)), B3⟩, by simp [intOf]; omega⟩
      | false =>
        have lP3 := lP2 rfl
        obtain ⟨D, eD⟩ : ∃ D : Int, Hid (rowC y r = D) := ⟨_, rfl⟩
        have ct : Hid (∀ W : World, Below w.heap.size w W → Calls Tryz.prog 40 #[.slice py ny cy, .slice pu nu cu] W fun e w' => e = .returned (.int .i64 D) ∧ Below W.heap.size W w') := fun W hW => by
          have h := drow_gen (.slice py ny cy) (.slice pu nu cu) y r W FY.out FU.out (HY.out.below hW) (HU.out.below hW) LY.out LU.out
          rwa [eD.out] at h
        have hr2 : Hid (putP z G = P ++ (if D < 0 then z :: (Value.slice pu nu cu, r) :: G.drop (k + 1) else if D = 0 then (Value.slice pu nu cu, r) :: G.drop (k + 1) else (Value.slice pu nu cu, r) :: putP z (G.drop (k + 1)))) := by
          have h := hr.out
          have e2 : rowC z.2 r = D := by rw [← ez.out]; exact eD.out
          show _ = _
          rw [h]
          simp only [putP, e2]
          rfl
        clear hr lP2
        go_wp2_with fail
        refine (ct.out _ (by exact hB)).mono ?_
        rintro e w1 ⟨rfl, hb1⟩
        have B1 : Below w.heap.size w w1 := hB.trans (hb1.mono hB.size)
        have HO1 : Hid (w1.ownsRow w.heap.size 37 1 u5 P.length (P.map (·.1))) := own_below HO.out hb1
        have q2 := (hb1.cell (p := ⟨b, off + k, none⟩) (Nat.lt_of_lt_of_le hb hB.size)).trans q1
        clear hb1 ct q1 HO hB
        by_cases hD : D < 0
        · have hr3 : Hid (putP z G = ((P ++ [z]) ++ [(Value.slice pu nu cu, r)]) ++ (if true then G.drop (k + 1) else putP z (G.drop (k + 1)))) := by
            have h := hr2.out
            rw [if_pos hD] at h
            show _ = _
            rw [h]
            simp
          clear hr2
          have d1 : D ≤ 0 := by omega
          obtain ⟨pob, nob, cob, rfl⟩ := slice_of HO1.out
          have HSRCb : Hid (Src (w1.alloc (.cells #[Value.slice py ny cy] 37)) 1 (.slice (some ⟨w1.heap.size, 0, none⟩) 1 1) 1 [Value.slice py ny cy]) := Or.inr ⟨_, 1, rfl, rfl, fun j x hj => by
            rw [Addr.add_lit, Nat.zero_add]
            exact cell_of_heap (heap_alloc w1 _) j (by simpa using hj)⟩
          have HOb : Hid ((w1.alloc (.cells #[Value.slice py ny cy] 37)).ownsRow w.heap.size 37 1 (.slice pob nob cob) (P).length ((P).map (·.1))) := World.ownsRow.alloc HO1.out _
          have HKb : Hid (∀ q, (Value.slice pob nob cob).ownBlock = some q → w.heap.size ≤ q) := fun q hq => (World.ownsRow.lt HOb.out q hq).1
          have sb1 : (P).length + 1 ≤ maxLen := by unfold maxLen; (try simp only [List.length_append, List.length_cons, List.length_nil]); omega
          have sb2 : ((P).length + 1) * 24 ≤ 140737488355328 := by (try simp only [List.length_append, List.length_cons, List.length_nil]); omega
          have sb3 : w.heap.size ≤ (w1.alloc (.cells #[Value.slice py ny cy] 37)).heap.size := by simp; have := B1.size; omega
          have Bb : Hid (Below w.heap.size w (w1.alloc (.cells #[Value.slice py ny cy] 37))) := B1.alloc B1.size _
          clear HO1
          go_wp2_with (at_builtin; refine wpList_append_src rfl (.tmp 27) (.tmp 29) 23 rfl w.heap.size 37 i0 _ 1 24 Tryz.underlying23 hi hz0 hz1 hz2 rfl (by decide) (.slice pob nob cob) (P).length ((P).map (·.1)) rfl HOb.out (.slice (some ⟨w1.heap.size, 0, none⟩) 1 1) 1 [Value.slice py ny cy] rfl HSRCb.out ?oneb sb1 sb2 sb3 ?growb)
          case oneb => first | rfl | (intro u hu; simp at hu; subst hu; rfl)
          case growb =>
            intro v1 w2 h2 h3 _
            have O2 : Hid (w2.ownsRow w.heap.size 37 1 v1 (P ++ [z]).length ((P ++ [z]).map (·.1))) := by
              show World.ownsRow _ _ _ _ _ _ _
              rw [List.length_append, List.map_append, ← ez.out]
              exact h2
            have B2 : Below w.heap.size w w2 := Bb.out.grown h3 sb3 HKb.out
            have q3 : w2.cell? ⟨b, off + k, none⟩ = some (.slice pu nu cu) := (B2.cell (p := ⟨b, off + k, none⟩) hb).trans HX1.out
            clear h2 h3 HSRCb HOb HKb Bb q2 sb1 sb2 sb3
            obtain ⟨poc, noc, coc, rfl⟩ := slice_of O2.out
            have HSRCc : Hid (Src (w2.alloc (.cells #[Value.slice pu nu cu] 37)) 1 (.slice (some ⟨w2.heap.size, 0, none⟩) 1 1) 1 [Value.slice pu nu cu]) := Or.inr ⟨_, 1, rfl, rfl, fun j x hj => by
              rw [Addr.add_lit, Nat.zero_add]
              exact cell_of_heap (heap_alloc w2 _) j (by simpa using hj)⟩
            have HOc : Hid ((w2.alloc (.cells #[Value.slice pu nu cu] 37)).ownsRow w.heap.size 37 1 (.slice poc noc coc) (P ++ [z]).length ((P ++ [z]).map (·.1))) := World.ownsRow.alloc O2.out _
            have HKc : Hid (∀ q, (Value.slice poc noc coc).ownBlock = some q → w.heap.size ≤ q) := fun q hq => (World.ownsRow.lt HOc.out q hq).1
            have sc1 : (P ++ [z]).length + 1 ≤ maxLen := by unfold maxLen; (try simp only [List.length_append, List.length_cons, List.length_nil]); omega
            have sc2 : ((P ++ [z]).length + 1) * 24 ≤ 140737488355328 := by (try simp only [List.length_append, List.length_cons, List.length_nil]); omega
            have sc3 : w.heap.size ≤ (w2.alloc (.cells #[Value.slice pu nu cu] 37)).heap.size := by simp; have := B2.size; omega
            have Bc : Hid (Below w.heap.size w (w2.alloc (.cells #[Value.slice pu nu cu] 37))) := B2.alloc B2.size _
            clear O2
            go_wp2_with (at_builtin; refine wpList_append_src rfl (.tmp 31) (.tmp 36) 23 rfl w.heap.size 37 i0 _ 1 24 Tryz.underlying23 hi hz0 hz1 hz2 rfl (by decide) (.slice poc noc coc) (P ++ [z]).length ((P ++ [z]).map (·.1)) rfl HOc.out (.slice (some ⟨w2.heap.size, 0, none⟩) 1 1) 1 [Value.slice pu nu cu] rfl HSRCc.out ?onec sc1 sc2 sc3 ?growc)
            case onec => first | rfl | (intro u hu; simp at hu; subst hu; rfl)
            case growc =>
              intro v' w3 h2 h3 _
              have O3 : Hid (w3.ownsRow w.heap.size 37 1 v' ((P ++ [z]) ++ [(Value.slice pu nu cu, r)]).length (((P ++ [z]) ++ [(Value.slice pu nu cu, r)]).map (·.1))) := by
                show World.ownsRow _ _ _ _ _ _ _
                rw [List.length_append, List.map_append]
                first | exact h2 | simpa using h2
              have B3 : Below w.heap.size w w3 := Bc.out.grown h3 sc3 HKc.out
              clear h2 h3 HSRCc HOc HKc Bc
              go_wp2
              exact ⟨⟨k + 1, (P ++ [z]) ++ [(Value.slice pu nu cu, r)], true, by omega, by trivial, by go_num, O3, hr3, (by simp only [List.length_append, List.length_cons, List.length_nil]; omega), (by intro h; first | (cases h; done) | (simp only [List.length_append, List.length_cons, List.length_nil]; omega)), B3⟩, by simp [intOf]; omega⟩
        · by_cases hE : D = 0
          · have hr3 : Hid (putP z G = (P ++ [(Value.slice pu nu cu, r)]) ++ (if true then G.drop (k + 1) else putP z (G.drop (k + 1)))) := by
              have h := hr2.out
              rw [if_neg hD, if_pos hE] at h
              show _ = _
              rw [h]
              simp
            clear hr2
            subst hE
            obtain ⟨pod, nod, cod, rfl⟩ := slice_of HO1.out
            have HSRCd : Hid (Src (w1.alloc (.cells #[Value.slice pu nu cu] 37)) 1 (.slice (some ⟨w1.heap.size, 0, none⟩) 1 1) 1 [Value.slice pu nu cu]) := Or.inr ⟨_, 1, rfl, rfl, fun j x hj => by
              rw [Addr.add_lit, Nat.zero_add]
              exact cell_of_heap (heap_alloc w1 _) j (by simpa using hj)⟩
            have HOd : Hid ((w1.alloc (.cells #[Value.slice pu nu cu] 37)).ownsRow w.heap.size 37 1 (.slice pod nod cod) (P).length ((P).map (·.1))) := World.ownsRow.alloc HO1.out _
            have HKd : Hid (∀ q, (Value.slice pod nod cod).ownBlock = some q → w.heap.size ≤ q) := fun q hq => (World.ownsRow.lt HOd.out q hq).1
            have sd1 : (P).length + 1 ≤ maxLen := by unfold maxLen; (try simp only [List.length_append, List.length_cons, List.length_nil]); omega
            have sd2 : ((P).length + 1) * 24 ≤ 140737488355328 := by (try simp only [List.length_append, List.length_cons, List.length_nil]); omega
            have sd3 : w.heap.size ≤ (w1.alloc (.cells #[Value.slice pu nu cu] 37)).heap.size := by simp; have := B1.size; omega
            have Bd : Hid (Below w.heap.size w (w1.alloc (.cells #[Value.slice pu nu cu] 37))) := B1.alloc B1.size _
            clear HO1
            go_wp2_with (at_builtin; refine wpList_append_src rfl (.tmp 31) (.tmp 36) 23 rfl w.heap.size 37 i0 _ 1 24 Tryz.underlying23 hi hz0 hz1 hz2 rfl (by decide) (.slice pod nod cod) (P).length ((P).map (·.1)) rfl HOd.out (.slice (some ⟨w1.heap.size, 0, none⟩) 1 1) 1 [Value.slice pu nu cu] rfl HSRCd.out ?oned sd1 sd2 sd3 ?growd)
            case oned => first | rfl | (intro u hu; simp at hu; subst hu; rfl)
            case growd =>
              intro v' w3 h2 h3 _
              have O3 : Hid (w3.ownsRow w.heap.size 37 1 v' ((P) ++ [(Value.slice pu nu cu, r)]).length (((P) ++ [(Value.slice pu nu cu, r)]).map (·.1))) := by
                show World.ownsRow _ _ _ _ _ _ _
                rw [List.length_append, List.map_append]
                first | exact h2 | simpa using h2
              have B3 : Below w.heap.size w w3 := Bd.out.grown h3 sd3 HKd.out
              clear h2 h3 HSRCd HOd HKd Bd
              go_wp2
              exact ⟨⟨k + 1, (P) ++ [(Value.slice pu nu cu, r)], true, by omega, by trivial, by go_num, O3, hr3, (by simp only [List.length_append, List.length_cons, List.length_nil]; omega), (by intro h; first | (cases h; done) | (simp only [List.length_append, List.length_cons, List.length_nil]; omega)), B3⟩, by simp [intOf]; omega⟩
          · have hr3 : Hid (putP z G = (P ++ [(Value.slice pu nu cu, r)]) ++ (if false then G.drop (k + 1) else putP z (G.drop (k + 1)))) := by
              have h := hr2.out
              rw [if_neg hD, if_neg hE] at h
              show _ = _
              rw [h]
              simp
            clear hr2
            have d1 : ¬ D ≤ 0 := by omega
            obtain ⟨poe, noe, coe, rfl⟩ := slice_of HO1.out
            have HSRCe : Hid (Src (w1.alloc (.cells #[Value.slice pu nu cu] 37)) 1 (.slice (some ⟨w1.heap.size, 0, none⟩) 1 1) 1 [Value.slice pu nu cu]) := Or.inr ⟨_, 1, rfl, rfl, fun j x hj => by
              rw [Addr.add_lit, Nat.zero_add]
              exact cell_of_heap (heap_alloc w1 _) j (by simpa using hj)⟩
            have HOe : Hid ((w1.alloc (.cells #[Value.slice pu nu cu] 37)).ownsRow w.heap.size 37 1 (.slice poe noe coe) (P).length ((P).map (·.1))) := World.ownsRow.alloc HO1.out _
            have HKe : Hid (∀ q, (Value.slice poe noe coe).ownBlock = some q → w.heap.size ≤ q) := fun q hq => (World.ownsRow.lt HOe.out q hq).1
            have se1 : (P).length + 1 ≤ maxLen := by unfold maxLen; (try simp only [List.length_append, List.length_cons, List.length_nil]); omega
            have se2 : ((P).length + 1) * 24 ≤ 140737488355328 := by (try simp only [List.length_append, List.length_cons, List.length_nil]); omega
            have se3 : w.heap.size ≤ (w1.alloc (.cells #[Value.slice pu nu cu] 37)).heap.size := by simp; have := B1.size; omega
            have Be : Hid (Below w.heap.size w (w1.alloc (.cells #[Value.slice pu nu cu] 37))) := B1.alloc B1.size _
            clear HO1
            go_wp2_with (at_builtin; refine wpList_append_src rfl (.tmp 31) (.tmp 36) 23 rfl w.heap.size 37 i0 _ 1 24 Tryz.underlying23 hi hz0 hz1 hz2 rfl (by decide) (.slice poe noe coe) (P).length ((P).map (·.1)) rfl HOe.out (.slice (some ⟨w1.heap.size, 0, none⟩) 1 1) 1 [Value.slice pu nu cu] rfl HSRCe.out ?onee se1 se2 se3 ?growe)
            case onee => first | rfl | (intro u hu; simp at hu; subst hu; rfl)
            case growe =>
              intro v' w3 h2 h3 _
              have O3 : Hid (w3.ownsRow w.heap.size 37 1 v' ((P) ++ [(Value.slice pu nu cu, r)]).length (((P) ++ [(Value.slice pu nu cu, r)]).map (·.1))) := by
                show World.ownsRow _ _ _ _ _ _ _
                rw [List.length_append, List.map_append]
                first | exact h2 | simpa using h2
              have B3 : Below w.heap.size w w3 := Be.out.grown h3 se3 HKe.out
              clear h2 h3 HSRCe HOe HKe Be
              go_wp2
              exact ⟨⟨k + 1, (P) ++ [(Value.slice pu nu cu, r)], false, by omega, by trivial, by go_num, O3, hr3, (by simp only [List.length_append, List.length_cons, List.length_nil]; omega), (by intro h; first | (cases h; done) | (simp only [List.length_append, List.length_cons, List.length_nil]; omega)), B3⟩, by simp [intOf]; omega⟩
    · have c2 : ¬ (k : Int) < n := by omega
      have e0 : G.drop k = [] := List.drop_eq_nil_of_le (by have := en.out; omega)
      rw [e0] at hr
      cases dn with
      | true =>
        have hr2 : Hid (putP z G = P) := by have h := hr.out; show _ = _; simpa using h
        go_wp2
        go_ret
        exact ⟨_, rfl, by rw [hr2.out]; exact HO.out, hB⟩
      | false =>
        have hr2 : Hid (putP z G = P ++ [z]) := by have h := hr.out; show _ = _; simpa [putP] using h
        have lP3 := lP2 rfl
        clear hr lP2
        obtain ⟨pof, nof, cof, rfl⟩ := slice_of HO.out
        have HSRCf : Hid (Src (wr.alloc (.cells #[Value.slice py ny cy] 37)) 1 (.slice (some ⟨wr.heap.size, 0, none⟩) 1 1) 1 [Value.slice py ny cy]) := Or.inr ⟨_, 1, rfl, rfl, fun j x hj => by
          rw [Addr.add_lit, Nat.zero_add]
          exact cell_of_heap (heap_alloc wr _) j (by simpa using hj)⟩
        have HOf : Hid ((wr.alloc (.cells #[Value.slice py ny cy] 37)).ownsRow w.heap.size 37 1 (.slice pof nof cof) (P).length ((P).map (·.1))) := World.ownsRow.alloc HO.out _
        have HKf : Hid (∀ q, (Value.slice pof nof cof).ownBlock = some q → w.heap.size ≤ q) := fun q hq => (World.ownsRow.lt HOf.out q hq).1
        have sf1 : (P).length + 1 ≤ maxLen := by unfold maxLen; (try simp only [List.length_append, List.length_cons, List.length_nil]); omega
        have sf2 : ((P).length + 1) * 24 ≤ 140737488355328 := by (try simp only [List.length_append, List.length_cons, List.length_nil]); omega
        have sf3 : w.heap.size ≤ (wr.alloc (.cells #[Value.slice py ny cy] 37)).heap.size := by simp; have := hB.size; omega
        have Bf : Hid (Below w.heap.size w (wr.alloc (.cells #[Value.slice py ny cy] 37))) := hB.alloc hB.size _
        clear HO
        go_wp2_with (at_builtin; refine wpList_append_src rfl (.tmp 40) (.tmp 42) 23 rfl w.heap.size 37 i0 _ 1 24 Tryz.underlying23 hi hz0 hz1 hz2 rfl (by decide) (.slice pof nof cof) (P).length ((P).map (·.1)) rfl HOf.out (.slice (some ⟨wr.heap.size, 0, none⟩) 1 1) 1 [Value.slice py ny cy] rfl HSRCf.out ?onef sf1 sf2 sf3 ?growf)
        case onef => first | rfl | (intro u hu; simp at hu; subst hu; rfl)
        case growf =>
          intro v1 w2 h2 h3 _
          have O2 : Hid (w2.ownsRow w.heap.size 37 1 v1 (putP z G).length ((putP z G).map (·.1))) := by
            show World.ownsRow _ _ _ _ _ _ _
            rw [hr2.out, List.length_append, List.map_append, ← ez.out]
            exact h2
          have B2 : Below w.heap.size w w2 := Bf.out.grown h3 sf3 HKf.out
          clear h2 h3 HSRCf HOf HKf Bf sf1 sf2 sf3
          go_wp2
          go_ret
          exact ⟨_, rfl, O2.out, B2⟩

end Go.Proofs.YteipohpfaofchaaGreat

namespace Go.Proofs.YteipohpfaofchaaGreat
open Go.RowKit Go.Shelf Go.Sort
set_option linter.unusedVariables false

theorem putS_len (x : ByteArray) : ∀ l, (putS x l).length = l.length + 1
  | [] => rfl
  | y :: l => by
    have ih := putS_len x l
    unfold putS
    split <;> simp [ih]
theorem putS_at (x : ByteArray) : ∀ (l : List ByteArray) (j : Nat), j ≤ l.length → (∀ i (h : i < l.length), i < j → bcmp l[i] x < 0) → (∀ h : j < l.length, ¬ bcmp l[j] x < 0) → putS x l = l.take j ++ [x] ++ l.drop j
  | [], j, h, _, _ => by have : j = 0 := by simpa using h
                         subst this; rfl
  | y :: l, 0, _, _, h => by
    have h0 := h (by simp)
    simp only [List.getElem_cons_zero] at h0
    unfold putS
    rw [if_neg h0]
    rfl
  | y :: l, j + 1, hj, h1, h2 => by
    have h0 := h1 0 (by simp) (by omega)
    simp only [List.getElem_cons_zero] at h0
    have ih := putS_at x l j (by simpa using hj) (fun i h hi => by have := h1 (i + 1) (by simpa using h) (by omega); simpa using this) (fun h => by have := h2 (by simpa using h); simpa using this)
    unfold putS
    rw [if_pos h0, ih]
    simp
theorem madeS_snoc (vs : List ByteArray) (x : ByteArray) : madeS (vs ++ [x]) = putS x (madeS vs) := by
  unfold madeS
  rw [List.foldl_append]
  rfl
theorem madeS_len (vs : List ByteArray) : (madeS vs).length = vs.length := by
  have : ∀ (vs l : List ByteArray), (vs.foldl (fun l x => putS x l) l).length = l.length + vs.length := by
    intro vs
    induction vs with
    | nil => intro l; rfl
    | cons x vs ih => intro l; rw [List.foldl_cons, ih, putS_len]; simp; omega
  have h := this vs []
  simpa [madeS] using h
theorem strs_sub {w : World} {g n j m : Nat} {c : Nat} {M : List ByteArray} (hg : g < w.heap.size) (h : ∀ i (hi : i < M.length), w.cell? ⟨g, i, none⟩ = some (.string M[i])) (hm : j + m ≤ M.length) : StrsAt w (.slice (some ⟨g, j, none⟩) m c) ((M.drop j).take m) := by
  refine ⟨_, c, by rw [List.length_take, List.length_drop, Nat.min_eq_left (by omega)], Or.inr ⟨g, j, rfl, hg, fun k hk => ?_⟩⟩
  simp only [List.length_take, List.length_drop] at hk
  rw [List.getElem_take, List.getElem_drop]
  exact h (j + k) (by omega)

set_option maxRecDepth 100000 in
set_option maxHeartbeats 8000000 in
theorem drising_any {V : Value} {vs : List ByteArray} {w : World} (hV : StrsAt w V vs) (lv : vs.length ≤ 1000000) :
    Calls Tryz.prog 86 #[V] w fun e w' => ∃ v, e = .returned v ∧ OwnS w.heap.size v (madeS vs) w' ∧ Below w.heap.size w w' := by
  obtain ⟨i0, hi, hz0, hz1, hz2⟩ := info_parts inS
  obtain ⟨p, c, rfl, HV0⟩ := hV.all
  have HV : Hid (∀ k (hk : k < vs.length), ∃ b off, p = some ⟨b, off, none⟩ ∧ b < w.heap.size ∧ w.cell? ⟨b, off + k, none⟩ = some (.string vs[k])) := HV0
  obtain ⟨n, en⟩ : ∃ n : Nat, Hid (vs.length = n) := ⟨_, rfl⟩
  rw [en.out] at lv ⊢
  clear hV HV0
  go_enter Tryz.func86, Tryz.ntmps86
  go_wp2
  go_loopw [3, 4] (fun o i wr => ∃ k : Nat, k ≤ n ∧ i = .int .i64 k ∧ Hid (OwnS w.heap.size o (madeS (vs.take k)) wr) ∧ Below w.heap.size w wr) (fun _ i _ => n - (intOf i).toNat)
  case atStart => exact ⟨0, Nat.zero_le _, rfl, (show OwnS _ _ _ _ from World.ownsRow_nil _ _ _ _), Below.refl _ _⟩
  case round =>
    obtain ⟨k, hk, rfl, HO, hB⟩ := hrel
    by_cases hlt : k < n
    · have kx : k < vs.length := by have := en.out; omega
      obtain ⟨bv, ov, rfl, hbv, x1⟩ := HV.out k kx
      have hM : Hid (madeS (vs.take (k + 1)) = putS vs[k] (madeS (vs.take k))) := by
        show _ = _
        rw [List.take_succ_eq_append_getElem kx, madeS_snoc]
      have hL : Hid ((madeS (vs.take k)).length = k) := by
        show _ = _
        rw [madeS_len, List.length_take]
        omega
      generalize vs[k] = X at x1 hM
      have HX : Hid (w.cell? ⟨bv, ov + k, none⟩ = some (.string X)) := x1
      have q1 := (hB.cell (p := ⟨bv, ov + k, none⟩) hbv).trans x1
      clear x1
      obtain ⟨M, eM⟩ : ∃ M, Hid (madeS (vs.take k) = M) := ⟨_, rfl⟩
      rw [eM.out] at HO hM hL
      have k1 : k ≤ 1000000 := by omega
      obtain ⟨-, ⟨rfl, hk0⟩ | ⟨g, cap, cur, rfl, hg1, hg2, hn, -, hn2, hn3⟩⟩ := (show World.ownsRow _ _ _ _ _ _ _ from HO.out)
      · have hk0' : k = 0 := by have h := hL.out; rw [h] at hk0; exact hk0
        have ek1 : k ≤ 0 := by omega
        have HK0 : Hid (k = 0) := hk0'
        clear hk0' hk0
        have hM0 : Hid (M = []) := List.eq_nil_of_length_eq_zero (by have := hL.out; omega)
        obtain ⟨j, ej⟩ : ∃ j : Nat, Hid (j = 0) := ⟨0, rfl⟩
        have ej1 : j ≤ 0 := by have := ej.out; omega
        go_upto_region 5 with fail
        go_wp2
        go_loopw [5] (fun a wx => a = .int .i64 0 ∧ ∃ q, wx = wr.drewN q) (fun _ _ => 0)
        case atStart => exact ⟨rfl, 0, rfl⟩
        case round =>
          obtain ⟨rfl, q, rfl⟩ := hrel
          have hP : Hid (putS X M = M.take j ++ [X] ++ M.drop j) := by
            show _ = _
            rw [hM0.out, ej.out]
            rfl
          have BW0 : Below w.heap.size w (wr.drewN q) := bdrewN _ hB
          go_upto_region 6 with fail
          go_quiet (fail)
          have BW1 : Below w.heap.size w ((wr.drewN q).drewN nq) := bdrewN _ BW0
          generalize (wr.drewN q).drewN nq = Wd at BW1 ⊢
          have BW := BW1
          clear q1 BW0 BW1 hB HO
          have S1n : Hid (Src Wd 1 (Value.slice none 0 0) j ((M.take j).map Value.string)) := Or.inl ⟨_, _, rfl, ej.out, by rw [hM0.out, ej.out]; rfl⟩
          have a63n : 0 + j ≤ maxLen := by unfold maxLen; omega
          have abyn : (0 + j) * 16 ≤ 140737488355328 := by omega
          have aszn : w.heap.size ≤ Wd.heap.size := BW.size
          go_wp2_with (at_builtin; refine wpList_append_src rfl (.tmp 30) (.tmp 33) 22 rfl w.heap.size 9 i0 _ 1 16 Tryz.underlying22 hi hz0 hz1 hz2 rfl (by decide) (.slice none 0 0) 0 [] rfl (World.ownsRow_nil _ _ _ _) (Value.slice none 0 0) j ((M.take j).map Value.string) rfl S1n.out ?onen a63n abyn aszn ?grown)
          case onen => (intro u hu; first | (obtain ⟨x, -, rfl⟩ := List.mem_map.1 hu; rfl) | (obtain ⟨x, -, rfl⟩ := List.mem_map.1 (List.mem_of_mem_take hu); rfl) | (obtain ⟨x, -, rfl⟩ := List.mem_map.1 (List.mem_of_mem_drop hu); rfl))
          case grown =>
            intro v1 w1 h2 h3 h4
            obtain ⟨p1, n1, c1, rfl⟩ := slice_of h2
            have B1 : Below w.heap.size w w1 := BW.grown h3 BW.size (fun q hq => by cases hq)
            have NE1 : Hid (∀ q, (Value.slice p1 n1 c1).ownBlock = some q → Wd.heap.size ≤ q) := fun q hq => by
              rcases h4 with h4 | h4
              · rw [h4] at hq; cases hq
              · rw [h4] at hq; injection hq with hq; omega
            have K1 : Hid (Below Wd.heap.size Wd w1) := (Below.refl _ _).grown h3 (Nat.le_refl _) (fun q hq => by cases hq)
            have q2 : w1.cell? ⟨bv, ov + k, none⟩ = some (.string X) := (B1.cell (p := ⟨bv, ov + k, none⟩) hbv).trans HX.out
            have HO2 : Hid ((w1.alloc (.cells #[.string X] 9)).ownsRow w.heap.size 9 1 (.slice p1 n1 c1) j ((M.take j).map Value.string)) := by
              have h := World.ownsRow.alloc h2 (.cells #[.string X] 9)
              show World.ownsRow _ _ _ _ _ _ _
              simpa using h
            have HSb : Hid (Src (w1.alloc (.cells #[.string X] 9)) 1 (.slice (some ⟨w1.heap.size, 0, none⟩) 1 1) 1 [.string X]) := Or.inr ⟨_, 1, rfl, rfl, fun i x hj => by
              rw [Addr.add_lit, Nat.zero_add]
              exact cell_of_heap (heap_alloc w1 _) i (by simpa using hj)⟩
            have b63 : j + 1 ≤ maxLen := by unfold maxLen; omega
            have bby : (j + 1) * 16 ≤ 140737488355328 := by omega
            have bsz : w.heap.size ≤ (w1.alloc (.cells #[.string X] 9)).heap.size := by simp; have := B1.size; omega
            clear h2 h3 h4
            go_wp2_with (at_builtin; refine wpList_append_src rfl (.tmp 35) (.tmp 40) 22 rfl w.heap.size 9 i0 _ 1 16 Tryz.underlying22 hi hz0 hz1 hz2 rfl (by decide) (.slice p1 n1 c1) j ((M.take j).map Value.string) rfl HO2.out (.slice (some ⟨w1.heap.size, 0, none⟩) 1 1) 1 [.string X] rfl HSb.out ?twon b63 bby bsz ?grow2n)
            case twon => (intro u hu; simp at hu; subst hu; rfl)
            case grow2n =>
              intro v2 w2 h2 h3 h4
              obtain ⟨p2, n2, c2, rfl⟩ := slice_of h2
              have hK : Below Wd.heap.size Wd (w1.alloc (.cells #[.string X] 9)) := K1.out.alloc K1.out.size _
              have K2 : Hid (Below Wd.heap.size Wd w2) := hK.grown h3 hK.size NE1.out
              have B2 : Below w.heap.size w w2 := BW.trans (K2.out.mono BW.size)
              have NE2 : Hid (∀ q, (Value.slice p2 n2 c2).ownBlock = some q → w.heap.size ≤ q) := fun q hq => (World.ownsRow.lt h2 q hq).1
              have HO3 : Hid (w2.ownsRow w.heap.size 9 1 (.slice p2 n2 c2) (j + 1) ((M.take j ++ [X]).map Value.string)) := by
                show World.ownsRow _ _ _ _ _ _ _
                simpa using h2
              have S2n : Hid (Src w2 1 (Value.slice none 0 0) (k - j) ((M.drop j).map Value.string)) := Or.inl ⟨_, _, rfl, by rw [ej.out, HK0.out], by rw [hM0.out, ej.out]; rfl⟩
              have d63 : j + 1 + (k - j) ≤ maxLen := by unfold maxLen; omega
              have dby : (j + 1 + (k - j)) * 16 ≤ 140737488355328 := by omega
              have dsz : w.heap.size ≤ w2.heap.size := B2.size
              clear h2 h3 h4 q2 HO2 HSb hK S1n K1 K2 NE1 B1 b63 bby bsz a63n abyn aszn
              go_wp2_with (at_builtin; refine wpList_append_src rfl (.tmp 42) (.tmp 45) 22 rfl w.heap.size 9 i0 _ 1 16 Tryz.underlying22 hi hz0 hz1 hz2 rfl (by decide) (.slice p2 n2 c2) (j + 1) ((M.take j ++ [X]).map Value.string) rfl HO3.out (Value.slice none 0 0) (k - j) ((M.drop j).map Value.string) rfl S2n.out ?threen d63 dby dsz ?grow3n)
              case threen => (intro u hu; first | (obtain ⟨x, -, rfl⟩ := List.mem_map.1 hu; rfl) | (obtain ⟨x, -, rfl⟩ := List.mem_map.1 (List.mem_of_mem_take hu); rfl) | (obtain ⟨x, -, rfl⟩ := List.mem_map.1 (List.mem_of_mem_drop hu); rfl))
              case grow3n =>
                intro v3 w3 h2 h3 h4
                have B3 : Below w.heap.size w w3 := B2.grown h3 dsz NE2.out
                have O3 : Hid (OwnS w.heap.size v3 (madeS (vs.take (k + 1))) w3) := by
                  show OwnS _ _ _ _
                  rw [hM.out, hP.out]
                  unfold OwnS
                  have e1 : (M.take j ++ [X] ++ M.drop j).length = j + 1 + (k - j) := by have := hL.out; simp; omega
                  rw [e1]
                  first | (simpa using h2; done) | (rw [show j + 1 + (k - j) = j + 1 by omega]; simpa using h2)
                clear h2 h3 h4 HO3 S2n d63 dby NE2
                go_wp2
                exact ⟨⟨k + 1, by omega, by go_num, O3, B3⟩, by simp [intOf]; omega⟩
      · have gl : g < wr.heap.size := (Array.getElem?_eq_some_iff.1 hg2).1
        have hc0 : Hid (∀ i (h : i < M.length), wr.cell? ⟨g, i, none⟩ = some (.string M[i])) := fun i h => by
          have h5 := World.ownsRow.cellAt (show wr.ownsRow w.heap.size 9 1 (.slice (some ⟨g, 0, none⟩) M.length cap) M.length (M.map Value.string) from HO.out) i (by omega)
          rw [h5, List.getElem?_map, List.getElem?_eq_getElem h]
          rfl
        rw [hL.out] at hn
        rw [hL.out]
        clear hg2 hn2 hn3 HO cur
        go_upto_region 5 with fail
        go_wp2
        go_loopw [5] (fun a wx => ∃ (j q : Nat), j ≤ k ∧ a = .int .i64 j ∧ Hid (∀ i (h : i < M.length), i < j → bcmp M[i] X < 0) ∧ wx = wr.drewN q) (fun a _ => k - (intOf a).toNat)
        case atStart => exact ⟨0, 0, Nat.zero_le _, rfl, (fun i h hi => by omega), rfl⟩
        case round =>
          obtain ⟨j, q, hj, rfl, hless, rfl⟩ := hrel
          have BW0 : Below w.heap.size w (wr.drewN q) := bdrewN _ hB
          have j0 : (0 : Int) ≤ (j : Int) := by omega
          have k0 : (0 : Int) ≤ (k : Int) := by omega
          have k2 : (k : Int) < (n : Int) := by omega
          have j3 : (j : Int) ≤ (cap : Int) := by omega
          have j4 : (j : Int) ≤ (k : Int) := by omega
          by_cases hjk : j < k
          · have jm : j < M.length := by have := hL.out; omega
            have q3 : wr.cell? ⟨g, j, none⟩ = some (.string M[j]) := hc0.out j jm
            have hle2 := less_bcmp M[j] X
            obtain ⟨Z, eZ⟩ : ∃ Z, Hid (M[j] = Z) := ⟨M[j], (rfl : M[j] = M[j])⟩
            rw [eZ.out] at q3 hle2
            have j1 : (j : Int) < (k : Int) := by omega
            by_cases hz : bcmp Z X < 0
            · have hl2 : Hid (∀ i (h : i < M.length), i < j + 1 → bcmp M[i] X < 0) := fun i h hi => by
                by_cases e : i = j
                · subst e
                  rw [eZ.out]
                  exact hz
                · exact hless.out i h (by omega)
              rw [decide_eq_true hz] at hle2
              go_upto_region 6 with fail
              go_quiet (fail)
              go_wp2
              exact ⟨⟨j + 1, q + nq, by omega, by go_num, hl2, by first | rfl | exact World.drewN_drewN ..⟩, by simp [intOf]; omega⟩
            · have hP : Hid (putS X M = M.take j ++ [X] ++ M.drop j) := putS_at X M j (by omega) hless.out (fun h => by rw [eZ.out]; exact hz)
              rw [decide_eq_false hz] at hle2
              go_upto_region 6 with fail
              go_quiet (fail)
              have BW : Below w.heap.size w ((wr.drewN q).drewN nq) := bdrewN _ BW0
              have cM : Hid (∀ i (h : i < M.length), ((wr.drewN q).drewN nq).cell? ⟨g, i, none⟩ = some (.string M[i])) := fun i h => hc0.out i h
              have gW : g < ((wr.drewN q).drewN nq).heap.size := gl
              generalize (wr.drewN q).drewN nq = Wd at BW cM gW ⊢
              have hcj : ¬ cap = j := by omega
              clear q1 q3 hc0 hle2 BW0 hB gl
              have S1a : Hid (Src Wd 1 (Value.slice (some ⟨g, 0, none⟩) j cap) j ((M.take j).map Value.string)) := by
                have h := src_strs (strs_sub (j := 0) (m := j) (c := cap) (n := 0) gW cM.out (by have := hL.out; omega))
                rw [List.drop_zero, List.length_take, Nat.min_eq_left (by have := hL.out; omega)] at h
                exact h
              have a63a : 0 + j ≤ maxLen := by unfold maxLen; omega
              have abya : (0 + j) * 16 ≤ 140737488355328 := by omega
              have asza : w.heap.size ≤ Wd.heap.size := BW.size
              go_wp2_with (at_builtin; refine wpList_append_src rfl (.tmp 30) (.tmp 33) 22 rfl w.heap.size 9 i0 _ 1 16 Tryz.underlying22 hi hz0 hz1 hz2 rfl (by decide) (.slice none 0 0) 0 [] rfl (World.ownsRow_nil _ _ _ _) (Value.slice (some ⟨g, 0, none⟩) j cap) j ((M.take j).map Value.string) rfl S1a.out ?onea a63a abya asza ?growa)
              case onea => (intro u hu; first | (obtain ⟨x, -, rfl⟩ := List.mem_map.1 hu; rfl) | (obtain ⟨x, -, rfl⟩ := List.mem_map.1 (List.mem_of_mem_take hu); rfl) | (obtain ⟨x, -, rfl⟩ := List.mem_map.1 (List.mem_of_mem_drop hu); rfl))
              case growa =>
                intro v1 w1 h2 h3 h4
                obtain ⟨p1, n1, c1, rfl⟩ := slice_of h2
                have B1 : Below w.heap.size w w1 := BW.grown h3 BW.size (fun q hq => by cases hq)
                have NE1 : Hid (∀ q, (Value.slice p1 n1 c1).ownBlock = some q → Wd.heap.size ≤ q) := fun q hq => by
                  rcases h4 with h4 | h4
                  · rw [h4] at hq; cases hq
                  · rw [h4] at hq; injection hq with hq; omega
                have K1 : Hid (Below Wd.heap.size Wd w1) := (Below.refl _ _).grown h3 (Nat.le_refl _) (fun q hq => by cases hq)
                have q2 : w1.cell? ⟨bv, ov + k, none⟩ = some (.string X) := (B1.cell (p := ⟨bv, ov + k, none⟩) hbv).trans HX.out
                have HO2 : Hid ((w1.alloc (.cells #[.string X] 9)).ownsRow w.heap.size 9 1 (.slice p1 n1 c1) j ((M.take j).map Value.string)) := by
                  have h := World.ownsRow.alloc h2 (.cells #[.string X] 9)
                  show World.ownsRow _ _ _ _ _ _ _
                  simpa using h
                have HSb : Hid (Src (w1.alloc (.cells #[.string X] 9)) 1 (.slice (some ⟨w1.heap.size, 0, none⟩) 1 1) 1 [.string X]) := Or.inr ⟨_, 1, rfl, rfl, fun i x hj => by
                  rw [Addr.add_lit, Nat.zero_add]
                  exact cell_of_heap (heap_alloc w1 _) i (by simpa using hj)⟩
                have b63 : j + 1 ≤ maxLen := by unfold maxLen; omega
                have bby : (j + 1) * 16 ≤ 140737488355328 := by omega
                have bsz : w.heap.size ≤ (w1.alloc (.cells #[.string X] 9)).heap.size := by simp; have := B1.size; omega
                clear h2 h3 h4
                go_wp2_with (at_builtin; refine wpList_append_src rfl (.tmp 35) (.tmp 40) 22 rfl w.heap.size 9 i0 _ 1 16 Tryz.underlying22 hi hz0 hz1 hz2 rfl (by decide) (.slice p1 n1 c1) j ((M.take j).map Value.string) rfl HO2.out (.slice (some ⟨w1.heap.size, 0, none⟩) 1 1) 1 [.string X] rfl HSb.out ?twoa b63 bby bsz ?grow2a)
                case twoa => (intro u hu; simp at hu; subst hu; rfl)
                case grow2a =>
                  intro v2 w2 h2 h3 h4
                  obtain ⟨p2, n2, c2, rfl⟩ := slice_of h2
                  have hK : Below Wd.heap.size Wd (w1.alloc (.cells #[.string X] 9)) := K1.out.alloc K1.out.size _
                  have K2 : Hid (Below Wd.heap.size Wd w2) := hK.grown h3 hK.size NE1.out
                  have B2 : Below w.heap.size w w2 := BW.trans (K2.out.mono BW.size)
                  have NE2 : Hid (∀ q, (Value.slice p2 n2 c2).ownBlock = some q → w.heap.size ≤ q) := fun q hq => (World.ownsRow.lt h2 q hq).1
                  have HO3 : Hid (w2.ownsRow w.heap.size 9 1 (.slice p2 n2 c2) (j + 1) ((M.take j ++ [X]).map Value.string)) := by
                    show World.ownsRow _ _ _ _ _ _ _
                    simpa using h2
                  have S2a : Hid (Src w2 1 (Value.slice (some ⟨g, j, none⟩) (k - j) (cap - j)) (k - j) ((M.drop j).map Value.string)) := by
                      have gW2 : g < w2.heap.size := Nat.lt_of_lt_of_le gW K2.out.size
                      have h := src_strs (strs_sub (j := j) (m := k - j) (c := cap - j) (n := 0) gW2 (fun i h => (K2.out.cell (p := ⟨g, i, none⟩) gW).trans (cM.out i h)) (by have := hL.out; omega))
                      rw [List.take_of_length_le (by simp; have := hL.out; omega), List.length_drop, hL.out] at h
                      exact h
                  have d63 : j + 1 + (k - j) ≤ maxLen := by unfold maxLen; omega
                  have dby : (j + 1 + (k - j)) * 16 ≤ 140737488355328 := by omega
                  have dsz : w.heap.size ≤ w2.heap.size := B2.size
                  clear h2 h3 h4 q2 HO2 HSb hK S1a K1 K2 NE1 B1 b63 bby bsz a63a abya asza
                  go_wp2_with (at_builtin; refine wpList_append_src rfl (.tmp 42) (.tmp 45) 22 rfl w.heap.size 9 i0 _ 1 16 Tryz.underlying22 hi hz0 hz1 hz2 rfl (by decide) (.slice p2 n2 c2) (j + 1) ((M.take j ++ [X]).map Value.string) rfl HO3.out (Value.slice (some ⟨g, j, none⟩) (k - j) (cap - j)) (k - j) ((M.drop j).map Value.string) rfl S2a.out ?threea d63 dby dsz ?grow3a)
                  case threea => (intro u hu; first | (obtain ⟨x, -, rfl⟩ := List.mem_map.1 hu; rfl) | (obtain ⟨x, -, rfl⟩ := List.mem_map.1 (List.mem_of_mem_take hu); rfl) | (obtain ⟨x, -, rfl⟩ := List.mem_map.1 (List.mem_of_mem_drop hu); rfl))
                  case grow3a =>
                    intro v3 w3 h2 h3 h4
                    have B3 : Below w.heap.size w w3 := B2.grown h3 dsz NE2.out
                    have O3 : Hid (OwnS w.heap.size v3 (madeS (vs.take (k + 1))) w3) := by
                      show OwnS _ _ _ _
                      rw [hM.out, hP.out]
                      unfold OwnS
                      have e1 : (M.take j ++ [X] ++ M.drop j).length = j + 1 + (k - j) := by have := hL.out; simp; omega
                      rw [e1]
                      first | (simpa using h2; done) | (rw [show j + 1 + (k - j) = j + 1 by omega]; simpa using h2)
                    clear h2 h3 h4 HO3 S2a d63 dby NE2
                    go_wp2
                    exact ⟨⟨k + 1, by omega, by go_num, O3, B3⟩, by simp [intOf]; omega⟩
          · have ej : k ≤ j := by omega
            have j1 : ¬ (j : Int) < (k : Int) := by omega
            have hP : Hid (putS X M = M.take j ++ [X] ++ M.drop j) := putS_at X M j (by have := hL.out; omega) hless.out (fun h => by have := hL.out; omega)
            go_upto_region 6 with fail
            go_quiet (fail)
            have BW : Below w.heap.size w ((wr.drewN q).drewN nq) := bdrewN _ BW0
            have cM : Hid (∀ i (h : i < M.length), ((wr.drewN q).drewN nq).cell? ⟨g, i, none⟩ = some (.string M[i])) := fun i h => hc0.out i h
            have gW : g < ((wr.drewN q).drewN nq).heap.size := gl
            generalize (wr.drewN q).drewN nq = Wd at BW cM gW ⊢
            clear q1 hc0 BW0 hB gl
            by_cases hcj : cap = j
            · have hcj2 := hcj.symm
              subst hcj2
              have S1b : Hid (Src Wd 1 (Value.slice (some ⟨g, 0, none⟩) j j) j ((M.take j).map Value.string)) := by
                have h := src_strs (strs_sub (j := 0) (m := j) (c := j) (n := 0) gW cM.out (by have := hL.out; omega))
                rw [List.drop_zero, List.length_take, Nat.min_eq_left (by have := hL.out; omega)] at h
                exact h
              have a63b : 0 + j ≤ maxLen := by unfold maxLen; omega
              have abyb : (0 + j) * 16 ≤ 140737488355328 := by omega
              have aszb : w.heap.size ≤ Wd.heap.size := BW.size
              go_wp2_with (at_builtin; refine wpList_append_src rfl (.tmp 30) (.tmp 33) 22 rfl w.heap.size 9 i0 _ 1 16 Tryz.underlying22 hi hz0 hz1 hz2 rfl (by decide) (.slice none 0 0) 0 [] rfl (World.ownsRow_nil _ _ _ _) (Value.slice (some ⟨g, 0, none⟩) j j) j ((M.take j).map Value.string) rfl S1b.out ?oneb a63b abyb aszb ?growb)
              case oneb => (intro u hu; first | (obtain ⟨x, -, rfl⟩ := List.mem_map.1 hu; rfl) | (obtain ⟨x, -, rfl⟩ := List.mem_map.1 (List.mem_of_mem_take hu); rfl) | (obtain ⟨x, -, rfl⟩ := List.mem_map.1 (List.mem_of_mem_drop hu); rfl))
              case growb =>
                intro v1 w1 h2 h3 h4
                obtain ⟨p1, n1, c1, rfl⟩ := slice_of h2
                have B1 : Below w.heap.size w w1 := BW.grown h3 BW.size (fun q hq => by cases hq)
                have NE1 : Hid (∀ q, (Value.slice p1 n1 c1).ownBlock = some q → Wd.heap.size ≤ q) := fun q hq => by
                  rcases h4 with h4 | h4
                  · rw [h4] at hq; cases hq
                  · rw [h4] at hq; injection hq with hq; omega
                have K1 : Hid (Below Wd.heap.size Wd w1) := (Below.refl _ _).grown h3 (Nat.le_refl _) (fun q hq => by cases hq)
                have q2 : w1.cell? ⟨bv, ov + k, none⟩ = some (.string X) := (B1.cell (p := ⟨bv, ov + k, none⟩) hbv).trans HX.out
                have HO2 : Hid ((w1.alloc (.cells #[.string X] 9)).ownsRow w.heap.size 9 1 (.slice p1 n1 c1) j ((M.take j).map Value.string)) := by
                  have h := World.ownsRow.alloc h2 (.cells #[.string X] 9)
                  show World.ownsRow _ _ _ _ _ _ _
                  simpa using h
                have HSb : Hid (Src (w1.alloc (.cells #[.string X] 9)) 1 (.slice (some ⟨w1.heap.size, 0, none⟩) 1 1) 1 [.string X]) := Or.inr ⟨_, 1, rfl, rfl, fun i x hj => by
                  rw [Addr.add_lit, Nat.zero_add]
                  exact cell_of_heap (heap_alloc w1 _) i (by simpa using hj)⟩
                have b63 : j + 1 ≤ maxLen := by unfold maxLen; omega
                have bby : (j + 1) * 16 ≤ 140737488355328 := by omega
                have bsz : w.heap.size ≤ (w1.alloc (.cells #[.string X] 9)).heap.size := by simp; have := B1.size; omega
                clear h2 h3 h4
                go_wp2_with (at_builtin; refine wpList_append_src rfl (.tmp 35) (.tmp 40) 22 rfl w.heap.size 9 i0 _ 1 16 Tryz.underlying22 hi hz0 hz1 hz2 rfl (by decide) (.slice p1 n1 c1) j ((M.take j).map Value.string) rfl HO2.out (.slice (some ⟨w1.heap.size, 0, none⟩) 1 1) 1 [.string X] rfl HSb.out ?twob b63 bby bsz ?grow2b)
                case twob => (intro u hu; simp at hu; subst hu; rfl)
                case grow2b =>
                  intro v2 w2 h2 h3 h4
                  obtain ⟨p2, n2, c2, rfl⟩ := slice_of h2
                  have hK : Below Wd.heap.size Wd (w1.alloc (.cells #[.string X] 9)) := K1.out.alloc K1.out.size _
                  have K2 : Hid (Below Wd.heap.size Wd w2) := hK.grown h3 hK.size NE1.out
                  have B2 : Below w.heap.size w w2 := BW.trans (K2.out.mono BW.size)
                  have NE2 : Hid (∀ q, (Value.slice p2 n2 c2).ownBlock = some q → w.heap.size ≤ q) := fun q hq => (World.ownsRow.lt h2 q hq).1
                  have HO3 : Hid (w2.ownsRow w.heap.size 9 1 (.slice p2 n2 c2) (j + 1) ((M.take j ++ [X]).map Value.string)) := by
                    show World.ownsRow _ _ _ _ _ _ _
                    simpa using h2
                  have S2b : Hid (Src w2 1 (Value.slice (some ⟨g, 0, none⟩) 0 0) (k - j) ((M.drop j).map Value.string)) := by
                      have e0 : k - j = 0 := by omega
                      rw [e0, List.drop_eq_nil_of_le (by have := hL.out; omega)]
                      exact Or.inl ⟨_, _, rfl, rfl, rfl⟩
                  have d63 : j + 1 + (k - j) ≤ maxLen := by unfold maxLen; omega
                  have dby : (j + 1 + (k - j)) * 16 ≤ 140737488355328 := by omega
                  have dsz : w.heap.size ≤ w2.heap.size := B2.size
                  clear h2 h3 h4 q2 HO2 HSb hK S1b K1 K2 NE1 B1 b63 bby bsz a63b abyb aszb
                  go_wp2_with (at_builtin; refine wpList_append_src rfl (.tmp 42) (.tmp 45) 22 rfl w.heap.size 9 i0 _ 1 16 Tryz.underlying22 hi hz0 hz1 hz2 rfl (by decide) (.slice p2 n2 c2) (j + 1) ((M.take j ++ [X]).map Value.string) rfl HO3.out (Value.slice (some ⟨g, 0, none⟩) 0 0) (k - j) ((M.drop j).map Value.string) rfl S2b.out ?threeb d63 dby dsz ?grow3b)
                  case threeb => (intro u hu; first | (obtain ⟨x, -, rfl⟩ := List.mem_map.1 hu; rfl) | (obtain ⟨x, -, rfl⟩ := List.mem_map.1 (List.mem_of_mem_take hu); rfl) | (obtain ⟨x, -, rfl⟩ := List.mem_map.1 (List.mem_of_mem_drop hu); rfl))
                  case grow3b =>
                    intro v3 w3 h2 h3 h4
                    have B3 : Below w.heap.size w w3 := B2.grown h3 dsz NE2.out
                    have O3 : Hid (OwnS w.heap.size v3 (madeS (vs.take (k + 1))) w3) := by
                      show OwnS _ _ _ _
                      rw [hM.out, hP.out]
                      unfold OwnS
                      have e1 : (M.take j ++ [X] ++ M.drop j).length = j + 1 + (k - j) := by have := hL.out; simp; omega
                      rw [e1]
                      first | (simpa using h2; done) | (rw [show j + 1 + (k - j) = j + 1 by omega]; simpa using h2)
                    clear h2 h3 h4 HO3 S2b d63 dby NE2
                    go_wp2
                    exact ⟨⟨k + 1, by omega, by go_num, O3, B3⟩, by simp [intOf]; omega⟩
            · skip
              have S1c : Hid (Src Wd 1 (Value.slice (some ⟨g, 0, none⟩) j cap) j ((M.take j).map Value.string)) := by
                have h := src_strs (strs_sub (j := 0) (m := j) (c := cap) (n := 0) gW cM.out (by have := hL.out; omega))
                rw [List.drop_zero, List.length_take, Nat.min_eq_left (by have := hL.out; omega)] at h
                exact h
              have a63c : 0 + j ≤ maxLen := by unfold maxLen; omega
              have abyc : (0 + j) * 16 ≤ 140737488355328 := by omega
              have aszc : w.heap.size ≤ Wd.heap.size := BW.size
              go_wp2_with (at_builtin; refine wpList_append_src rfl (.tmp 30) (.tmp 33) 22 rfl w.heap.size 9 i0 _ 1 16 Tryz.underlying22 hi hz0 hz1 hz2 rfl (by decide) (.slice none 0 0) 0 [] rfl (World.ownsRow_nil _ _ _ _) (Value.slice (some ⟨g, 0, none⟩) j cap) j ((M.take j).map Value.string) rfl S1c.out ?onec a63c abyc aszc ?growc)
              case onec => (intro u hu; first | (obtain ⟨x, -, rfl⟩ := List.mem_map.1 hu; rfl) | (obtain ⟨x, -, rfl⟩ := List.mem_map.1 (List.mem_of_mem_take hu); rfl) | (obtain ⟨x, -, rfl⟩ := List.mem_map.1 (List.mem_of_mem_drop hu); rfl))
              case growc =>
                intro v1 w1 h2 h3 h4
                obtain ⟨p1, n1, c1, rfl⟩ := slice_of h2
                have B1 : Below w.heap.size w w1 := BW.grown h3 BW.size (fun q hq => by cases hq)
                have NE1 : Hid (∀ q, (Value.slice p1 n1 c1).ownBlock = some q → Wd.heap.size ≤ q) := fun q hq => by
                  rcases h4 with h4 | h4
                  · rw [h4] at hq; cases hq
                  · rw [h4] at hq; injection hq with hq; omega
                have K1 : Hid (Below Wd.heap.size Wd w1) := (Below.refl _ _).grown h3 (Nat.le_refl _) (fun q hq => by cases hq)
                have q2 : w1.cell? ⟨bv, ov + k, none⟩ = some (.string X) := (B1.cell (p := ⟨bv, ov + k, none⟩) hbv).trans HX.out
                have HO2 : Hid ((w1.alloc (.cells #[.string X] 9)).ownsRow w.heap.size 9 1 (.slice p1 n1 c1) j ((M.take j).map Value.string)) := by
                  have h := World.ownsRow.alloc h2 (.cells #[.string X] 9)
                  show World.ownsRow _ _ _ _ _ _ _
                  simpa using h
                have HSb : Hid (Src (w1.alloc (.cells #[.string X] 9)) 1 (.slice (some ⟨w1.heap.size, 0, none⟩) 1 1) 1 [.string X]) := Or.inr ⟨_, 1, rfl, rfl, fun i x hj => by
                  rw [Addr.add_lit, Nat.zero_add]
                  exact cell_of_heap (heap_alloc w1 _) i (by simpa using hj)⟩
                have b63 : j + 1 ≤ maxLen := by unfold maxLen; omega
                have bby : (j + 1) * 16 ≤ 140737488355328 := by omega
                have bsz : w.heap.size ≤ (w1.alloc (.cells #[.string X] 9)).heap.size := by simp; have := B1.size; omega
                clear h2 h3 h4
                go_wp2_with (at_builtin; refine wpList_append_src rfl (.tmp 35) (.tmp 40) 22 rfl w.heap.size 9 i0 _ 1 16 Tryz.underlying22 hi hz0 hz1 hz2 rfl (by decide) (.slice p1 n1 c1) j ((M.take j).map Value.string) rfl HO2.out (.slice (some ⟨w1.heap.size, 0, none⟩) 1 1) 1 [.string X] rfl HSb.out ?twoc b63 bby bsz ?grow2c)
                case twoc => (intro u hu; simp at hu; subst hu; rfl)
                case grow2c =>
                  intro v2 w2 h2 h3 h4
                  obtain ⟨p2, n2, c2, rfl⟩ := slice_of h2
                  have hK : Below Wd.heap.size Wd (w1.alloc (.cells #[.string X] 9)) := K1.out.alloc K1.out.size _
                  have K2 : Hid (Below Wd.heap.size Wd w2) := hK.grown h3 hK.size NE1.out
                  have B2 : Below w.heap.size w w2 := BW.trans (K2.out.mono BW.size)
                  have NE2 : Hid (∀ q, (Value.slice p2 n2 c2).ownBlock = some q → w.heap.size ≤ q) := fun q hq => (World.ownsRow.lt h2 q hq).1
                  have HO3 : Hid (w2.ownsRow w.heap.size 9 1 (.slice p2 n2 c2) (j + 1) ((M.take j ++ [X]).map Value.string)) := by
                    show World.ownsRow _ _ _ _ _ _ _
                    simpa using h2
                  have S2c : Hid (Src w2 1 (Value.slice (some ⟨g, j, none⟩) 0 (cap - j)) (k - j) ((M.drop j).map Value.string)) := by
                      have e0 : k - j = 0 := by omega
                      rw [e0, List.drop_eq_nil_of_le (by have := hL.out; omega)]
                      exact Or.inl ⟨_, _, rfl, rfl, rfl⟩
                  have d63 : j + 1 + (k - j) ≤ maxLen := by unfold maxLen; omega
                  have dby : (j + 1 + (k - j)) * 16 ≤ 140737488355328 := by omega
                  have dsz : w.heap.size ≤ w2.heap.size := B2.size
                  clear h2 h3 h4 q2 HO2 HSb hK S1c K1 K2 NE1 B1 b63 bby bsz a63c abyc aszc
                  go_wp2_with (at_builtin; refine wpList_append_src rfl (.tmp 42) (.tmp 45) 22 rfl w.heap.size 9 i0 _ 1 16 Tryz.underlying22 hi hz0 hz1 hz2 rfl (by decide) (.slice p2 n2 c2) (j + 1) ((M.take j ++ [X]).map Value.string) rfl HO3.out (Value.slice (some ⟨g, j, none⟩) 0 (cap - j)) (k - j) ((M.drop j).map Value.string) rfl S2c.out ?threec d63 dby dsz ?grow3c)
                  case threec => (intro u hu; first | (obtain ⟨x, -, rfl⟩ := List.mem_map.1 hu; rfl) | (obtain ⟨x, -, rfl⟩ := List.mem_map.1 (List.mem_of_mem_take hu); rfl) | (obtain ⟨x, -, rfl⟩ := List.mem_map.1 (List.mem_of_mem_drop hu); rfl))
                  case grow3c =>
                    intro v3 w3 h2 h3 h4
                    have B3 : Below w.heap.size w w3 := B2.grown h3 dsz NE2.out
                    have O3 : Hid (OwnS w.heap.size v3 (madeS (vs.take (k + 1))) w3) := by
                      show OwnS _ _ _ _
                      rw [hM.out, hP.out]
                      unfold OwnS
                      have e1 : (M.take j ++ [X] ++ M.drop j).length = j + 1 + (k - j) := by have := hL.out; simp; omega
                      rw [e1]
                      first | (simpa using h2; done) | (rw [show j + 1 + (k - j) = j + 1 by omega]; simpa using h2)
                    clear h2 h3 h4 HO3 S2c d63 dby NE2
                    go_wp2
                    exact ⟨⟨k + 1, by omega, by go_num, O3, B3⟩, by simp [intOf]; omega⟩
    · have c2 : ¬ (k : Int) < n := by omega
      have O3 : Hid (OwnS w.heap.size u3 (madeS vs) wr) := by
        have h := HO.out
        rwa [List.take_of_length_le (by have := en.out; omega)] at h
      go_wp2
      go_ret
      exact ⟨_, rfl, O3.out, hB⟩

end Go.Proofs.YteipohpfaofchaaGreat

namespace Go.Proofs.YteipohpfaofchaaGreat
open Go.RowKit Go.Shelf Go.Sort
set_option linter.unusedVariables false

/-- What else is the call's own stands while a row is put behind rows. -/
theorem keep_arr {T : Nat} {x u b A b' : Value} {zs : List Value} {B e size n : Nat} {v : Value} {xs : List Value} {wx w2 : World} (h : wx.ownsRow B e size v n xs) (hb : wx.ownsRow T 37 1 b zs.length zs) (h3 : (wx.alloc (.cells #[x] 37)).grownBy w2 b.ownBlock)
    (T3 : w2.heap[T]? = some (.cells #[A, b'] 25 (0, 0))) (n1 : e ≠ 37) (n2 : e ≠ 25) : (w2.setCell ⟨T, 1, none⟩ u).ownsRow B e size v n xs := by
  have a1 := World.ownsRow.alloc h (.cells #[x] 37)
  have a2 := World.ownsRow.kept a1 h3 (own_ne2 a1 (World.ownsRow.alloc hb _) n1)
  exact World.ownsRow.kept a2 (grownBy_setCell w2 T 1 u) (Or.inr (own_ne a2 T3 n2))

set_option maxRecDepth 100000 in
set_option maxHeartbeats 8000000 in
theorem copied_any {V R : Value} {vs : List ByteArray} {rs : List (List Val)} {w : World} (hV : StrsAt w V vs) (hA : TabRows w R rs) (bv : vs.length * 16 ≤ 140737488355328) (br : rs.length * 24 ≤ 140737488355328) (bs : ∀ r ∈ rs, r.length * 40 ≤ 140737488355328) :
    Calls Tryz.prog 11 #[.agg #[V, R]] w fun e w' => ∃ t, e = .returned t ∧ OwnT w.heap.size t vs rs w' ∧ Below w.heap.size w w' := by
  have HS : Hid (∀ W, Below w.heap.size w W → Src W 1 V vs.length (vs.map Value.string)) := fun W hW => src_strs (hV.below hW)
  obtain ⟨p, cv, rfl⟩ := hV.form
  obtain ⟨q, c, rfl, HX0⟩ := hA.form
  have HX : Hid (∀ k (hk : k < rs.length), ∃ b off u, q = some ⟨b, off, none⟩ ∧ b < w.heap.size ∧ w.cell? ⟨b, off + k, none⟩ = some u ∧ RowAt w u rs[k]) := HX0
  have SX : Hid (∀ r ∈ rs, r.length * 40 ≤ 140737488355328) := bs
  obtain ⟨n, en⟩ : ∃ n : Nat, Hid (rs.length = n) := ⟨_, rfl⟩
  obtain ⟨m, em⟩ : ∃ m : Nat, Hid (vs.length = m) := ⟨_, rfl⟩
  rw [en.out] at br ⊢
  rw [em.out] at bv HS ⊢
  clear hA hV HX0 bs
  go_enter Tryz.func11, Tryz.ntmps11
  obtain ⟨i0, hi, hz0, hz1, hz2⟩ := info_parts inS
  go_upto_region 1 with fail
  refine wp_world ?_
  intro w7 h7
  have VT : Hid (Var w7 w.heap.size (.slice p m cv) (.slice q n c)) := by
    rw [h7]
    exact (Var.made w _ _).below ((Below.refl _ _).alloc (Nat.le_refl _) _)
  have VR : Hid (Var w7 (w.heap.size + 1) (.slice none 0 0) (.slice none 0 0)) := by
    rw [h7]
    have h := Var.made (w.alloc (.cells #[.slice p m cv, .slice q n c] 25)) (.slice none 0 0) (.slice none 0 0)
    exact at_size (P := fun g => Var _ g _ _) h (by simp)
  have K7 : Below w.heap.size w w7 := by rw [h7]; go_grown
  have Z7 : Hid (w7.heap.size = w.heap.size + 2) := by rw [h7]; show _ = _; simp
  clear h7
  go_upto_region 2 with fail
  refine wp_world ?_
  intro W0 hW0
  have VO : Hid (Var W0 w7.heap.size (.slice none 0 0) (.slice none 0 0)) := by
    rw [hW0]
    exact Var.made _ _ _
  have K0 : Below w7.heap.size w7 W0 := by rw [hW0]; go_grown
  clear hW0
  have KK0 : Hid (Below w.heap.size w W0) := K7.trans (K0.mono K7.size)
  have a0 := (VT.out.below K0).c0
  have o0 := VO.out.c0
  have hK := K0.size
  have h63 : 0 + m ≤ maxLen := by unfold maxLen; omega
  have hby : (0 + m) * 16 ≤ 140737488355328 := by omega
  go_wp2_with (at_builtin; refine wpList_append_src rfl (.tmp 7) (.tmp 9) 22 rfl w7.heap.size 9 i0 _ 1 16 Tryz.underlying22 hi hz0 hz1 hz2 rfl (by decide) (.slice none 0 0) 0 [] rfl (World.ownsRow_nil _ _ _ _) (.slice p m cv) m (vs.map Value.string) rfl (HS.out _ KK0.out) ?one h63 hby hK ?grow)
  case one => (intro u hu; obtain ⟨x, -, rfl⟩ := List.mem_map.1 hu; rfl)
  case grow =>
    intro v' w3 h2 h3 h4
    obtain ⟨pA, nA, cA, rfl⟩ := slice_of h2
    have T3 : w3.heap[w7.heap.size]? = some (.cells #[.slice none 0 0, .slice none 0 0] 25 (0, 0)) := (h3.block _ (Array.getElem?_eq_some_iff.1 VO.out).1 (fun e => by cases e)).trans VO.out
    have x0 := cell_of_heap T3 0 rfl
    have f0 := frozen_of_heap T3 0
    have hg := grownBy_setCell w3 w7.heap.size 0 (.slice pA nA cA)
    have T1 : Hid ((w3.setCell ⟨w7.heap.size, 0, none⟩ (.slice pA nA cA)).heap[w7.heap.size]? = some (.cells #[.slice pA nA cA, .slice none 0 0] 25 (0, 0))) := by
      show _ = _
      rw [setCell_eq]
      show (w3.heap.modify _ _)[_]? = _
      rw [Array.getElem?_modify, if_pos rfl, T3]
      rfl
    have S1 : Hid (OwnS w7.heap.size (.slice pA nA cA) vs (w3.setCell ⟨w7.heap.size, 0, none⟩ (.slice pA nA cA))) := by
      have h := World.ownsRow.kept h2 hg (Or.inr (own_ne h2 T3 (by decide)))
      show World.ownsRow _ _ _ _ _ _ _
      rw [em.out]
      simpa using h
    have B1 : Hid (Below w7.heap.size w7 (w3.setCell ⟨w7.heap.size, 0, none⟩ (.slice pA nA cA))) := by
      have b2 := K0.grown h3 hK (fun q hq => by cases hq)
      exact b2.grown hg b2.size (fun q hq => by injection hq with hq; omega)
    clear h2 h3 h4 hg T3 a0 o0 hK h63 hby VO K0 KK0 HS i0 hi hz0 hz1 hz2
    obtain ⟨i0, hi, hz0, hz1, hz2⟩ := info_parts inR
    obtain ⟨i1, hi', hy0, hy1, hy2⟩ := info_parts inV
    go_wp2
    clear x0 f0
    generalize w3.setCell ⟨w7.heap.size, 0, none⟩ (.slice pA nA cA) = W1 at T1 S1 B1 ⊢
    go_loopw [4] (fun v wr => ∃ i : Nat, i ≤ n ∧ v = .int .i64 i ∧ Hid (∃ b zs, wr.heap[w7.heap.size]? = some (.cells #[.slice pA nA cA, b] 25 (0, 0)) ∧ wr.ownsRow w7.heap.size 37 1 b zs.length zs ∧ OwnRs w7.heap.size zs (rs.take i) wr ∧ Below w7.heap.size w7 wr) ∧ Hid (OwnS w7.heap.size (.slice pA nA cA) vs wr)) (fun v _ => n - (intOf v).toNat)
    case atStart => exact ⟨0, Nat.zero_le _, rfl, ⟨.slice none 0 0, [], T1.out, World.ownsRow_nil _ _ _ _, OwnRs.nil _ _, B1.out⟩, S1⟩
    case round =>
      obtain ⟨i, hk, rfl, hI, hS⟩ := hrel
      obtain ⟨b, zs, hT, hob, hrs, hB⟩ := hI.out
      obtain ⟨pb, nb, cb, rfl⟩ := slice_of hob
      have KW : Below w.heap.size w wr := K7.trans (hB.mono K7.size)
      have VW : Hid (Var wr w.heap.size (.slice p m cv) (.slice q n c)) := VT.out.below hB
      have a1 := VW.out.c1
      by_cases hlt : i < n
      · have kx : i < rs.length := by have := en.out; omega
        obtain ⟨bx, off, v, rfl, hbx, x1, x2⟩ := HX.out i kx
        have q1 := (KW.cell (p := ⟨bx, off + i, none⟩) hbx).trans x1
        have l1 := SX.out rs[i] (List.getElem_mem kx)
        have hstep : Hid (rs.take (i + 1) = rs.take i ++ [rs[i]]) := List.take_succ_eq_append_getElem kx
        have X0 : Hid (Src wr 4 v rs[i].length (flat rs[i])) := src_row (x2.below KW)
        obtain ⟨pu, cu, rfl⟩ := x2.form
        generalize rs[i] = r at *
        clear x1 x2
        have h63 : 0 + r.length ≤ maxLen := by unfold maxLen; omega
        have hby : (0 + r.length) * 40 ≤ 140737488355328 := by omega
        have hT1 : Hid (wr.heap[w7.heap.size]? = some (.cells #[.slice pA nA cA, .slice pb nb cb] 25 (0, 0))) := hT
        have hob1 : Hid (wr.ownsRow w7.heap.size 37 1 (.slice pb nb cb) zs.length zs) := hob
        have hrs1 : Hid (OwnRs w7.heap.size zs (rs.take i) wr) := hrs
        have hB1 : Hid (Below w7.heap.size w7 wr) := hB
        clear hT hob hrs hB hI
        go_upto_region 7 with fail
        go_wp2_with (at_builtin; refine wpList_append_src rfl (.tmp 19) (.tmp 24) 37 rfl wr.heap.size 47 i1 _ 4 40 Tryz.underlying37 hi' hy0 hy1 hy2 rfl (by decide) (.slice none 0 0) 0 [] rfl (World.ownsRow_nil _ _ _ _) (.slice pu r.length cu) r.length (flat r) rfl X0.out (flat_one r) h63 hby (Nat.le_refl _) ?grow)
        case grow =>
          intro v' w4 h2 h3 h4
          obtain ⟨px, nx, cx, rfl⟩ := slice_of h2
          have HX1 : Hid (OwnV wr.heap.size (.slice px nx cx) r w4) := by
            show World.ownsRow _ _ _ _ _ _ _
            simpa using h2
          have HW1 : Hid (Below wr.heap.size wr w4) := (Below.refl _ _).grown h3 (Nat.le_refl _) (fun q hq => by cases hq)
          have hTl : w7.heap.size < wr.heap.size := (Array.getElem?_eq_some_iff.1 hT1.out).1
          have HT2 : Hid (w4.heap[w7.heap.size]? = some (.cells #[.slice pA nA cA, .slice pb nb cb] 25 (0, 0))) := (HW1.out.block _ hTl).trans hT1.out
          have HOB2 : Hid (w4.ownsRow w7.heap.size 37 1 (.slice pb nb cb) zs.length zs) := own_below hob1.out HW1.out
          have HS2 : Hid (OwnS w7.heap.size (.slice pA nA cA) vs w4) := own_below hS.out HW1.out
          have hzl : zs.length = i := by
            have h1 := hrs1.out.1
            rw [List.length_take, en.out] at h1
            omega
          have hz63 : zs.length + 1 ≤ maxLen := by unfold maxLen; omega
          have hzby : (zs.length + 1) * 24 ≤ 140737488355328 := by omega
          have HZL : Hid (zs.length = i) := hzl
          have o1 := cell_of_heap HT2.out 1 rfl
          have hsz4 : w7.heap.size ≤ (w4.alloc (.cells #[.slice px nx cx] 37)).heap.size := by simp; have := HW1.out.size; omega
          have HSRC : Hid (Src (w4.alloc (.cells #[.slice px nx cx] 37)) 1 (.slice (some ⟨w4.heap.size, 0, none⟩) 1 1) 1 [.slice px nx cx]) := Or.inr ⟨_, 1, rfl, rfl, fun j x hj => by
            rw [Addr.add_lit, Nat.zero_add]
            exact cell_of_heap (heap_alloc w4 _) j (by simpa using hj)⟩
          have HO4 : Hid ((w4.alloc (.cells #[.slice px nx cx] 37)).ownsRow w7.heap.size 37 1 (.slice pb nb cb) zs.length zs) := World.ownsRow.alloc HOB2.out _
          clear h2 h3 h4 hzl h63 hby a1 q1 X0 l1
          go_upto_region 8 with fail
          go_wp2_with (at_builtin; refine wpList_append_src rfl (.tmp 27) (.tmp 29) 23 rfl w7.heap.size 37 i0 _ 1 24 Tryz.underlying23 hi hz0 hz1 hz2 rfl (by decide) (.slice pb nb cb) zs.length zs rfl HO4.out (.slice (some ⟨w4.heap.size, 0, none⟩) 1 1) 1 [.slice px nx cx] rfl HSRC.out ?one2 hz63 hzby hsz4 ?grow2)
          case one2 => (intro u hu; simp at hu; subst hu; rfl)
          case grow2 =>
            intro v2 w5 h5 h6 h7
            obtain ⟨pv, nv, cv2, T3, t3, f3, W3, rfl⟩ := arr_step2 px nx cx pb nb cb (.slice pA nA cA) zs v2 r (rs.take i) wr w7 w4 w5 hTl HT2.out HOB2.out hrs1.out hB1.out HW1.out HX1.out h5 h6
            have S3 : Hid (OwnS w7.heap.size (.slice pA nA cA) vs (w5.setCell ⟨w7.heap.size, 1, none⟩ (.slice pv nv cv2))) := keep_arr HS2.out HOB2.out h6 T3 (by decide) (by decide)
            rw [← hstep.out] at W3
            clear h5 h6 h7 T3 HX1 HOB2 HT2 HS2 HSRC HO4 o1 hsz4
            go_wp2
            exact ⟨⟨i + 1, by omega, by go_num, W3, S3⟩, by simp [intOf]; omega⟩
      · have c2 : ¬ (i : Int) < n := by omega
        have ei : rs.take i = rs := List.take_of_length_le (by have := en.out; omega)
        rw [ei] at hrs
        have g1 : w.heap.size + 1 < w7.heap.size := by have := Z7.out; omega
        have HT : Hid (OwnT w7.heap.size (.agg #[.slice pA nA cA, .slice pb nb cb]) vs rs wr) := ⟨_, _, zs, rfl, hS.out, hob, hrs⟩
        have VRW := VR.out.below hB
        have VOW : Var wr w7.heap.size (.slice pA nA cA) (.slice pb nb cb) := hT
        have o0 := VOW.c0
        have o1 := VOW.c1
        have r0 := VRW.c0
        have r1 := VRW.c1
        have f0 := frozen_of_heap VRW 0
        have f1 := frozen_of_heap VRW 1
        have y0 : (wr.setCell ⟨w.heap.size + 1, 0, none⟩ (.slice pA nA cA)).cell? ⟨w.heap.size + 1, 0, none⟩ = some (.slice pA nA cA) := set_same r0
        have y1 : ((wr.setCell ⟨w.heap.size + 1, 0, none⟩ (.slice pA nA cA)).setCell ⟨w.heap.size + 1, 1, none⟩ (.slice pb nb cb)).cell? ⟨w.heap.size + 1, 1, none⟩ = some (.slice pb nb cb) := set_same ((set_other (by simp)).trans r1)
        have HSET : Hid (Below w.heap.size w ((wr.setCell ⟨w.heap.size + 1, 0, none⟩ (.slice pA nA cA)).setCell ⟨w.heap.size + 1, 1, none⟩ (.slice pb nb cb))) := by
          have b2 := KW.grown (grownBy_setCell wr (w.heap.size + 1) 0 (.slice pA nA cA)) KW.size (fun q hq => by injection hq with hq; omega)
          exact b2.grown (grownBy_setCell _ (w.heap.size + 1) 1 (.slice pb nb cb)) b2.size (fun q hq => by injection hq with hq; omega)
        have hle : w.heap.size ≤ w7.heap.size := K7.size
        clear hI hS hob hrs hB hT VRW VOW
        go_wp2
        (try simp only [Exit.inBlock, Exit.then])
        refine bodyPost_ret (by simp [results, Tryz.results11, go_sem, y0, y1]; try rfl) rfl ?_
        exact ⟨_, rfl, ((HT.out.set g1).set g1).base hle, HSET.out⟩

end Go.Proofs.YteipohpfaofchaaGreat

namespace Go.Proofs.YteipohpfaofchaaGreat
open Go.RowKit Go.Shelf Go.Sort
set_option linter.unusedVariables false

theorem mem_putP {y : Value × List Val} : ∀ {l : List (Value × List Val)} {x}, x ∈ putP y l → x = y ∨ x ∈ l
  | [], x, h => by simp [putP] at h; exact Or.inl h
  | a :: l, x, h => by
    unfold putP at h
    split at h
    · rcases List.mem_cons.1 h with h | h
      · exact Or.inl h
      · exact Or.inr h
    · split at h
      · exact Or.inr h
      · rcases List.mem_cons.1 h with rfl | h
        · exact Or.inr (List.mem_cons_self ..)
        · rcases mem_putP h with h | h
          · exact Or.inl h
          · exact Or.inr (List.mem_cons_of_mem _ h)
theorem putR_len (r : List Val) : ∀ l, (putR r l).length ≤ l.length + 1
  | [] => by simp [putR]
  | x :: l => by
    have ih := putR_len r l
    unfold putR
    split
    · simp
    · split
      · simp
      · simp; omega
theorem madeR_snoc (rs : List (List Val)) (x : List Val) : madeR (rs ++ [x]) = putR x (madeR rs) := by
  unfold madeR
  rw [List.foldl_append]
  rfl
theorem madeR_len (rs : List (List Val)) : (madeR rs).length ≤ rs.length := by
  have : ∀ (rs l : List (List Val)), (rs.foldl (fun l r => putR r l) l).length ≤ l.length + rs.length := by
    intro rs
    induction rs with
    | nil => intro l; simp
    | cons x rs ih =>
      intro l
      have h1 := ih (putR x l)
      have h2 := putR_len x l
      rw [List.foldl_cons, List.length_cons]
      omega
  have h := this rs []
  simpa [madeR] using h
/-- Rows and where each lies, all of the call's own. -/
def OwnG (B : Nat) (b : Value) (G : List (Value × List Val)) (w : World) : Prop := w.ownsRow B 37 1 b G.length (G.map (·.1)) ∧ ∀ x ∈ G, OwnV B x.1 x.2 w
theorem OwnG.rs {B : Nat} {b : Value} {G : List (Value × List Val)} {w : World} (h : OwnG B b G w) : OwnRs B (G.map (·.1)) (G.map (·.2)) w := by
  refine ⟨by simp, fun i h1 h2 => ?_⟩
  rw [List.getElem_map, List.getElem_map]
  exact h.2 _ (List.getElem_mem _)
theorem OwnG.tab {B : Nat} {a b : Value} {vs : List ByteArray} {G : List (Value × List Val)} {w : World} (h : OwnG B b G w) (hs : OwnS B a vs w) : OwnT B (.agg #[a, b]) vs (G.map (·.2)) w := by
  refine ⟨a, b, G.map (·.1), rfl, hs, ?_, h.rs⟩
  have := h.1
  rwa [← List.length_map (f := (·.1))] at this

set_option maxRecDepth 100000 in
set_option maxHeartbeats 8000000 in
theorem dmade_any {V R : Value} {vs : List ByteArray} {rs : List (List Val)} {w : World} (hV : StrsAt w V vs) (hn : vs.Nodup) (lv : vs.length ≤ 8) (hA : TabRows w R rs) (hl : ∀ r ∈ rs, r.length = vs.length ∧ okR r) (lr : rs.length ≤ 5864062014805) :
    Calls Tryz.prog 47 #[V, R] w fun e w' => ∃ t, e = .returned t ∧ OwnT w.heap.size t (madeS vs) (ofRows vs rs) w' ∧ Below w.heap.size w w' := by
  have RIS : Hid (∀ W, Below w.heap.size w W → Calls Tryz.prog 86 #[V] W fun e w' => ∃ v, e = .returned v ∧ OwnS W.heap.size v (madeS vs) w' ∧ Below W.heap.size W w') := fun W hW => drising_any (hV.below hW) (by omega)
  have PIC : Hid (∀ W Y U (ys : List Val), Below w.heap.size w W → RowAt W Y ys → ys.length = vs.length → StrsAt W U (madeS vs) → Calls Tryz.prog 64 #[V, Y, U] W fun e w' => ∃ v, e = .returned v ∧ OwnV W.heap.size v (picks ys (colsAt vs (madeS vs))) w' ∧ Below W.heap.size W w') := fun W Y U ys hW hY hy hU => by
    refine dpicked_any (hV.below hW) hY hU (by omega) (by omega) (by rw [madeS_len]; omega) (fun x hx => ?_) (by omega)
    have := (Lib.idxOfS_nonneg_iff vs x).2 ((mem_madeS hn x).1 hx)
    omega
  obtain ⟨pv, cv, rfl⟩ := hV.form
  obtain ⟨q, c, rfl, HX0⟩ := hA.form
  have HX : Hid (∀ k (hk : k < rs.length), ∃ b off u, q = some ⟨b, off, none⟩ ∧ b < w.heap.size ∧ w.cell? ⟨b, off + k, none⟩ = some u ∧ RowAt w u rs[k]) := HX0
  have HL : Hid (∀ r ∈ rs, r.length = vs.length ∧ okR r) := hl
  have LV : Hid (vs.length ≤ 8) := lv
  obtain ⟨n, en⟩ : ∃ n : Nat, Hid (rs.length = n) := ⟨_, rfl⟩
  rw [en.out] at lr ⊢
  clear hA hV HX0 hl lv hn
  obtain ⟨m, em⟩ : ∃ m : Nat, Hid (vs.length = m) := ⟨_, rfl⟩
  rw [em.out] at RIS PIC ⊢
  go_enter Tryz.func47, Tryz.ntmps47
  go_upto_region 1 with fail
  refine wp_world ?_
  intro w7 h7
  have VR : Hid (Var w7 w.heap.size (.slice none 0 0) (.slice none 0 0)) := by
    rw [h7]
    exact Var.made w _ _
  have K7 : Below w.heap.size w w7 := by rw [h7]; go_grown
  have Z7 : Hid (w7.heap.size = w.heap.size + 1) := by rw [h7]; show _ = _; simp
  clear h7
  go_upto_region 2 with fail
  refine wp_world ?_
  intro W0 hW0
  have VO : Hid (Var W0 w7.heap.size (.slice none 0 0) (.slice none 0 0)) := by
    rw [hW0]
    exact Var.made _ _ _
  have K0 : Below w7.heap.size w7 W0 := by rw [hW0]; go_grown
  clear hW0
  have KK0 : Below w.heap.size w W0 := K7.trans (K0.mono K7.size)
  go_wp2_with fail
  refine (RIS.out W0 KK0).mono ?_
  rintro e w3 ⟨A, rfl, oA, hb3⟩
  obtain ⟨pA, nA, cA, rfl⟩ := slice_of oA
  have T3 : w3.heap[w7.heap.size]? = some (.cells #[.slice none 0 0, .slice none 0 0] 25 (0, 0)) := (hb3.block _ (Array.getElem?_eq_some_iff.1 VO.out).1).trans VO.out
  have x0 := cell_of_heap T3 0 rfl
  have f0 := frozen_of_heap T3 0
  have hg := grownBy_setCell w3 w7.heap.size 0 (.slice pA nA cA)
  have T1 : Hid ((w3.setCell ⟨w7.heap.size, 0, none⟩ (.slice pA nA cA)).heap[w7.heap.size]? = some (.cells #[.slice pA nA cA, .slice none 0 0] 25 (0, 0))) := by
    show _ = _
    rw [setCell_eq]
    show (w3.heap.modify _ _)[_]? = _
    rw [Array.getElem?_modify, if_pos rfl, T3]
    rfl
  have S1 : Hid (OwnS w7.heap.size (.slice pA nA cA) (madeS vs) (w3.setCell ⟨w7.heap.size, 0, none⟩ (.slice pA nA cA))) := World.ownsRow.kept (own_base oA K0.size) hg (Or.inr (own_ne oA T3 (by decide)))
  have B1 : Hid (Below w7.heap.size w7 (w3.setCell ⟨w7.heap.size, 0, none⟩ (.slice pA nA cA))) := by
    have b2 := K0.trans (hb3.mono K0.size)
    exact b2.grown hg b2.size (fun q hq => by injection hq with hq; omega)
  clear hg T3 VO K0 KK0 hb3 oA RIS
  go_wp2
  clear x0 f0
  generalize w3.setCell ⟨w7.heap.size, 0, none⟩ (.slice pA nA cA) = W1 at T1 S1 B1 ⊢
  go_loopw [6] (fun v wr => ∃ i : Nat, i ≤ n ∧ v = .int .i64 i ∧ Hid (∃ b G, wr.heap[w7.heap.size]? = some (.cells #[.slice pA nA cA, b] 25 (0, 0)) ∧ OwnG w7.heap.size b G wr ∧ G.map (·.2) = madeR ((rs.take i).map fun r => picks r (colsAt vs (madeS vs))) ∧ Below w7.heap.size w7 wr) ∧ Hid (OwnS w7.heap.size (.slice pA nA cA) (madeS vs) wr)) (fun v _ => n - (intOf v).toNat)
  case atStart => exact ⟨0, Nat.zero_le _, rfl, ⟨.slice none 0 0, [], T1.out, ⟨World.ownsRow_nil _ _ _ _, by simp⟩, by simp [madeR], B1.out⟩, S1⟩
  case round =>
    obtain ⟨i, hk, rfl, hI, hS⟩ := hrel
    obtain ⟨b, G, hT, hG, hE, hB⟩ := hI.out
    obtain ⟨pb, nb, cb, rfl⟩ := slice_of hG.1
    have KW : Below w.heap.size w wr := K7.trans (hB.mono K7.size)
    by_cases hlt : i < n
    · have kx : i < rs.length := by have := en.out; omega
      obtain ⟨bx, off, U, rfl, hbx, x1, x2⟩ := HX.out i kx
      obtain ⟨l1, l2⟩ := HL.out rs[i] (List.getElem_mem kx)
      have hstep : Hid (rs.take (i + 1) = rs.take i ++ [rs[i]]) := List.take_succ_eq_append_getElem kx
      have x2w := x2.below KW
      have q1 := (KW.cell (p := ⟨bx, off + i, none⟩) hbx).trans x1
      have a0 := cell_of_heap hT 0 rfl
      generalize rs[i] = y at *
      obtain ⟨pu, cu, rfl⟩ := x2.form
      obtain ⟨ny, eny⟩ : ∃ ny : Nat, Hid (y.length = ny) := ⟨_, rfl⟩
      rw [eny.out] at x2w q1 x1 x2
      have ct : Hid (∀ W : World, Below wr.heap.size wr W → Calls Tryz.prog 64 #[.slice pv m cv, .slice pu ny cu, .slice pA nA cA] W fun e w' => ∃ v, e = .returned v ∧ OwnV wr.heap.size v (picks y (colsAt vs (madeS vs))) w' ∧ Below W.heap.size W w') := fun W hW => by
        refine (PIC.out W _ _ y (KW.trans (hW.mono KW.size)) (x2w.below hW) (l1.trans em.out) ((OwnS.strs hS.out).below hW)).mono ?_
        rintro e w' ⟨v, h1, h2, h3⟩
        exact ⟨v, h1, own_base h2 hW.size, h3⟩
      have hbr : bx < wr.heap.size := Nat.lt_of_lt_of_le hbx KW.size
      have htl : w7.heap.size < wr.heap.size := (Array.getElem?_eq_some_iff.1 hT).1
      have hT1 : Hid (wr.heap[w7.heap.size]? = some (.cells #[.slice pA nA cA, .slice pb nb cb] 25 (0, 0))) := hT
      have hG1 : Hid (OwnG w7.heap.size (.slice pb nb cb) G wr) := hG
      have hE1 : Hid (G.map (·.2) = madeR ((rs.take i).map fun r => picks r (colsAt vs (madeS vs)))) := hE
      have hB1 : Hid (Below w7.heap.size w7 wr) := hB
      have okX : Hid (okR (picks y (colsAt vs (madeS vs)))) := l2.picks _
      have okG : Hid (∀ x ∈ G, okR x.2) := fun x hx => by
        have h1 : x.2 ∈ G.map (·.2) := List.mem_map.2 ⟨x, hx, rfl⟩
        rw [hE] at h1
        refine madeR_ok (fun r hr => ?_) _ h1
        obtain ⟨z, hz, rfl⟩ := List.mem_map.1 hr
        exact ((HL.out z (List.mem_of_mem_take hz)).2).picks _
      have lenX : Hid ((picks y (colsAt vs (madeS vs))).length ≤ 8) := by
        have h1 : (picks y (colsAt vs (madeS vs))).length ≤ (colsAt vs (madeS vs)).length := List.length_filterMap_le _ _
        have h2 : (colsAt vs (madeS vs)).length = vs.length := by unfold colsAt; rw [List.length_map, madeS_len]
        have := LV.out
        show _ ≤ _
        omega
      have lenG : Hid (∀ x ∈ G, x.2.length ≤ 8) := fun x hx => by
        have h1 : x.2 ∈ G.map (·.2) := List.mem_map.2 ⟨x, hx, rfl⟩
        rw [hE] at h1
        have h2 := (mem_madeR (fun r hr => by
          obtain ⟨z, hz, rfl⟩ := List.mem_map.1 hr
          exact ((HL.out z (List.mem_of_mem_take hz)).2).picks _) x.2).1 h1
        obtain ⟨z, hz, e⟩ := List.mem_map.1 h2
        rw [← e]
        have h3 : (picks z (colsAt vs (madeS vs))).length ≤ (colsAt vs (madeS vs)).length := List.length_filterMap_le _ _
        have h4 : (colsAt vs (madeS vs)).length = vs.length := by unfold colsAt; rw [List.length_map, madeS_len]
        have := LV.out
        omega
      have lG : Hid (G.length + 1 ≤ 5864062014805) := by
        have h1 : G.length = (G.map (·.2)).length := by simp
        have h2 := madeR_len ((rs.take i).map fun r => picks r (colsAt vs (madeS vs)))
        rw [← hE] at h2
        simp only [List.length_map, List.length_take] at h1 h2
        have := en.out
        show _ ≤ _
        omega
      have hE2 : Hid (∀ X, (putP (X, picks y (colsAt vs (madeS vs))) G).map (·.2) = madeR ((rs.take (i + 1)).map fun r => picks r (colsAt vs (madeS vs)))) := fun X => by
        rw [putP_snd, hstep.out, List.map_append, List.map_cons, List.map_nil, madeR_snoc, hE]
      clear hT hG hE hB hI x1 x2 l1 l2 x2w hE1
      obtain ⟨z, ez⟩ : ∃ z, Hid (picks y (colsAt vs (madeS vs)) = z) := ⟨_, rfl⟩
      rw [ez.out] at ct okX lenX hE2
      have j0 : (0 : Int) ≤ (i : Int) := by omega
      have j1 : (i : Int) < (n : Int) := by omega
      go_upto_region 6 with fail
      go_region_held3 (fun w' => w'.cell? ⟨bx, off + i, none⟩ = some (.slice pu ny cu) ∧ w'.cell? ⟨w7.heap.size, 0, none⟩ = some (.slice pA nA cA))
        (exact ⟨bcl (n := wr.heap.size) (by go_grown) q1 hbr, bcl (n := wr.heap.size) (by go_grown) a0 htl⟩)
        (first
          | (go_at_call 64; refine (ct.out _ (by go_grown)).mono ?_; rintro e v1 ⟨X, rfl, oX, hv1⟩; obtain ⟨hw1, hn1⟩ := bg0 (n := wr.heap.size) (W0 := wr) (by go_grown) (by go_size) hv1; clear hv1))
      obtain ⟨px, nx, cx, rfl⟩ := slice_of oX
      have HB2 : Hid (Below wr.heap.size wr v1) := hw1
      have HX1 : Hid (OwnV wr.heap.size (.slice px nx cx) z v1) := oX
      have HT2 : Hid (v1.heap[w7.heap.size]? = some (.cells #[.slice pA nA cA, .slice pb nb cb] 25 (0, 0))) := (hw1.block _ htl).trans hT1.out
      have o1 := cell_of_heap HT2.out 1 rfl
      have HG2 : Hid (OwnG w7.heap.size (.slice pb nb cb) G v1) := ⟨own_below hG1.out.1 hw1, fun x hx => own_below (hG1.out.2 x hx) hw1⟩
      have HS2 : Hid (OwnS w7.heap.size (.slice pA nA cA) (madeS vs) v1) := own_below hS.out hw1
      have ct2 : Hid (Calls Tryz.prog 87 #[.slice pb nb cb, .slice px nx cx] v1 fun e w' => ∃ v, e = .returned v ∧ w'.ownsRow v1.heap.size 37 1 v (putP (.slice px nx cx, z) G).length ((putP (.slice px nx cx, z) G).map (·.1)) ∧ Below v1.heap.size v1 w') :=
        dput_any (vals_own HG2.out.1) (fun x hx => ⟨(HG2.out.2 x hx).row, fun v hv => (okG.out x hx v hv).2, by have := lenG.out x hx; omega⟩) HX1.out.row (fun v hv => (okX.out v hv).2) (by have := lenX.out; omega) lG.out
      clear oX hw1 ct q1 a0 hn1 hT1 hG1 hS
      go_wp2_with fail
      refine ct2.out.mono ?_
      rintro e w2 ⟨bb, rfl, ob, hb2⟩
      obtain ⟨pd, nd, cd, rfl⟩ := slice_of ob
      have hv1 : w7.heap.size < v1.heap.size := Nat.lt_of_lt_of_le htl HB2.out.size
      have HT4 : Hid (w2.heap[w7.heap.size]? = some (.cells #[.slice pA nA cA, .slice pb nb cb] 25 (0, 0))) := (hb2.block _ hv1).trans HT2.out
      have x1 := cell_of_heap HT4.out 1 rfl
      have f1 := frozen_of_heap HT4.out 1
      have hg := grownBy_setCell w2 w7.heap.size 1 (.slice pd nd cd)
      have T5 : (w2.setCell ⟨w7.heap.size, 1, none⟩ (.slice pd nd cd)).heap[w7.heap.size]? = some (.cells #[.slice pA nA cA, .slice pd nd cd] 25 (0, 0)) := by
        rw [setCell_eq]
        show (w2.heap.modify _ _)[_]? = _
        rw [Array.getElem?_modify, if_pos rfl, HT4.out]
        rfl
      have keep : ∀ {e size n : Nat} {v : Value} {xs : List Value}, w2.ownsRow w7.heap.size e size v n xs → e ≠ 25 → (w2.setCell ⟨w7.heap.size, 1, none⟩ (.slice pd nd cd)).ownsRow w7.heap.size e size v n xs := fun h hne => World.ownsRow.kept h hg (Or.inr (own_ne h HT4.out hne))
      have G5 : OwnG w7.heap.size (.slice pd nd cd) (putP (.slice px nx cx, z) G) (w2.setCell ⟨w7.heap.size, 1, none⟩ (.slice pd nd cd)) := by
        refine ⟨keep (own_base ob (Nat.le_of_lt hv1)) (by decide), fun x hx => ?_⟩
        rcases mem_putP hx with rfl | hx
        · exact keep (own_below (own_base HX1.out (Nat.le_of_lt htl)) hb2) (by decide)
        · exact keep (own_below (HG2.out.2 x hx) hb2) (by decide)
      have S5 : Hid (OwnS w7.heap.size (.slice pA nA cA) (madeS vs) (w2.setCell ⟨w7.heap.size, 1, none⟩ (.slice pd nd cd))) := keep (own_below HS2.out hb2) (by decide)
      have B5 : Below w7.heap.size w7 (w2.setCell ⟨w7.heap.size, 1, none⟩ (.slice pd nd cd)) := by
        have b1 := HB2.out.trans (hb2.mono HB2.out.size)
        have b2 := hB1.out.trans (b1.mono hB1.out.size)
        exact b2.grown hg b2.size (fun q hq => by injection hq with hq; omega)
      have I5 : Hid (∃ b G, (w2.setCell ⟨w7.heap.size, 1, none⟩ (.slice pd nd cd)).heap[w7.heap.size]? = some (.cells #[.slice pA nA cA, b] 25 (0, 0)) ∧ OwnG w7.heap.size b G (w2.setCell ⟨w7.heap.size, 1, none⟩ (.slice pd nd cd)) ∧ G.map (·.2) = madeR ((rs.take (i + 1)).map fun r => picks r (colsAt vs (madeS vs))) ∧ Below w7.heap.size w7 (w2.setCell ⟨w7.heap.size, 1, none⟩ (.slice pd nd cd))) := ⟨_, _, T5, G5, hE2.out _, B5⟩
      clear ct2 ob hb2 HX1 HG2 HS2 HT2 o1 hg T5 keep G5 B5 hE2 HT4 lG okX okG lenX lenG
      go_wp2
      exact ⟨⟨i + 1, by omega, by go_num, I5, S5⟩, by simp [intOf]; omega⟩
    · have c2 : ¬ (i : Int) < n := by omega
      have ei : rs.take i = rs := List.take_of_length_le (by have := en.out; omega)
      rw [ei] at hE
      have g1 : w.heap.size < w7.heap.size := by have := Z7.out; omega
      have HT : Hid (OwnT w7.heap.size (.agg #[.slice pA nA cA, .slice pb nb cb]) (madeS vs) (ofRows vs rs) wr) := by
        have h := hG.tab hS.out
        rwa [hE] at h
      have VRW := VR.out.below hB
      have VOW : Var wr w7.heap.size (.slice pA nA cA) (.slice pb nb cb) := hT
      have o0 := VOW.c0
      have o1 := VOW.c1
      have r0 := VRW.c0
      have r1 := VRW.c1
      have f0 := frozen_of_heap VRW 0
      have f1 := frozen_of_heap VRW 1
      have y0 : (wr.setCell ⟨w.heap.size, 0, none⟩ (.slice pA nA cA)).cell? ⟨w.heap.size, 0, none⟩ = some (.slice pA nA cA) := set_same r0
      have y1 : ((wr.setCell ⟨w.heap.size, 0, none⟩ (.slice pA nA cA)).setCell ⟨w.heap.size, 1, none⟩ (.slice pb nb cb)).cell? ⟨w.heap.size, 1, none⟩ = some (.slice pb nb cb) := set_same ((set_other (by simp)).trans r1)
      have HSET : Hid (Below w.heap.size w ((wr.setCell ⟨w.heap.size, 0, none⟩ (.slice pA nA cA)).setCell ⟨w.heap.size, 1, none⟩ (.slice pb nb cb))) := by
        have b2 := KW.grown (grownBy_setCell wr w.heap.size 0 (.slice pA nA cA)) KW.size (fun q hq => by injection hq with hq; omega)
        exact b2.grown (grownBy_setCell _ w.heap.size 1 (.slice pb nb cb)) b2.size (fun q hq => by injection hq with hq; omega)
      have hle : w.heap.size ≤ w7.heap.size := K7.size
      clear hI hS hG hB hT VRW VOW hE
      go_wp2
      (try simp only [Exit.inBlock, Exit.then])
      refine bodyPost_ret (by simp [results, Tryz.results47, go_sem, y0, y1]; try rfl) rfl ?_
      exact ⟨_, rfl, ((HT.out.set g1).set g1).base hle, HSET.out⟩

end Go.Proofs.YteipohpfaofchaaGreat

namespace Go.Proofs.YteipohpfaofchaaGreat
open Go.RowKit Go.Shelf Go.Sort
set_option linter.unusedVariables false

set_option maxRecDepth 100000 in
set_option maxHeartbeats 8000000 in
theorem dof_any {V R : Value} {vs : List ByteArray} {rs : List (List Val)} {w : World} (hV : StrsAt w V vs) (hc : ∀ p n c, V = .slice p n c → n ≤ c) (hA : TabRows w R rs) (fx : ∀ r ∈ rs, ∀ v ∈ r, v.Fits) (lr : ∀ r ∈ rs, r.length ≤ 9223372036854775807) (lv : vs.length ≤ 9223372036854775807) (lu : rs.length ≤ 5864062014805) :
    Calls Tryz.prog 16 #[V, R] w fun e w' => ∃ t, e = .returned (.tuple #[t, .int .i64 (ofChk vs rs)]) ∧ (ofChk vs rs = 0 → OwnT w.heap.size t (madeS vs) (ofRows vs rs) w') ∧ (ofChk vs rs ≠ 0 → t = .agg #[.slice none 0 0, .slice none 0 0]) ∧ Below w.heap.size w w' := by
  have UNL : Hid (∀ W, Below w.heap.size w W → Calls Tryz.prog 46 #[V] W fun e w' => e = .returned (.bool (!repB [] vs)) ∧ Below W.heap.size W w') := fun W hW => dunlike_any (hV.below hW) hc lv
  have MAD : Hid (∀ W, Below w.heap.size w W → vs.length ≤ 8 → repB [] vs = false → (∀ r ∈ rs, r.length = vs.length ∧ okR r) → Calls Tryz.prog 47 #[V, R] W fun e w' => ∃ t, e = .returned t ∧ OwnT W.heap.size t (madeS vs) (ofRows vs rs) w' ∧ Below W.heap.size W w') := fun W hW h8 hr hl => dmade_any (hV.below hW) (by have := repB_nodup vs [] List.nodup_nil hr; simpa using this) h8 (hA.below hW) hl lu
  obtain ⟨p, c, rfl⟩ := hV.form
  obtain ⟨q, c', rfl, HX0⟩ := hA.form
  have HX : Hid (∀ k (hk : k < rs.length), ∃ b off u, q = some ⟨b, off, none⟩ ∧ b < w.heap.size ∧ w.cell? ⟨b, off + k, none⟩ = some u ∧ RowAt w u rs[k]) := HX0
  obtain ⟨n, en⟩ : ∃ n : Nat, Hid (rs.length = n) := ⟨_, rfl⟩
  obtain ⟨m, em⟩ : ∃ m : Nat, Hid (vs.length = m) := ⟨_, rfl⟩
  rw [en.out] at lu MAD ⊢
  rw [em.out] at lv UNL MAD ⊢
  clear hV hA HX0 hc
  obtain ⟨Q, eQ⟩ : ∃ Q : Int, Hid (ofChk vs rs = Q) := ⟨_, rfl⟩
  have hQ : Hid (Q = if m ≤ 8 ∧ repB [] vs = false then rowsE m rs else 30) := by
    have h := eQ.out
    unfold ofChk at h
    rw [em.out] at h
    exact h.symm
  rw [eQ.out]
  clear eQ
  have FX : Hid (∀ r ∈ rs, ∀ v ∈ r, v.Fits) := fx
  have LR : Hid (∀ r ∈ rs, r.length ≤ 9223372036854775807) := lr
  clear fx lr
  go_enter Tryz.func16, Tryz.ntmps16
  go_wp2_with fail
  refine (UNL.out _ (by go_grown)).mono ?_
  rintro e w1 ⟨rfl, hb1⟩
  have HR0 : Hid (w1.heap[w.heap.size]? = some (.cells #[.slice none 0 0, .slice none 0 0] 25 (0, 0))) := (hb1.block w.heap.size (by simp)).trans (heap_alloc _ _)
  have hs1 : w.heap.size < w1.heap.size := by have := hb1.size; simp at this; omega
  have hB1 : Below w.heap.size w w1 := by
    obtain ⟨hw1, -⟩ := bg0 (n := w.heap.size) (W0 := w) (by go_grown) (by go_size) hb1
    exact hw1
  clear hb1 UNL
  have HSET : Hid (∀ W, Below w.heap.size w W → Below w.heap.size w ((W.setCell ⟨w.heap.size, 0, none⟩ (.slice none 0 0)).setCell ⟨w.heap.size, 1, none⟩ (.slice none 0 0))) := fun W h => by
    have b2 := h.grown (grownBy_setCell W w.heap.size 0 (.slice none 0 0)) h.size (fun q hq => by injection hq with hq; omega)
    exact b2.grown (grownBy_setCell _ w.heap.size 1 (.slice none 0 0)) b2.size (fun q hq => by injection hq with hq; omega)
  have a0 := cell_of_heap HR0.out 0 rfl
  have a1 := cell_of_heap HR0.out 1 rfl
  have a2 := frozen_of_heap HR0.out 0
  have a3 := frozen_of_heap HR0.out 1
  by_cases hG : m ≤ 8 ∧ repB [] vs = false
  · have hz : Hid (Q = rowsE m rs) := by
      show Q = _
      rw [hQ.out, if_pos hG]
    obtain ⟨h8, hG⟩ := hG
    have c1 : ¬ (8 : Int) < (m : Int) := by omega
    have HGf : Hid (repB [] vs = false) := hG
    rw [hG]
    clear hQ hG a0 a1 a2 a3
    go_wp2
    go_loopw [7] (fun i wr => ∃ k : Nat, k ≤ n ∧ i = .int .i64 k ∧ Hid (rowsE m rs = rowsE m (rs.drop k)) ∧ Below w1.heap.size w1 wr) (fun i _ => n - (intOf i).toNat)
    case atStart => exact ⟨0, Nat.zero_le _, rfl, (show rowsE m rs = rowsE m (rs.drop 0) by simp), Below.refl _ _⟩
    case round =>
      obtain ⟨k, hk, rfl, hr, hB⟩ := hrel
      have HRW : Hid (wr.heap[w.heap.size]? = some (.cells #[.slice none 0 0, .slice none 0 0] 25 (0, 0))) := (hB.block w.heap.size hs1).trans HR0.out
      have hBw : Below w.heap.size w wr := hB1.trans (hB.mono (Nat.le_of_lt hs1))
      have hT : w.heap.size < wr.heap.size := Nat.lt_of_lt_of_le hs1 hB.size
      by_cases hlt : k < n
      · have kx : k < rs.length := by have := en.out; omega
        obtain ⟨b, off, U, rfl, hb, q1, row0⟩ := HX.out k kx
        have q2 : wr.cell? ⟨b, off + k, none⟩ = some U := (hBw.cell (p := ⟨b, _, none⟩) hb).trans q1
        have row := row0.below hBw
        have f1 := FX.out rs[k] (List.getElem_mem kx)
        have l1 := LR.out rs[k] (List.getElem_mem kx)
        have hr2 : Hid (rowsE m rs = if rowChk rs[k] m = 0 then rowsE m (rs.drop (k + 1)) else rowChk rs[k] m) := by
          have h := hr.out
          rwa [List.drop_eq_getElem_cons kx] at h
        clear hr q1 row0
        generalize rs[k] = X at row f1 l1 hr2
        obtain ⟨pU, cU, rfl⟩ := row.form
        have ct : Hid (∀ W, Below wr.heap.size wr W → Calls Tryz.prog 39 #[.slice pU X.length cU] W fun e w' => e = .returned (.int .i64 (rowE X)) ∧ Below W.heap.size W w') := fun W hW => dvals_any _ X W f1 (row.below hW) l1
        obtain ⟨nU, eU⟩ : ∃ nU : Nat, Hid (X.length = nU) := ⟨_, rfl⟩
        obtain ⟨E, eE⟩ : ∃ E : Int, Hid (rowE X = E) := ⟨_, rfl⟩
        rw [eU.out] at ct q2 l1
        rw [eE.out] at ct
        by_cases hnm : nU = m
        · have hch : rowChk X m = E := by unfold rowChk; rw [if_pos (by rw [eU.out]; exact hnm), eE.out]
          rw [hch] at hr2
          subst hnm
          clear row f1 hch
          go_wp2_with fail
          refine (ct.out _ (by go_grown)).mono ?_
          rintro e w2 ⟨rfl, hb2⟩
          clear ct q2
          by_cases hE : E = 0
          · have hr3 : Hid (rowsE nU rs = rowsE nU (rs.drop (k + 1))) := by have := hr2.out; rwa [if_pos hE] at this
            have hB2 : Below w1.heap.size w1 w2 := hB.trans (hb2.mono hB.size)
            subst hE
            clear hr2 hb2
            go_wp2
            exact ⟨⟨k + 1, by omega, by go_num, hr3, hB2⟩, by simp [intOf]; omega⟩
          · have hE' : (E != 0) = true := by simpa using hE
            have hq : Q = E := by have := hr2.out; rw [if_neg hE] at this; rw [hz.out, this]
            have HR2 := (hb2.block w.heap.size hT).trans HRW.out
            have z0 := cell_of_heap HR2 0 rfl
            have z1 := cell_of_heap HR2 1 rfl
            have z2 := frozen_of_heap HR2 0
            have z3 := frozen_of_heap HR2 1
            have x0 : (w2.setCell ⟨w.heap.size, 0, none⟩ (.slice none 0 0)).cell? ⟨w.heap.size, 0, none⟩ = some (.slice none 0 0) := set_same z0
            have x1 : ((w2.setCell ⟨w.heap.size, 0, none⟩ (.slice none 0 0)).setCell ⟨w.heap.size, 1, none⟩ (.slice none 0 0)).cell? ⟨w.heap.size, 1, none⟩ = some (.slice none 0 0) := set_same ((set_other (by simp)).trans z1)
            have hB2 : Hid (Below w.heap.size w w2) := hBw.trans (hb2.mono hBw.size)
            subst hq
            clear hr2 hz hb2 HR2
            go_wp2
            (try simp only [Exit.inBlock, Exit.then])
            refine bodyPost_ret (by simp [results, Tryz.results16, go_sem, x0, x1]; try rfl) rfl ?_
            exact ⟨_, rfl, fun h => absurd h hE, fun _ => rfl, HSET.out _ hB2.out⟩
        · have hch : rowChk X m = 1 := by unfold rowChk; rw [if_neg (by rw [eU.out]; exact hnm)]
          have hq : Q = 1 := by have := hr2.out; rw [hch, if_neg (by decide)] at this; rw [hz.out, this]
          have hnm' : ((nU : Int) != (m : Int)) = true := by simp; omega
          have z0 := cell_of_heap HRW.out 0 rfl
          have z1 := cell_of_heap HRW.out 1 rfl
          have z2 := frozen_of_heap HRW.out 0
          have z3 := frozen_of_heap HRW.out 1
          have x0 : (wr.setCell ⟨w.heap.size, 0, none⟩ (.slice none 0 0)).cell? ⟨w.heap.size, 0, none⟩ = some (.slice none 0 0) := set_same z0
          have x1 : ((wr.setCell ⟨w.heap.size, 0, none⟩ (.slice none 0 0)).setCell ⟨w.heap.size, 1, none⟩ (.slice none 0 0)).cell? ⟨w.heap.size, 1, none⟩ = some (.slice none 0 0) := set_same ((set_other (by simp)).trans z1)
          subst hq
          clear hr2 hz ct row f1 hch
          go_wp2
          (try simp only [Exit.inBlock, Exit.then])
          refine bodyPost_ret (by simp [results, Tryz.results16, go_sem, x0, x1]; try rfl) rfl ?_
          exact ⟨_, rfl, fun h => absurd h (by decide), fun _ => rfl, HSET.out _ hBw⟩
      · have c2 : ¬ (k : Int) < n := by omega
        have hz0 : Hid (rowsE m rs = 0) := by
          have h := hr.out
          rw [List.drop_eq_nil_of_le (by have := en.out; omega)] at h
          exact h
        have hq : Q = 0 := by rw [hz.out]; exact hz0.out
        subst hq
        clear hz hr
        have HOK : Hid (∀ r ∈ rs, r.length = m ∧ okR r) := fun r hr => by
          obtain ⟨h1, h2⟩ := rowChk_ok (rowsE_ok hz0.out r hr)
          exact ⟨h1, fun v hv => ⟨rowE_may h2 v hv, FX.out r hr v hv⟩⟩
        have ct : Hid (Calls Tryz.prog 47 #[.slice p m c, .slice q n c'] wr fun e w' => ∃ t, e = .returned t ∧ OwnT wr.heap.size t (madeS vs) (ofRows vs rs) w' ∧ Below wr.heap.size wr w') := MAD.out wr hBw h8 HGf.out HOK.out
        have HBW : Hid (Below w.heap.size w wr) := hBw
        clear hBw hB HOK MAD hz0
        go_wp2_with fail
        refine ct.out.mono ?_
        rintro e w2 ⟨t, rfl, ht, hb2⟩
        obtain ⟨pa, ca, pb, cb, rfl⟩ := own_forms ht
        have HR2 := (hb2.block w.heap.size hT).trans HRW.out
        have z0 := cell_of_heap HR2 0 rfl
        have z1 := cell_of_heap HR2 1 rfl
        have z2 := frozen_of_heap HR2 0
        have z3 := frozen_of_heap HR2 1
        have x0 : (w2.setCell ⟨w.heap.size, 0, none⟩ (.slice pa (madeS vs).length ca)).cell? ⟨w.heap.size, 0, none⟩ = some (.slice pa (madeS vs).length ca) := set_same z0
        have x1 : ((w2.setCell ⟨w.heap.size, 0, none⟩ (.slice pa (madeS vs).length ca)).setCell ⟨w.heap.size, 1, none⟩ (.slice pb (ofRows vs rs).length cb)).cell? ⟨w.heap.size, 1, none⟩ = some (.slice pb (ofRows vs rs).length cb) := set_same ((set_other (by simp)).trans z1)
        have hB2 : Below w.heap.size w w2 := HBW.out.trans (hb2.mono HBW.out.size)
        have HT : Hid (OwnT wr.heap.size (.agg #[.slice pa (madeS vs).length ca, .slice pb (ofRows vs rs).length cb]) (madeS vs) (ofRows vs rs) w2) := ht
        have HSET2 : Hid (Below w.heap.size w ((w2.setCell ⟨w.heap.size, 0, none⟩ (.slice pa (madeS vs).length ca)).setCell ⟨w.heap.size, 1, none⟩ (.slice pb (ofRows vs rs).length cb))) := by
          have b2 := hB2.grown (grownBy_setCell w2 w.heap.size 0 (.slice pa (madeS vs).length ca)) hB2.size (fun q hq => by injection hq with hq; omega)
          exact b2.grown (grownBy_setCell _ w.heap.size 1 (.slice pb (ofRows vs rs).length cb)) b2.size (fun q hq => by injection hq with hq; omega)
        clear ct ht hb2 HR2
        generalize (madeS vs).length = L1 at *
        generalize (ofRows vs rs).length = L2 at *
        go_wp2
        (try simp only [Exit.inBlock, Exit.then])
        refine bodyPost_ret (by simp [results, Tryz.results16, go_sem, x0, x1]; try rfl) rfl ?_
        exact ⟨_, rfl, ((HT.out.set hT).set hT).base (Nat.le_of_lt hT), HSET2.out⟩
  · have hz : Q = 30 := by rw [hQ.out, if_neg hG]
    subst hz
    clear hQ
    have x0 : (w1.setCell ⟨w.heap.size, 0, none⟩ (.slice none 0 0)).cell? ⟨w.heap.size, 0, none⟩ = some (.slice none 0 0) := set_same a0
    have x1 : ((w1.setCell ⟨w.heap.size, 0, none⟩ (.slice none 0 0)).setCell ⟨w.heap.size, 1, none⟩ (.slice none 0 0)).cell? ⟨w.heap.size, 1, none⟩ = some (.slice none 0 0) := set_same ((set_other (by simp)).trans a1)
    by_cases h8 : m ≤ 8
    · have c1 : ¬ (8 : Int) < (m : Int) := by omega
      have hr : repB [] vs = true := by
        cases h : repB [] vs with
        | true => rfl
        | false => exact absurd ⟨h8, h⟩ hG
      rw [hr]
      clear hG hr
      go_wp2
      (try simp only [Exit.inBlock, Exit.then])
      refine bodyPost_ret (by simp [results, Tryz.results16, go_sem, x0, x1]; try rfl) rfl ?_
      exact ⟨_, rfl, fun h => absurd h (by decide), fun _ => rfl, HSET.out _ hB1⟩
    · have c1 : (8 : Int) < (m : Int) := by omega
      clear hG
      generalize repB [] vs = rb
      go_wp2
      (try simp only [Exit.inBlock, Exit.then])
      refine bodyPost_ret (by simp [results, Tryz.results16, go_sem, x0, x1]; try rfl) rfl ?_
      exact ⟨_, rfl, fun h => absurd h (by decide), fun _ => rfl, HSET.out _ hB1⟩

theorem OwnT.none (B : Nat) (w : World) : OwnT B (.agg #[.slice none 0 0, .slice none 0 0]) [] [] w := ⟨_, _, [], rfl, World.ownsRow_nil _ _ _ _, World.ownsRow_nil _ _ _ _, OwnRs.nil _ _⟩
/-- What is told together with an error: nothing, if there is one. -/
def TabO (B : Nat) (E : Int) (vs : List ByteArray) (L : List (List Val)) (t : Value) (w : World) : Prop := OwnT B t (if E = 0 then vs else []) (if E = 0 then L else []) w
theorem TabO.of {B : Nat} {E : Int} {vs : List ByteArray} {L : List (List Val)} {t : Value} {w : World} (h1 : E = 0 → OwnT B t vs L w) (h2 : E ≠ 0 → t = .agg #[.slice none 0 0, .slice none 0 0]) : TabO B E vs L t w := by
  unfold TabO
  by_cases h : E = 0
  · rw [if_pos h, if_pos h]; exact h1 h
  · rw [if_neg h, if_neg h, h2 h]; exact OwnT.none _ _
theorem own_forms2 {B : Nat} {t : Value} {vs : List ByteArray} {L : List (List Val)} {w : World} (h : OwnT B t vs L w) : ∃ p n c p' n' c', t = .agg #[.slice p n c, .slice p' n' c'] := by
  obtain ⟨p, c, p', c', e⟩ := own_forms h
  exact ⟨_, _, _, _, _, _, e⟩
theorem OwnT.grown {B : Nat} {t : Value} {vs : List ByteArray} {L : List (List Val)} {w w' : World} (h : OwnT B t vs L w) (hb : Below w.heap.size w w') : OwnT B t vs L w' := by
  obtain ⟨a, b, us, rfl, h1, h2, h3⟩ := h
  exact ⟨a, b, us, rfl, own_below h1 hb, own_below h2 hb, h3.below hb⟩
theorem TabO.grown {B : Nat} {E : Int} {vs : List ByteArray} {L : List (List Val)} {t : Value} {w w' : World} (h : TabO B E vs L t w) (hb : Below w.heap.size w w') : TabO B E vs L t w' := OwnT.grown h hb
/-- What a call tells: a table of its own and an error. -/
def TellsT (B : Nat) (E : Int) (vs : List ByteArray) (L : List (List Val)) (w0 : World) (e : Ending) (w : World) : Prop := ∃ pa na ca pb nb cb, e = .returned (.tuple #[.agg #[.slice pa na ca, .slice pb nb cb], .int .i64 E]) ∧ TabO B E vs L (.agg #[.slice pa na ca, .slice pb nb cb]) w ∧ Below B w0 w
theorem TellsT.of {B : Nat} {E : Int} {vs : List ByteArray} {L : List (List Val)} {w0 w : World} {t : Value} (h1 : E = 0 → OwnT B t vs L w) (h2 : E ≠ 0 → t = .agg #[.slice none 0 0, .slice none 0 0]) (hb : Below B w0 w) : TellsT B E vs L w0 (.returned (.tuple #[t, .int .i64 E])) w := by
  have h := TabO.of h1 h2
  obtain ⟨p, n, c, p', n', c', rfl⟩ := own_forms2 h
  exact ⟨_, _, _, _, _, _, rfl, h, hb⟩
theorem dof_told {V R : Value} {vs : List ByteArray} {rs : List (List Val)} {w : World} (hV : StrsAt w V vs) (hc : ∀ p n c, V = .slice p n c → n ≤ c) (hA : TabRows w R rs) (fx : ∀ r ∈ rs, ∀ v ∈ r, v.Fits) (lr : ∀ r ∈ rs, r.length ≤ 9223372036854775807) (lv : vs.length ≤ 9223372036854775807) (lu : rs.length ≤ 5864062014805) :
    Calls Tryz.prog 16 #[V, R] w (TellsT w.heap.size (ofChk vs rs) (madeS vs) (ofRows vs rs) w) := by
  refine (dof_any hV hc hA fx lr lv lu).mono ?_
  rintro e w' ⟨t, rfl, h1, h2, hb⟩
  exact TellsT.of h1 h2 hb

set_option maxRecDepth 100000 in
set_option maxHeartbeats 2000000 in
theorem dempty_any {V : Value} {vs : List ByteArray} {w : World} (hV : StrsAt w V vs) (hc : ∀ p n c, V = .slice p n c → n ≤ c) (lv : vs.length ≤ 9223372036854775807) :
    Calls Tryz.prog 18 #[V] w (TellsT w.heap.size (ofChk vs []) (madeS vs) (ofRows vs []) w) := by
  have cO : Hid (∀ W, Below w.heap.size w W → Calls Tryz.prog 16 #[V, .slice none 0 0] W (TellsT W.heap.size (ofChk vs []) (madeS vs) (ofRows vs []) W)) := fun W hW => dof_told (hV.below hW) hc ⟨none, 0, rfl, Or.inl rfl⟩ (by simp) (by simp) lv (by decide)
  obtain ⟨p, c, rfl⟩ := hV.form
  obtain ⟨n, en⟩ : ∃ n, Hid (vs.length = n) := ⟨_, rfl⟩
  rw [en.out] at cO lv ⊢
  generalize ofChk vs [] = E at *
  clear hV hc
  go_enter Tryz.func18, Tryz.ntmps18
  go_wp2_with fail
  refine (cO.out _ (by go_grown)).mono ?_
  rintro e w1 ⟨pa, na, ca, pb, nb, cb, rfl, ht, hb1⟩
  have hR : w1.heap[w.heap.size]? = some (.cells #[.slice none 0 0, .slice none 0 0] 25 (0, 0)) := (hb1.block w.heap.size (by simp)).trans (heap_alloc _ _)
  have HT : Hid (TabO (w.heap.size + 1) E (madeS vs) (ofRows vs []) (.agg #[.slice pa na ca, .slice pb nb cb]) w1) := by
    rwa [show (w.alloc (.cells #[.slice none 0 0, .slice none 0 0] 25)).heap.size = w.heap.size + 1 by simp] at ht
  have K1 : Below w.heap.size w w1 := by
    obtain ⟨hw1, -⟩ := bg0 (n := w.heap.size) (W0 := w) (by go_grown) (by go_size) hb1
    exact hw1
  have r0 := cell_of_heap hR 0 rfl
  have r1 := cell_of_heap hR 1 rfl
  have f0 := frozen_of_heap hR 0
  have f1 := frozen_of_heap hR 1
  have x0 : (w1.setCell ⟨w.heap.size, 0, none⟩ (.slice pa na ca)).cell? ⟨w.heap.size, 0, none⟩ = some (.slice pa na ca) := set_same r0
  have x1 : ((w1.setCell ⟨w.heap.size, 0, none⟩ (.slice pa na ca)).setCell ⟨w.heap.size, 1, none⟩ (.slice pb nb cb)).cell? ⟨w.heap.size, 1, none⟩ = some (.slice pb nb cb) := set_same ((set_other (by simp)).trans r1)
  have HSET : Hid (Below w.heap.size w ((w1.setCell ⟨w.heap.size, 0, none⟩ (.slice pa na ca)).setCell ⟨w.heap.size, 1, none⟩ (.slice pb nb cb))) := by
    have b2 := K1.grown (grownBy_setCell w1 w.heap.size 0 (.slice pa na ca)) K1.size (fun q hq => by injection hq with hq; omega)
    exact b2.grown (grownBy_setCell _ w.heap.size 1 (.slice pb nb cb)) b2.size (fun q hq => by injection hq with hq; omega)
  clear cO ht hb1 hR
  go_wp2
  (try simp only [Exit.inBlock, Exit.then])
  refine bodyPost_ret (by simp [results, Tryz.results18, go_sem, x0, x1]; try rfl) rfl ?_
  exact ⟨_, _, _, _, _, _, rfl, OwnT.base (OwnT.set (OwnT.set HT.out (by omega)) (by omega)) (by omega), HSET.out⟩

end Go.Proofs.YteipohpfaofchaaGreat

namespace Go.Proofs.YteipohpfaofchaaGreat
open Go.RowKit Go.Shelf Go.Sort
set_option linter.unusedVariables false

theorem madeS_self {vs : List ByteArray} (h : riseB vs = true) : madeS vs = vs := (madeS_eq (rises_nodup (rise_pw h)) (rise_pw h) fun _ => Iff.rfl).symm
theorem cols_self {vs : List ByteArray} (hn : vs.Nodup) : colsAt vs vs = List.range vs.length := by
  have h := cols_of_picks hn (cs := List.range vs.length) (fun c hc => List.mem_range.1 hc)
  rw [picks_self] at h
  exact h.symm
theorem ofRows_self {vs : List ByteArray} (h : riseB vs = true) {L : List (List Val)} (hl : ∀ r ∈ L, r.length = vs.length) : ofRows vs L = madeR L := by
  unfold ofRows
  rw [madeS_self h, cols_self (rises_nodup (rise_pw h))]
  refine congrArg madeR ?_
  have : ∀ r ∈ L, picks r (List.range vs.length) = r := fun r hr => by rw [← hl r hr, picks_self]
  conv => rhs; rw [← List.map_id L]
  exact List.map_congr_left this
theorem madeR_filter {rs : List (List Val)} (ok : ∀ r ∈ rs, okR r) (h : rs.Pairwise (fun a b => rowC a b < 0)) (p : List Val → Bool) : madeR (rs.filter p) = rs.filter p :=
  (madeR_eq (fun r hr => ok r ((List.mem_filter.1 hr).1)) (h.sublist List.filter_sublist) fun _ => Iff.rfl).symm
theorem bothL_go {vs : List ByteArray} (hn : vs.Nodup) : ∀ (n k : Nat), vs.length - k = n → bothL vs k (vs.drop k) = (List.range' k n).map fun i => (i, i)
  | 0, k, h => by
    rw [List.drop_eq_nil_of_le (by omega)]
    rfl
  | n + 1, k, h => by
    have hk : k < vs.length := by omega
    rw [List.drop_eq_getElem_cons hk]
    unfold bothL
    have hx : ¬ Lib.idxOfS vs vs[k] < 0 := by
      have := (Lib.idxOfS_nonneg_iff vs vs[k]).2 (List.getElem_mem hk)
      omega
    rw [if_neg hx, idx_of_nodup hn hk, bothL_go hn n (k + 1) (by omega), List.range'_succ]
    rfl
theorem bothL_self {vs : List ByteArray} (hn : vs.Nodup) : (bothL vs 0 vs).map (·.1) = List.range vs.length ∧ (bothL vs 0 vs).map (·.2) = List.range vs.length := by
  have h := bothL_go hn vs.length 0 (by omega)
  rw [List.drop_zero] at h
  rw [h, List.map_map, List.map_map, ← List.range_eq_range']
  exact ⟨List.map_id _, List.map_id _⟩
theorem antiL_self {vs : List ByteArray} {rs qs : List (List Val)} (a : OkT vs rs) (b : OkT vs qs) : antiL vs vs rs qs = rs.filter fun r => !anyS r qs := by
  unfold antiL antiR
  obtain ⟨h1, h2⟩ := bothL_self a.nodup
  rw [h1, h2]
  refine List.filter_congr fun r hr => ?_
  have e1 : picks r (List.range vs.length) = r := by rw [← (a.rows r hr).1, picks_self]
  rw [e1]
  have : ∀ l : List (List Val), (∀ q ∈ l, q ∈ qs) → (l.any fun q => rowS r (picks q (List.range vs.length))) = anyS r l := by
    intro l
    induction l with
    | nil => intro _; rfl
    | cons q l ih =>
      intro hl
      have e2 : picks q (List.range vs.length) = q := by rw [← (b.rows q (hl q (List.mem_cons_self ..))).1, picks_self]
      rw [List.any_cons, e2, ih (fun x hx => hl x (List.mem_cons_of_mem _ hx))]
      first | rfl | (simp only [anyS]; rw [rowS_comm]) | (unfold anyS; rw [rowS_comm]; rfl)
  rw [this qs fun _ h => h]
end Go.Proofs.YteipohpfaofchaaGreat

namespace Go.Proofs.YteipohpfaofchaaGreat
open Go.RowKit Go.Shelf Go.Sort
set_option linter.unusedVariables false

/-- A table in memory, as the document's functions ask for it. -/
structure DTab (w : World) (V R : Value) (vs : List ByteArray) (rs : List (List Val)) : Prop where
  vars : StrsAt w V vs
  rows : TabRows w R rs
  fits : ∀ r ∈ rs, ∀ v ∈ r, v.Fits
  long : ∀ r ∈ rs, r.length ≤ 9223372036854775807
  names : vs.length ≤ 9223372036854775807
  many : rs.length ≤ 5864062014805
theorem DTab.below {w w' : World} {V R : Value} {vs : List ByteArray} {rs : List (List Val)} (h : DTab w V R vs rs) (hb : Below w.heap.size w w') : DTab w' V R vs rs := ⟨h.vars.below hb, h.rows.below hb, h.fits, h.long, h.names, h.many⟩
theorem DTab.forms {w : World} {V R : Value} {vs : List ByteArray} {rs : List (List Val)} (h : DTab w V R vs rs) : ∃ p c p' c', V = .slice p vs.length c ∧ R = .slice p' rs.length c' := by
  obtain ⟨p, c, rfl⟩ := h.vars.form
  obtain ⟨p', c', rfl, -⟩ := h.rows.form
  exact ⟨p, c, p', c', rfl, rfl⟩
theorem DTab.check {w : World} {V R : Value} {vs : List ByteArray} {rs : List (List Val)} (h : DTab w V R vs rs) : Calls Tryz.prog 13 #[.agg #[V, R]] w fun e w' => e = .returned (.int .i64 (tabChk vs rs)) ∧ Below w.heap.size w w' :=
  dcheck_any h.vars h.rows h.names h.fits (by have := h.many; omega) h.long
/-- The cells of a table's rows. -/
theorem TabRows.src {w : World} {R : Value} {rs : List (List Val)} (h : TabRows w R rs) : ∃ us, (∀ W, Below w.heap.size w W → Src W 1 R rs.length us) ∧ RowsOf w us rs := by
  obtain ⟨p, c, rfl, h | ⟨b, off, rfl, hb, hr⟩⟩ := h
  · subst h
    exact ⟨[], fun _ _ => Or.inl ⟨p, c, rfl, rfl, rfl⟩, rfl, fun i h => absurd h (Nat.not_lt_zero _)⟩
  · obtain ⟨f, hf⟩ := Go.Deep.choose_lt (n := rs.length) (p := fun i v => w.cell? ⟨b, off + i, none⟩ = some v ∧ ∀ h : i < rs.length, RowAt w v rs[i]) (fun i hi => by
      obtain ⟨v, h1, h2⟩ := hr i hi
      exact ⟨v, h1, fun _ => h2⟩)
    refine ⟨(List.range rs.length).map f, fun W hW => Or.inr ⟨_, c, rfl, by simp, fun j x hj => ?_⟩, by simp, fun i h g => ?_⟩
    · rw [Addr.add_lit]
      rw [List.getElem?_map] at hj
      obtain ⟨y, hy, rfl⟩ := Option.map_eq_some_iff.1 hj
      obtain ⟨h1, h2⟩ := List.getElem?_eq_some_iff.1 hy
      rw [List.getElem_range] at h2
      subst h2
      exact (hW.cell (p := ⟨b, off + j, none⟩) hb).trans (hf j (by simpa using h1)).1
    · rw [List.getElem_map, List.getElem_range]
      exact (hf i g).2 g
set_option maxRecDepth 100000 in
set_option maxHeartbeats 2000000 in
theorem dboth2_any {Va Ra Vb Rb : Value} {vs vs' : List ByteArray} {rs qs : List (List Val)} {w : World} (ha : DTab w Va Ra vs rs) (hb : DTab w Vb Rb vs' qs) :
    Calls Tryz.prog 57 #[.agg #[Va, Ra], .agg #[Vb, Rb]] w fun e w' => e = .returned (.int .i64 (bothE vs rs vs' qs)) ∧ Below w.heap.size w w' := by
  have c1 : Hid (∀ W, Below w.heap.size w W → Calls Tryz.prog 13 #[.agg #[Va, Ra]] W fun e w' => e = .returned (.int .i64 (tabChk vs rs)) ∧ Below W.heap.size W w') := fun W hW => (ha.below hW).check
  have c2 : Hid (∀ W, Below w.heap.size w W → Calls Tryz.prog 13 #[.agg #[Vb, Rb]] W fun e w' => e = .returned (.int .i64 (tabChk vs' qs)) ∧ Below W.heap.size W w') := fun W hW => (hb.below hW).check
  obtain ⟨p1, k1, p2, k2, rfl, rfl⟩ := ha.forms
  obtain ⟨p3, k3, p4, k4, rfl, rfl⟩ := hb.forms
  unfold bothE
  generalize vs.length = n1 at *
  generalize rs.length = n2 at *
  generalize vs'.length = n3 at *
  generalize qs.length = n4 at *
  generalize tabChk vs rs = E at *
  generalize tabChk vs' qs = D at *
  clear ha hb
  go_enter Tryz.func57, Tryz.ntmps57
  go_wp2_with fail
  refine (c1.out _ (by go_grown)).mono ?_
  rintro e w1 ⟨rfl, hb1⟩
  have b0 : w1.cell? ⟨w.heap.size + 1, 0, none⟩ = some (.slice p3 n3 k3) := (hb1.cell (p := ⟨w.heap.size + 1, 0, none⟩) (by simp)).trans (by simp (maxDischargeDepth := 8) [go_sem])
  have b1 : w1.cell? ⟨w.heap.size + 1, 1, none⟩ = some (.slice p4 n4 k4) := (hb1.cell (p := ⟨w.heap.size + 1, 1, none⟩) (by simp)).trans (by simp (maxDischargeDepth := 8) [go_sem])
  have hB1 : Below w.heap.size w w1 := by
    obtain ⟨hw1, -⟩ := bg0 (n := w.heap.size) (W0 := w) (by go_grown) (by go_size) hb1
    exact hw1
  clear hb1 c1
  by_cases hE : E = 0
  · subst hE
    go_wp2_with fail
    refine (c2.out _ hB1).mono ?_
    rintro e w2 ⟨rfl, hb2⟩
    have hB2 : Below w.heap.size w w2 := hB1.trans (hb2.mono hB1.size)
    clear b0 b1 c2 hb2 hB1
    go_wp2
    go_ret
    exact ⟨ret_int (by simp), hB2⟩
  · have hE2 : (E == 0) = false := by simpa using hE
    go_wp2
    go_ret
    exact ⟨ret_int (by simp), hB1⟩


set_option maxRecDepth 100000 in
set_option maxHeartbeats 8000000 in
theorem dunion_any {Va Ra Vb Rb : Value} {vs vs' : List ByteArray} {rs qs : List (List Val)} {w : World} (ha : DTab w Va Ra vs rs) (hb : DTab w Vb Rb vs' qs) (many : rs.length + qs.length ≤ 5864062014805) :
    Calls Tryz.prog 24 #[.agg #[Va, Ra], .agg #[Vb, Rb]] w (TellsT w.heap.size (alikeE vs rs vs' qs) vs (mergeL rs qs) w) := by
  have HA : Hid (DTab w Va Ra vs rs) := ha
  have HB : Hid (DTab w Vb Rb vs' qs) := hb
  have cE : Hid (∀ W, Below w.heap.size w W → Calls Tryz.prog 57 #[.agg #[Va, Ra], .agg #[Vb, Rb]] W fun e w' => e = .returned (.int .i64 (bothE vs rs vs' qs)) ∧ Below W.heap.size W w') := fun W hW => dboth2_any (ha.below hW) (hb.below hW)
  obtain ⟨p1, k1, p2, k2, rfl, rfl⟩ := ha.forms
  obtain ⟨p3, k3, p4, k4, rfl, rfl⟩ := hb.forms
  have MN : Hid (rs.length + qs.length ≤ 5864062014805) := many
  clear many
  obtain ⟨E, eE⟩ : ∃ E, Hid (bothE vs rs vs' qs = E) := ⟨_, rfl⟩
  obtain ⟨n1, en1⟩ : ∃ n, Hid (vs.length = n) := ⟨_, rfl⟩
  obtain ⟨n2, en2⟩ : ∃ n, Hid (rs.length = n) := ⟨_, rfl⟩
  obtain ⟨n3, en3⟩ : ∃ n, Hid (vs'.length = n) := ⟨_, rfl⟩
  obtain ⟨n4, en4⟩ : ∃ n, Hid (qs.length = n) := ⟨_, rfl⟩
  rw [eE.out] at cE
  have hAL : Hid (alikeE vs rs vs' qs = if E = 0 then (if vs = vs' then 0 else 30) else E) := by show _ = _; unfold alikeE; rw [eE.out]
  obtain ⟨G, eG⟩ : ∃ G, Hid (alikeE vs rs vs' qs = G) := ⟨_, rfl⟩
  rw [eG.out] at hAL ⊢
  rw [en1.out] at HA cE ⊢
  rw [en2.out] at HA cE ⊢
  rw [en3.out] at HB cE ⊢
  rw [en4.out] at HB cE ⊢
  clear ha hb
  go_enter Tryz.func24, Tryz.ntmps24
  go_upto_region 1 with fail
  refine wp_world ?_
  intro W0 hW0
  have bx0 : Hid (Box3 W0 w.heap.size (.slice p1 n1 k1) (.slice p2 n2 k2) (.slice p3 n3 k3) (.slice p4 n4 k4)) := by rw [hW0]; exact Box3.made _ _ _ _ _
  have K0 : Below w.heap.size w W0 := by rw [hW0]; go_grown
  have z0 : W0.heap.size = w.heap.size + 3 := by rw [hW0]; simp
  clear hW0
  have A0 := cell_of_heap bx0.out.a 0 rfl
  have A1 := cell_of_heap bx0.out.a 1 rfl
  have B0 := cell_of_heap bx0.out.b 0 rfl
  have B1 := cell_of_heap bx0.out.b 1 rfl
  go_wp2_with fail
  refine (cE.out W0 K0).mono ?_
  rintro e w1 ⟨rfl, hb1⟩
  have bx1 : Hid (Box3 w1 w.heap.size (.slice p1 n1 k1) (.slice p2 n2 k2) (.slice p3 n3 k3) (.slice p4 n4 k4)) := bx0.out.below hb1
  have K1 : Below w.heap.size w w1 := K0.trans (hb1.mono K0.size)
  have z1 : w.heap.size + 3 ≤ w1.heap.size := by have := hb1.size; omega
  clear A0 A1 B0 B1 bx0 K0 hb1 z0
  have HSET : Hid (∀ W, Below w.heap.size w W → ∀ x y, Below w.heap.size w ((W.setCell ⟨w.heap.size + 2, 0, none⟩ x).setCell ⟨w.heap.size + 2, 1, none⟩ y)) := fun W h x y => by
    have b2 := h.grown (grownBy_setCell W (w.heap.size + 2) 0 x) h.size (fun q hq => by injection hq with hq; omega)
    exact b2.grown (grownBy_setCell _ (w.heap.size + 2) 1 y) b2.size (fun q hq => by injection hq with hq; omega)
  by_cases hE : E = 0
  · have okA : OkT vs rs := tabChk_ok (bothE_ok (eE.out.trans hE)).1 HA.out.fits
    have okB : OkT vs' qs := tabChk_ok (bothE_ok (eE.out.trans hE)).2 HB.out.fits
    have cS : Hid (∀ W, Below w.heap.size w W → Calls Tryz.prog 41 #[.slice p1 n1 k1, .slice p3 n3 k3] W fun e w' => e = .returned (.bool (decide (vs = vs'))) ∧ Below W.heap.size W w') := fun W hW => svars_any _ _ vs vs' W (HA.out.vars.below hW) (HB.out.vars.below hW) HA.out.names HB.out.names
    have A0 := cell_of_heap bx1.out.a 0 rfl
    have B0 := cell_of_heap bx1.out.b 0 rfl
    rw [if_pos hE] at hAL
    subst hE
    clear cE
    go_wp2_with fail
    refine (cS.out _ K1).mono ?_
    rintro e w2 ⟨rfl, hb2⟩
    have bx2 : Hid (Box3 w2 w.heap.size (.slice p1 n1 k1) (.slice p2 n2 k2) (.slice p3 n3 k3) (.slice p4 n4 k4)) := bx1.out.below hb2
    have K2 : Below w.heap.size w w2 := K1.trans (hb2.mono K1.size)
    have z2 : w.heap.size + 3 ≤ w2.heap.size := by have := hb2.size; omega
    clear A0 B0 bx1 K1 hb2 z1 cS
    by_cases hvv : vs = vs'
    · have hG : G = 0 := by rw [hAL.out, if_pos hvv]
      have HG : Hid (G = 0) := hG
      subst hvv
      rw [show decide (vs = vs) = true by simp]
      have mn := MN.out
      obtain ⟨ua, sa, ra⟩ := (HA.out.rows.below K2).src
      have HRA : Hid (RowsOf w2 ua rs) := ra
      have hua : Hid (ua.length = n2) := ra.1.trans en2.out
      have SA : Hid (Src w2 1 (.slice p2 n2 k2) n2 ua) := by rw [en2.out] at sa; exact sa w2 (Below.refl _ _)
      obtain ⟨ub, sb, rb⟩ := (HB.out.rows.below K2).src
      have HRB : Hid (RowsOf w2 ub qs) := rb
      rw [en4.out] at sb
      have SBB : Hid (∀ W, Below w2.heap.size w2 W → Src W 1 (.slice p4 n4 k4) n4 ub) := sb
      obtain ⟨i0, hi, hz0, hz1, hz2⟩ := info_parts inR
      have A1 := cell_of_heap bx2.out.a 1 rfl
      have l63 : 0 + n2 ≤ maxLen := by unfold maxLen; rw [en2.out] at mn; omega
      have lby : (0 + n2) * 24 ≤ 140737488355328 := by rw [en2.out] at mn; omega
      have lsz : w2.heap.size ≤ w2.heap.size := Nat.le_refl _
      clear sa ra mn sb rb
      go_wp2_with (at_builtin; refine wpList_append_src rfl (.tmp 24) (.tmp 26) 23 rfl w2.heap.size 37 i0 _ 1 24 Tryz.underlying23 hi hz0 hz1 hz2 rfl (by decide) (.slice none 0 0) 0 [] rfl (World.ownsRow_nil _ _ _ _) (.slice p2 n2 k2) n2 ua rfl SA.out ?one l63 lby lsz ?grow)
      case one => (intro u hu; obtain ⟨a1, a2, a3, rfl⟩ := HRA.out.slices u hu; rfl)
      case grow =>
        intro v1 w3 h2 h3 _
        obtain ⟨p5, n5, c5, rfl⟩ := slice_of h2
        have hb3 : Below w2.heap.size w2 w3 := (Below.refl _ _).grown h3 (Nat.le_refl _) (fun q hq => by cases hq)
        have O3 : Hid (w3.ownsRow w2.heap.size 37 1 (.slice p5 n5 c5) n2 ua) := by
          show World.ownsRow _ _ _ _ _ _ _
          simpa using h2
        have bx3 : Hid (Box3 w3 w.heap.size (.slice p1 n1 k1) (.slice p2 n2 k2) (.slice p3 n3 k3) (.slice p4 n4 k4)) := bx2.out.below hb3
        have K3 : Below w.heap.size w w3 := K2.trans (hb3.mono K2.size)
        have SB : Hid (Src w3 1 (.slice p4 n4 k4) n4 ub) := SBB.out w3 hb3
        have B1 := cell_of_heap bx3.out.b 1 rfl
        have mn := MN.out
        have m63 : n2 + n4 ≤ maxLen := by unfold maxLen; rw [en2.out, en4.out] at mn; omega
        have mby : (n2 + n4) * 24 ≤ 140737488355328 := by rw [en2.out, en4.out] at mn; omega
        have msz : w2.heap.size ≤ w3.heap.size := hb3.size
        have KK : Hid (∀ q, (Value.slice p5 n5 c5).ownBlock = some q → w2.heap.size ≤ q) := fun q hq => (World.ownsRow.lt O3.out q hq).1
        have HB3 : Hid (Below w2.heap.size w2 w3) := hb3
        clear h2 h3 hb3 mn SA A1 l63 lby lsz SBB
        go_wp2_with (at_builtin; refine wpList_append_src rfl (.tmp 28) (.tmp 30) 23 rfl w2.heap.size 37 i0 _ 1 24 Tryz.underlying23 hi hz0 hz1 hz2 rfl (by decide) (.slice p5 n5 c5) n2 ua rfl O3.out (.slice p4 n4 k4) n4 ub rfl SB.out ?two m63 mby msz ?grow2)
        case two => (intro u hu; obtain ⟨a1, a2, a3, rfl⟩ := HRB.out.slices u hu; rfl)
        case grow2 =>
          intro v2 w4 h2 h3 _
          obtain ⟨p6, n6, c6, rfl⟩ := slice_of h2
          have hb4 : Below w2.heap.size w2 w4 := HB3.out.grown h3 msz KK.out
          have K4 : Below w.heap.size w w4 := K2.trans (hb4.mono K2.size)
          have bx4 : Hid (Box3 w4 w.heap.size (.slice p1 n1 k1) (.slice p2 n2 k2) (.slice p3 n3 k3) (.slice p4 n4 k4)) := bx2.out.below hb4
          have TR : Hid (TabRows w4 (.slice p6 n6 c6) (rs ++ qs)) := by
            exact tab_of_vals (vals_own h2) ((HRA.out.below hb4).app (HRB.out.below hb4))
          have cM : Hid (Calls Tryz.prog 47 #[.slice p1 n1 k1, .slice p6 n6 c6] w4 fun e w' => ∃ t, e = .returned t ∧ OwnT w4.heap.size t vs (mergeL rs qs) w' ∧ Below w4.heap.size w4 w') := by
            have h := dmade_any (HA.out.vars.below K4) okA.nodup okA.few TR.out (fun r hr => (List.mem_append.1 hr).elim (okA.rows r) (okB.rows r)) (by rw [List.length_append]; exact MN.out)
            rw [madeS_self okA.rise, ofRows_self okA.rise (fun r hr => (List.mem_append.1 hr).elim (fun h => (okA.rows r h).1) (fun h => (okB.rows r h).1)), ← mergeL_made (fun r hr => (okA.rows r hr).2) (fun r hr => (okB.rows r hr).2) okA.sorted okB.sorted] at h
            exact h
          have A0 := cell_of_heap bx4.out.a 0 rfl
          have z4 : w.heap.size + 3 ≤ w4.heap.size := by have := hb4.size; omega
          clear h2 h3 B1 SB HRB HRA HB3 KK m63 mby msz bx3 K3 hb4 TR
          go_wp2_with fail
          refine cM.out.mono ?_
          rintro e w6 ⟨t, rfl, ht, hb6⟩
          have bx6 := bx4.out.below hb6
          have K6 : Below w.heap.size w w6 := K4.trans (hb6.mono K4.size)
          obtain ⟨pta, nta, cta, ptb, ntb, ctb, rfl⟩ := own_forms2 ht
          have HT : Hid (OwnT w4.heap.size (.agg #[.slice pta nta cta, .slice ptb ntb ctb]) vs (mergeL rs qs) w6) := ht
          have r0 := cell_of_heap bx6.r 0 rfl
          have r1 := cell_of_heap bx6.r 1 rfl
          have f0 := frozen_of_heap bx6.r 0
          have f1 := frozen_of_heap bx6.r 1
          have x0 : (w6.setCell ⟨w.heap.size + 2, 0, none⟩ (.slice pta nta cta)).cell? ⟨w.heap.size + 2, 0, none⟩ = some (.slice pta nta cta) := set_same r0
          have x1 : ((w6.setCell ⟨w.heap.size + 2, 0, none⟩ (.slice pta nta cta)).setCell ⟨w.heap.size + 2, 1, none⟩ (.slice ptb ntb ctb)).cell? ⟨w.heap.size + 2, 1, none⟩ = some (.slice ptb ntb ctb) := set_same ((set_other (by simp)).trans r1)
          clear A0 cM ht hb6 bx6
          go_wp2
          (try simp only [Exit.inBlock, Exit.then])
          refine bodyPost_ret (by simp [results, Tryz.results24, go_sem, x0, x1]; try rfl) rfl ?_
          rw [HG.out]
          exact TellsT.of (fun _ => ((HT.out.set (by omega)).set (by omega)).base (by omega)) (fun h => absurd rfl h) (HSET.out _ K6 _ _)
    · have hG : G = 30 := by rw [hAL.out, if_neg hvv]
      have hdd : decide (vs = vs') = false := by simpa using hvv
      rw [hdd]
      have r0 := cell_of_heap bx2.out.r 0 rfl
      have r1 := cell_of_heap bx2.out.r 1 rfl
      have f0 := frozen_of_heap bx2.out.r 0
      have f1 := frozen_of_heap bx2.out.r 1
      have x0 : (w2.setCell ⟨w.heap.size + 2, 0, none⟩ (.slice none 0 0)).cell? ⟨w.heap.size + 2, 0, none⟩ = some (.slice none 0 0) := set_same r0
      have x1 : ((w2.setCell ⟨w.heap.size + 2, 0, none⟩ (.slice none 0 0)).setCell ⟨w.heap.size + 2, 1, none⟩ (.slice none 0 0)).cell? ⟨w.heap.size + 2, 1, none⟩ = some (.slice none 0 0) := set_same ((set_other (by simp)).trans r1)
      go_wp2
      (try simp only [Exit.inBlock, Exit.then])
      refine bodyPost_ret (by simp [results, Tryz.results24, go_sem, x0, x1]; try rfl) rfl ?_
      rw [hG]
      exact TellsT.of (fun h => absurd h (by decide)) (fun _ => rfl) (HSET.out _ K2 _ _)
  · have hE2 : (E == 0) = false := by simpa using hE
    have hq : G = E := by rw [hAL.out, if_neg hE]
    have r0 := cell_of_heap bx1.out.r 0 rfl
    have r1 := cell_of_heap bx1.out.r 1 rfl
    have f0 := frozen_of_heap bx1.out.r 0
    have f1 := frozen_of_heap bx1.out.r 1
    have x0 : (w1.setCell ⟨w.heap.size + 2, 0, none⟩ (.slice none 0 0)).cell? ⟨w.heap.size + 2, 0, none⟩ = some (.slice none 0 0) := set_same r0
    have x1 : ((w1.setCell ⟨w.heap.size + 2, 0, none⟩ (.slice none 0 0)).setCell ⟨w.heap.size + 2, 1, none⟩ (.slice none 0 0)).cell? ⟨w.heap.size + 2, 1, none⟩ = some (.slice none 0 0) := set_same ((set_other (by simp)).trans r1)
    go_wp2
    (try simp only [Exit.inBlock, Exit.then])
    refine bodyPost_ret (by simp [results, Tryz.results24, go_sem, x0, x1]; try rfl) rfl ?_
    rw [show E = G from hq.symm]
    exact TellsT.of (fun h => absurd (hq.symm.trans h) hE) (fun _ => rfl) (HSET.out _ K1 _ _)


end Go.Proofs.YteipohpfaofchaaGreat

namespace Go.Proofs.YteipohpfaofchaaGreat
open Go.RowKit Go.Shelf Go.Sort
set_option linter.unusedVariables false

set_option maxRecDepth 100000 in
set_option maxHeartbeats 8000000 in
theorem dminus_any {Va Ra Vb Rb : Value} {vs vs' : List ByteArray} {rs qs : List (List Val)} {w : World} (ha : DTab w Va Ra vs rs) (hb : DTab w Vb Rb vs' qs) :
    Calls Tryz.prog 26 #[.agg #[Va, Ra], .agg #[Vb, Rb]] w (TellsT w.heap.size (alikeE vs rs vs' qs) vs (antiL vs vs' rs qs) w) := by
  have HA : Hid (DTab w Va Ra vs rs) := ha
  have HB : Hid (DTab w Vb Rb vs' qs) := hb
  have cE : Hid (∀ W, Below w.heap.size w W → Calls Tryz.prog 57 #[.agg #[Va, Ra], .agg #[Vb, Rb]] W fun e w' => e = .returned (.int .i64 (bothE vs rs vs' qs)) ∧ Below W.heap.size W w') := fun W hW => dboth2_any (ha.below hW) (hb.below hW)
  obtain ⟨p1, k1, p2, k2, rfl, rfl⟩ := ha.forms
  obtain ⟨p3, k3, p4, k4, rfl, rfl⟩ := hb.forms
  obtain ⟨E, eE⟩ : ∃ E, Hid (bothE vs rs vs' qs = E) := ⟨_, rfl⟩
  obtain ⟨n1, en1⟩ : ∃ n, Hid (vs.length = n) := ⟨_, rfl⟩
  obtain ⟨n2, en2⟩ : ∃ n, Hid (rs.length = n) := ⟨_, rfl⟩
  obtain ⟨n3, en3⟩ : ∃ n, Hid (vs'.length = n) := ⟨_, rfl⟩
  obtain ⟨n4, en4⟩ : ∃ n, Hid (qs.length = n) := ⟨_, rfl⟩
  rw [eE.out] at cE
  have hAL : Hid (alikeE vs rs vs' qs = if E = 0 then (if vs = vs' then 0 else 30) else E) := by show _ = _; unfold alikeE; rw [eE.out]
  obtain ⟨G, eG⟩ : ∃ G, Hid (alikeE vs rs vs' qs = G) := ⟨_, rfl⟩
  rw [eG.out] at hAL ⊢
  rw [en1.out] at HA cE ⊢
  rw [en2.out] at HA cE ⊢
  rw [en3.out] at HB cE ⊢
  rw [en4.out] at HB cE ⊢
  clear ha hb
  go_enter Tryz.func26, Tryz.ntmps26
  go_upto_region 1 with fail
  refine wp_world ?_
  intro W0 hW0
  have bx0 : Hid (Box3 W0 w.heap.size (.slice p1 n1 k1) (.slice p2 n2 k2) (.slice p3 n3 k3) (.slice p4 n4 k4)) := by rw [hW0]; exact Box3.made _ _ _ _ _
  have K0 : Below w.heap.size w W0 := by rw [hW0]; go_grown
  have z0 : W0.heap.size = w.heap.size + 3 := by rw [hW0]; simp
  clear hW0
  have A0 := cell_of_heap bx0.out.a 0 rfl
  have A1 := cell_of_heap bx0.out.a 1 rfl
  have B0 := cell_of_heap bx0.out.b 0 rfl
  have B1 := cell_of_heap bx0.out.b 1 rfl
  go_wp2_with fail
  refine (cE.out W0 K0).mono ?_
  rintro e w1 ⟨rfl, hb1⟩
  have bx1 : Hid (Box3 w1 w.heap.size (.slice p1 n1 k1) (.slice p2 n2 k2) (.slice p3 n3 k3) (.slice p4 n4 k4)) := bx0.out.below hb1
  have K1 : Below w.heap.size w w1 := K0.trans (hb1.mono K0.size)
  have z1 : w.heap.size + 3 ≤ w1.heap.size := by have := hb1.size; omega
  clear A0 A1 B0 B1 bx0 K0 hb1 z0
  have HSET : Hid (∀ W, Below w.heap.size w W → ∀ x y, Below w.heap.size w ((W.setCell ⟨w.heap.size + 2, 0, none⟩ x).setCell ⟨w.heap.size + 2, 1, none⟩ y)) := fun W h x y => by
    have b2 := h.grown (grownBy_setCell W (w.heap.size + 2) 0 x) h.size (fun q hq => by injection hq with hq; omega)
    exact b2.grown (grownBy_setCell _ (w.heap.size + 2) 1 y) b2.size (fun q hq => by injection hq with hq; omega)
  by_cases hE : E = 0
  · have okA : OkT vs rs := tabChk_ok (bothE_ok (eE.out.trans hE)).1 HA.out.fits
    have okB : OkT vs' qs := tabChk_ok (bothE_ok (eE.out.trans hE)).2 HB.out.fits
    have cS : Hid (∀ W, Below w.heap.size w W → Calls Tryz.prog 41 #[.slice p1 n1 k1, .slice p3 n3 k3] W fun e w' => e = .returned (.bool (decide (vs = vs'))) ∧ Below W.heap.size W w') := fun W hW => svars_any _ _ vs vs' W (HA.out.vars.below hW) (HB.out.vars.below hW) HA.out.names HB.out.names
    have A0 := cell_of_heap bx1.out.a 0 rfl
    have B0 := cell_of_heap bx1.out.b 0 rfl
    rw [if_pos hE] at hAL
    subst hE
    clear cE
    go_wp2_with fail
    refine (cS.out _ K1).mono ?_
    rintro e w2 ⟨rfl, hb2⟩
    have bx2 : Hid (Box3 w2 w.heap.size (.slice p1 n1 k1) (.slice p2 n2 k2) (.slice p3 n3 k3) (.slice p4 n4 k4)) := bx1.out.below hb2
    have K2 : Below w.heap.size w w2 := K1.trans (hb2.mono K1.size)
    have z2 : w.heap.size + 3 ≤ w2.heap.size := by have := hb2.size; omega
    clear A0 B0 bx1 K1 hb2 z1 cS
    by_cases hvv : vs = vs'
    · have hG : G = 0 := by rw [hAL.out, if_pos hvv]
      have HG : Hid (G = 0) := hG
      subst hvv
      rw [show decide (vs = vs) = true by simp]
      obtain ⟨i0, hi, hz0, hz1, hz2⟩ := info_parts inR
      have HAT : Hid (TabRows w2 (.slice p2 n2 k2) rs) := HA.out.rows.below K2
      obtain ⟨q9, c9, e9, HX0⟩ := HAT.out.form
      rw [en2.out] at e9
      injection e9 with e91 e92 e93
      subst e91 e93
      clear e92
      have HX : Hid (∀ k (hk : k < rs.length), ∃ b off u, p2 = some ⟨b, off, none⟩ ∧ b < w2.heap.size ∧ w2.cell? ⟨b, off + k, none⟩ = some u ∧ RowAt w2 u rs[k]) := HX0
      have HAS : Hid (∀ W U (r : List Val), Below w2.heap.size w2 W → RowAt W U r → (∀ v ∈ r, v.Fits) → Calls Tryz.prog 19 #[.agg #[.slice p3 n3 k3, .slice p4 n4 k4], U] W fun e w' => e = .returned (.bool (anyS r qs)) ∧ Below W.heap.size W w') := fun W U r hW hU fr => dhas_any rfl (HB.out.rows.below (K2.trans (hW.mono K2.size))) hU HB.out.fits fr (by have := HB.out.many; omega) HB.out.long
      have FA : Hid (∀ r ∈ rs, ∀ v ∈ r, v.Fits) := HA.out.fits
      have lm : n2 ≤ 5864062014805 := by have := HA.out.many; rw [en2.out] at this; exact this
      have za : w.heap.size < w2.heap.size := by omega
      have zb : w.heap.size + 1 < w2.heap.size := by omega
      clear HX0
      go_wp2
      go_loopw [8, 9] (fun v i wr => ∃ (k : Nat) (zs : List Value), k ≤ n2 ∧ i = .int .i64 k ∧ Hid (wr.ownsRow w2.heap.size 37 1 v zs.length zs) ∧ Hid (RowsOf w2 zs ((rs.take k).filter fun r => !anyS r qs)) ∧ Hid (Below w2.heap.size w2 wr)) (fun _ i _ => n2 - (intOf i).toNat)
      case atStart => exact ⟨0, [], Nat.zero_le _, rfl, (show World.ownsRow _ _ _ _ _ _ _ from World.ownsRow_nil _ _ _ _), (show RowsOf _ _ _ from ⟨rfl, fun i h => absurd h (Nat.not_lt_zero _)⟩), Below.refl _ _⟩
      case round =>
        obtain ⟨k, zs, hk, rfl, hO, hR, hB⟩ := hrel
        have bx : Hid (Box3 wr w.heap.size (.slice p1 n1 k1) (.slice p2 n2 k2) (.slice p3 n3 k3) (.slice p4 n4 k4)) := bx2.out.below hB.out
        have A1 := cell_of_heap bx.out.a 1 rfl
        by_cases hlt : k < n2
        · have kx : k < rs.length := by have := en2.out; omega
          obtain ⟨b, off, U, rfl, hb, q1, row⟩ := HX.out k kx
          have fr := FA.out rs[k] (List.getElem_mem kx)
          have hst : Hid ((rs.take (k + 1)).filter (fun r => !anyS r qs) = (rs.take k).filter (fun r => !anyS r qs) ++ if anyS rs[k] qs then [] else [rs[k]]) := by
            show _ = _
            rw [List.take_succ_eq_append_getElem kx, List.filter_append]
            cases h : anyS rs[k] qs <;> simp [h]
          generalize rs[k] = r at row fr hst
          obtain ⟨pu, cu, rfl⟩ := row.form
          obtain ⟨nu, enu⟩ : ∃ nu : Nat, Hid (r.length = nu) := ⟨_, rfl⟩
          have ROW : Hid (RowAt w2 (.slice pu r.length cu) r) := row
          have ct : Hid (∀ W, Below w2.heap.size w2 W → Calls Tryz.prog 19 #[.agg #[.slice p3 n3 k3, .slice p4 n4 k4], .slice pu r.length cu] W fun e w' => e = .returned (.bool (anyS r qs)) ∧ Below W.heap.size W w') := fun W hW => HAS.out W _ r hW (row.below hW) fr
          obtain ⟨Y, eY⟩ : ∃ Y : Bool, Hid (anyS r qs = Y) := ⟨_, rfl⟩
          rw [enu.out] at ct q1 ROW
          rw [eY.out] at ct hst
          have Q1 : Hid (w2.cell? ⟨b, off + k, none⟩ = some (.slice pu nu cu)) := q1
          have a1 : wr.cell? ⟨b, off + k, none⟩ = some (.slice pu nu cu) := (hB.out.cell (p := ⟨b, off + k, none⟩) hb).trans q1
          have B0 := cell_of_heap bx.out.b 0 rfl
          have B1 := cell_of_heap bx.out.b 1 rfl
          have i1 : (0 : Int) ≤ (k : Int) := by omega
          have i2 : (k : Int) < (n2 : Int) := by omega
          have wza : w.heap.size < wr.heap.size := Nat.lt_of_lt_of_le za hB.out.size
          have wzb : w.heap.size + 1 < wr.heap.size := Nat.lt_of_lt_of_le zb hB.out.size
          have wb : b < wr.heap.size := Nat.lt_of_lt_of_le hb hB.out.size
          have ct2 : Hid (∀ W, Below wr.heap.size wr W → Calls Tryz.prog 19 #[.agg #[.slice p3 n3 k3, .slice p4 n4 k4], .slice pu nu cu] W fun e w' => e = .returned (.bool Y) ∧ Below W.heap.size W w') := fun W hW => ct.out W (hB.out.trans (hW.mono hB.out.size))
          clear row fr q1 ct
          go_upto_region 11 with fail
          go_region_held3 (fun w' => w'.cell? ⟨w.heap.size, 1, none⟩ = some (.slice (some ⟨b, off, none⟩) n2 k2) ∧ w'.cell? ⟨w.heap.size + 1, 0, none⟩ = some (.slice p3 n3 k3) ∧ w'.cell? ⟨w.heap.size + 1, 1, none⟩ = some (.slice p4 n4 k4) ∧ w'.cell? ⟨b, off + k, none⟩ = some (.slice pu nu cu))
            (exact ⟨bcl (n := wr.heap.size) (by go_grown) A1 wza, bcl (n := wr.heap.size) (by go_grown) B0 wzb, bcl (n := wr.heap.size) (by go_grown) B1 wzb, bcl (n := wr.heap.size) (by go_grown) a1 wb⟩)
            (first
              | (go_at_call 19; refine (ct2.out _ (by go_grown)).mono ?_; rintro e v1 ⟨rfl, hv1⟩; obtain ⟨hw1, hn1⟩ := bg0 (n := wr.heap.size) (W0 := wr) (by go_grown) (by go_size) hv1; clear hv1))
          have B3 : Hid (Below w2.heap.size w2 v1) := hB.out.trans (hw1.mono hB.out.size)
          have O3 : Hid (v1.ownsRow w2.heap.size 37 1 u8 zs.length zs) := own_below hO.out hw1
          have bx3 : Hid (Box3 v1 w.heap.size (.slice p1 n1 k1) (.slice (some ⟨b, off, none⟩) n2 k2) (.slice p3 n3 k3) (.slice p4 n4 k4)) := bx2.out.below B3.out
          clear hw1 hn1 ct2 A1 B0 B1 a1 bx hO hB
          cases Y with
          | true =>
            have R3 : Hid (RowsOf w2 zs ((rs.take (k + 1)).filter fun r => !anyS r qs)) := by
              show RowsOf _ _ _
              rw [hst.out]
              simpa using hR.out
            go_wp2
            exact ⟨⟨k + 1, zs, by omega, by go_num, O3, R3, B3⟩, by simp [intOf]; omega⟩
          | false =>
            have R3 : Hid (RowsOf w2 (zs ++ [Value.slice pu nu cu]) ((rs.take (k + 1)).filter fun r => !anyS r qs)) := by
              show RowsOf _ _ _
              rw [hst.out]
              exact hR.out.app ⟨rfl, fun i h g => by
                have e0 : i = 0 := by simp at h; omega
                subst e0
                exact ROW.out⟩
            have hzl : Hid (zs.length + 1 ≤ 5864062014805) := by
              have h1 := hR.out.1
              have h2 : ((rs.take k).filter fun r => !anyS r qs).length ≤ (rs.take k).length := List.length_filter_le _ _
              rw [List.length_take] at h2
              show _ ≤ _
              omega
            have A1 := cell_of_heap bx3.out.a 1 rfl
            have a1 : v1.cell? ⟨b, off + k, none⟩ = some (.slice pu nu cu) := (B3.out.cell (p := ⟨b, off + k, none⟩) hb).trans Q1.out
            obtain ⟨p5, n5, c5, rfl⟩ := slice_of O3.out
            have HSRC : Hid (Src (v1.alloc (.cells #[.slice pu nu cu] 37)) 1 (.slice (some ⟨v1.heap.size, 0, none⟩) 1 1) 1 [.slice pu nu cu]) := Or.inr ⟨_, 1, rfl, rfl, fun j x hj => by
              rw [Addr.add_lit, Nat.zero_add]
              exact cell_of_heap (heap_alloc v1 _) j (by simpa using hj)⟩
            have HO4 : Hid ((v1.alloc (.cells #[.slice pu nu cu] 37)).ownsRow w2.heap.size 37 1 (.slice p5 n5 c5) zs.length zs) := World.ownsRow.alloc O3.out _
            have HK4 : Hid (∀ q, (Value.slice p5 n5 c5).ownBlock = some q → w2.heap.size ≤ q) := fun q hq => (World.ownsRow.lt O3.out q hq).1
            have s1 : zs.length + 1 ≤ maxLen := by unfold maxLen; have := hzl.out; omega
            have s2 : (zs.length + 1) * 24 ≤ 140737488355328 := by have := hzl.out; omega
            have s3 : w2.heap.size ≤ (v1.alloc (.cells #[.slice pu nu cu] 37)).heap.size := by simp; have := B3.out.size; omega
            clear O3 hR
            go_wp2_with (at_builtin; refine wpList_append_src rfl (.tmp 42) (.tmp 48) 23 rfl w2.heap.size 37 i0 _ 1 24 Tryz.underlying23 hi hz0 hz1 hz2 rfl (by decide) (.slice p5 n5 c5) zs.length zs rfl HO4.out (.slice (some ⟨v1.heap.size, 0, none⟩) 1 1) 1 [.slice pu nu cu] rfl HSRC.out ?one s1 s2 s3 ?grow)
            case one => (intro u hu; simp at hu; subst hu; rfl)
            case grow =>
              intro v' w3 h2 h3 _
              have O4 : Hid (w3.ownsRow w2.heap.size 37 1 v' (zs ++ [Value.slice pu nu cu]).length (zs ++ [Value.slice pu nu cu])) := by
                show World.ownsRow _ _ _ _ _ _ _
                rw [List.length_append]
                exact h2
              have B4 : Hid (Below w2.heap.size w2 w3) := (B3.out.alloc B3.out.size _).grown h3 s3 HK4.out
              clear h2 h3 HSRC HO4 HK4 s1 s2 s3 A1 a1 B3 bx3
              go_wp2
              exact ⟨⟨k + 1, zs ++ [Value.slice pu nu cu], by omega, by go_num, O4, R3, B4⟩, by simp [intOf]; omega⟩
        · have c3 : ¬ (k : Int) < (n2 : Int) := by omega
          have hF : Hid (RowsOf wr zs (rs.filter fun r => !anyS r qs)) := by
            have h := hR.out
            rw [List.take_of_length_le (by have := en2.out; omega)] at h
            exact h.below hB.out
          have K4 : Below w.heap.size w wr := K2.trans (hB.out.mono K2.size)
          obtain ⟨p6, n6, c6, rfl⟩ := slice_of hO.out
          have cM : Hid (Calls Tryz.prog 47 #[.slice p1 n1 k1, .slice p6 n6 c6] wr fun e w' => ∃ t, e = .returned t ∧ OwnT wr.heap.size t vs (antiL vs vs rs qs) w' ∧ Below wr.heap.size wr w') := by
            have sub : ∀ r ∈ rs.filter (fun r => !anyS r qs), r ∈ rs := fun r hr => (List.mem_filter.1 hr).1
            have h := dmade_any (HA.out.vars.below K4) okA.nodup okA.few (tab_of_vals (vals_own hO.out) hF.out) (fun r hr => okA.rows r (sub r hr)) (by
              have h2 : (rs.filter fun r => !anyS r qs).length ≤ rs.length := List.length_filter_le _ _
              have := HA.out.many
              omega)
            rw [madeS_self okA.rise, ofRows_self okA.rise (fun r hr => (okA.rows r (sub r hr)).1), madeR_filter (fun r hr => (okA.rows r hr).2) okA.sorted, ← antiL_self okA okB] at h
            exact h
          have A0 := cell_of_heap bx.out.a 0 rfl
          have z4 : w.heap.size + 3 ≤ wr.heap.size := by have := hB.out.size; omega
          clear hF
          go_wp2_with fail
          refine cM.out.mono ?_
          rintro e w6 ⟨t, rfl, ht, hb6⟩
          have bx6 := bx.out.below hb6
          have K6 : Below w.heap.size w w6 := K4.trans (hb6.mono K4.size)
          obtain ⟨pta, nta, cta, ptb, ntb, ctb, rfl⟩ := own_forms2 ht
          have HT : Hid (OwnT wr.heap.size (.agg #[.slice pta nta cta, .slice ptb ntb ctb]) vs (antiL vs vs rs qs) w6) := ht
          have r0 := cell_of_heap bx6.r 0 rfl
          have r1 := cell_of_heap bx6.r 1 rfl
          have f0 := frozen_of_heap bx6.r 0
          have f1 := frozen_of_heap bx6.r 1
          have x0 : (w6.setCell ⟨w.heap.size + 2, 0, none⟩ (.slice pta nta cta)).cell? ⟨w.heap.size + 2, 0, none⟩ = some (.slice pta nta cta) := set_same r0
          have x1 : ((w6.setCell ⟨w.heap.size + 2, 0, none⟩ (.slice pta nta cta)).setCell ⟨w.heap.size + 2, 1, none⟩ (.slice ptb ntb ctb)).cell? ⟨w.heap.size + 2, 1, none⟩ = some (.slice ptb ntb ctb) := set_same ((set_other (by simp)).trans r1)
          clear A0 A1 cM ht hb6 bx6
          go_wp2
          (try simp only [Exit.inBlock, Exit.then])
          refine bodyPost_ret (by simp [results, Tryz.results26, go_sem, x0, x1]; try rfl) rfl ?_
          rw [HG.out]
          exact TellsT.of (fun _ => ((HT.out.set (by omega)).set (by omega)).base (by omega)) (fun h => absurd rfl h) (HSET.out _ K6 _ _)
    · have hG : G = 30 := by rw [hAL.out, if_neg hvv]
      have hdd : decide (vs = vs') = false := by simpa using hvv
      rw [hdd]
      have r0 := cell_of_heap bx2.out.r 0 rfl
      have r1 := cell_of_heap bx2.out.r 1 rfl
      have f0 := frozen_of_heap bx2.out.r 0
      have f1 := frozen_of_heap bx2.out.r 1
      have x0 : (w2.setCell ⟨w.heap.size + 2, 0, none⟩ (.slice none 0 0)).cell? ⟨w.heap.size + 2, 0, none⟩ = some (.slice none 0 0) := set_same r0
      have x1 : ((w2.setCell ⟨w.heap.size + 2, 0, none⟩ (.slice none 0 0)).setCell ⟨w.heap.size + 2, 1, none⟩ (.slice none 0 0)).cell? ⟨w.heap.size + 2, 1, none⟩ = some (.slice none 0 0) := set_same ((set_other (by simp)).trans r1)
      go_wp2
      (try simp only [Exit.inBlock, Exit.then])
      refine bodyPost_ret (by simp [results, Tryz.results26, go_sem, x0, x1]; try rfl) rfl ?_
      rw [hG]
      exact TellsT.of (fun h => absurd h (by decide)) (fun _ => rfl) (HSET.out _ K2 _ _)
  · have hE2 : (E == 0) = false := by simpa using hE
    have hq : G = E := by rw [hAL.out, if_neg hE]
    have r0 := cell_of_heap bx1.out.r 0 rfl
    have r1 := cell_of_heap bx1.out.r 1 rfl
    have f0 := frozen_of_heap bx1.out.r 0
    have f1 := frozen_of_heap bx1.out.r 1
    have x0 : (w1.setCell ⟨w.heap.size + 2, 0, none⟩ (.slice none 0 0)).cell? ⟨w.heap.size + 2, 0, none⟩ = some (.slice none 0 0) := set_same r0
    have x1 : ((w1.setCell ⟨w.heap.size + 2, 0, none⟩ (.slice none 0 0)).setCell ⟨w.heap.size + 2, 1, none⟩ (.slice none 0 0)).cell? ⟨w.heap.size + 2, 1, none⟩ = some (.slice none 0 0) := set_same ((set_other (by simp)).trans r1)
    go_wp2
    (try simp only [Exit.inBlock, Exit.then])
    refine bodyPost_ret (by simp [results, Tryz.results26, go_sem, x0, x1]; try rfl) rfl ?_
    rw [show E = G from hq.symm]
    exact TellsT.of (fun h => absurd (hq.symm.trans h) hE) (fun _ => rfl) (HSET.out _ K1 _ _)


end Go.Proofs.YteipohpfaofchaaGreat
