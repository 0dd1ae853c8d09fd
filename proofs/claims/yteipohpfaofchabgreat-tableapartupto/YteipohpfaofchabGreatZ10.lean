/- Are two tables the same, is a row one of a table's: the law's walk. -/
import Derived.Test.YteipohpfaofchabGreatZ09
import Derived.Test.YteipohpfaofchabGreatZ06
import Derived.Test.YteipohpfaofchabGreatZ07
import Derived.Test.YteipohpfaofchabGreatZ08

namespace Go.Proofs.YteipohpfaofchabGreat
open Go.RowKit Go.Shelf Go.Sort
set_option linter.unusedVariables false

/-- putR, with where each row lies. -/
def putP (y : Value × List Val) : List (Value × List Val) → List (Value × List Val)
  | [] => [y]
  | x :: l => if rowC y.2 x.2 < 0 then y :: x :: l else if rowC y.2 x.2 = 0 then x :: l else x :: putP y l
theorem putP_snd (y : Value × List Val) : ∀ l, (putP y l).map (·.2) = putR y.2 (l.map (·.2))
  | [] => rfl
  | x :: l => by
    have ih := putP_snd y l
    simp only [putP, List.map_cons, putR]
    split <;> (try split) <;> simp_all

set_option maxRecDepth 100000 in
set_option maxHeartbeats 4000000 in
theorem dput_any {R Y : Value} {G : List (Value × List Val)} {y : List Val} {w : World} (hR : ValsAt w R (G.map (·.1))) (hG : ∀ x ∈ G, RowAt w x.1 x.2 ∧ (∀ v ∈ x.2, v.Fits) ∧ x.2.length ≤ 9223372036854775807) (hY : RowAt w Y y) (fy : ∀ v ∈ y, v.Fits) (ly : y.length ≤ 9223372036854775807) (lg : G.length + 1 ≤ 5864062014805) :
    Calls Tryz.prog 76 #[R, Y] w fun e w' => ∃ v, e = .returned v ∧ w'.ownsRow w.heap.size 40 1 v (putP (Y, y) G).length ((putP (Y, y) G).map (·.1)) ∧ Below w.heap.size w w' := by
  obtain ⟨i0, hi, hz0, hz1, hz2⟩ := info_parts inR
  obtain ⟨p, c, rfl, HV0⟩ := hR.form
  have HV : Hid (∀ k (hk : k < (G.map (·.1)).length), ∃ b off, p = some ⟨b, off, none⟩ ∧ b < w.heap.size ∧ w.cell? ⟨b, off + k, none⟩ = some (G.map (·.1))[k]) := HV0
  have HG : Hid (∀ x ∈ G, RowAt w x.1 x.2 ∧ (∀ v ∈ x.2, v.Fits) ∧ x.2.length ≤ 9223372036854775807) := hG
  have HY : Hid (RowAt w Y y) := hY
  have FY : Hid (∀ v ∈ y, v.Fits) := fy
  obtain ⟨py, cy, rfl⟩ := hY.form
  have LY : Hid (y.length ≤ 9223372036854775807) := ly
  obtain ⟨n, en⟩ : ∃ n : Nat, Hid (G.length = n) := ⟨_, rfl⟩
  obtain ⟨ny, eny⟩ : ∃ ny : Nat, Hid (y.length = ny) := ⟨_, rfl⟩
  rw [List.length_map, en.out]
  rw [en.out] at lg
  rw [eny.out] at HY ⊢
  clear hR hG hY HV0 fy ly
  obtain ⟨z, ez⟩ : ∃ z : Value × List Val, Hid ((Value.slice py ny cy, y) = z) := ⟨_, rfl⟩
  rw [ez.out]
  go_enter Tryz.func76, Tryz.ntmps76
  go_wp2
  go_loopw [5, 6, 7] (fun o d i wr => ∃ (k : Nat) (P : List (Value × List Val)) (dn : Bool), k ≤ n ∧ d = .bool dn ∧ i = .int .i64 k ∧ Hid (wr.ownsRow w.heap.size 40 1 o P.length (P.map (·.1))) ∧ Hid (putP z G = P ++ (if dn then G.drop k else putP z (G.drop k))) ∧ P.length ≤ k + 1 ∧ (dn = false → P.length ≤ k) ∧ Below w.heap.size w wr) (fun _ _ i _ => n - (intOf i).toNat)
  case atStart => exact ⟨0, [], false, Nat.zero_le _, rfl, rfl, (show World.ownsRow _ _ _ _ _ _ _ from World.ownsRow_nil _ _ _ _), (show putP z G = [] ++ putP z (G.drop 0) by simp), by simp, by simp, Below.refl _ _⟩
  case round =>
    obtain ⟨k, P, dn, hk, rfl, rfl, HO, hr, lP, lP2, hB⟩ := hrel
    by_cases hlt : k < n
    · have kx : k < G.length := by have := en.out; omega
      have kx2 : k < (G.map (·.1)).length := by rw [List.length_map]; exact kx
      obtain ⟨b, off, rfl, hb, x1⟩ := HV.out k kx2
      have q1 := (hB.cell (p := ⟨b, off + k, none⟩) hb).trans x1
      rw [List.getElem_map] at q1 x1
      obtain ⟨g1, g2, g3⟩ := HG.out G[k] (List.getElem_mem kx)
      have hd : Hid (G.drop k = G[k] :: G.drop (k + 1)) := List.drop_eq_getElem_cons kx
      rw [hd.out] at hr
      clear hd
      generalize G[k] = x at q1 x1 g1 g2 g3 hr
      obtain ⟨U, r⟩ := x
      dsimp only at q1 x1 g1 g2 g3
      have HU : Hid (RowAt w U r) := g1
      obtain ⟨pu, cu, rfl⟩ := g1.form
      obtain ⟨nu, enu⟩ : ∃ nu : Nat, Hid (r.length = nu) := ⟨_, rfl⟩
      rw [enu.out] at q1 x1 hr HU
      have HX1 : Hid (w.cell? ⟨b, off + k, none⟩ = some (.slice pu nu cu)) := x1
      clear x1
      have FU : Hid (∀ v ∈ r, v.Fits) := g2
      have LU : Hid (r.length ≤ 9223372036854775807) := g3
      clear g1 g2 g3
      cases dn with
      | true =>
        have hr2 : Hid (putP z G = (P ++ [(Value.slice pu nu cu, r)]) ++ (if true then G.drop (k + 1) else putP z (G.drop (k + 1)))) := by
          have h := hr.out
          show _ = _
          rw [h]
          simp
        clear hr
        obtain ⟨poa, noa, coa, rfl⟩ := slice_of HO.out
        have HSRCa : Hid (Src (wr.alloc (.cells #[Value.slice pu nu cu] 40)) 1 (.slice (some ⟨wr.heap.size, 0, none⟩) 1 1) 1 [Value.slice pu nu cu]) := Or.inr ⟨_, 1, rfl, rfl, fun j x hj => by
          rw [Addr.add_lit, Nat.zero_add]
          exact cell_of_heap (heap_alloc wr _) j (by simpa using hj)⟩
        have HOa : Hid ((wr.alloc (.cells #[Value.slice pu nu cu] 40)).ownsRow w.heap.size 40 1 (.slice poa noa coa) (P).length ((P).map (·.1))) := World.ownsRow.alloc HO.out _
        have HKa : Hid (∀ q, (Value.slice poa noa coa).ownBlock = some q → w.heap.size ≤ q) := fun q hq => (World.ownsRow.lt HOa.out q hq).1
        have sa1 : (P).length + 1 ≤ maxLen := by unfold maxLen; (try simp only [List.length_append, List.length_cons, List.length_nil]); omega
        have sa2 : ((P).length + 1) * 24 ≤ 140737488355328 := by (try simp only [List.length_append, List.length_cons, List.length_nil]); omega
        have sa3 : w.heap.size ≤ (wr.alloc (.cells #[Value.slice pu nu cu] 40)).heap.size := by simp; have := hB.size; omega
        have Ba : Hid (Below w.heap.size w (wr.alloc (.cells #[Value.slice pu nu cu] 40))) := hB.alloc hB.size _
        clear HO
        go_wp2_with (at_builtin; refine wpList_append_src rfl (.tmp 31) (.tmp 36) 23 rfl w.heap.size 40 i0 _ 1 24 Tryz.underlying23 hi hz0 hz1 hz2 rfl (by decide) (.slice poa noa coa) (P).length ((P).map (·.1)) rfl HOa.out (.slice (some ⟨wr.heap.size, 0, none⟩) 1 1) 1 [Value.slice pu nu cu] rfl HSRCa.out ?onea sa1 sa2 sa3 ?growa)
        case onea => first | rfl | (intro u hu; simp at hu; subst hu; rfl)
        case growa =>
          intro v' w3 h2 h3 _
          have O3 : Hid (w3.ownsRow w.heap.size 40 1 v' ((P) ++ [(Value.slice pu nu cu, r)]).length (((P) ++ [(Value.slice pu nu cu, r)]).map (·.1))) := by
            show World.ownsRow _ _ _ _ _ _ _
            rw [List.length_append, List.map_append]
            first | exact h2 | simpa using h2
          have B3 : Below w.heap.size w w3 := Ba.out.grown h3 sa3 HKa.out
          clear h2 h3 HSRCa HOa HKa Ba
          go_wp2
          exact ⟨⟨k + 1, (P) ++ [(Value.slice pu nu cu, r)], true, by omega, by trivial, by go_num, O3, hr2, (by simp only [List.length_append, List.length_cons, List.length_nil]; omega), (by intro h; first | (cases h; done) | (simp only [List.length_append, List.length_cons, List.length_nil]; omega)), B3⟩, by simp [intOf]; omega⟩
      | false =>
        have lP3 := lP2 rfl
        obtain ⟨D, eD⟩ : ∃ D : Int, Hid (rowC y r = D) := ⟨_, rfl⟩
        have ct : Hid (∀ W : World, Below w.heap.size w W → Calls Tryz.prog 71 #[.slice py ny cy, .slice pu nu cu] W fun e w' => e = .returned (.int .i64 D) ∧ Below W.heap.size W w') := fun W hW => by
          have h := drow_gen (.slice py ny cy) (.slice pu nu cu) y r W FY.out FU.out (HY.out.below hW) (HU.out.below hW) LY.out LU.out
          rwa [eD.out] at h
        have hr2 : Hid (putP z G = P ++ (if D < 0 then z :: (Value.slice pu nu cu, r) :: G.drop (k + 1) else if D = 0 then (Value.slice pu nu cu, r) :: G.drop (k + 1) else (Value.slice pu nu cu, r) :: putP z (G.drop (k + 1)))) := by
          have h := hr.out
          have e2 : rowC z.2 r = D := by rw [← ez.out]; exact eD.out
          show _ = _
          rw [h]
          simp only [putP, e2]
          rfl
        clear hr lP2
        go_wp2_with fail
        refine (ct.out _ (by exact hB)).mono ?_
        rintro e w1 ⟨rfl, hb1⟩
        have B1 : Below w.heap.size w w1 := hB.trans (hb1.mono hB.size)
        have HO1 : Hid (w1.ownsRow w.heap.size 40 1 u5 P.length (P.map (·.1))) := own_below HO.out hb1
        have q2 := (hb1.cell (p := ⟨b, off + k, none⟩) (Nat.lt_of_lt_of_le hb hB.size)).trans q1
        clear hb1 ct q1 HO hB
        by_cases hD : D < 0
        · have hr3 : Hid (putP z G = ((P ++ [z]) ++ [(Value.slice pu nu cu, r)]) ++ (if true then G.drop (k + 1) else putP z (G.drop (k + 1)))) := by
            have h := hr2.out
            rw [if_pos hD] at h
            show _ = _
            rw [h]
            simp
          clear hr2
          have d1 : D ≤ 0 := by omega
          obtain ⟨pob, nob, cob, rfl⟩ := slice_of HO1.out
          have HSRCb : Hid (Src (w1.alloc (.cells #[Value.slice py ny cy] 40)) 1 (.slice (some ⟨w1.heap.size, 0, none⟩) 1 1) 1 [Value.slice py ny cy]) := Or.inr ⟨_, 1, rfl, rfl, fun j x hj => by
            rw [Addr.add_lit, Nat.zero_add]
            exact cell_of_heap (heap_alloc w1 _) j (by simpa using hj)⟩
          have HOb : Hid ((w1.alloc (.cells #[Value.slice py ny cy] 40)).ownsRow w.heap.size 40 1 (.slice pob nob cob) (P).length ((P).map (·.1))) := World.ownsRow.alloc HO1.out _
          have HKb : Hid (∀ q, (Value.slice pob nob cob).ownBlock = some q → w.heap.size ≤ q) := fun q hq => (World.ownsRow.lt HOb.out q hq).1
          have sb1 : (P).length + 1 ≤ maxLen := by unfold maxLen; (try simp only [List.length_append, List.length_cons, List.length_nil]); omega
          have sb2 : ((P).length + 1) * 24 ≤ 140737488355328 := by (try simp only [List.length_append, List.length_cons, List.length_nil]); omega
          have sb3 : w.heap.size ≤ (w1.alloc (.cells #[Value.slice py ny cy] 40)).heap.size := by simp; have := B1.size; omega
          have Bb : Hid (Below w.heap.size w (w1.alloc (.cells #[Value.slice py ny cy] 40))) := B1.alloc B1.size _
          clear HO1
          go_wp2_with (at_builtin; refine wpList_append_src rfl (.tmp 27) (.tmp 29) 23 rfl w.heap.size 40 i0 _ 1 24 Tryz.underlying23 hi hz0 hz1 hz2 rfl (by decide) (.slice pob nob cob) (P).length ((P).map (·.1)) rfl HOb.out (.slice (some ⟨w1.heap.size, 0, none⟩) 1 1) 1 [Value.slice py ny cy] rfl HSRCb.out ?oneb sb1 sb2 sb3 ?growb)
          case oneb => first | rfl | (intro u hu; simp at hu; subst hu; rfl)
          case growb =>
            intro v1 w2 h2 h3 _
            have O2 : Hid (w2.ownsRow w.heap.size 40 1 v1 (P ++ [z]).length ((P ++ [z]).map (·.1))) := by
              show World.ownsRow _ _ _ _ _ _ _
              rw [List.length_append, List.map_append, ← ez.out]
              exact h2
            have B2 : Below w.heap.size w w2 := Bb.out.grown h3 sb3 HKb.out
            have q3 : w2.cell? ⟨b, off + k, none⟩ = some (.slice pu nu cu) := (B2.cell (p := ⟨b, off + k, none⟩) hb).trans HX1.out
            clear h2 h3 HSRCb HOb HKb Bb q2 sb1 sb2 sb3
            obtain ⟨poc, noc, coc, rfl⟩ := slice_of O2.out
            have HSRCc : Hid (Src (w2.alloc (.cells #[Value.slice pu nu cu] 40)) 1 (.slice (some ⟨w2.heap.size, 0, none⟩) 1 1) 1 [Value.slice pu nu cu]) := Or.inr ⟨_, 1, rfl, rfl, fun j x hj => by
              rw [Addr.add_lit, Nat.zero_add]
              exact cell_of_heap (heap_alloc w2 _) j (by simpa using hj)⟩
            have HOc : Hid ((w2.alloc (.cells #[Value.slice pu nu cu] 40)).ownsRow w.heap.size 40 1 (.slice poc noc coc) (P ++ [z]).length ((P ++ [z]).map (·.1))) := World.ownsRow.alloc O2.out _
            have HKc : Hid (∀ q, (Value.slice poc noc coc).ownBlock = some q → w.heap.size ≤ q) := fun q hq => (World.ownsRow.lt HOc.out q hq).1
            have sc1 : (P ++ [z]).length + 1 ≤ maxLen := by unfold maxLen; (try simp only [List.length_append, List.length_cons, List.length_nil]); omega
            have sc2 : ((P ++ [z]).length + 1) * 24 ≤ 140737488355328 := by (try simp only [List.length_append, List.length_cons, List.length_nil]); omega
            have sc3 : w.heap.size ≤ (w2.alloc (.cells #[Value.slice pu nu cu] 40)).heap.size := by simp; have := B2.size; omega
            have Bc : Hid (Below w.heap.size w (w2.alloc (.cells #[Value.slice pu nu cu] 40))) := B2.alloc B2.size _
            clear O2
            go_wp2_with (at_builtin; refine wpList_append_src rfl (.tmp 31) (.tmp 36) 23 rfl w.heap.size 40 i0 _ 1 24 Tryz.underlying23 hi hz0 hz1 hz2 rfl (by decide) (.slice poc noc coc) (P ++ [z]).length ((P ++ [z]).map (·.1)) rfl HOc.out (.slice (some ⟨w2.heap.size, 0, none⟩) 1 1) 1 [Value.slice pu nu cu] rfl HSRCc.out ?onec sc1 sc2 sc3 ?growc)
            case onec => first | rfl | (intro u hu; simp at hu; subst hu; rfl)
            case growc =>
              intro v' w3 h2 h3 _
              have O3 : Hid (w3.ownsRow w.heap.size 40 1 v' ((P ++ [z]) ++ [(Value.slice pu nu cu, r)]).length (((P ++ [z]) ++ [(Value.slice pu nu cu, r)]).map (·.1))) := by
                show World.ownsRow _ _ _ _ _ _ _
                rw [List.length_append, List.map_append]
                first | exact h2 | simpa using h2
              have B3 : Below w.heap.size w w3 := Bc.out.grown h3 sc3 HKc.out
              clear h2 h3 HSRCc HOc HKc Bc
              go_wp2
              exact ⟨⟨k + 1, (P ++ [z]) ++ [(Value.slice pu nu cu, r)], true, by omega, by trivial, by go_num, O3, hr3, (by simp only [List.length_append, List.length_cons, List.length_nil]; omega), (by intro h; first | (cases h; done) | (simp only [List.length_append, List.length_cons, List.length_nil]; omega)), B3⟩, by simp [intOf]; omega⟩
        · by_cases hE : D = 0
          · have hr3 : Hid (putP z G = (P ++ [(Value.slice pu nu cu, r)]) ++ (if true then G.drop (k + 1) else putP z (G.drop (k + 1)))) := by
              have h := hr2.out
              rw [if_neg hD, if_pos hE] at h
              show _ = _
              rw [h]
              simp
            clear hr2
            subst hE
            obtain ⟨pod, nod, cod, rfl⟩ := slice_of HO1.out
            have HSRCd : Hid (Src (w1.alloc (.cells #[Value.slice pu nu cu] 40)) 1 (.slice (some ⟨w1.heap.size, 0, none⟩) 1 1) 1 [Value.slice pu nu cu]) := Or.inr ⟨_, 1, rfl, rfl, fun j x hj => by
              rw [Addr.add_lit, Nat.zero_add]
              exact cell_of_heap (heap_alloc w1 _) j (by simpa using hj)⟩
            have HOd : Hid ((w1.alloc (.cells #[Value.slice pu nu cu] 40)).ownsRow w.heap.size 40 1 (.slice pod nod cod) (P).length ((P).map (·.1))) := World.ownsRow.alloc HO1.out _
            have HKd : Hid (∀ q, (Value.slice pod nod cod).ownBlock = some q → w.heap.size ≤ q) := fun q hq => (World.ownsRow.lt HOd.out q hq).1
            have sd1 : (P).length + 1 ≤ maxLen := by unfold maxLen; (try simp only [List.length_append, List.length_cons, List.length_nil]); omega
            have sd2 : ((P).length + 1) * 24 ≤ 140737488355328 := by (try simp only [List.length_append, List.length_cons, List.length_nil]); omega
            have sd3 : w.heap.size ≤ (w1.alloc (.cells #[Value.slice pu nu cu] 40)).heap.size := by simp; have := B1.size; omega
            have Bd : Hid (Below w.heap.size w (w1.alloc (.cells #[Value.slice pu nu cu] 40))) := B1.alloc B1.size _
            clear HO1
            go_wp2_with (at_builtin; refine wpList_append_src rfl (.tmp 31) (.tmp 36) 23 rfl w.heap.size 40 i0 _ 1 24 Tryz.underlying23 hi hz0 hz1 hz2 rfl (by decide) (.slice pod nod cod) (P).length ((P).map (·.1)) rfl HOd.out (.slice (some ⟨w1.heap.size, 0, none⟩) 1 1) 1 [Value.slice pu nu cu] rfl HSRCd.out ?oned sd1 sd2 sd3 ?growd)
            case oned => first | rfl | (intro u hu; simp at hu; subst hu; rfl)
            case growd =>
              intro v' w3 h2 h3 _
              have O3 : Hid (w3.ownsRow w.heap.size 40 1 v' ((P) ++ [(Value.slice pu nu cu, r)]).length (((P) ++ [(Value.slice pu nu cu, r)]).map (·.1))) := by
                show World.ownsRow _ _ _ _ _ _ _
                rw [List.length_append, List.map_append]
                first | exact h2 | simpa using h2
              have B3 : Below w.heap.size w w3 := Bd.out.grown h3 sd3 HKd.out
              clear h2 h3 HSRCd HOd HKd Bd
              go_wp2
              exact ⟨⟨k + 1, (P) ++ [(Value.slice pu nu cu, r)], true, by omega, by trivial, by go_num, O3, hr3, (by simp only [List.length_append, List.length_cons, List.length_nil]; omega), (by intro h; first | (cases h; done) | (simp only [List.length_append, List.length_cons, List.length_nil]; omega)), B3⟩, by simp [intOf]; omega⟩
          · have hr3 : Hid (putP z G = (P ++ [(Value.slice pu nu cu, r)]) ++ (if false then G.drop (k + 1) else putP z (G.drop (k + 1)))) := by
              have h := hr2.out
              rw [if_neg hD, if_neg hE] at h
              show _ = _
              rw [h]
              simp
            clear hr2
            have d1 : ¬ D ≤ 0 := by omega
            obtain ⟨poe, noe, coe, rfl⟩ := slice_of HO1.out
            have HSRCe : Hid (Src (w1.alloc (.cells #[Value.slice pu nu cu] 40)) 1 (.slice (some ⟨w1.heap.size, 0, none⟩) 1 1) 1 [Value.slice pu nu cu]) := Or.inr ⟨_, 1, rfl, rfl, fun j x hj => by
              rw [Addr.add_lit, Nat.zero_add]
              exact cell_of_heap (heap_alloc w1 _) j (by simpa using hj)⟩
            have HOe : Hid ((w1.alloc (.cells #[Value.slice pu nu cu] 40)).ownsRow w.heap.size 40 1 (.slice poe noe coe) (P).length ((P).map (·.1))) := World.ownsRow.alloc HO1.out _
            have HKe : Hid (∀ q, (Value.slice poe noe coe).ownBlock = some q → w.heap.size ≤ q) := fun q hq => (World.ownsRow.lt HOe.out q hq).1
            have se1 : (P).length + 1 ≤ maxLen := by unfold maxLen; (try simp only [List.length_append, List.length_cons, List.length_nil]); omega
            have se2 : ((P).length + 1) * 24 ≤ 140737488355328 := by (try simp only [List.length_append, List.length_cons, List.length_nil]); omega
            have se3 : w.heap.size ≤ (w1.alloc (.cells #[Value.slice pu nu cu] 40)).heap.size := by simp; have := B1.size; omega
            have Be : Hid (Below w.heap.size w (w1.alloc (.cells #[Value.slice pu nu cu] 40))) := B1.alloc B1.size _
            clear HO1
            go_wp2_with (at_builtin; refine wpList_append_src rfl (.tmp 31) (.tmp 36) 23 rfl w.heap.size 40 i0 _ 1 24 Tryz.underlying23 hi hz0 hz1 hz2 rfl (by decide) (.slice poe noe coe) (P).length ((P).map (·.1)) rfl HOe.out (.slice (some ⟨w1.heap.size, 0, none⟩) 1 1) 1 [Value.slice pu nu cu] rfl HSRCe.out ?onee se1 se2 se3 ?growe)
            case onee => first | rfl | (intro u hu; simp at hu; subst hu; rfl)
            case growe =>
              intro v' w3 h2 h3 _
              have O3 : Hid (w3.ownsRow w.heap.size 40 1 v' ((P) ++ [(Value.slice pu nu cu, r)]).length (((P) ++ [(Value.slice pu nu cu, r)]).map (·.1))) := by
                show World.ownsRow _ _ _ _ _ _ _
                rw [List.length_append, List.map_append]
                first | exact h2 | simpa using h2
              have B3 : Below w.heap.size w w3 := Be.out.grown h3 se3 HKe.out
              clear h2 h3 HSRCe HOe HKe Be
              go_wp2
              exact ⟨⟨k + 1, (P) ++ [(Value.slice pu nu cu, r)], false, by omega, by trivial, by go_num, O3, hr3, (by simp only [List.length_append, List.length_cons, List.length_nil]; omega), (by intro h; first | (cases h; done) | (simp only [List.length_append, List.length_cons, List.length_nil]; omega)), B3⟩, by simp [intOf]; omega⟩
    · have c2 : ¬ (k : Int) < n := by omega
      have e0 : G.drop k = [] := List.drop_eq_nil_of_le (by have := en.out; omega)
      rw [e0] at hr
      cases dn with
      | true =>
        have hr2 : Hid (putP z G = P) := by have h := hr.out; show _ = _; simpa using h
        go_wp2
        go_ret
        exact ⟨_, rfl, by rw [hr2.out]; exact HO.out, hB⟩
      | false =>
        have hr2 : Hid (putP z G = P ++ [z]) := by have h := hr.out; show _ = _; simpa [putP] using h
        have lP3 := lP2 rfl
        clear hr lP2
        obtain ⟨pof, nof, cof, rfl⟩ := slice_of HO.out
        have HSRCf : Hid (Src (wr.alloc (.cells #[Value.slice py ny cy] 40)) 1 (.slice (some ⟨wr.heap.size, 0, none⟩) 1 1) 1 [Value.slice py ny cy]) := Or.inr ⟨_, 1, rfl, rfl, fun j x hj => by
          rw [Addr.add_lit, Nat.zero_add]
          exact cell_of_heap (heap_alloc wr _) j (by simpa using hj)⟩
        have HOf : Hid ((wr.alloc (.cells #[Value.slice py ny cy] 40)).ownsRow w.heap.size 40 1 (.slice pof nof cof) (P).length ((P).map (·.1))) := World.ownsRow.alloc HO.out _
        have HKf : Hid (∀ q, (Value.slice pof nof cof).ownBlock = some q → w.heap.size ≤ q) := fun q hq => (World.ownsRow.lt HOf.out q hq).1
        have sf1 : (P).length + 1 ≤ maxLen := by unfold maxLen; (try simp only [List.length_append, List.length_cons, List.length_nil]); omega
        have sf2 : ((P).length + 1) * 24 ≤ 140737488355328 := by (try simp only [List.length_append, List.length_cons, List.length_nil]); omega
        have sf3 : w.heap.size ≤ (wr.alloc (.cells #[Value.slice py ny cy] 40)).heap.size := by simp; have := hB.size; omega
        have Bf : Hid (Below w.heap.size w (wr.alloc (.cells #[Value.slice py ny cy] 40))) := hB.alloc hB.size _
        clear HO
        go_wp2_with (at_builtin; refine wpList_append_src rfl (.tmp 40) (.tmp 42) 23 rfl w.heap.size 40 i0 _ 1 24 Tryz.underlying23 hi hz0 hz1 hz2 rfl (by decide) (.slice pof nof cof) (P).length ((P).map (·.1)) rfl HOf.out (.slice (some ⟨wr.heap.size, 0, none⟩) 1 1) 1 [Value.slice py ny cy] rfl HSRCf.out ?onef sf1 sf2 sf3 ?growf)
        case onef => first | rfl | (intro u hu; simp at hu; subst hu; rfl)
        case growf =>
          intro v1 w2 h2 h3 _
          have O2 : Hid (w2.ownsRow w.heap.size 40 1 v1 (putP z G).length ((putP z G).map (·.1))) := by
            show World.ownsRow _ _ _ _ _ _ _
            rw [hr2.out, List.length_append, List.map_append, ← ez.out]
            exact h2
          have B2 : Below w.heap.size w w2 := Bf.out.grown h3 sf3 HKf.out
          clear h2 h3 HSRCf HOf HKf Bf sf1 sf2 sf3
          go_wp2
          go_ret
          exact ⟨_, rfl, O2.out, B2⟩

end Go.Proofs.YteipohpfaofchabGreat

namespace Go.Proofs.YteipohpfaofchabGreat
open Go.RowKit Go.Shelf Go.Sort
set_option linter.unusedVariables false

theorem putS_len (x : ByteArray) : ∀ l, (putS x l).length = l.length + 1
  | [] => rfl
  | y :: l => by
    have ih := putS_len x l
    unfold putS
    split <;> simp [ih]
theorem putS_at (x : ByteArray) : ∀ (l : List ByteArray) (j : Nat), j ≤ l.length → (∀ i (h : i < l.length), i < j → bcmp l[i] x < 0) → (∀ h : j < l.length, ¬ bcmp l[j] x < 0) → putS x l = l.take j ++ [x] ++ l.drop j
  | [], j, h, _, _ => by have : j = 0 := by simpa using h
                         subst this; rfl
  | y :: l, 0, _, _, h => by
    have h0 := h (by simp)
    simp only [List.getElem_cons_zero] at h0
    unfold putS
    rw [if_neg h0]
    rfl
  | y :: l, j + 1, hj, h1, h2 => by
    have h0 := h1 0 (by simp) (by omega)
    simp only [List.getElem_cons_zero] at h0
    have ih := putS_at x l j (by simpa using hj) (fun i h hi => by have := h1 (i + 1) (by simpa using h) (by omega); simpa using this) (fun h => by have := h2 (by simpa using h); simpa using this)
    unfold putS
    rw [if_pos h0, ih]
    simp
theorem madeS_snoc (vs : List ByteArray) (x : ByteArray) : madeS (vs ++ [x]) = putS x (madeS vs) := by
  unfold madeS
  rw [List.foldl_append]
  rfl
theorem madeS_len (vs : List ByteArray) : (madeS vs).length = vs.length := by
  have : ∀ (vs l : List ByteArray), (vs.foldl (fun l x => putS x l) l).length = l.length + vs.length := by
    intro vs
    induction vs with
    | nil => intro l; rfl
    | cons x vs ih => intro l; rw [List.foldl_cons, ih, putS_len]; simp; omega
  have h := this vs []
  simpa [madeS] using h
theorem strs_sub {w : World} {g n j m : Nat} {c : Nat} {M : List ByteArray} (hg : g < w.heap.size) (h : ∀ i (hi : i < M.length), w.cell? ⟨g, i, none⟩ = some (.string M[i])) (hm : j + m ≤ M.length) : StrsAt w (.slice (some ⟨g, j, none⟩) m c) ((M.drop j).take m) := by
  refine ⟨_, c, by rw [List.length_take, List.length_drop, Nat.min_eq_left (by omega)], Or.inr ⟨g, j, rfl, hg, fun k hk => ?_⟩⟩
  simp only [List.length_take, List.length_drop] at hk
  rw [List.getElem_take, List.getElem_drop]
  exact h (j + k) (by omega)

set_option maxRecDepth 100000 in
set_option maxHeartbeats 8000000 in
theorem drising_any {V : Value} {vs : List ByteArray} {w : World} (hV : StrsAt w V vs) (lv : vs.length ≤ 1000000) :
    Calls Tryz.prog 75 #[V] w fun e w' => ∃ v, e = .returned v ∧ OwnS w.heap.size v (madeS vs) w' ∧ Below w.heap.size w w' := by
  obtain ⟨i0, hi, hz0, hz1, hz2⟩ := info_parts inS
  obtain ⟨p, c, rfl, HV0⟩ := hV.all
  have HV : Hid (∀ k (hk : k < vs.length), ∃ b off, p = some ⟨b, off, none⟩ ∧ b < w.heap.size ∧ w.cell? ⟨b, off + k, none⟩ = some (.string vs[k])) := HV0
  obtain ⟨n, en⟩ : ∃ n : Nat, Hid (vs.length = n) := ⟨_, rfl⟩
  rw [en.out] at lv ⊢
  clear hV HV0
  go_enter Tryz.func75, Tryz.ntmps75
  go_wp2
  go_loopw [3, 4] (fun o i wr => ∃ k : Nat, k ≤ n ∧ i = .int .i64 k ∧ Hid (OwnS w.heap.size o (madeS (vs.take k)) wr) ∧ Below w.heap.size w wr) (fun _ i _ => n - (intOf i).toNat)
  case atStart => exact ⟨0, Nat.zero_le _, rfl, (show OwnS _ _ _ _ from World.ownsRow_nil _ _ _ _), Below.refl _ _⟩
  case round =>
    obtain ⟨k, hk, rfl, HO, hB⟩ := hrel
    by_cases hlt : k < n
    · have kx : k < vs.length := by have := en.out; omega
      obtain ⟨bv, ov, rfl, hbv, x1⟩ := HV.out k kx
      have hM : Hid (madeS (vs.take (k + 1)) = putS vs[k] (madeS (vs.take k))) := by
        show _ = _
        rw [List.take_succ_eq_append_getElem kx, madeS_snoc]
      have hL : Hid ((madeS (vs.take k)).length = k) := by
        show _ = _
        rw [madeS_len, List.length_take]
        omega
      generalize vs[k] = X at x1 hM
      have HX : Hid (w.cell? ⟨bv, ov + k, none⟩ = some (.string X)) := x1
      have q1 := (hB.cell (p := ⟨bv, ov + k, none⟩) hbv).trans x1
      clear x1
      obtain ⟨M, eM⟩ : ∃ M, Hid (madeS (vs.take k) = M) := ⟨_, rfl⟩
      rw [eM.out] at HO hM hL
      have k1 : k ≤ 1000000 := by omega
      obtain ⟨-, ⟨rfl, hk0⟩ | ⟨g, cap, cur, rfl, hg1, hg2, hn, -, hn2, hn3⟩⟩ := (show World.ownsRow _ _ _ _ _ _ _ from HO.out)
      · have hk0' : k = 0 := by have h := hL.out; rw [h] at hk0; exact hk0
        have ek1 : k ≤ 0 := by omega
        have HK0 : Hid (k = 0) := hk0'
        clear hk0' hk0
        have hM0 : Hid (M = []) := List.eq_nil_of_length_eq_zero (by have := hL.out; omega)
        obtain ⟨j, ej⟩ : ∃ j : Nat, Hid (j = 0) := ⟨0, rfl⟩
        have ej1 : j ≤ 0 := by have := ej.out; omega
        go_upto_region 5 with fail
        go_wp2
        go_loopw [5] (fun a wx => a = .int .i64 0 ∧ ∃ q, wx = wr.drewN q) (fun _ _ => 0)
        case atStart => exact ⟨rfl, 0, rfl⟩
        case round =>
          obtain ⟨rfl, q, rfl⟩ := hrel
          have hP : Hid (putS X M = M.take j ++ [X] ++ M.drop j) := by
            show _ = _
            rw [hM0.out, ej.out]
            rfl
          have BW0 : Below w.heap.size w (wr.drewN q) := bdrewN _ hB
          go_upto_region 6 with fail
          go_quiet (fail)
          have BW1 : Below w.heap.size w ((wr.drewN q).drewN nq) := bdrewN _ BW0
          generalize (wr.drewN q).drewN nq = Wd at BW1 ⊢
          have BW := BW1
          clear q1 BW0 BW1 hB HO
          have S1n : Hid (Src Wd 1 (Value.slice none 0 0) j ((M.take j).map Value.string)) := Or.inl ⟨_, _, rfl, ej.out, by rw [hM0.out, ej.out]; rfl⟩
          have a63n : 0 + j ≤ maxLen := by unfold maxLen; omega
          have abyn : (0 + j) * 16 ≤ 140737488355328 := by omega
          have aszn : w.heap.size ≤ Wd.heap.size := BW.size
          go_wp2_with (at_builtin; refine wpList_append_src rfl (.tmp 30) (.tmp 33) 22 rfl w.heap.size 9 i0 _ 1 16 Tryz.underlying22 hi hz0 hz1 hz2 rfl (by decide) (.slice none 0 0) 0 [] rfl (World.ownsRow_nil _ _ _ _) (Value.slice none 0 0) j ((M.take j).map Value.string) rfl S1n.out ?onen a63n abyn aszn ?grown)
          case onen => (intro u hu; first | (obtain ⟨x, -, rfl⟩ := List.mem_map.1 hu; rfl) | (obtain ⟨x, -, rfl⟩ := List.mem_map.1 (List.mem_of_mem_take hu); rfl) | (obtain ⟨x, -, rfl⟩ := List.mem_map.1 (List.mem_of_mem_drop hu); rfl))
          case grown =>
            intro v1 w1 h2 h3 h4
            obtain ⟨p1, n1, c1, rfl⟩ := slice_of h2
            have B1 : Below w.heap.size w w1 := BW.grown h3 BW.size (fun q hq => by cases hq)
            have NE1 : Hid (∀ q, (Value.slice p1 n1 c1).ownBlock = some q → Wd.heap.size ≤ q) := fun q hq => by
              rcases h4 with h4 | h4
              · rw [h4] at hq; cases hq
              · rw [h4] at hq; injection hq with hq; omega
            have K1 : Hid (Below Wd.heap.size Wd w1) := (Below.refl _ _).grown h3 (Nat.le_refl _) (fun q hq => by cases hq)
            have q2 : w1.cell? ⟨bv, ov + k, none⟩ = some (.string X) := (B1.cell (p := ⟨bv, ov + k, none⟩) hbv).trans HX.out
            have HO2 : Hid ((w1.alloc (.cells #[.string X] 9)).ownsRow w.heap.size 9 1 (.slice p1 n1 c1) j ((M.take j).map Value.string)) := by
              have h := World.ownsRow.alloc h2 (.cells #[.string X] 9)
              show World.ownsRow _ _ _ _ _ _ _
              simpa using h
            have HSb : Hid (Src (w1.alloc (.cells #[.string X] 9)) 1 (.slice (some ⟨w1.heap.size, 0, none⟩) 1 1) 1 [.string X]) := Or.inr ⟨_, 1, rfl, rfl, fun i x hj => by
              rw [Addr.add_lit, Nat.zero_add]
              exact cell_of_heap (heap_alloc w1 _) i (by simpa using hj)⟩
            have b63 : j + 1 ≤ maxLen := by unfold maxLen; omega
            have bby : (j + 1) * 16 ≤ 140737488355328 := by omega
            have bsz : w.heap.size ≤ (w1.alloc (.cells #[.string X] 9)).heap.size := by simp; have := B1.size; omega
            clear h2 h3 h4
            go_wp2_with (at_builtin; refine wpList_append_src rfl (.tmp 35) (.tmp 40) 22 rfl w.heap.size 9 i0 _ 1 16 Tryz.underlying22 hi hz0 hz1 hz2 rfl (by decide) (.slice p1 n1 c1) j ((M.take j).map Value.string) rfl HO2.out (.slice (some ⟨w1.heap.size, 0, none⟩) 1 1) 1 [.string X] rfl HSb.out ?twon b63 bby bsz ?grow2n)
            case twon => (intro u hu; simp at hu; subst hu; rfl)
            case grow2n =>
              intro v2 w2 h2 h3 h4
              obtain ⟨p2, n2, c2, rfl⟩ := slice_of h2
              have hK : Below Wd.heap.size Wd (w1.alloc (.cells #[.string X] 9)) := K1.out.alloc K1.out.size _
              have K2 : Hid (Below Wd.heap.size Wd w2) := hK.grown h3 hK.size NE1.out
              have B2 : Below w.heap.size w w2 := BW.trans (K2.out.mono BW.size)
              have NE2 : Hid (∀ q, (Value.slice p2 n2 c2).ownBlock = some q → w.heap.size ≤ q) := fun q hq => (World.ownsRow.lt h2 q hq).1
              have HO3 : Hid (w2.ownsRow w.heap.size 9 1 (.slice p2 n2 c2) (j + 1) ((M.take j ++ [X]).map Value.string)) := by
                show World.ownsRow _ _ _ _ _ _ _
                simpa using h2
              have S2n : Hid (Src w2 1 (Value.slice none 0 0) (k - j) ((M.drop j).map Value.string)) := Or.inl ⟨_, _, rfl, by rw [ej.out, HK0.out], by rw [hM0.out, ej.out]; rfl⟩
              have d63 : j + 1 + (k - j) ≤ maxLen := by unfold maxLen; omega
              have dby : (j + 1 + (k - j)) * 16 ≤ 140737488355328 := by omega
              have dsz : w.heap.size ≤ w2.heap.size := B2.size
              clear h2 h3 h4 q2 HO2 HSb hK S1n K1 K2 NE1 B1 b63 bby bsz a63n abyn aszn
              go_wp2_with (at_builtin; refine wpList_append_src rfl (.tmp 42) (.tmp 45) 22 rfl w.heap.size 9 i0 _ 1 16 Tryz.underlying22 hi hz0 hz1 hz2 rfl (by decide) (.slice p2 n2 c2) (j + 1) ((M.take j ++ [X]).map Value.string) rfl HO3.out (Value.slice none 0 0) (k - j) ((M.drop j).map Value.string) rfl S2n.out ?threen d63 dby dsz ?grow3n)
              case threen => (intro u hu; first | (obtain ⟨x, -, rfl⟩ := List.mem_map.1 hu; rfl) | (obtain ⟨x, -, rfl⟩ := List.mem_map.1 (List.mem_of_mem_take hu); rfl) | (obtain ⟨x, -, rfl⟩ := List.mem_map.1 (List.mem_of_mem_drop hu); rfl))
              case grow3n =>
                intro v3 w3 h2 h3 h4
                have B3 : Below w.heap.size w w3 := B2.grown h3 dsz NE2.out
                have O3 : Hid (OwnS w.heap.size v3 (madeS (vs.take (k + 1))) w3) := by
                  show OwnS _ _ _ _
                  rw [hM.out, hP.out]
                  unfold OwnS
                  have e1 : (M.take j ++ [X] ++ M.drop j).length = j + 1 + (k - j) := by have := hL.out; simp; omega
                  rw [e1]
                  first | (simpa using h2; done) | (rw [show j + 1 + (k - j) = j + 1 by omega]; simpa using h2)
                clear h2 h3 h4 HO3 S2n d63 dby NE2
                go_wp2
                exact ⟨⟨k + 1, by omega, by go_num, O3, B3⟩, by simp [intOf]; omega⟩
      · have gl : g < wr.heap.size := (Array.getElem?_eq_some_iff.1 hg2).1
        have hc0 : Hid (∀ i (h : i < M.length), wr.cell? ⟨g, i, none⟩ = some (.string M[i])) := fun i h => by
          have h5 := World.ownsRow.cellAt (show wr.ownsRow w.heap.size 9 1 (.slice (some ⟨g, 0, none⟩) M.length cap) M.length (M.map Value.string) from HO.out) i (by omega)
          rw [h5, List.getElem?_map, List.getElem?_eq_getElem h]
          rfl
        rw [hL.out] at hn
        rw [hL.out]
        clear hg2 hn2 hn3 HO cur
        go_upto_region 5 with fail
        go_wp2
        go_loopw [5] (fun a wx => ∃ (j q : Nat), j ≤ k ∧ a = .int .i64 j ∧ Hid (∀ i (h : i < M.length), i < j → bcmp M[i] X < 0) ∧ wx = wr.drewN q) (fun a _ => k - (intOf a).toNat)
        case atStart => exact ⟨0, 0, Nat.zero_le _, rfl, (fun i h hi => by omega), rfl⟩
        case round =>
          obtain ⟨j, q, hj, rfl, hless, rfl⟩ := hrel
          have BW0 : Below w.heap.size w (wr.drewN q) := bdrewN _ hB
          have j0 : (0 : Int) ≤ (j : Int) := by omega
          have k0 : (0 : Int) ≤ (k : Int) := by omega
          have k2 : (k : Int) < (n : Int) := by omega
          have j3 : (j : Int) ≤ (cap : Int) := by omega
          have j4 : (j : Int) ≤ (k : Int) := by omega
          by_cases hjk : j < k
          · have jm : j < M.length := by have := hL.out; omega
            have q3 : wr.cell? ⟨g, j, none⟩ = some (.string M[j]) := hc0.out j jm
            have hle2 := less_bcmp M[j] X
            obtain ⟨Z, eZ⟩ : ∃ Z, Hid (M[j] = Z) := ⟨M[j], (rfl : M[j] = M[j])⟩
            rw [eZ.out] at q3 hle2
            have j1 : (j : Int) < (k : Int) := by omega
            by_cases hz : bcmp Z X < 0
            · have hl2 : Hid (∀ i (h : i < M.length), i < j + 1 → bcmp M[i] X < 0) := fun i h hi => by
                by_cases e : i = j
                · subst e
                  rw [eZ.out]
                  exact hz
                · exact hless.out i h (by omega)
              rw [decide_eq_true hz] at hle2
              go_upto_region 6 with fail
              go_quiet (fail)
              go_wp2
              exact ⟨⟨j + 1, q + nq, by omega, by go_num, hl2, by first | rfl | exact World.drewN_drewN ..⟩, by simp [intOf]; omega⟩
            · have hP : Hid (putS X M = M.take j ++ [X] ++ M.drop j) := putS_at X M j (by omega) hless.out (fun h => by rw [eZ.out]; exact hz)
              rw [decide_eq_false hz] at hle2
              go_upto_region 6 with fail
              go_quiet (fail)
              have BW : Below w.heap.size w ((wr.drewN q).drewN nq) := bdrewN _ BW0
              have cM : Hid (∀ i (h : i < M.length), ((wr.drewN q).drewN nq).cell? ⟨g, i, none⟩ = some (.string M[i])) := fun i h => hc0.out i h
              have gW : g < ((wr.drewN q).drewN nq).heap.size := gl
              generalize (wr.drewN q).drewN nq = Wd at BW cM gW ⊢
              have hcj : ¬ cap = j := by omega
              clear q1 q3 hc0 hle2 BW0 hB gl
              have S1a : Hid (Src Wd 1 (Value.slice (some ⟨g, 0, none⟩) j cap) j ((M.take j).map Value.string)) := by
                have h := src_strs (strs_sub (j := 0) (m := j) (c := cap) (n := 0) gW cM.out (by have := hL.out; omega))
                rw [List.drop_zero, List.length_take, Nat.min_eq_left (by have := hL.out; omega)] at h
                exact h
              have a63a : 0 + j ≤ maxLen := by unfold maxLen; omega
              have abya : (0 + j) * 16 ≤ 140737488355328 := by omega
              have asza : w.heap.size ≤ Wd.heap.size := BW.size
              go_wp2_with (at_builtin; refine wpList_append_src rfl (.tmp 30) (.tmp 33) 22 rfl w.heap.size 9 i0 _ 1 16 Tryz.underlying22 hi hz0 hz1 hz2 rfl (by decide) (.slice none 0 0) 0 [] rfl (World.ownsRow_nil _ _ _ _) (Value.slice (some ⟨g, 0, none⟩) j cap) j ((M.take j).map Value.string) rfl S1a.out ?onea a63a abya asza ?growa)
              case onea => (intro u hu; first | (obtain ⟨x, -, rfl⟩ := List.mem_map.1 hu; rfl) | (obtain ⟨x, -, rfl⟩ := List.mem_map.1 (List.mem_of_mem_take hu); rfl) | (obtain ⟨x, -, rfl⟩ := List.mem_map.1 (List.mem_of_mem_drop hu); rfl))
              case growa =>
                intro v1 w1 h2 h3 h4
                obtain ⟨p1, n1, c1, rfl⟩ := slice_of h2
                have B1 : Below w.heap.size w w1 := BW.grown h3 BW.size (fun q hq => by cases hq)
                have NE1 : Hid (∀ q, (Value.slice p1 n1 c1).ownBlock = some q → Wd.heap.size ≤ q) := fun q hq => by
                  rcases h4 with h4 | h4
                  · rw [h4] at hq; cases hq
                  · rw [h4] at hq; injection hq with hq; omega
                have K1 : Hid (Below Wd.heap.size Wd w1) := (Below.refl _ _).grown h3 (Nat.le_refl _) (fun q hq => by cases hq)
                have q2 : w1.cell? ⟨bv, ov + k, none⟩ = some (.string X) := (B1.cell (p := ⟨bv, ov + k, none⟩) hbv).trans HX.out
                have HO2 : Hid ((w1.alloc (.cells #[.string X] 9)).ownsRow w.heap.size 9 1 (.slice p1 n1 c1) j ((M.take j).map Value.string)) := by
                  have h := World.ownsRow.alloc h2 (.cells #[.string X] 9)
                  show World.ownsRow _ _ _ _ _ _ _
                  simpa using h
                have HSb : Hid (Src (w1.alloc (.cells #[.string X] 9)) 1 (.slice (some ⟨w1.heap.size, 0, none⟩) 1 1) 1 [.string X]) := Or.inr ⟨_, 1, rfl, rfl, fun i x hj => by
                  rw [Addr.add_lit, Nat.zero_add]
                  exact cell_of_heap (heap_alloc w1 _) i (by simpa using hj)⟩
                have b63 : j + 1 ≤ maxLen := by unfold maxLen; omega
                have bby : (j + 1) * 16 ≤ 140737488355328 := by omega
                have bsz : w.heap.size ≤ (w1.alloc (.cells #[.string X] 9)).heap.size := by simp; have := B1.size; omega
                clear h2 h3 h4
                go_wp2_with (at_builtin; refine wpList_append_src rfl (.tmp 35) (.tmp 40) 22 rfl w.heap.size 9 i0 _ 1 16 Tryz.underlying22 hi hz0 hz1 hz2 rfl (by decide) (.slice p1 n1 c1) j ((M.take j).map Value.string) rfl HO2.out (.slice (some ⟨w1.heap.size, 0, none⟩) 1 1) 1 [.string X] rfl HSb.out ?twoa b63 bby bsz ?grow2a)
                case twoa => (intro u hu; simp at hu; subst hu; rfl)
                case grow2a =>
                  intro v2 w2 h2 h3 h4
                  obtain ⟨p2, n2, c2, rfl⟩ := slice_of h2
                  have hK : Below Wd.heap.size Wd (w1.alloc (.cells #[.string X] 9)) := K1.out.alloc K1.out.size _
                  have K2 : Hid (Below Wd.heap.size Wd w2) := hK.grown h3 hK.size NE1.out
                  have B2 : Below w.heap.size w w2 := BW.trans (K2.out.mono BW.size)
                  have NE2 : Hid (∀ q, (Value.slice p2 n2 c2).ownBlock = some q → w.heap.size ≤ q) := fun q hq => (World.ownsRow.lt h2 q hq).1
                  have HO3 : Hid (w2.ownsRow w.heap.size 9 1 (.slice p2 n2 c2) (j + 1) ((M.take j ++ [X]).map Value.string)) := by
                    show World.ownsRow _ _ _ _ _ _ _
                    simpa using h2
                  have S2a : Hid (Src w2 1 (Value.slice (some ⟨g, j, none⟩) (k - j) (cap - j)) (k - j) ((M.drop j).map Value.string)) := by
                      have gW2 : g < w2.heap.size := Nat.lt_of_lt_of_le gW K2.out.size
                      have h := src_strs (strs_sub (j := j) (m := k - j) (c := cap - j) (n := 0) gW2 (fun i h => (K2.out.cell (p := ⟨g, i, none⟩) gW).trans (cM.out i h)) (by have := hL.out; omega))
                      rw [List.take_of_length_le (by simp; have := hL.out; omega), List.length_drop, hL.out] at h
                      exact h
                  have d63 : j + 1 + (k - j) ≤ maxLen := by unfold maxLen; omega
                  have dby : (j + 1 + (k - j)) * 16 ≤ 140737488355328 := by omega
                  have dsz : w.heap.size ≤ w2.heap.size := B2.size
                  clear h2 h3 h4 q2 HO2 HSb hK S1a K1 K2 NE1 B1 b63 bby bsz a63a abya asza
                  go_wp2_with (at_builtin; refine wpList_append_src rfl (.tmp 42) (.tmp 45) 22 rfl w.heap.size 9 i0 _ 1 16 Tryz.underlying22 hi hz0 hz1 hz2 rfl (by decide) (.slice p2 n2 c2) (j + 1) ((M.take j ++ [X]).map Value.string) rfl HO3.out (Value.slice (some ⟨g, j, none⟩) (k - j) (cap - j)) (k - j) ((M.drop j).map Value.string) rfl S2a.out ?threea d63 dby dsz ?grow3a)
                  case threea => (intro u hu; first | (obtain ⟨x, -, rfl⟩ := List.mem_map.1 hu; rfl) | (obtain ⟨x, -, rfl⟩ := List.mem_map.1 (List.mem_of_mem_take hu); rfl) | (obtain ⟨x, -, rfl⟩ := List.mem_map.1 (List.mem_of_mem_drop hu); rfl))
                  case grow3a =>
                    intro v3 w3 h2 h3 h4
                    have B3 : Below w.heap.size w w3 := B2.grown h3 dsz NE2.out
                    have O3 : Hid (OwnS w.heap.size v3 (madeS (vs.take (k + 1))) w3) := by
                      show OwnS _ _ _ _
                      rw [hM.out, hP.out]
                      unfold OwnS
                      have e1 : (M.take j ++ [X] ++ M.drop j).length = j + 1 + (k - j) := by have := hL.out; simp; omega
                      rw [e1]
                      first | (simpa using h2; done) | (rw [show j + 1 + (k - j) = j + 1 by omega]; simpa using h2)
                    clear h2 h3 h4 HO3 S2a d63 dby NE2
                    go_wp2
                    exact ⟨⟨k + 1, by omega, by go_num, O3, B3⟩, by simp [intOf]; omega⟩
          · have ej : k ≤ j := by omega
            have j1 : ¬ (j : Int) < (k : Int) := by omega
            have hP : Hid (putS X M = M.take j ++ [X] ++ M.drop j) := putS_at X M j (by have := hL.out; omega) hless.out (fun h => by have := hL.out; omega)
            go_upto_region 6 with fail
            go_quiet (fail)
            have BW : Below w.heap.size w ((wr.drewN q).drewN nq) := bdrewN _ BW0
            have cM : Hid (∀ i (h : i < M.length), ((wr.drewN q).drewN nq).cell? ⟨g, i, none⟩ = some (.string M[i])) := fun i h => hc0.out i h
            have gW : g < ((wr.drewN q).drewN nq).heap.size := gl
            generalize (wr.drewN q).drewN nq = Wd at BW cM gW ⊢
            clear q1 hc0 BW0 hB gl
            by_cases hcj : cap = j
            · have hcj2 := hcj.symm
              subst hcj2
              have S1b : Hid (Src Wd 1 (Value.slice (some ⟨g, 0, none⟩) j j) j ((M.take j).map Value.string)) := by
                have h := src_strs (strs_sub (j := 0) (m := j) (c := j) (n := 0) gW cM.out (by have := hL.out; omega))
                rw [List.drop_zero, List.length_take, Nat.min_eq_left (by have := hL.out; omega)] at h
                exact h
              have a63b : 0 + j ≤ maxLen := by unfold maxLen; omega
              have abyb : (0 + j) * 16 ≤ 140737488355328 := by omega
              have aszb : w.heap.size ≤ Wd.heap.size := BW.size
              go_wp2_with (at_builtin; refine wpList_append_src rfl (.tmp 30) (.tmp 33) 22 rfl w.heap.size 9 i0 _ 1 16 Tryz.underlying22 hi hz0 hz1 hz2 rfl (by decide) (.slice none 0 0) 0 [] rfl (World.ownsRow_nil _ _ _ _) (Value.slice (some ⟨g, 0, none⟩) j j) j ((M.take j).map Value.string) rfl S1b.out ?oneb a63b abyb aszb ?growb)
              case oneb => (intro u hu; first | (obtain ⟨x, -, rfl⟩ := List.mem_map.1 hu; rfl) | (obtain ⟨x, -, rfl⟩ := List.mem_map.1 (List.mem_of_mem_take hu); rfl) | (obtain ⟨x, -, rfl⟩ := List.mem_map.1 (List.mem_of_mem_drop hu); rfl))
              case growb =>
                intro v1 w1 h2 h3 h4
                obtain ⟨p1, n1, c1, rfl⟩ := slice_of h2
                have B1 : Below w.heap.size w w1 := BW.grown h3 BW.size (fun q hq => by cases hq)
                have NE1 : Hid (∀ q, (Value.slice p1 n1 c1).ownBlock = some q → Wd.heap.size ≤ q) := fun q hq => by
                  rcases h4 with h4 | h4
                  · rw [h4] at hq; cases hq
                  · rw [h4] at hq; injection hq with hq; omega
                have K1 : Hid (Below Wd.heap.size Wd w1) := (Below.refl _ _).grown h3 (Nat.le_refl _) (fun q hq => by cases hq)
                have q2 : w1.cell? ⟨bv, ov + k, none⟩ = some (.string X) := (B1.cell (p := ⟨bv, ov + k, none⟩) hbv).trans HX.out
                have HO2 : Hid ((w1.alloc (.cells #[.string X] 9)).ownsRow w.heap.size 9 1 (.slice p1 n1 c1) j ((M.take j).map Value.string)) := by
                  have h := World.ownsRow.alloc h2 (.cells #[.string X] 9)
                  show World.ownsRow _ _ _ _ _ _ _
                  simpa using h
                have HSb : Hid (Src (w1.alloc (.cells #[.string X] 9)) 1 (.slice (some ⟨w1.heap.size, 0, none⟩) 1 1) 1 [.string X]) := Or.inr ⟨_, 1, rfl, rfl, fun i x hj => by
                  rw [Addr.add_lit, Nat.zero_add]
                  exact cell_of_heap (heap_alloc w1 _) i (by simpa using hj)⟩
                have b63 : j + 1 ≤ maxLen := by unfold maxLen; omega
                have bby : (j + 1) * 16 ≤ 140737488355328 := by omega
                have bsz : w.heap.size ≤ (w1.alloc (.cells #[.string X] 9)).heap.size := by simp; have := B1.size; omega
                clear h2 h3 h4
                go_wp2_with (at_builtin; refine wpList_append_src rfl (.tmp 35) (.tmp 40) 22 rfl w.heap.size 9 i0 _ 1 16 Tryz.underlying22 hi hz0 hz1 hz2 rfl (by decide) (.slice p1 n1 c1) j ((M.take j).map Value.string) rfl HO2.out (.slice (some ⟨w1.heap.size, 0, none⟩) 1 1) 1 [.string X] rfl HSb.out ?twob b63 bby bsz ?grow2b)
                case twob => (intro u hu; simp at hu; subst hu; rfl)
                case grow2b =>
                  intro v2 w2 h2 h3 h4
                  obtain ⟨p2, n2, c2, rfl⟩ := slice_of h2
                  have hK : Below Wd.heap.size Wd (w1.alloc (.cells #[.string X] 9)) := K1.out.alloc K1.out.size _
                  have K2 : Hid (Below Wd.heap.size Wd w2) := hK.grown h3 hK.size NE1.out
                  have B2 : Below w.heap.size w w2 := BW.trans (K2.out.mono BW.size)
                  have NE2 : Hid (∀ q, (Value.slice p2 n2 c2).ownBlock = some q → w.heap.size ≤ q) := fun q hq => (World.ownsRow.lt h2 q hq).1
                  have HO3 : Hid (w2.ownsRow w.heap.size 9 1 (.slice p2 n2 c2) (j + 1) ((M.take j ++ [X]).map Value.string)) := by
                    show World.ownsRow _ _ _ _ _ _ _
                    simpa using h2
                  have S2b : Hid (Src w2 1 (Value.slice (some ⟨g, 0, none⟩) 0 0) (k - j) ((M.drop j).map Value.string)) := by
                      have e0 : k - j = 0 := by omega
                      rw [e0, List.drop_eq_nil_of_le (by have := hL.out; omega)]
                      exact Or.inl ⟨_, _, rfl, rfl, rfl⟩
                  have d63 : j + 1 + (k - j) ≤ maxLen := by unfold maxLen; omega
                  have dby : (j + 1 + (k - j)) * 16 ≤ 140737488355328 := by omega
                  have dsz : w.heap.size ≤ w2.heap.size := B2.size
                  clear h2 h3 h4 q2 HO2 HSb hK S1b K1 K2 NE1 B1 b63 bby bsz a63b abyb aszb
                  go_wp2_with (at_builtin; refine wpList_append_src rfl (.tmp 42) (.tmp 45) 22 rfl w.heap.size 9 i0 _ 1 16 Tryz.underlying22 hi hz0 hz1 hz2 rfl (by decide) (.slice p2 n2 c2) (j + 1) ((M.take j ++ [X]).map Value.string) rfl HO3.out (Value.slice (some ⟨g, 0, none⟩) 0 0) (k - j) ((M.drop j).map Value.string) rfl S2b.out ?threeb d63 dby dsz ?grow3b)
                  case threeb => (intro u hu; first | (obtain ⟨x, -, rfl⟩ := List.mem_map.1 hu; rfl) | (obtain ⟨x, -, rfl⟩ := List.mem_map.1 (List.mem_of_mem_take hu); rfl) | (obtain ⟨x, -, rfl⟩ := List.mem_map.1 (List.mem_of_mem_drop hu); rfl))
                  case grow3b =>
                    intro v3 w3 h2 h3 h4
                    have B3 : Below w.heap.size w w3 := B2.grown h3 dsz NE2.out
                    have O3 : Hid (OwnS w.heap.size v3 (madeS (vs.take (k + 1))) w3) := by
                      show OwnS _ _ _ _
                      rw [hM.out, hP.out]
                      unfold OwnS
                      have e1 : (M.take j ++ [X] ++ M.drop j).length = j + 1 + (k - j) := by have := hL.out; simp; omega
                      rw [e1]
                      first | (simpa using h2; done) | (rw [show j + 1 + (k - j) = j + 1 by omega]; simpa using h2)
                    clear h2 h3 h4 HO3 S2b d63 dby NE2
                    go_wp2
                    exact ⟨⟨k + 1, by omega, by go_num, O3, B3⟩, by simp [intOf]; omega⟩
            · skip
              have S1c : Hid (Src Wd 1 (Value.slice (some ⟨g, 0, none⟩) j cap) j ((M.take j).map Value.string)) := by
                have h := src_strs (strs_sub (j := 0) (m := j) (c := cap) (n := 0) gW cM.out (by have := hL.out; omega))
                rw [List.drop_zero, List.length_take, Nat.min_eq_left (by have := hL.out; omega)] at h
                exact h
              have a63c : 0 + j ≤ maxLen := by unfold maxLen; omega
              have abyc : (0 + j) * 16 ≤ 140737488355328 := by omega
              have aszc : w.heap.size ≤ Wd.heap.size := BW.size
              go_wp2_with (at_builtin; refine wpList_append_src rfl (.tmp 30) (.tmp 33) 22 rfl w.heap.size 9 i0 _ 1 16 Tryz.underlying22 hi hz0 hz1 hz2 rfl (by decide) (.slice none 0 0) 0 [] rfl (World.ownsRow_nil _ _ _ _) (Value.slice (some ⟨g, 0, none⟩) j cap) j ((M.take j).map Value.string) rfl S1c.out ?onec a63c abyc aszc ?growc)
              case onec => (intro u hu; first | (obtain ⟨x, -, rfl⟩ := List.mem_map.1 hu; rfl) | (obtain ⟨x, -, rfl⟩ := List.mem_map.1 (List.mem_of_mem_take hu); rfl) | (obtain ⟨x, -, rfl⟩ := List.mem_map.1 (List.mem_of_mem_drop hu); rfl))
              case growc =>
                intro v1 w1 h2 h3 h4
                obtain ⟨p1, n1, c1, rfl⟩ := slice_of h2
                have B1 : Below w.heap.size w w1 := BW.grown h3 BW.size (fun q hq => by cases hq)
                have NE1 : Hid (∀ q, (Value.slice p1 n1 c1).ownBlock = some q → Wd.heap.size ≤ q) := fun q hq => by
                  rcases h4 with h4 | h4
                  · rw [h4] at hq; cases hq
                  · rw [h4] at hq; injection hq with hq; omega
                have K1 : Hid (Below Wd.heap.size Wd w1) := (Below.refl _ _).grown h3 (Nat.le_refl _) (fun q hq => by cases hq)
                have q2 : w1.cell? ⟨bv, ov + k, none⟩ = some (.string X) := (B1.cell (p := ⟨bv, ov + k, none⟩) hbv).trans HX.out
                have HO2 : Hid ((w1.alloc (.cells #[.string X] 9)).ownsRow w.heap.size 9 1 (.slice p1 n1 c1) j ((M.take j).map Value.string)) := by
                  have h := World.ownsRow.alloc h2 (.cells #[.string X] 9)
                  show World.ownsRow _ _ _ _ _ _ _
                  simpa using h
                have HSb : Hid (Src (w1.alloc (.cells #[.string X] 9)) 1 (.slice (some ⟨w1.heap.size, 0, none⟩) 1 1) 1 [.string X]) := Or.inr ⟨_, 1, rfl, rfl, fun i x hj => by
                  rw [Addr.add_lit, Nat.zero_add]
                  exact cell_of_heap (heap_alloc w1 _) i (by simpa using hj)⟩
                have b63 : j + 1 ≤ maxLen := by unfold maxLen; omega
                have bby : (j + 1) * 16 ≤ 140737488355328 := by omega
                have bsz : w.heap.size ≤ (w1.alloc (.cells #[.string X] 9)).heap.size := by simp; have := B1.size; omega
                clear h2 h3 h4
                go_wp2_with (at_builtin; refine wpList_append_src rfl (.tmp 35) (.tmp 40) 22 rfl w.heap.size 9 i0 _ 1 16 Tryz.underlying22 hi hz0 hz1 hz2 rfl (by decide) (.slice p1 n1 c1) j ((M.take j).map Value.string) rfl HO2.out (.slice (some ⟨w1.heap.size, 0, none⟩) 1 1) 1 [.string X] rfl HSb.out ?twoc b63 bby bsz ?grow2c)
                case twoc => (intro u hu; simp at hu; subst hu; rfl)
                case grow2c =>
                  intro v2 w2 h2 h3 h4
                  obtain ⟨p2, n2, c2, rfl⟩ := slice_of h2
                  have hK : Below Wd.heap.size Wd (w1.alloc (.cells #[.string X] 9)) := K1.out.alloc K1.out.size _
                  have K2 : Hid (Below Wd.heap.size Wd w2) := hK.grown h3 hK.size NE1.out
                  have B2 : Below w.heap.size w w2 := BW.trans (K2.out.mono BW.size)
                  have NE2 : Hid (∀ q, (Value.slice p2 n2 c2).ownBlock = some q → w.heap.size ≤ q) := fun q hq => (World.ownsRow.lt h2 q hq).1
                  have HO3 : Hid (w2.ownsRow w.heap.size 9 1 (.slice p2 n2 c2) (j + 1) ((M.take j ++ [X]).map Value.string)) := by
                    show World.ownsRow _ _ _ _ _ _ _
                    simpa using h2
                  have S2c : Hid (Src w2 1 (Value.slice (some ⟨g, j, none⟩) 0 (cap - j)) (k - j) ((M.drop j).map Value.string)) := by
                      have e0 : k - j = 0 := by omega
                      rw [e0, List.drop_eq_nil_of_le (by have := hL.out; omega)]
                      exact Or.inl ⟨_, _, rfl, rfl, rfl⟩
                  have d63 : j + 1 + (k - j) ≤ maxLen := by unfold maxLen; omega
                  have dby : (j + 1 + (k - j)) * 16 ≤ 140737488355328 := by omega
                  have dsz : w.heap.size ≤ w2.heap.size := B2.size
                  clear h2 h3 h4 q2 HO2 HSb hK S1c K1 K2 NE1 B1 b63 bby bsz a63c abyc aszc
                  go_wp2_with (at_builtin; refine wpList_append_src rfl (.tmp 42) (.tmp 45) 22 rfl w.heap.size 9 i0 _ 1 16 Tryz.underlying22 hi hz0 hz1 hz2 rfl (by decide) (.slice p2 n2 c2) (j + 1) ((M.take j ++ [X]).map Value.string) rfl HO3.out (Value.slice (some ⟨g, j, none⟩) 0 (cap - j)) (k - j) ((M.drop j).map Value.string) rfl S2c.out ?threec d63 dby dsz ?grow3c)
                  case threec => (intro u hu; first | (obtain ⟨x, -, rfl⟩ := List.mem_map.1 hu; rfl) | (obtain ⟨x, -, rfl⟩ := List.mem_map.1 (List.mem_of_mem_take hu); rfl) | (obtain ⟨x, -, rfl⟩ := List.mem_map.1 (List.mem_of_mem_drop hu); rfl))
                  case grow3c =>
                    intro v3 w3 h2 h3 h4
                    have B3 : Below w.heap.size w w3 := B2.grown h3 dsz NE2.out
                    have O3 : Hid (OwnS w.heap.size v3 (madeS (vs.take (k + 1))) w3) := by
                      show OwnS _ _ _ _
                      rw [hM.out, hP.out]
                      unfold OwnS
                      have e1 : (M.take j ++ [X] ++ M.drop j).length = j + 1 + (k - j) := by have := hL.out; simp; omega
                      rw [e1]
                      first | (simpa using h2; done) | (rw [show j + 1 + (k - j) = j + 1 by omega]; simpa using h2)
                    clear h2 h3 h4 HO3 S2c d63 dby NE2
                    go_wp2
                    exact ⟨⟨k + 1, by omega, by go_num, O3, B3⟩, by simp [intOf]; omega⟩
    · have c2 : ¬ (k : Int) < n := by omega
      have O3 : Hid (OwnS w.heap.size u3 (madeS vs) wr) := by
        have h := HO.out
        rwa [List.take_of_length_le (by have := en.out; omega)] at h
      go_wp2
      go_ret
      exact ⟨_, rfl, O3.out, hB⟩

end Go.Proofs.YteipohpfaofchabGreat

namespace Go.Proofs.YteipohpfaofchabGreat
open Go.RowKit Go.Shelf Go.Sort
set_option linter.unusedVariables false

/-- What else is the call's own stands while a row is put behind rows. -/
theorem keep_arr {T : Nat} {x u b A b' : Value} {zs : List Value} {B e size n : Nat} {v : Value} {xs : List Value} {wx w2 : World} (h : wx.ownsRow B e size v n xs) (hb : wx.ownsRow T 40 1 b zs.length zs) (h3 : (wx.alloc (.cells #[x] 40)).grownBy w2 b.ownBlock)
    (T3 : w2.heap[T]? = some (.cells #[A, b'] 25 (0, 0))) (n1 : e ≠ 40) (n2 : e ≠ 25) : (w2.setCell ⟨T, 1, none⟩ u).ownsRow B e size v n xs := by
  have a1 := World.ownsRow.alloc h (.cells #[x] 40)
  have a2 := World.ownsRow.kept a1 h3 (own_ne2 a1 (World.ownsRow.alloc hb _) n1)
  exact World.ownsRow.kept a2 (grownBy_setCell w2 T 1 u) (Or.inr (own_ne a2 T3 n2))

set_option maxRecDepth 100000 in
set_option maxHeartbeats 8000000 in
theorem copied_any {V R : Value} {vs : List ByteArray} {rs : List (List Val)} {w : World} (hV : StrsAt w V vs) (hA : TabRows w R rs) (bv : vs.length * 16 ≤ 140737488355328) (br : rs.length * 24 ≤ 140737488355328) (bs : ∀ r ∈ rs, r.length * 40 ≤ 140737488355328) :
    Calls Tryz.prog 8 #[.agg #[V, R]] w fun e w' => ∃ t, e = .returned t ∧ OwnT w.heap.size t vs rs w' ∧ Below w.heap.size w w' := by
  have HS : Hid (∀ W, Below w.heap.size w W → Src W 1 V vs.length (vs.map Value.string)) := fun W hW => src_strs (hV.below hW)
  obtain ⟨p, cv, rfl⟩ := hV.form
  obtain ⟨q, c, rfl, HX0⟩ := hA.form
  have HX : Hid (∀ k (hk : k < rs.length), ∃ b off u, q = some ⟨b, off, none⟩ ∧ b < w.heap.size ∧ w.cell? ⟨b, off + k, none⟩ = some u ∧ RowAt w u rs[k]) := HX0
  have SX : Hid (∀ r ∈ rs, r.length * 40 ≤ 140737488355328) := bs
  obtain ⟨n, en⟩ : ∃ n : Nat, Hid (rs.length = n) := ⟨_, rfl⟩
  obtain ⟨m, em⟩ : ∃ m : Nat, Hid (vs.length = m) := ⟨_, rfl⟩
  rw [en.out] at br ⊢
  rw [em.out] at bv HS ⊢
  clear hA hV HX0 bs
  go_enter Tryz.func8, Tryz.ntmps8
  obtain ⟨i0, hi, hz0, hz1, hz2⟩ := info_parts inS
  go_upto_region 1 with fail
  refine wp_world ?_
  intro w7 h7
  have VT : Hid (Var w7 w.heap.size (.slice p m cv) (.slice q n c)) := by
    rw [h7]
    exact (Var.made w _ _).below ((Below.refl _ _).alloc (Nat.le_refl _) _)
  have VR : Hid (Var w7 (w.heap.size + 1) (.slice none 0 0) (.slice none 0 0)) := by
    rw [h7]
    have h := Var.made (w.alloc (.cells #[.slice p m cv, .slice q n c] 25)) (.slice none 0 0) (.slice none 0 0)
    exact at_size (P := fun g => Var _ g _ _) h (by simp)
  have K7 : Below w.heap.size w w7 := by rw [h7]; go_grown
  have Z7 : Hid (w7.heap.size = w.heap.size + 2) := by rw [h7]; show _ = _; simp
  clear h7
  go_upto_region 2 with fail
  refine wp_world ?_
  intro W0 hW0
  have VO : Hid (Var W0 w7.heap.size (.slice none 0 0) (.slice none 0 0)) := by
    rw [hW0]
    exact Var.made _ _ _
  have K0 : Below w7.heap.size w7 W0 := by rw [hW0]; go_grown
  clear hW0
  have KK0 : Hid (Below w.heap.size w W0) := K7.trans (K0.mono K7.size)
  have a0 := (VT.out.below K0).c0
  have o0 := VO.out.c0
  have hK := K0.size
  have h63 : 0 + m ≤ maxLen := by unfold maxLen; omega
  have hby : (0 + m) * 16 ≤ 140737488355328 := by omega
  go_wp2_with (at_builtin; refine wpList_append_src rfl (.tmp 7) (.tmp 9) 22 rfl w7.heap.size 9 i0 _ 1 16 Tryz.underlying22 hi hz0 hz1 hz2 rfl (by decide) (.slice none 0 0) 0 [] rfl (World.ownsRow_nil _ _ _ _) (.slice p m cv) m (vs.map Value.string) rfl (HS.out _ KK0.out) ?one h63 hby hK ?grow)
  case one => (intro u hu; obtain ⟨x, -, rfl⟩ := List.mem_map.1 hu; rfl)
  case grow =>
    intro v' w3 h2 h3 h4
    obtain ⟨pA, nA, cA, rfl⟩ := slice_of h2
    have T3 : w3.heap[w7.heap.size]? = some (.cells #[.slice none 0 0, .slice none 0 0] 25 (0, 0)) := (h3.block _ (Array.getElem?_eq_some_iff.1 VO.out).1 (fun e => by cases e)).trans VO.out
    have x0 := cell_of_heap T3 0 rfl
    have f0 := frozen_of_heap T3 0
    have hg := grownBy_setCell w3 w7.heap.size 0 (.slice pA nA cA)
    have T1 : Hid ((w3.setCell ⟨w7.heap.size, 0, none⟩ (.slice pA nA cA)).heap[w7.heap.size]? = some (.cells #[.slice pA nA cA, .slice none 0 0] 25 (0, 0))) := by
      show _ = _
      rw [setCell_eq]
      show (w3.heap.modify _ _)[_]? = _
      rw [Array.getElem?_modify, if_pos rfl, T3]
      rfl
    have S1 : Hid (OwnS w7.heap.size (.slice pA nA cA) vs (w3.setCell ⟨w7.heap.size, 0, none⟩ (.slice pA nA cA))) := by
      have h := World.ownsRow.kept h2 hg (Or.inr (own_ne h2 T3 (by decide)))
      show World.ownsRow _ _ _ _ _ _ _
      rw [em.out]
      simpa using h
    have B1 : Hid (Below w7.heap.size w7 (w3.setCell ⟨w7.heap.size, 0, none⟩ (.slice pA nA cA))) := by
      have b2 := K0.grown h3 hK (fun q hq => by cases hq)
      exact b2.grown hg b2.size (fun q hq => by injection hq with hq; omega)
    clear h2 h3 h4 hg T3 a0 o0 hK h63 hby VO K0 KK0 HS i0 hi hz0 hz1 hz2
    obtain ⟨i0, hi, hz0, hz1, hz2⟩ := info_parts inR
    obtain ⟨i1, hi', hy0, hy1, hy2⟩ := info_parts inV
    go_wp2
    clear x0 f0
    generalize w3.setCell ⟨w7.heap.size, 0, none⟩ (.slice pA nA cA) = W1 at T1 S1 B1 ⊢
    go_loopw [4] (fun v wr => ∃ i : Nat, i ≤ n ∧ v = .int .i64 i ∧ Hid (∃ b zs, wr.heap[w7.heap.size]? = some (.cells #[.slice pA nA cA, b] 25 (0, 0)) ∧ wr.ownsRow w7.heap.size 40 1 b zs.length zs ∧ OwnRs w7.heap.size zs (rs.take i) wr ∧ Below w7.heap.size w7 wr) ∧ Hid (OwnS w7.heap.size (.slice pA nA cA) vs wr)) (fun v _ => n - (intOf v).toNat)
    case atStart => exact ⟨0, Nat.zero_le _, rfl, ⟨.slice none 0 0, [], T1.out, World.ownsRow_nil _ _ _ _, OwnRs.nil _ _, B1.out⟩, S1⟩
    case round =>
      obtain ⟨i, hk, rfl, hI, hS⟩ := hrel
      obtain ⟨b, zs, hT, hob, hrs, hB⟩ := hI.out
      obtain ⟨pb, nb, cb, rfl⟩ := slice_of hob
      have KW : Below w.heap.size w wr := K7.trans (hB.mono K7.size)
      have VW : Hid (Var wr w.heap.size (.slice p m cv) (.slice q n c)) := VT.out.below hB
      have a1 := VW.out.c1
      by_cases hlt : i < n
      · have kx : i < rs.length := by have := en.out; omega
        obtain ⟨bx, off, v, rfl, hbx, x1, x2⟩ := HX.out i kx
        have q1 := (KW.cell (p := ⟨bx, off + i, none⟩) hbx).trans x1
        have l1 := SX.out rs[i] (List.getElem_mem kx)
        have hstep : Hid (rs.take (i + 1) = rs.take i ++ [rs[i]]) := List.take_succ_eq_append_getElem kx
        have X0 : Hid (Src wr 4 v rs[i].length (flat rs[i])) := src_row (x2.below KW)
        obtain ⟨pu, cu, rfl⟩ := x2.form
        generalize rs[i] = r at *
        clear x1 x2
        have h63 : 0 + r.length ≤ maxLen := by unfold maxLen; omega
        have hby : (0 + r.length) * 40 ≤ 140737488355328 := by omega
        have hT1 : Hid (wr.heap[w7.heap.size]? = some (.cells #[.slice pA nA cA, .slice pb nb cb] 25 (0, 0))) := hT
        have hob1 : Hid (wr.ownsRow w7.heap.size 40 1 (.slice pb nb cb) zs.length zs) := hob
        have hrs1 : Hid (OwnRs w7.heap.size zs (rs.take i) wr) := hrs
        have hB1 : Hid (Below w7.heap.size w7 wr) := hB
        clear hT hob hrs hB hI
        go_upto_region 7 with fail
        go_wp2_with (at_builtin; refine wpList_append_src rfl (.tmp 19) (.tmp 24) 40 rfl wr.heap.size 57 i1 _ 4 40 Tryz.underlying40 hi' hy0 hy1 hy2 rfl (by decide) (.slice none 0 0) 0 [] rfl (World.ownsRow_nil _ _ _ _) (.slice pu r.length cu) r.length (flat r) rfl X0.out (flat_one r) h63 hby (Nat.le_refl _) ?grow)
        case grow =>
          intro v' w4 h2 h3 h4
          obtain ⟨px, nx, cx, rfl⟩ := slice_of h2
          have HX1 : Hid (OwnV wr.heap.size (.slice px nx cx) r w4) := by
            show World.ownsRow _ _ _ _ _ _ _
            simpa using h2
          have HW1 : Hid (Below wr.heap.size wr w4) := (Below.refl _ _).grown h3 (Nat.le_refl _) (fun q hq => by cases hq)
          have hTl : w7.heap.size < wr.heap.size := (Array.getElem?_eq_some_iff.1 hT1.out).1
          have HT2 : Hid (w4.heap[w7.heap.size]? = some (.cells #[.slice pA nA cA, .slice pb nb cb] 25 (0, 0))) := (HW1.out.block _ hTl).trans hT1.out
          have HOB2 : Hid (w4.ownsRow w7.heap.size 40 1 (.slice pb nb cb) zs.length zs) := own_below hob1.out HW1.out
          have HS2 : Hid (OwnS w7.heap.size (.slice pA nA cA) vs w4) := own_below hS.out HW1.out
          have hzl : zs.length = i := by
            have h1 := hrs1.out.1
            rw [List.length_take, en.out] at h1
            omega
          have hz63 : zs.length + 1 ≤ maxLen := by unfold maxLen; omega
          have hzby : (zs.length + 1) * 24 ≤ 140737488355328 := by omega
          have HZL : Hid (zs.length = i) := hzl
          have o1 := cell_of_heap HT2.out 1 rfl
          have hsz4 : w7.heap.size ≤ (w4.alloc (.cells #[.slice px nx cx] 40)).heap.size := by simp; have := HW1.out.size; omega
          have HSRC : Hid (Src (w4.alloc (.cells #[.slice px nx cx] 40)) 1 (.slice (some ⟨w4.heap.size, 0, none⟩) 1 1) 1 [.slice px nx cx]) := Or.inr ⟨_, 1, rfl, rfl, fun j x hj => by
            rw [Addr.add_lit, Nat.zero_add]
            exact cell_of_heap (heap_alloc w4 _) j (by simpa using hj)⟩
          have HO4 : Hid ((w4.alloc (.cells #[.slice px nx cx] 40)).ownsRow w7.heap.size 40 1 (.slice pb nb cb) zs.length zs) := World.ownsRow.alloc HOB2.out _
          clear h2 h3 h4 hzl h63 hby a1 q1 X0 l1
          go_upto_region 8 with fail
          go_wp2_with (at_builtin; refine wpList_append_src rfl (.tmp 27) (.tmp 29) 23 rfl w7.heap.size 40 i0 _ 1 24 Tryz.underlying23 hi hz0 hz1 hz2 rfl (by decide) (.slice pb nb cb) zs.length zs rfl HO4.out (.slice (some ⟨w4.heap.size, 0, none⟩) 1 1) 1 [.slice px nx cx] rfl HSRC.out ?one2 hz63 hzby hsz4 ?grow2)
          case one2 => (intro u hu; simp at hu; subst hu; rfl)
          case grow2 =>
            intro v2 w5 h5 h6 h7
            obtain ⟨pv, nv, cv2, T3, t3, f3, W3, rfl⟩ := arr_step2 px nx cx pb nb cb (.slice pA nA cA) zs v2 r (rs.take i) wr w7 w4 w5 hTl HT2.out HOB2.out hrs1.out hB1.out HW1.out HX1.out h5 h6
            have S3 : Hid (OwnS w7.heap.size (.slice pA nA cA) vs (w5.setCell ⟨w7.heap.size, 1, none⟩ (.slice pv nv cv2))) := keep_arr HS2.out HOB2.out h6 T3 (by decide) (by decide)
            rw [← hstep.out] at W3
            clear h5 h6 h7 T3 HX1 HOB2 HT2 HS2 HSRC HO4 o1 hsz4
            go_wp2
            exact ⟨⟨i + 1, by omega, by go_num, W3, S3⟩, by simp [intOf]; omega⟩
      · have c2 : ¬ (i : Int) < n := by omega
        have ei : rs.take i = rs := List.take_of_length_le (by have := en.out; omega)
        rw [ei] at hrs
        have g1 : w.heap.size + 1 < w7.heap.size := by have := Z7.out; omega
        have HT : Hid (OwnT w7.heap.size (.agg #[.slice pA nA cA, .slice pb nb cb]) vs rs wr) := ⟨_, _, zs, rfl, hS.out, hob, hrs⟩
        have VRW := VR.out.below hB
        have VOW : Var wr w7.heap.size (.slice pA nA cA) (.slice pb nb cb) := hT
        have o0 := VOW.c0
        have o1 := VOW.c1
        have r0 := VRW.c0
        have r1 := VRW.c1
        have f0 := frozen_of_heap VRW 0
        have f1 := frozen_of_heap VRW 1
        have y0 : (wr.setCell ⟨w.heap.size + 1, 0, none⟩ (.slice pA nA cA)).cell? ⟨w.heap.size + 1, 0, none⟩ = some (.slice pA nA cA) := set_same r0
        have y1 : ((wr.setCell ⟨w.heap.size + 1, 0, none⟩ (.slice pA nA cA)).setCell ⟨w.heap.size + 1, 1, none⟩ (.slice pb nb cb)).cell? ⟨w.heap.size + 1, 1, none⟩ = some (.slice pb nb cb) := set_same ((set_other (by simp)).trans r1)
        have HSET : Hid (Below w.heap.size w ((wr.setCell ⟨w.heap.size + 1, 0, none⟩ (.slice pA nA cA)).setCell ⟨w.heap.size + 1, 1, none⟩ (.slice pb nb cb))) := by
          have b2 := KW.grown (grownBy_setCell wr (w.heap.size + 1) 0 (.slice pA nA cA)) KW.size (fun q hq => by injection hq with hq; omega)
          exact b2.grown (grownBy_setCell _ (w.heap.size + 1) 1 (.slice pb nb cb)) b2.size (fun q hq => by injection hq with hq; omega)
        have hle : w.heap.size ≤ w7.heap.size := K7.size
        clear hI hS hob hrs hB hT VRW VOW
        go_wp2
        (try simp only [Exit.inBlock, Exit.then])
        refine bodyPost_ret (by simp [results, Tryz.results8, go_sem, y0, y1]; try rfl) rfl ?_
        exact ⟨_, rfl, ((HT.out.set g1).set g1).base hle, HSET.out⟩

end Go.Proofs.YteipohpfaofchabGreat

namespace Go.Proofs.YteipohpfaofchabGreat
open Go.RowKit Go.Shelf Go.Sort
set_option linter.unusedVariables false

theorem mem_putP {y : Value × List Val} : ∀ {l : List (Value × List Val)} {x}, x ∈ putP y l → x = y ∨ x ∈ l
  | [], x, h => by simp [putP] at h; exact Or.inl h
  | a :: l, x, h => by
    unfold putP at h
    split at h
    · rcases List.mem_cons.1 h with h | h
      · exact Or.inl h
      · exact Or.inr h
    · split at h
      · exact Or.inr h
      · rcases List.mem_cons.1 h with rfl | h
        · exact Or.inr (List.mem_cons_self ..)
        · rcases mem_putP h with h | h
          · exact Or.inl h
          · exact Or.inr (List.mem_cons_of_mem _ h)
theorem putR_len (r : List Val) : ∀ l, (putR r l).length ≤ l.length + 1
  | [] => by simp [putR]
  | x :: l => by
    have ih := putR_len r l
    unfold putR
    split
    · simp
    · split
      · simp
      · simp; omega
theorem madeR_snoc (rs : List (List Val)) (x : List Val) : madeR (rs ++ [x]) = putR x (madeR rs) := by
  unfold madeR
  rw [List.foldl_append]
  rfl
theorem madeR_len (rs : List (List Val)) : (madeR rs).length ≤ rs.length := by
  have : ∀ (rs l : List (List Val)), (rs.foldl (fun l r => putR r l) l).length ≤ l.length + rs.length := by
    intro rs
    induction rs with
    | nil => intro l; simp
    | cons x rs ih =>
      intro l
      have h1 := ih (putR x l)
      have h2 := putR_len x l
      rw [List.foldl_cons, List.length_cons]
      omega
  have h := this rs []
  simpa [madeR] using h
/-- Rows and where each lies, all of the call's own. -/
def OwnG (B : Nat) (b : Value) (G : List (Value × List Val)) (w : World) : Prop := w.ownsRow B 40 1 b G.length (G.map (·.1)) ∧ ∀ x ∈ G, OwnV B x.1 x.2 w
theorem OwnG.rs {B : Nat} {b : Value} {G : List (Value × List Val)} {w : World} (h : OwnG B b G w) : OwnRs B (G.map (·.1)) (G.map (·.2)) w := by
  refine ⟨by simp, fun i h1 h2 => ?_⟩
  rw [List.getElem_map, List.getElem_map]
  exact h.2 _ (List.getElem_mem _)
theorem OwnG.tab {B : Nat} {a b : Value} {vs : List ByteArray} {G : List (Value × List Val)} {w : World} (h : OwnG B b G w) (hs : OwnS B a vs w) : OwnT B (.agg #[a, b]) vs (G.map (·.2)) w := by
  refine ⟨a, b, G.map (·.1), rfl, hs, ?_, h.rs⟩
  have := h.1
  rwa [← List.length_map (f := (·.1))] at this

set_option maxRecDepth 100000 in
set_option maxHeartbeats 8000000 in
theorem dmade_any {V R : Value} {vs : List ByteArray} {rs : List (List Val)} {w : World} (hV : StrsAt w V vs) (hn : vs.Nodup) (lv : vs.length ≤ 8) (hA : TabRows w R rs) (hl : ∀ r ∈ rs, r.length = vs.length ∧ okR r) (lr : rs.length ≤ 5864062014805) :
    Calls Tryz.prog 43 #[V, R] w fun e w' => ∃ t, e = .returned t ∧ OwnT w.heap.size t (madeS vs) (ofRows vs rs) w' ∧ Below w.heap.size w w' := by
  have RIS : Hid (∀ W, Below w.heap.size w W → Calls Tryz.prog 75 #[V] W fun e w' => ∃ v, e = .returned v ∧ OwnS W.heap.size v (madeS vs) w' ∧ Below W.heap.size W w') := fun W hW => drising_any (hV.below hW) (by omega)
  have PIC : Hid (∀ W Y U (ys : List Val), Below w.heap.size w W → RowAt W Y ys → ys.length = vs.length → StrsAt W U (madeS vs) → Calls Tryz.prog 72 #[V, Y, U] W fun e w' => ∃ v, e = .returned v ∧ OwnV W.heap.size v (picks ys (colsAt vs (madeS vs))) w' ∧ Below W.heap.size W w') := fun W Y U ys hW hY hy hU => by
    refine dpicked_any (hV.below hW) hY hU (by omega) (by omega) (by rw [madeS_len]; omega) (fun x hx => ?_) (by omega)
    have := (Lib.idxOfS_nonneg_iff vs x).2 ((mem_madeS hn x).1 hx)
    omega
  obtain ⟨pv, cv, rfl⟩ := hV.form
  obtain ⟨q, c, rfl, HX0⟩ := hA.form
  have HX : Hid (∀ k (hk : k < rs.length), ∃ b off u, q = some ⟨b, off, none⟩ ∧ b < w.heap.size ∧ w.cell? ⟨b, off + k, none⟩ = some u ∧ RowAt w u rs[k]) := HX0
  have HL : Hid (∀ r ∈ rs, r.length = vs.length ∧ okR r) := hl
  have LV : Hid (vs.length ≤ 8) := lv
  obtain ⟨n, en⟩ : ∃ n : Nat, Hid (rs.length = n) := ⟨_, rfl⟩
  rw [en.out] at lr ⊢
  clear hA hV HX0 hl lv hn
  obtain ⟨m, em⟩ : ∃ m : Nat, Hid (vs.length = m) := ⟨_, rfl⟩
  rw [em.out] at RIS PIC ⊢
  go_enter Tryz.func43, Tryz.ntmps43
  go_upto_region 1 with fail
  refine wp_world ?_
  intro w7 h7
  have VR : Hid (Var w7 w.heap.size (.slice none 0 0) (.slice none 0 0)) := by
    rw [h7]
    exact Var.made w _ _
  have K7 : Below w.heap.size w w7 := by rw [h7]; go_grown
  have Z7 : Hid (w7.heap.size = w.heap.size + 1) := by rw [h7]; show _ = _; simp
  clear h7
  go_upto_region 2 with fail
  refine wp_world ?_
  intro W0 hW0
  have VO : Hid (Var W0 w7.heap.size (.slice none 0 0) (.slice none 0 0)) := by
    rw [hW0]
    exact Var.made _ _ _
  have K0 : Below w7.heap.size w7 W0 := by rw [hW0]; go_grown
  clear hW0
  have KK0 : Below w.heap.size w W0 := K7.trans (K0.mono K7.size)
  go_wp2_with fail
  refine (RIS.out W0 KK0).mono ?_
  rintro e w3 ⟨A, rfl, oA, hb3⟩
  obtain ⟨pA, nA, cA, rfl⟩ := slice_of oA
  have T3 : w3.heap[w7.heap.size]? = some (.cells #[.slice none 0 0, .slice none 0 0] 25 (0, 0)) := (hb3.block _ (Array.getElem?_eq_some_iff.1 VO.out).1).trans VO.out
  have x0 := cell_of_heap T3 0 rfl
  have f0 := frozen_of_heap T3 0
  have hg := grownBy_setCell w3 w7.heap.size 0 (.slice pA nA cA)
  have T1 : Hid ((w3.setCell ⟨w7.heap.size, 0, none⟩ (.slice pA nA cA)).heap[w7.heap.size]? = some (.cells #[.slice pA nA cA, .slice none 0 0] 25 (0, 0))) := by
    show _ = _
    rw [setCell_eq]
    show (w3.heap.modify _ _)[_]? = _
    rw [Array.getElem?_modify, if_pos rfl, T3]
    rfl
  have S1 : Hid (OwnS w7.heap.size (.slice pA nA cA) (madeS vs) (w3.setCell ⟨w7.heap.size, 0, none⟩ (.slice pA nA cA))) := World.ownsRow.kept (own_base oA K0.size) hg (Or.inr (own_ne oA T3 (by decide)))
  have B1 : Hid (Below w7.heap.size w7 (w3.setCell ⟨w7.heap.size, 0, none⟩ (.slice pA nA cA))) := by
    have b2 := K0.trans (hb3.mono K0.size)
    exact b2.grown hg b2.size (fun q hq => by injection hq with hq; omega)
  clear hg T3 VO K0 KK0 hb3 oA RIS
  go_wp2
  clear x0 f0
  generalize w3.setCell ⟨w7.heap.size, 0, none⟩ (.slice pA nA cA) = W1 at T1 S1 B1 ⊢
  go_loopw [6] (fun v wr => ∃ i : Nat, i ≤ n ∧ v = .int .i64 i ∧ Hid (∃ b G, wr.heap[w7.heap.size]? = some (.cells #[.slice pA nA cA, b] 25 (0, 0)) ∧ OwnG w7.heap.size b G wr ∧ G.map (·.2) = madeR ((rs.take i).map fun r => picks r (colsAt vs (madeS vs))) ∧ Below w7.heap.size w7 wr) ∧ Hid (OwnS w7.heap.size (.slice pA nA cA) (madeS vs) wr)) (fun v _ => n - (intOf v).toNat)
  case atStart => exact ⟨0, Nat.zero_le _, rfl, ⟨.slice none 0 0, [], T1.out, ⟨World.ownsRow_nil _ _ _ _, by simp⟩, by simp [madeR], B1.out⟩, S1⟩
  case round =>
    obtain ⟨i, hk, rfl, hI, hS⟩ := hrel
    obtain ⟨b, G, hT, hG, hE, hB⟩ := hI.out
    obtain ⟨pb, nb, cb, rfl⟩ := slice_of hG.1
    have KW : Below w.heap.size w wr := K7.trans (hB.mono K7.size)
    by_cases hlt : i < n
    · have kx : i < rs.length := by have := en.out; omega
      obtain ⟨bx, off, U, rfl, hbx, x1, x2⟩ := HX.out i kx
      obtain ⟨l1, l2⟩ := HL.out rs[i] (List.getElem_mem kx)
      have hstep : Hid (rs.take (i + 1) = rs.take i ++ [rs[i]]) := List.take_succ_eq_append_getElem kx
      have x2w := x2.below KW
      have q1 := (KW.cell (p := ⟨bx, off + i, none⟩) hbx).trans x1
      have a0 := cell_of_heap hT 0 rfl
      generalize rs[i] = y at *
      obtain ⟨pu, cu, rfl⟩ := x2.form
      obtain ⟨ny, eny⟩ : ∃ ny : Nat, Hid (y.length = ny) := ⟨_, rfl⟩
      rw [eny.out] at x2w q1 x1 x2
      have ct : Hid (∀ W : World, Below wr.heap.size wr W → Calls Tryz.prog 72 #[.slice pv m cv, .slice pu ny cu, .slice pA nA cA] W fun e w' => ∃ v, e = .returned v ∧ OwnV wr.heap.size v (picks y (colsAt vs (madeS vs))) w' ∧ Below W.heap.size W w') := fun W hW => by
        refine (PIC.out W _ _ y (KW.trans (hW.mono KW.size)) (x2w.below hW) (l1.trans em.out) ((OwnS.strs hS.out).below hW)).mono ?_
        rintro e w' ⟨v, h1, h2, h3⟩
        exact ⟨v, h1, own_base h2 hW.size, h3⟩
      have hbr : bx < wr.heap.size := Nat.lt_of_lt_of_le hbx KW.size
      have htl : w7.heap.size < wr.heap.size := (Array.getElem?_eq_some_iff.1 hT).1
      have hT1 : Hid (wr.heap[w7.heap.size]? = some (.cells #[.slice pA nA cA, .slice pb nb cb] 25 (0, 0))) := hT
      have hG1 : Hid (OwnG w7.heap.size (.slice pb nb cb) G wr) := hG
      have hE1 : Hid (G.map (·.2) = madeR ((rs.take i).map fun r => picks r (colsAt vs (madeS vs)))) := hE
      have hB1 : Hid (Below w7.heap.size w7 wr) := hB
      have okX : Hid (okR (picks y (colsAt vs (madeS vs)))) := l2.picks _
      have okG : Hid (∀ x ∈ G, okR x.2) := fun x hx => by
        have h1 : x.2 ∈ G.map (·.2) := List.mem_map.2 ⟨x, hx, rfl⟩
        rw [hE] at h1
        refine madeR_ok (fun r hr => ?_) _ h1
        obtain ⟨z, hz, rfl⟩ := List.mem_map.1 hr
        exact ((HL.out z (List.mem_of_mem_take hz)).2).picks _
      have lenX : Hid ((picks y (colsAt vs (madeS vs))).length ≤ 8) := by
        have h1 : (picks y (colsAt vs (madeS vs))).length ≤ (colsAt vs (madeS vs)).length := List.length_filterMap_le _ _
        have h2 : (colsAt vs (madeS vs)).length = vs.length := by unfold colsAt; rw [List.length_map, madeS_len]
        have := LV.out
        show _ ≤ _
        omega
      have lenG : Hid (∀ x ∈ G, x.2.length ≤ 8) := fun x hx => by
        have h1 : x.2 ∈ G.map (·.2) := List.mem_map.2 ⟨x, hx, rfl⟩
        rw [hE] at h1
        have h2 := (mem_madeR (fun r hr => by
          obtain ⟨z, hz, rfl⟩ := List.mem_map.1 hr
          exact ((HL.out z (List.mem_of_mem_take hz)).2).picks _) x.2).1 h1
        obtain ⟨z, hz, e⟩ := List.mem_map.1 h2
        rw [← e]
        have h3 : (picks z (colsAt vs (madeS vs))).length ≤ (colsAt vs (madeS vs)).length := List.length_filterMap_le _ _
        have h4 : (colsAt vs (madeS vs)).length = vs.length := by unfold colsAt; rw [List.length_map, madeS_len]
        have := LV.out
        omega
      have lG : Hid (G.length + 1 ≤ 5864062014805) := by
        have h1 : G.length = (G.map (·.2)).length := by simp
        have h2 := madeR_len ((rs.take i).map fun r => picks r (colsAt vs (madeS vs)))
        rw [← hE] at h2
        simp only [List.length_map, List.length_take] at h1 h2
        have := en.out
        show _ ≤ _
        omega
      have hE2 : Hid (∀ X, (putP (X, picks y (colsAt vs (madeS vs))) G).map (·.2) = madeR ((rs.take (i + 1)).map fun r => picks r (colsAt vs (madeS vs)))) := fun X => by
        rw [putP_snd, hstep.out, List.map_append, List.map_cons, List.map_nil, madeR_snoc, hE]
      clear hT hG hE hB hI x1 x2 l1 l2 x2w hE1
      obtain ⟨z, ez⟩ : ∃ z, Hid (picks y (colsAt vs (madeS vs)) = z) := ⟨_, rfl⟩
      rw [ez.out] at ct okX lenX hE2
      have j0 : (0 : Int) ≤ (i : Int) := by omega
      have j1 : (i : Int) < (n : Int) := by omega
      go_upto_region 6 with fail
      go_region_held3 (fun w' => w'.cell? ⟨bx, off + i, none⟩ = some (.slice pu ny cu) ∧ w'.cell? ⟨w7.heap.size, 0, none⟩ = some (.slice pA nA cA))
        (exact ⟨bcl (n := wr.heap.size) (by go_grown) q1 hbr, bcl (n := wr.heap.size) (by go_grown) a0 htl⟩)
        (first
          | (go_at_call 72; refine (ct.out _ (by go_grown)).mono ?_; rintro e v1 ⟨X, rfl, oX, hv1⟩; obtain ⟨hw1, hn1⟩ := bg0 (n := wr.heap.size) (W0 := wr) (by go_grown) (by go_size) hv1; clear hv1))
      obtain ⟨px, nx, cx, rfl⟩ := slice_of oX
      have HB2 : Hid (Below wr.heap.size wr v1) := hw1
      have HX1 : Hid (OwnV wr.heap.size (.slice px nx cx) z v1) := oX
      have HT2 : Hid (v1.heap[w7.heap.size]? = some (.cells #[.slice pA nA cA, .slice pb nb cb] 25 (0, 0))) := (hw1.block _ htl).trans hT1.out
      have o1 := cell_of_heap HT2.out 1 rfl
      have HG2 : Hid (OwnG w7.heap.size (.slice pb nb cb) G v1) := ⟨own_below hG1.out.1 hw1, fun x hx => own_below (hG1.out.2 x hx) hw1⟩
      have HS2 : Hid (OwnS w7.heap.size (.slice pA nA cA) (madeS vs) v1) := own_below hS.out hw1
      have ct2 : Hid (Calls Tryz.prog 76 #[.slice pb nb cb, .slice px nx cx] v1 fun e w' => ∃ v, e = .returned v ∧ w'.ownsRow v1.heap.size 40 1 v (putP (.slice px nx cx, z) G).length ((putP (.slice px nx cx, z) G).map (·.1)) ∧ Below v1.heap.size v1 w') :=
        dput_any (vals_own HG2.out.1) (fun x hx => ⟨(HG2.out.2 x hx).row, fun v hv => (okG.out x hx v hv).2, by have := lenG.out x hx; omega⟩) HX1.out.row (fun v hv => (okX.out v hv).2) (by have := lenX.out; omega) lG.out
      clear oX hw1 ct q1 a0 hn1 hT1 hG1 hS
      go_wp2_with fail
      refine ct2.out.mono ?_
      rintro e w2 ⟨bb, rfl, ob, hb2⟩
      obtain ⟨pd, nd, cd, rfl⟩ := slice_of ob
      have hv1 : w7.heap.size < v1.heap.size := Nat.lt_of_lt_of_le htl HB2.out.size
      have HT4 : Hid (w2.heap[w7.heap.size]? = some (.cells #[.slice pA nA cA, .slice pb nb cb] 25 (0, 0))) := (hb2.block _ hv1).trans HT2.out
      have x1 := cell_of_heap HT4.out 1 rfl
      have f1 := frozen_of_heap HT4.out 1
      have hg := grownBy_setCell w2 w7.heap.size 1 (.slice pd nd cd)
      have T5 : (w2.setCell ⟨w7.heap.size, 1, none⟩ (.slice pd nd cd)).heap[w7.heap.size]? = some (.cells #[.slice pA nA cA, .slice pd nd cd] 25 (0, 0)) := by
        rw [setCell_eq]
        show (w2.heap.modify _ _)[_]? = _
        rw [Array.getElem?_modify, if_pos rfl, HT4.out]
        rfl
      have keep : ∀ {e size n : Nat} {v : Value} {xs : List Value}, w2.ownsRow w7.heap.size e size v n xs → e ≠ 25 → (w2.setCell ⟨w7.heap.size, 1, none⟩ (.slice pd nd cd)).ownsRow w7.heap.size e size v n xs := fun h hne => World.ownsRow.kept h hg (Or.inr (own_ne h HT4.out hne))
      have G5 : OwnG w7.heap.size (.slice pd nd cd) (putP (.slice px nx cx, z) G) (w2.setCell ⟨w7.heap.size, 1, none⟩ (.slice pd nd cd)) := by
        refine ⟨keep (own_base ob (Nat.le_of_lt hv1)) (by decide), fun x hx => ?_⟩
        rcases mem_putP hx with rfl | hx
        · exact keep (own_below (own_base HX1.out (Nat.le_of_lt htl)) hb2) (by decide)
        · exact keep (own_below (HG2.out.2 x hx) hb2) (by decide)
      have S5 : Hid (OwnS w7.heap.size (.slice pA nA cA) (madeS vs) (w2.setCell ⟨w7.heap.size, 1, none⟩ (.slice pd nd cd))) := keep (own_below HS2.out hb2) (by decide)
      have B5 : Below w7.heap.size w7 (w2.setCell ⟨w7.heap.size, 1, none⟩ (.slice pd nd cd)) := by
        have b1 := HB2.out.trans (hb2.mono HB2.out.size)
        have b2 := hB1.out.trans (b1.mono hB1.out.size)
        exact b2.grown hg b2.size (fun q hq => by injection hq with hq; omega)
      have I5 : Hid (∃ b G, (w2.setCell ⟨w7.heap.size, 1, none⟩ (.slice pd nd cd)).heap[w7.heap.size]? = some (.cells #[.slice pA nA cA, b] 25 (0, 0)) ∧ OwnG w7.heap.size b G (w2.setCell ⟨w7.heap.size, 1, none⟩ (.slice pd nd cd)) ∧ G.map (·.2) = madeR ((rs.take (i + 1)).map fun r => picks r (colsAt vs (madeS vs))) ∧ Below w7.heap.size w7 (w2.setCell ⟨w7.heap.size, 1, none⟩ (.slice pd nd cd))) := ⟨_, _, T5, G5, hE2.out _, B5⟩
      clear ct2 ob hb2 HX1 HG2 HS2 HT2 o1 hg T5 keep G5 B5 hE2 HT4 lG okX okG lenX lenG
      go_wp2
      exact ⟨⟨i + 1, by omega, by go_num, I5, S5⟩, by simp [intOf]; omega⟩
    · have c2 : ¬ (i : Int) < n := by omega
      have ei : rs.take i = rs := List.take_of_length_le (by have := en.out; omega)
      rw [ei] at hE
      have g1 : w.heap.size < w7.heap.size := by have := Z7.out; omega
      have HT : Hid (OwnT w7.heap.size (.agg #[.slice pA nA cA, .slice pb nb cb]) (madeS vs) (ofRows vs rs) wr) := by
        have h := hG.tab hS.out
        rwa [hE] at h
      have VRW := VR.out.below hB
      have VOW : Var wr w7.heap.size (.slice pA nA cA) (.slice pb nb cb) := hT
      have o0 := VOW.c0
      have o1 := VOW.c1
      have r0 := VRW.c0
      have r1 := VRW.c1
      have f0 := frozen_of_heap VRW 0
      have f1 := frozen_of_heap VRW 1
      have y0 : (wr.setCell ⟨w.heap.size, 0, none⟩ (.slice pA nA cA)).cell? ⟨w.heap.size, 0, none⟩ = some (.slice pA nA cA) := set_same r0
      have y1 : ((wr.setCell ⟨w.heap.size, 0, none⟩ (.slice pA nA cA)).setCell ⟨w.heap.size, 1, none⟩ (.slice pb nb cb)).cell? ⟨w.heap.size, 1, none⟩ = some (.slice pb nb cb) := set_same ((set_other (by simp)).trans r1)
      have HSET : Hid (Below w.heap.size w ((wr.setCell ⟨w.heap.size, 0, none⟩ (.slice pA nA cA)).setCell ⟨w.heap.size, 1, none⟩ (.slice pb nb cb))) := by
        have b2 := KW.grown (grownBy_setCell wr w.heap.size 0 (.slice pA nA cA)) KW.size (fun q hq => by injection hq with hq; omega)
        exact b2.grown (grownBy_setCell _ w.heap.size 1 (.slice pb nb cb)) b2.size (fun q hq => by injection hq with hq; omega)
      have hle : w.heap.size ≤ w7.heap.size := K7.size
      clear hI hS hG hB hT VRW VOW hE
      go_wp2
      (try simp only [Exit.inBlock, Exit.then])
      refine bodyPost_ret (by simp [results, Tryz.results43, go_sem, y0, y1]; try rfl) rfl ?_
      exact ⟨_, rfl, ((HT.out.set g1).set g1).base hle, HSET.out⟩

end Go.Proofs.YteipohpfaofchabGreat

namespace Go.Proofs.YteipohpfaofchabGreat
open Go.RowKit Go.Shelf Go.Sort
set_option linter.unusedVariables false

theorem OwnT.none (B : Nat) (w : World) : OwnT B (.agg #[.slice none 0 0, .slice none 0 0]) [] [] w := ⟨_, _, [], rfl, World.ownsRow_nil _ _ _ _, World.ownsRow_nil _ _ _ _, OwnRs.nil _ _⟩
/-- What is told together with an error: nothing, if there is one. -/
def TabO (B : Nat) (E : Int) (vs : List ByteArray) (L : List (List Val)) (t : Value) (w : World) : Prop := OwnT B t (if E = 0 then vs else []) (if E = 0 then L else []) w
theorem TabO.of {B : Nat} {E : Int} {vs : List ByteArray} {L : List (List Val)} {t : Value} {w : World} (h1 : E = 0 → OwnT B t vs L w) (h2 : E ≠ 0 → t = .agg #[.slice none 0 0, .slice none 0 0]) : TabO B E vs L t w := by
  unfold TabO
  by_cases h : E = 0
  · rw [if_pos h, if_pos h]; exact h1 h
  · rw [if_neg h, if_neg h, h2 h]; exact OwnT.none _ _
theorem own_forms2 {B : Nat} {t : Value} {vs : List ByteArray} {L : List (List Val)} {w : World} (h : OwnT B t vs L w) : ∃ p n c p' n' c', t = .agg #[.slice p n c, .slice p' n' c'] := by
  obtain ⟨p, c, p', c', e⟩ := own_forms h
  exact ⟨_, _, _, _, _, _, e⟩
theorem OwnT.grown {B : Nat} {t : Value} {vs : List ByteArray} {L : List (List Val)} {w w' : World} (h : OwnT B t vs L w) (hb : Below w.heap.size w w') : OwnT B t vs L w' := by
  obtain ⟨a, b, us, rfl, h1, h2, h3⟩ := h
  exact ⟨a, b, us, rfl, own_below h1 hb, own_below h2 hb, h3.below hb⟩
theorem TabO.grown {B : Nat} {E : Int} {vs : List ByteArray} {L : List (List Val)} {t : Value} {w w' : World} (h : TabO B E vs L t w) (hb : Below w.heap.size w w') : TabO B E vs L t w' := OwnT.grown h hb
/-- What a call tells: a table of its own and an error. -/
def TellsT (B : Nat) (E : Int) (vs : List ByteArray) (L : List (List Val)) (w0 : World) (e : Ending) (w : World) : Prop := ∃ pa na ca pb nb cb, e = .returned (.tuple #[.agg #[.slice pa na ca, .slice pb nb cb], .int .i64 E]) ∧ TabO B E vs L (.agg #[.slice pa na ca, .slice pb nb cb]) w ∧ Below B w0 w
theorem TellsT.of {B : Nat} {E : Int} {vs : List ByteArray} {L : List (List Val)} {w0 w : World} {t : Value} (h1 : E = 0 → OwnT B t vs L w) (h2 : E ≠ 0 → t = .agg #[.slice none 0 0, .slice none 0 0]) (hb : Below B w0 w) : TellsT B E vs L w0 (.returned (.tuple #[t, .int .i64 E])) w := by
  have h := TabO.of h1 h2
  obtain ⟨p, n, c, p', n', c', rfl⟩ := own_forms2 h
  exact ⟨_, _, _, _, _, _, rfl, h, hb⟩
end Go.Proofs.YteipohpfaofchabGreat

namespace Go.Proofs.YteipohpfaofchabGreat
open Go.RowKit Go.Shelf Go.Sort
set_option linter.unusedVariables false

theorem madeS_self {vs : List ByteArray} (h : riseB vs = true) : madeS vs = vs := (madeS_eq (rises_nodup (rise_pw h)) (rise_pw h) fun _ => Iff.rfl).symm
theorem cols_self {vs : List ByteArray} (hn : vs.Nodup) : colsAt vs vs = List.range vs.length := by
  have h := cols_of_picks hn (cs := List.range vs.length) (fun c hc => List.mem_range.1 hc)
  rw [picks_self] at h
  exact h.symm
theorem ofRows_self {vs : List ByteArray} (h : riseB vs = true) {L : List (List Val)} (hl : ∀ r ∈ L, r.length = vs.length) : ofRows vs L = madeR L := by
  unfold ofRows
  rw [madeS_self h, cols_self (rises_nodup (rise_pw h))]
  refine congrArg madeR ?_
  have : ∀ r ∈ L, picks r (List.range vs.length) = r := fun r hr => by rw [← hl r hr, picks_self]
  conv => rhs; rw [← List.map_id L]
  exact List.map_congr_left this
theorem madeR_filter {rs : List (List Val)} (ok : ∀ r ∈ rs, okR r) (h : rs.Pairwise (fun a b => rowC a b < 0)) (p : List Val → Bool) : madeR (rs.filter p) = rs.filter p :=
  (madeR_eq (fun r hr => ok r ((List.mem_filter.1 hr).1)) (h.sublist List.filter_sublist) fun _ => Iff.rfl).symm
theorem bothL_go {vs : List ByteArray} (hn : vs.Nodup) : ∀ (n k : Nat), vs.length - k = n → bothL vs k (vs.drop k) = (List.range' k n).map fun i => (i, i)
  | 0, k, h => by
    rw [List.drop_eq_nil_of_le (by omega)]
    rfl
  | n + 1, k, h => by
    have hk : k < vs.length := by omega
    rw [List.drop_eq_getElem_cons hk]
    unfold bothL
    have hx : ¬ Lib.idxOfS vs vs[k] < 0 := by
      have := (Lib.idxOfS_nonneg_iff vs vs[k]).2 (List.getElem_mem hk)
      omega
    rw [if_neg hx, idx_of_nodup hn hk, bothL_go hn n (k + 1) (by omega), List.range'_succ]
    rfl
theorem bothL_self {vs : List ByteArray} (hn : vs.Nodup) : (bothL vs 0 vs).map (·.1) = List.range vs.length ∧ (bothL vs 0 vs).map (·.2) = List.range vs.length := by
  have h := bothL_go hn vs.length 0 (by omega)
  rw [List.drop_zero] at h
  rw [h, List.map_map, List.map_map, ← List.range_eq_range']
  exact ⟨List.map_id _, List.map_id _⟩
theorem antiL_self {vs : List ByteArray} {rs qs : List (List Val)} (a : OkT vs rs) (b : OkT vs qs) : antiL vs vs rs qs = rs.filter fun r => !anyS r qs := by
  unfold antiL antiR
  obtain ⟨h1, h2⟩ := bothL_self a.nodup
  rw [h1, h2]
  refine List.filter_congr fun r hr => ?_
  have e1 : picks r (List.range vs.length) = r := by rw [← (a.rows r hr).1, picks_self]
  rw [e1]
  have : ∀ l : List (List Val), (∀ q ∈ l, q ∈ qs) → (l.any fun q => rowS r (picks q (List.range vs.length))) = anyS r l := by
    intro l
    induction l with
    | nil => intro _; rfl
    | cons q l ih =>
      intro hl
      have e2 : picks q (List.range vs.length) = q := by rw [← (b.rows q (hl q (List.mem_cons_self ..))).1, picks_self]
      rw [List.any_cons, e2, ih (fun x hx => hl x (List.mem_cons_of_mem _ hx))]
      first | rfl | (simp only [anyS]; rw [rowS_comm]) | (unfold anyS; rw [rowS_comm]; rfl)
  rw [this qs fun _ h => h]
end Go.Proofs.YteipohpfaofchabGreat

namespace Go.Proofs.YteipohpfaofchabGreat
open Go.RowKit Go.Shelf Go.Sort
set_option linter.unusedVariables false

theorem own_cap2 {w : World} {B e size m : Nat} {v : Value} {xs : List Value} (h : w.ownsRow B e size v m xs) : ∀ p n c, v = .slice p n c → n ≤ c := by
  rcases h with ⟨-, ⟨rfl, -⟩ | ⟨g, cap, cur, rfl, -, -, hn, -⟩⟩
  · intro p n c e; injection e with _ e1 e2; omega
  · intro p n c e; injection e with _ e1 e2; omega
theorem idx_inj {vs : List ByteArray} {x y : ByteArray} (hx : ¬ Lib.idxOfS vs x < 0) (hy : ¬ Lib.idxOfS vs y < 0) (h : (Lib.idxOfS vs x).toNat = (Lib.idxOfS vs y).toNat) : x = y := by
  have h1 := (idx_lt hx).2
  have h2 := (idx_lt hy).2
  rw [h, h2] at h1
  injection h1 with h1
  exact h1.symm
theorem colsO_some {vs : List ByteArray} : ∀ (l pre : List ByteArray), (pre ++ l).Nodup → (∀ x ∈ pre ++ l, ¬ Lib.idxOfS vs x < 0) → colsO vs (colsAt vs pre) l = some (colsAt vs (pre ++ l))
  | [], pre, _, _ => by simp [colsO]
  | x :: l, pre, hn, hf => by
    unfold colsO
    have hx := hf x (by simp)
    have hm : ¬ (Lib.idxOfS vs x).toNat ∈ colsAt vs pre := by
      intro h
      obtain ⟨y, hy, e⟩ := List.mem_map.1 h
      have := idx_inj (hf y (by simp [hy])) hx e
      subst this
      have := (List.nodup_append.1 hn).2.2 y hy y (by simp)
      exact this rfl
    rw [if_neg (fun h => h.elim hx hm)]
    have ih := colsO_some l (pre ++ [x]) (by simpa using hn) (by simpa using hf)
    rw [show colsAt vs (pre ++ [x]) = colsAt vs pre ++ [(Lib.idxOfS vs x).toNat] by simp [colsAt]] at ih
    rw [ih]
    simp
theorem colsO_nodup {vs : List ByteArray} : ∀ (l : List ByteArray) (acc cs : List Nat), acc.Nodup → colsO vs acc l = some cs → cs.Nodup
  | [], acc, cs, hn, h => by
    injection h with h
    subst h
    exact hn
  | x :: l, acc, cs, hn, h => by
    unfold colsO at h
    split at h
    · cases h
    · rename_i hc
      refine colsO_nodup l _ cs ?_ h
      rw [List.nodup_append]
      refine ⟨hn, by simp, fun a ha b hb => ?_⟩
      simp at hb
      subst hb
      intro e
      exact hc (Or.inr (e ▸ ha))
theorem repB_false : ∀ (l pre : List ByteArray), (pre ++ l).Nodup → repB pre l = false
  | [], pre, _ => rfl
  | x :: l, pre, h => by
    have h2 := repB_false l (pre ++ [x]) (by simpa using h)
    simp only [repB, Bool.or_eq_false_iff]
    refine ⟨?_, h2⟩
    cases hc : Lib.containsS pre x with
    | false => rfl
    | true =>
      have hm := (Lib.containsS_iff _ _).1 hc
      exact absurd rfl ((List.nodup_append.1 h).2.2 x hm x (by simp))
theorem colsO_all {vs fr : List ByteArray} (h1 : repB [] fr = false) (h2 : ∀ x ∈ fr, ¬ Lib.idxOfS vs x < 0) : colsO vs [] fr = some (colsAt vs fr) := by
  have hn := repB_nodup fr [] List.nodup_nil h1
  have := colsO_some (vs := vs) fr [] hn (by simpa using h2)
  simpa [colsAt] using this
theorem colsO_twice {vs fr : List ByteArray} (h1 : repB [] fr = true) : colsO vs [] fr = none := by
  cases h : colsO vs [] fr with
  | none => rfl
  | some cs =>
    have hn := colsO_nodup fr [] cs List.nodup_nil h
    obtain ⟨e, -⟩ := colsO_at h
    rw [List.nil_append] at e
    subst e
    have : fr.Nodup := by
      unfold colsAt at hn
      exact (List.pairwise_map.1 hn).imp fun h e => h (by rw [e])
    rw [repB_false fr [] (by simpa using this)] at h1
    cases h1
theorem colsO_lost {vs fr : List ByteArray} {x : ByteArray} (hx : x ∈ fr) (h1 : Lib.idxOfS vs x < 0) : colsO vs [] fr = none := by
  cases h : colsO vs [] fr with
  | none => rfl
  | some cs => exact absurd h1 ((colsO_at h).2 x hx)
theorem rowE_zero : ∀ {r : List Val}, okR r → rowE r = 0
  | [], _ => rfl
  | x :: r, h => by
    unfold rowE
    rw [if_pos (h x (List.mem_cons_self ..)).1]
    exact rowE_zero fun v hv => h v (List.mem_cons_of_mem _ hv)
theorem rowsE_zero {m : Nat} : ∀ {rs : List (List Val)}, (∀ r ∈ rs, r.length = m ∧ okR r) → rowsE m rs = 0
  | [], _ => rfl
  | r :: l, h => by
    have h1 := h r (List.mem_cons_self ..)
    unfold rowsE
    have h2 : rowChk r m = 0 := by unfold rowChk; rw [if_pos h1.1, rowE_zero h1.2]
    rw [if_pos h2]
    exact rowsE_zero fun x hx => h x (List.mem_cons_of_mem _ hx)
theorem ofChk_ok {F : List ByteArray} {rs : List (List Val)} (h8 : F.length ≤ 8) (h : ∀ r ∈ rs, r.length = F.length ∧ okR r) : ofChk F rs = if repB [] F = false then 0 else 30 := by
  unfold ofChk
  by_cases hr : repB [] F = false
  · rw [if_pos ⟨h8, hr⟩, if_pos hr, rowsE_zero h]
  · rw [if_neg (fun g => hr g.2), if_neg hr]

set_option maxRecDepth 100000 in
set_option maxHeartbeats 16000000 in
theorem drename_any {V R A B : Value} {vs fr tr : List ByteArray} {rs : List (List Val)} {w : World} (hV : StrsAt w V vs) (hRR : TabRows w R rs) (fits : ∀ r ∈ rs, ∀ v ∈ r, v.Fits) (long : ∀ r ∈ rs, r.length ≤ 9223372036854775807) (names : vs.length ≤ 9223372036854775807) (many : rs.length ≤ 5864062014805) (hA : StrsAt w A fr) (hB0 : StrsAt w B tr) (capA : ∀ p n c, A = .slice p n c → n ≤ c) (lf : fr.length ≤ 9223372036854775807) (lt : tr.length ≤ 9223372036854775807) :
    Calls Tryz.prog 17 #[.agg #[V, R], A, B] w (TellsT w.heap.size (renE vs rs fr tr) (madeS (renV vs (colsAt vs fr) tr)) (ofRows (renV vs (colsAt vs fr) tr) rs) w) := by
  have HV : Hid (StrsAt w V vs) := hV
  have HR : Hid (TabRows w R rs) := hRR
  have HA : Hid (StrsAt w A fr) := hA
  have HB : Hid (StrsAt w B tr) := hB0
  have HFI : Hid (∀ r ∈ rs, ∀ v ∈ r, v.Fits) := fits
  have MANY : Hid (rs.length ≤ 5864062014805) := many
  have cK : Hid (∀ W, Below w.heap.size w W → Calls Tryz.prog 31 #[.agg #[V, R]] W fun e w' => e = .returned (.int .i64 (tabChk vs rs)) ∧ Below W.heap.size W w') := fun W hW => dcheck_any (hV.below hW) (hRR.below hW) names fits (by omega) long
  have cU : Hid (∀ W, Below w.heap.size w W → Calls Tryz.prog 32 #[A] W fun e w' => e = .returned (.bool (!repB [] fr)) ∧ Below W.heap.size W w') := fun W hW => dunlike_any (hA.below hW) capA lf
  have cF : Hid (∀ W X, Below w.heap.size w W → Calls Tryz.prog 33 #[V, .string X] W fun e w' => e = .returned (.int .i64 (Lib.idxOfS vs X)) ∧ Below W.heap.size W w') := fun W X hW => dfind_any (hV.below hW) names
  obtain ⟨p1, k1, rfl⟩ := hV.form
  obtain ⟨p2, k2, rfl, -⟩ := hRR.form
  obtain ⟨p3, k3, rfl, HA0⟩ := hA.all
  obtain ⟨p4, k4, rfl, HB0⟩ := hB0.all
  have GA : Hid (∀ k (hk : k < fr.length), ∃ b off, p3 = some ⟨b, off, none⟩ ∧ b < w.heap.size ∧ w.cell? ⟨b, off + k, none⟩ = some (.string fr[k])) := HA0
  have GB : Hid (∀ k (hk : k < tr.length), ∃ b off, p4 = some ⟨b, off, none⟩ ∧ b < w.heap.size ∧ w.cell? ⟨b, off + k, none⟩ = some (.string tr[k])) := HB0
  obtain ⟨n1, en1⟩ : ∃ n, Hid (vs.length = n) := ⟨_, rfl⟩
  obtain ⟨n2, en2⟩ : ∃ n, Hid (rs.length = n) := ⟨_, rfl⟩
  obtain ⟨n3, en3⟩ : ∃ n, Hid (fr.length = n) := ⟨_, rfl⟩
  obtain ⟨n4, en4⟩ : ∃ n, Hid (tr.length = n) := ⟨_, rfl⟩
  obtain ⟨E, eE⟩ : ∃ E, Hid (tabChk vs rs = E) := ⟨_, rfl⟩
  obtain ⟨Q, eQ⟩ : ∃ Q, Hid (renE vs rs fr tr = Q) := ⟨_, rfl⟩
  have hQ : Hid (Q = if E = 0 then (if n3 = n4 then (match colsO vs [] fr with | none => 30 | some cs => ofChk (renV vs cs tr) rs) else 1) else E) := by
    have h := eQ.out
    unfold renE at h
    rw [en3.out, en4.out, eE.out] at h
    exact h.symm
  rw [eQ.out]
  rw [eE.out] at cK
  rw [en1.out] at HV cK cF names ⊢
  rw [en2.out] at HR cK ⊢
  rw [en3.out] at HA cU lf ⊢
  rw [en4.out] at HB lt ⊢
  clear hV hRR hA hB0 HA0 HB0 capA eQ fits long many
  go_enter Tryz.func17, Tryz.ntmps17
  go_upto_region 1 with fail
  refine wp_world ?_
  intro W0 hW0
  have bx0 : Hid (Box2 W0 w.heap.size (.slice p1 n1 k1) (.slice p2 n2 k2)) := by rw [hW0]; exact Box2.made _ _ _
  have K0 : Below w.heap.size w W0 := by rw [hW0]; go_grown
  have z0 : W0.heap.size = w.heap.size + 2 := by rw [hW0]; simp
  clear hW0
  have A0 := cell_of_heap bx0.out.a 0 rfl
  have A1 := cell_of_heap bx0.out.a 1 rfl
  go_wp2_with fail
  refine (cK.out W0 K0).mono ?_
  rintro e w1 ⟨rfl, hb1⟩
  have bx1 : Hid (Box2 w1 w.heap.size (.slice p1 n1 k1) (.slice p2 n2 k2)) := bx0.out.below hb1
  have K1 : Below w.heap.size w w1 := K0.trans (hb1.mono K0.size)
  have z1 : w.heap.size + 2 ≤ w1.heap.size := by have := hb1.size; omega
  clear A0 A1 bx0 K0 hb1 z0 cK
  have HSET : Hid (∀ W, Below w.heap.size w W → ∀ x y, Below w.heap.size w ((W.setCell ⟨w.heap.size + 1, 0, none⟩ x).setCell ⟨w.heap.size + 1, 1, none⟩ y)) := fun W h x y => by
    have b2 := h.grown (grownBy_setCell W (w.heap.size + 1) 0 x) h.size (fun q hq => by injection hq with hq; omega)
    exact b2.grown (grownBy_setCell _ (w.heap.size + 1) 1 y) b2.size (fun q hq => by injection hq with hq; omega)
  have X0 : Hid (∀ (W : World) (u x : Value), W.cell? ⟨w.heap.size + 1, 0, none⟩ = some u → (W.setCell ⟨w.heap.size + 1, 0, none⟩ x).cell? ⟨w.heap.size + 1, 0, none⟩ = some x) := fun W u x h => set_same h
  have X1 : Hid (∀ (W : World) (u x y : Value), W.cell? ⟨w.heap.size + 1, 1, none⟩ = some u → ((W.setCell ⟨w.heap.size + 1, 0, none⟩ x).setCell ⟨w.heap.size + 1, 1, none⟩ y).cell? ⟨w.heap.size + 1, 1, none⟩ = some y) := fun W u x y h => set_same ((set_other (by simp)).trans h)
  by_cases hE : E = 0
  · subst hE
    by_cases hn : n3 = n4
    · subst hn
      have hQ2 : Hid (Q = match colsO vs [] fr with | none => 30 | some cs => ofChk (renV vs cs tr) rs) := by
        have h := hQ.out
        rw [if_pos rfl, if_pos rfl] at h
        exact h
      have OK : Hid (OkT vs rs) := tabChk_ok eE.out HFI.out
      clear hQ
      go_wp2_with fail
      refine (cU.out _ (by exact K1)).mono ?_
      rintro e w2 ⟨rfl, hb2⟩
      have bx2 : Hid (Box2 w2 w.heap.size (.slice p1 n1 k1) (.slice p2 n2 k2)) := bx1.out.below hb2
      have K2 : Below w.heap.size w w2 := K1.trans (hb2.mono K1.size)
      have z2 : w.heap.size + 2 ≤ w2.heap.size := Nat.le_trans z1 hb2.size
      clear bx1 K1 z1 hb2 cU
      cases hrep : repB [] fr with
      | true =>
        have hQ3 : Q = 30 := by have h := hQ2.out; rw [colsO_twice hrep] at h; exact h
        have r0 := cell_of_heap bx2.out.r 0 rfl
        have r1 := cell_of_heap bx2.out.r 1 rfl
        have f0 := frozen_of_heap bx2.out.r 0
        have f1 := frozen_of_heap bx2.out.r 1
        have x0 := X0.out w2 _ (.slice none 0 0) r0
        have x1 := X1.out w2 _ (.slice none 0 0) (.slice none 0 0) r1
        clear hQ2
        go_wp2
        (try simp only [Exit.inBlock, Exit.then])
        refine bodyPost_ret (by simp [results, Tryz.results17, go_sem, x0, x1]; try rfl) rfl ?_
        rw [hQ3]
        exact TellsT.of (fun h => absurd h (by decide)) (fun _ => rfl) (HSET.out _ K2 _ _)
      | false =>
        have HREP : Hid (repB [] fr = false) := hrep
        obtain ⟨i0, hi, hz0, hz1, hz2⟩ := info_parts inS
        have HS : Hid (Src w2 1 (.slice p1 n1 k1) n1 (vs.map Value.string)) := by have h := src_strs (HV.out.below K2); rw [en1.out] at h; exact h
        have A0 := cell_of_heap bx2.out.a 0 rfl
        have few : n1 ≤ 8 := by have := OK.out.few; have := en1.out; omega
        have l63 : 0 + n1 ≤ maxLen := by unfold maxLen; omega
        have lby : (0 + n1) * 16 ≤ 140737488355328 := by omega
        have lsz : w2.heap.size ≤ w2.heap.size := Nat.le_refl _
        clear hrep
        go_wp2_with (at_builtin; refine wpList_append_src rfl (.tmp 31) (.tmp 33) 22 rfl w2.heap.size 9 i0 _ 1 16 Tryz.underlying22 hi hz0 hz1 hz2 rfl (by decide) (.slice none 0 0) 0 [] rfl (World.ownsRow_nil _ _ _ _) (.slice p1 n1 k1) n1 (vs.map Value.string) rfl HS.out ?one l63 lby lsz ?grow)
        case one => (intro u hu; obtain ⟨x, -, rfl⟩ := List.mem_map.1 hu; rfl)
        case grow =>
          intro v1 w3 h2 h3 _
          obtain ⟨pv, nv, cv, rfl⟩ := slice_of h2
          have B3 : Below w2.heap.size w2 w3 := (Below.refl _ _).grown h3 (Nat.le_refl _) (fun q hq => by cases hq)
          have OV : Hid (OwnS w2.heap.size (.slice pv nv cv) vs w3) := by
            show World.ownsRow _ _ _ _ _ _ _
            rw [en1.out]
            simpa using h2
          clear h2 h3 HS A0 l63 lby lsz
          go_wp2
          go_loopw [11] (fun i wr => ∃ (k : Nat) (F : List ByteArray), k ≤ n3 ∧ i = .int .i64 k ∧ Hid (F.length = n1) ∧ Hid (renV vs (colsAt vs fr) tr = renV F ((colsAt vs fr).drop k) (tr.drop k)) ∧ Hid (∀ x ∈ fr.take k, 0 ≤ Lib.idxOfS vs x) ∧ Hid (OwnS w2.heap.size (.slice pv nv cv) F wr) ∧ Below w2.heap.size w2 wr) (fun i _ => n3 - (intOf i).toNat)
          case atStart => exact ⟨0, vs, Nat.zero_le _, rfl, en1, (show renV vs (colsAt vs fr) tr = renV vs ((colsAt vs fr).drop 0) (tr.drop 0) by simp), (show ∀ x ∈ fr.take 0, _ by simp), OV, B3⟩
          case round =>
            obtain ⟨k, F, hk, rfl, hFl, hr, hfd, hO, hB⟩ := hrel
            clear OV B3
            have KW : Below w.heap.size w wr := K2.trans (hB.mono K2.size)
            have bx : Hid (Box2 wr w.heap.size (.slice p1 n1 k1) (.slice p2 n2 k2)) := bx2.out.below hB
            have zr : w.heap.size + 2 ≤ wr.heap.size := Nat.le_trans z2 hB.size
            by_cases hlt : k < n3
            · have kx : k < fr.length := by have := en3.out; omega
              have ky : k < tr.length := by have := en4.out; omega
              have kc : k < (colsAt vs fr).length := by unfold colsAt; rw [List.length_map]; exact kx
              obtain ⟨b, off, rfl, hb, q0⟩ := GA.out k kx
              obtain ⟨b', off', rfl, hb', s0⟩ := GB.out k ky
              have q1 := (KW.cell (p := ⟨b, off + k, none⟩) hb).trans q0
              have SB : Hid (w.cell? ⟨b', off' + k, none⟩ = some (.string tr[k])) := s0
              have mem : Hid (fr[k] ∈ fr) := List.getElem_mem kx
              have ct : Hid (∀ W, Below wr.heap.size wr W → Calls Tryz.prog 33 #[.slice p1 n1 k1, .string fr[k]] W fun e w' => e = .returned (.int .i64 (Lib.idxOfS vs fr[k])) ∧ Below W.heap.size W w') := fun W hW => cF.out W _ (KW.trans (hW.mono KW.size))
              have hr2 : Hid (renV vs (colsAt vs fr) tr = renV (F.set (Lib.idxOfS vs fr[k]).toNat tr[k]) ((colsAt vs fr).drop (k + 1)) (tr.drop (k + 1))) := by
                have h := hr.out
                rw [List.drop_eq_getElem_cons kc, List.drop_eq_getElem_cons ky] at h
                have e1 : (colsAt vs fr)[k] = (Lib.idxOfS vs fr[k]).toNat := by simp [colsAt]
                rw [e1] at h
                exact h
              have hst : Hid (fr.take (k + 1) = fr.take k ++ [fr[k]]) := List.take_succ_eq_append_getElem kx
              have hix : Hid (0 ≤ Lib.idxOfS vs fr[k] → (Lib.idxOfS vs fr[k]).toNat < vs.length) := fun h => (idx_lt (by omega)).1
              generalize fr[k] = X at q1 ct hr2 hst mem hix
              generalize tr[k] = Y at hr2 SB
              obtain ⟨D, eD⟩ : ∃ D : Int, Hid (Lib.idxOfS vs X = D) := ⟨_, rfl⟩
              rw [eD.out] at ct hr2 hix
              have A0 := cell_of_heap bx.out.a 0 rfl
              have i1 : (0 : Int) ≤ (k : Int) := by omega
              have i2 : (k : Int) < (n3 : Int) := by omega
              have za : w.heap.size < wr.heap.size := by omega
              have zb : b < wr.heap.size := Nat.lt_of_lt_of_le hb KW.size
              clear q0 s0 hr
              go_upto_region 14 with fail
              go_region_held3 (fun w' => w'.cell? ⟨w.heap.size, 0, none⟩ = some (.slice p1 n1 k1) ∧ w'.cell? ⟨b, off + k, none⟩ = some (.string X))
                (exact ⟨bcl (n := wr.heap.size) (by go_grown) A0 za, bcl (n := wr.heap.size) (by go_grown) q1 zb⟩)
                (first
                  | (go_at_call 33; refine (ct.out _ (by go_grown)).mono ?_; rintro e v1 ⟨rfl, hv1⟩; obtain ⟨hw1, hn1⟩ := bg0 (n := wr.heap.size) (W0 := wr) (by go_grown) (by go_size) hv1; clear hv1))
              have B4 : Below w2.heap.size w2 v1 := hB.trans (hw1.mono hB.size)
              have K4 : Below w.heap.size w v1 := K2.trans (B4.mono K2.size)
              have O4 : Hid (OwnS w2.heap.size (.slice pv nv cv) F v1) := own_below hO.out hw1
              have bx4 : Hid (Box2 v1 w.heap.size (.slice p1 n1 k1) (.slice p2 n2 k2)) := bx2.out.below B4
              clear hw1 hn1 ct A0 q1 hO bx hB KW
              by_cases hD : D < 0
              · have hQ3 : Q = 30 := by have h := hQ2.out; rw [colsO_lost mem.out (by rw [eD.out]; exact hD)] at h; exact h
                have r0 := cell_of_heap bx4.out.r 0 rfl
                have r1 := cell_of_heap bx4.out.r 1 rfl
                have f0 := frozen_of_heap bx4.out.r 0
                have f1 := frozen_of_heap bx4.out.r 1
                have x0 := X0.out v1 _ (.slice none 0 0) r0
                have x1 := X1.out v1 _ (.slice none 0 0) (.slice none 0 0) r1
                clear hQ2 hr2 hst hix mem
                go_wp2
                (try simp only [Exit.inBlock, Exit.then])
                refine bodyPost_ret (by simp [results, Tryz.results17, go_sem, x0, x1]; try rfl) rfl ?_
                rw [hQ3]
                exact TellsT.of (fun h => absurd h (by decide)) (fun _ => rfl) (HSET.out _ K4 _ _)
              · have hlt2 := hix.out (by omega)
                have hfd2 : Hid (∀ x ∈ fr.take (k + 1), 0 ≤ Lib.idxOfS vs x) := fun x hx => by
                  rw [hst.out] at hx
                  rcases List.mem_append.1 hx with hx | hx
                  · exact hfd.out x hx
                  · simp at hx
                    subst hx
                    rw [eD.out]
                    omega
                obtain ⟨C, eC⟩ : ∃ C : Nat, Hid (D.toNat = C) := ⟨_, rfl⟩
                have hDC : D = (C : Int) := by have := eC.out; omega
                rw [eC.out] at hr2 hlt2
                subst hDC
                have cx : C < F.length := by have := hFl.out; have := en1.out; omega
                obtain ⟨g, rfl⟩ : ∃ g, pv = some ⟨g, 0, none⟩ := by
                  obtain ⟨hl, ⟨e, h0⟩ | ⟨g, cap, cur, e, -⟩⟩ := O4.out
                  · omega
                  · injection e with e; exact ⟨g, e⟩
                have enF : nv = F.length := by
                  obtain ⟨hl, ⟨e, h0⟩ | ⟨g, cap, cur, e, -⟩⟩ := O4.out
                  · cases e
                  · injection e
                have O4' : v1.ownsRow w2.heap.size 9 1 (.slice (some ⟨g, 0, none⟩) F.length cv) F.length (F.map Value.string) := by
                  have h := O4.out
                  rw [enF] at h
                  exact h
                have s0 : v1.cell? ⟨g, C, none⟩ = some (.string F[C]) := by
                  rw [World.ownsRow.cellAt O4' C (by simpa using cx)]
                  simp [List.getElem?_eq_getElem cx]
                have s1 : v1.frozen? ⟨g, C, none⟩ = false := World.ownsRow.frozenAt O4' C
                obtain ⟨o2, g2⟩ := World.ownsRow.stored O4' C (.string Y)
                have O2 : Hid (OwnS w2.heap.size (.slice (some ⟨g, 0, none⟩) nv cv) (F.set C Y) (v1.setCell ⟨g, C, none⟩ (.string Y))) := by
                  show OwnS _ _ _ _
                  unfold OwnS
                  rw [List.length_set, List.map_set, enF]
                  exact o2
                have B2 : Below w2.heap.size w2 (v1.setCell ⟨g, C, none⟩ (.string Y)) := B4.grown g2 B4.size (fun q hq => by injection hq with hq; have := (World.ownsRow.lt O4.out g rfl).1; omega)
                have hFl2 : Hid ((F.set C Y).length = n1) := by show _ = _; rw [List.length_set]; exact hFl.out
                have t2 := (K4.cell (p := ⟨b', off' + k, none⟩) hb').trans SB.out
                have nF : Hid (F.length = n1) := hFl
                have cxI : (C : Int) < (nv : Int) := by omega
                have hF8 : nv ≤ 8 := by have := nF.out; omega
                clear o2 g2 O4 O4' hst hix enF
                generalize F[C] = Z at s0
                generalize F.set C Y = F2 at hr2 O2 hFl2
                have c0I : (0 : Int) ≤ (C : Int) := by omega
                clear hFl nF cx
                go_wp2
                exact ⟨⟨k + 1, F2, by omega, by go_num, hFl2, hr2, hfd2, O2, B2⟩, by simp [intOf]; omega⟩
            · have c2 : ¬ (k : Int) < (n3 : Int) := by omega
              have hF : Hid (renV vs (colsAt vs fr) tr = F) := by
                have h := hr.out
                rwa [List.drop_eq_nil_of_le (by unfold colsAt; rw [List.length_map]; have := en3.out; omega), renV_nil] at h
              have hall : ∀ x ∈ fr, ¬ Lib.idxOfS vs x < 0 := fun x hx => by
                have h := hfd.out x (by rw [List.take_of_length_le (by have := en3.out; omega)]; exact hx)
                omega
              have hQ3 : Hid (Q = if repB [] F = false then 0 else 30) := by
                have h := hQ2.out
                rw [colsO_all HREP.out hall] at h
                dsimp only at h
                rw [hF.out, ofChk_ok (by have := hFl.out; omega) (fun r hr => ⟨by rw [(OK.out.rows r hr).1, hFl.out, en1.out], (OK.out.rows r hr).2⟩)] at h
                exact h
              have cU2 : Hid (Calls Tryz.prog 32 #[.slice pv nv cv] wr fun e w' => e = .returned (.bool (!repB [] F)) ∧ Below wr.heap.size wr w') := dunlike_any hO.out.strs (own_cap2 hO.out) (by have := hFl.out; omega)
              have OF : Hid (OwnS w2.heap.size (.slice pv nv cv) F wr) := hO
              clear hQ2 hr hfd hall hO cF
              go_wp2_with fail
              refine cU2.out.mono ?_
              rintro e w5 ⟨rfl, hb5⟩
              have bx5 : Hid (Box2 w5 w.heap.size (.slice p1 n1 k1) (.slice p2 n2 k2)) := bx.out.below hb5
              have K5 : Below w.heap.size w w5 := KW.trans (hb5.mono KW.size)
              have z5 : w.heap.size + 2 ≤ w5.heap.size := Nat.le_trans zr hb5.size
              have OF5 : Hid (OwnS w2.heap.size (.slice pv nv cv) F w5) := own_below OF.out hb5
              clear cU2 OF bx KW zr hb5
              cases hrep : repB [] F with
              | true =>
                have hQ4 : Q = 30 := by have h := hQ3.out; rw [hrep] at h; exact h
                have r0 := cell_of_heap bx5.out.r 0 rfl
                have r1 := cell_of_heap bx5.out.r 1 rfl
                have f0 := frozen_of_heap bx5.out.r 0
                have f1 := frozen_of_heap bx5.out.r 1
                have x0 := X0.out w5 _ (.slice none 0 0) r0
                have x1 := X1.out w5 _ (.slice none 0 0) (.slice none 0 0) r1
                clear hQ3
                go_wp2
                (try simp only [Exit.inBlock, Exit.then])
                refine bodyPost_ret (by simp [results, Tryz.results17, go_sem, x0, x1]; try rfl) rfl ?_
                rw [hQ4]
                exact TellsT.of (fun h => absurd h (by decide)) (fun _ => rfl) (HSET.out _ K5 _ _)
              | false =>
                have hQ4 : Q = 0 := by have h := hQ3.out; rw [hrep] at h; exact h
                have HQ4 : Hid (Q = 0) := hQ4
                have hnF : F.Nodup := by have := repB_nodup F [] List.nodup_nil hrep; simpa using this
                have cM : Hid (Calls Tryz.prog 43 #[.slice pv nv cv, .slice p2 n2 k2] w5 fun e w' => ∃ t, e = .returned t ∧ OwnT w5.heap.size t (madeS F) (ofRows F rs) w' ∧ Below w5.heap.size w5 w') := dmade_any OF5.out.strs hnF (by have := hFl.out; omega) (HR.out.below K5) (fun r hr => ⟨by rw [(OK.out.rows r hr).1, hFl.out, en1.out], (OK.out.rows r hr).2⟩) MANY.out
                have a1 := cell_of_heap bx5.out.a 1 rfl
                clear hQ3 hQ4 hrep hnF
                go_wp2_with fail
                refine cM.out.mono ?_
                rintro e w6 ⟨t, rfl, ht, hb6⟩
                have bx6 := bx5.out.below hb6
                have K6 : Below w.heap.size w w6 := K5.trans (hb6.mono K5.size)
                obtain ⟨pta, nta, cta, ptb, ntb, ctb, rfl⟩ := own_forms2 ht
                have HT : Hid (OwnT w5.heap.size (.agg #[.slice pta nta cta, .slice ptb ntb ctb]) (madeS F) (ofRows F rs) w6) := ht
                have r0 := cell_of_heap bx6.r 0 rfl
                have r1 := cell_of_heap bx6.r 1 rfl
                have f0 := frozen_of_heap bx6.r 0
                have f1 := frozen_of_heap bx6.r 1
                have x0 := X0.out w6 _ (.slice pta nta cta) r0
                have x1 := X1.out w6 _ (.slice pta nta cta) (.slice ptb ntb ctb) r1
                clear a1 cM ht hb6 bx6
                go_wp2
                (try simp only [Exit.inBlock, Exit.then])
                refine bodyPost_ret (by simp [results, Tryz.results17, go_sem, x0, x1]; try rfl) rfl ?_
                rw [HQ4.out, hF.out]
                exact TellsT.of (fun _ => ((HT.out.set (by omega)).set (by omega)).base (by omega)) (fun h => absurd rfl h) (HSET.out _ K6 _ _)
    · have hQ3 : Q = 1 := by have h := hQ.out; rw [if_pos rfl, if_neg hn] at h; exact h
      have hne : ((n3 : Int) != (n4 : Int)) = true := by simp; omega
      have r0 := cell_of_heap bx1.out.r 0 rfl
      have r1 := cell_of_heap bx1.out.r 1 rfl
      have f0 := frozen_of_heap bx1.out.r 0
      have f1 := frozen_of_heap bx1.out.r 1
      have x0 := X0.out w1 _ (.slice none 0 0) r0
      have x1 := X1.out w1 _ (.slice none 0 0) (.slice none 0 0) r1
      clear hQ
      go_wp2
      (try simp only [Exit.inBlock, Exit.then])
      refine bodyPost_ret (by simp [results, Tryz.results17, go_sem, x0, x1]; try rfl) rfl ?_
      rw [hQ3]
      exact TellsT.of (fun h => absurd h (by decide)) (fun _ => rfl) (HSET.out _ K1 _ _)
  · have hE2 : (E == 0) = false := by simpa using hE
    have hQ3 : Q = E := by have h := hQ.out; rw [if_neg hE] at h; exact h
    have r0 := cell_of_heap bx1.out.r 0 rfl
    have r1 := cell_of_heap bx1.out.r 1 rfl
    have f0 := frozen_of_heap bx1.out.r 0
    have f1 := frozen_of_heap bx1.out.r 1
    have x0 := X0.out w1 _ (.slice none 0 0) r0
    have x1 := X1.out w1 _ (.slice none 0 0) (.slice none 0 0) r1
    clear hQ
    go_wp2
    (try simp only [Exit.inBlock, Exit.then])
    refine bodyPost_ret (by simp [results, Tryz.results17, go_sem, x0, x1]; try rfl) rfl ?_
    rw [hQ3]
    exact TellsT.of (fun h => absurd h hE) (fun _ => rfl) (HSET.out _ K1 _ _)

end Go.Proofs.YteipohpfaofchabGreat

namespace Go.Proofs.YteipohpfaofchabGreat
open Go.RowKit Go.Shelf Go.Sort
set_option linter.unusedVariables false

theorem picks_map {α β : Type} (f : α → β) (l : List α) (cs : List Nat) : picks (l.map f) cs = (picks l cs).map f := by
  unfold picks
  rw [List.map_filterMap]
  refine congrFun (congrArg _ ?_) _
  funext c
  rw [List.getElem?_map]
theorem picks_picks {α : Type} (r : List α) : ∀ (cs ds : List Nat), (∀ c ∈ cs, c < r.length) → (∀ d ∈ ds, d < cs.length) → picks (picks r cs) ds = picks r (picks cs ds)
  | cs, [], _, _ => rfl
  | cs, d :: ds, hc, hd => by
    have h1 := hd d (List.mem_cons_self ..)
    have h2 := picks_len hc
    rw [picks_cons (by rw [h2]; exact h1), picks_cons h1, picks_picks r cs ds hc (fun x hx => hd x (List.mem_cons_of_mem _ hx)), picks_cons (hc _ (List.getElem_mem h1))]
    refine congrArg (· :: _) ?_
    have : ∀ (cs : List Nat) (d : Nat) (hd : d < cs.length) (hc : ∀ c ∈ cs, c < r.length) (h : d < (picks r cs).length), (picks r cs)[d] = r[cs[d]]'(hc _ (List.getElem_mem hd)) := by
      intro cs
      induction cs with
      | nil => intro d hd; exact absurd hd (Nat.not_lt_zero _)
      | cons c cs ih =>
        intro d hd hc h
        have e := picks_cons (l := r) (cs := cs) (hc c (List.mem_cons_self ..))
        cases d with
        | zero => simp [e]
        | succ d =>
          simp only [e, List.getElem_cons_succ]
          exact ih d (by simpa using hd) (fun x hx => hc x (List.mem_cons_of_mem _ hx)) _
    exact this cs d h1 hc _
theorem cols_lt {vs us : List ByteArray} (hf : ∀ x ∈ us, ¬ Lib.idxOfS vs x < 0) : ∀ c ∈ colsAt vs us, c < vs.length := fun c hc => by
  obtain ⟨x, hx, rfl⟩ := List.mem_map.1 hc
  exact (idx_lt (hf x hx)).1
theorem cols_len (vs us : List ByteArray) : (colsAt vs us).length = us.length := by unfold colsAt; rw [List.length_map]
theorem found_self (us : List ByteArray) : ∀ x ∈ us, ¬ Lib.idxOfS us x < 0 := fun x hx => by
  have := (Lib.idxOfS_nonneg_iff us x).2 hx
  omega
theorem cut_rows {vs us : List ByteArray} (hn : us.Nodup) (hf : ∀ x ∈ us, ¬ Lib.idxOfS vs x < 0) {rs : List (List Val)} (hr : ∀ r ∈ rs, r.length = vs.length) : ofRows us (rs.map fun r => picks r (colsAt vs us)) = projR vs us rs := by
  unfold ofRows projR
  rw [List.map_map]
  refine congrArg madeR (List.map_congr_left fun r h => ?_)
  show picks (picks r (colsAt vs us)) (colsAt us (madeS us)) = _
  have hm : ∀ x ∈ madeS us, ¬ Lib.idxOfS us x < 0 := fun x hx => found_self us x ((mem_madeS hn x).1 hx)
  rw [picks_picks r _ _ (fun c hc => by rw [hr r h]; exact cols_lt hf c hc) (fun d hd => by rw [cols_len]; exact cols_lt hm d hd)]
  refine congrArg (picks r) ?_
  show picks (us.map fun x => (Lib.idxOfS vs x).toNat) _ = _
  rw [picks_map, picks_at hm]
  rfl

set_option maxRecDepth 100000 in
set_option maxHeartbeats 8000000 in
theorem dcolumns_any {V R U : Value} {vs us : List ByteArray} {rs : List (List Val)} {w : World} (hV : StrsAt w V vs) (hRR : TabRows w R rs) (hU : StrsAt w U us) (ok : ∀ r ∈ rs, r.length = vs.length ∧ okR r) (lv : vs.length ≤ 8) (lu : us.length ≤ 8) (hn : us.Nodup) (hf : ∀ x ∈ us, ¬ Lib.idxOfS vs x < 0) (many : rs.length ≤ 5864062014805) :
    Calls Tryz.prog 34 #[.agg #[V, R], U] w fun e w' => ∃ t, e = .returned t ∧ OwnT w.heap.size t (madeS us) (projR vs us rs) w' ∧ Below w.heap.size w w' := by
  obtain ⟨i0, hi, hz0, hz1, hz2⟩ := info_parts inR
  have PIC : Hid (∀ W Y (ys : List Val), Below w.heap.size w W → RowAt W Y ys → ys.length = vs.length → Calls Tryz.prog 72 #[V, Y, U] W fun e w' => ∃ v, e = .returned v ∧ OwnV W.heap.size v (picks ys (colsAt vs us)) w' ∧ Below W.heap.size W w') := fun W Y ys hW hY hy => dpicked_any (hV.below hW) hY (hU.below hW) (by omega) (by omega) (by omega) hf (by omega)
  have MAD : Hid (∀ W Y, Below w.heap.size w W → TabRows W Y (rs.map fun r => picks r (colsAt vs us)) → Calls Tryz.prog 43 #[U, Y] W fun e w' => ∃ t, e = .returned t ∧ OwnT W.heap.size t (madeS us) (projR vs us rs) w' ∧ Below W.heap.size W w') := fun W Y hW hY => by
    have h := dmade_any (hU.below hW) hn lu hY (fun r hr => by
      obtain ⟨x, hx, rfl⟩ := List.mem_map.1 hr
      refine ⟨?_, (ok x hx).2.picks _⟩
      rw [picks_len (fun c hc => by rw [(ok x hx).1]; exact cols_lt hf c hc), cols_len]) (by rw [List.length_map]; exact many)
    rw [cut_rows hn hf (fun r hr => (ok r hr).1)] at h
    exact h
  obtain ⟨p1, k1, rfl⟩ := hV.form
  obtain ⟨p2, k2, rfl, HX0⟩ := hRR.form
  obtain ⟨p3, k3, rfl⟩ := hU.form
  have HX : Hid (∀ k (hk : k < rs.length), ∃ b off u, p2 = some ⟨b, off, none⟩ ∧ b < w.heap.size ∧ w.cell? ⟨b, off + k, none⟩ = some u ∧ RowAt w u rs[k]) := HX0
  have OKR : Hid (∀ r ∈ rs, r.length = vs.length ∧ okR r) := ok
  obtain ⟨n1, en1⟩ : ∃ n, Hid (vs.length = n) := ⟨_, rfl⟩
  obtain ⟨n2, en2⟩ : ∃ n, Hid (rs.length = n) := ⟨_, rfl⟩
  obtain ⟨n3, en3⟩ : ∃ n, Hid (us.length = n) := ⟨_, rfl⟩
  rw [en1.out] at PIC lv ⊢
  rw [en2.out] at many ⊢
  rw [en3.out] at PIC MAD lu ⊢
  clear hV hRR hU HX0 ok hn hf
  go_enter Tryz.func34, Tryz.ntmps34
  go_upto_region 1 with fail
  refine wp_world ?_
  intro W0 hW0
  have bx0 : Hid (Box2 W0 w.heap.size (.slice p1 n1 k1) (.slice p2 n2 k2)) := by rw [hW0]; exact Box2.made _ _ _
  have K0 : Below w.heap.size w W0 := by rw [hW0]; go_grown
  have z0 : w.heap.size + 2 ≤ W0.heap.size := by rw [hW0]; simp
  clear hW0
  have za : w.heap.size < W0.heap.size := by omega
  go_wp2
  go_loopw [5, 6] (fun v i wr => ∃ (k : Nat) (zs : List Value), k ≤ n2 ∧ i = .int .i64 k ∧ Hid (wr.ownsRow W0.heap.size 40 1 v zs.length zs) ∧ Hid (OwnRs W0.heap.size zs ((rs.take k).map fun r => picks r (colsAt vs us)) wr) ∧ Hid (Below W0.heap.size W0 wr)) (fun _ i _ => n2 - (intOf i).toNat)
  case atStart => exact ⟨0, [], Nat.zero_le _, rfl, (show World.ownsRow _ _ _ _ _ _ _ from World.ownsRow_nil _ _ _ _), (show OwnRs _ _ _ _ from OwnRs.nil _ _), Below.refl _ _⟩
  case round =>
    obtain ⟨k, zs, hk, rfl, hO, hR, hB⟩ := hrel
    have bx : Hid (Box2 wr w.heap.size (.slice p1 n1 k1) (.slice p2 n2 k2)) := bx0.out.below hB.out
    have KW : Below w.heap.size w wr := K0.trans (hB.out.mono K0.size)
    have A1 := cell_of_heap bx.out.a 1 rfl
    by_cases hlt : k < n2
    · have kx : k < rs.length := by have := en2.out; omega
      obtain ⟨b, off, Y, rfl, hb, q0, row⟩ := HX.out k kx
      obtain ⟨l1, -⟩ := OKR.out rs[k] (List.getElem_mem kx)
      have hst : Hid (rs.take (k + 1) = rs.take k ++ [rs[k]]) := List.take_succ_eq_append_getElem kx
      generalize rs[k] = r at row l1 hst
      obtain ⟨pu, cu, rfl⟩ := row.form
      have ct : Hid (∀ W, Below wr.heap.size wr W → Calls Tryz.prog 72 #[.slice p1 n1 k1, .slice pu r.length cu, .slice p3 n3 k3] W fun e w' => ∃ v, e = .returned v ∧ OwnV wr.heap.size v (picks r (colsAt vs us)) w' ∧ Below W.heap.size W w') := fun W hW => by
        refine (PIC.out W _ r (KW.trans (hW.mono KW.size)) (row.below (KW.trans (hW.mono KW.size))) (l1.trans en1.out)).mono ?_
        rintro e w' ⟨v, h1, h2, h3⟩
        exact ⟨v, h1, own_base h2 hW.size, h3⟩
      generalize r.length = nr at q0 ct l1
      have q1 := (KW.cell (p := ⟨b, off + k, none⟩) hb).trans q0
      have A0 := cell_of_heap bx.out.a 0 rfl
      have i1 : (0 : Int) ≤ (k : Int) := by omega
      have i2 : (k : Int) < (n2 : Int) := by omega
      have wza : w.heap.size < wr.heap.size := Nat.lt_of_lt_of_le za hB.out.size
      have wb : b < wr.heap.size := Nat.lt_of_lt_of_le hb KW.size
      have hzl : Hid (zs.length + 1 ≤ 5864062014805) := by
        have h1 := hR.out.1
        simp only [List.length_map, List.length_take] at h1
        show _ ≤ _
        omega
      clear row q0 l1
      go_upto_region 5 with fail
      go_region_held3 (fun w' => w'.cell? ⟨w.heap.size, 0, none⟩ = some (.slice p1 n1 k1) ∧ w'.cell? ⟨w.heap.size, 1, none⟩ = some (.slice (some ⟨b, off, none⟩) n2 k2) ∧ w'.cell? ⟨b, off + k, none⟩ = some (.slice pu nr cu))
        (exact ⟨bcl (n := wr.heap.size) (by go_grown) A0 wza, bcl (n := wr.heap.size) (by go_grown) A1 wza, bcl (n := wr.heap.size) (by go_grown) q1 wb⟩)
        (first
          | (go_at_call 72; refine (ct.out _ (by go_grown)).mono ?_; rintro e v1 ⟨X, rfl, oX, hv1⟩; obtain ⟨hw1, hn1⟩ := bg0 (n := wr.heap.size) (W0 := wr) (by go_grown) (by go_size) hv1; clear hv1))
      obtain ⟨px, mx, cx, rfl⟩ := slice_of oX
      have B3 : Hid (Below W0.heap.size W0 v1) := hB.out.trans (hw1.mono hB.out.size)
      have O3 : Hid (v1.ownsRow W0.heap.size 40 1 u5 zs.length zs) := own_below hO.out hw1
      have R3 : Hid (OwnRs W0.heap.size zs ((rs.take k).map fun r => picks r (colsAt vs us)) v1) := hR.out.below hw1
      have X3 : Hid (OwnV W0.heap.size (.slice px mx cx) (picks r (colsAt vs us)) v1) := own_base oX hB.out.size
      obtain ⟨p5, n5, c5, rfl⟩ := slice_of O3.out
      have HSRC : Hid (Src (v1.alloc (.cells #[.slice px mx cx] 40)) 1 (.slice (some ⟨v1.heap.size, 0, none⟩) 1 1) 1 [.slice px mx cx]) := Or.inr ⟨_, 1, rfl, rfl, fun j x hj => by
        rw [Addr.add_lit, Nat.zero_add]
        exact cell_of_heap (heap_alloc v1 _) j (by simpa using hj)⟩
      have HO4 : Hid ((v1.alloc (.cells #[.slice px mx cx] 40)).ownsRow W0.heap.size 40 1 (.slice p5 n5 c5) zs.length zs) := World.ownsRow.alloc O3.out _
      have HK4 : Hid (∀ q, (Value.slice p5 n5 c5).ownBlock = some q → W0.heap.size ≤ q) := fun q hq => (World.ownsRow.lt O3.out q hq).1
      have s1 : zs.length + 1 ≤ maxLen := by unfold maxLen; have := hzl.out; omega
      have s2 : (zs.length + 1) * 24 ≤ 140737488355328 := by have := hzl.out; omega
      have s3 : W0.heap.size ≤ (v1.alloc (.cells #[.slice px mx cx] 40)).heap.size := by simp; have := B3.out.size; omega
      clear oX hw1 hn1 ct A0 A1 q1 hO hR hB bx KW
      go_wp2_with (at_builtin; refine wpList_append_src rfl (.tmp 24) (.tmp 26) 23 rfl W0.heap.size 40 i0 _ 1 24 Tryz.underlying23 hi hz0 hz1 hz2 rfl (by decide) (.slice p5 n5 c5) zs.length zs rfl HO4.out (.slice (some ⟨v1.heap.size, 0, none⟩) 1 1) 1 [.slice px mx cx] rfl HSRC.out ?one s1 s2 s3 ?grow)
      case one => (intro u hu; simp at hu; subst hu; rfl)
      case grow =>
        intro v' w3 h2 h3 _
        have R4 : Hid (OwnRs W0.heap.size (zs ++ [Value.slice px mx cx]) ((rs.take (k + 1)).map fun r => picks r (colsAt vs us)) w3) := by
          have h := rs_more O3.out R3.out X3.out h3
          show OwnRs _ _ _ _
          rw [hst.out, List.map_append]
          exact h
        have O4 : Hid (w3.ownsRow W0.heap.size 40 1 v' (zs ++ [Value.slice px mx cx]).length (zs ++ [Value.slice px mx cx])) := by
          show World.ownsRow _ _ _ _ _ _ _
          rw [List.length_append]
          exact h2
        have B4 : Hid (Below W0.heap.size W0 w3) := (B3.out.alloc B3.out.size _).grown h3 s3 HK4.out
        clear h2 h3 HSRC HO4 HK4 O3 R3 X3 s1 s2 s3 B3
        go_wp2
        exact ⟨⟨k + 1, zs ++ [Value.slice px mx cx], by omega, by go_num, O4, R4, B4⟩, by simp [intOf]; omega⟩
    · have c3 : ¬ (k : Int) < (n2 : Int) := by omega
      have TR : TabRows wr u5 (rs.map fun r => picks r (colsAt vs us)) := by
        have h := hR.out.rows
        rw [List.take_of_length_le (by have := en2.out; omega)] at h
        exact tab_of_vals (vals_own hO.out) h
      obtain ⟨p6, n6, c6, rfl⟩ := slice_of hO.out
      have cM : Hid (Calls Tryz.prog 43 #[.slice p3 n3 k3, .slice p6 n6 c6] wr fun e w' => ∃ t, e = .returned t ∧ OwnT wr.heap.size t (madeS us) (projR vs us rs) w' ∧ Below wr.heap.size wr w') := MAD.out wr _ KW TR
      have z4 : w.heap.size + 2 ≤ wr.heap.size := Nat.le_trans z0 hB.out.size
      clear TR hO hR
      go_wp2_with fail
      refine cM.out.mono ?_
      rintro e w6 ⟨t, rfl, ht, hb6⟩
      have bx6 := bx.out.below hb6
      have K6 : Below w.heap.size w w6 := KW.trans (hb6.mono KW.size)
      obtain ⟨pta, nta, cta, ptb, ntb, ctb, rfl⟩ := own_forms2 ht
      have HT : Hid (OwnT wr.heap.size (.agg #[.slice pta nta cta, .slice ptb ntb ctb]) (madeS us) (projR vs us rs) w6) := ht
      have r0 := cell_of_heap bx6.r 0 rfl
      have r1 := cell_of_heap bx6.r 1 rfl
      have f0 := frozen_of_heap bx6.r 0
      have f1 := frozen_of_heap bx6.r 1
      have x0 : (w6.setCell ⟨w.heap.size + 1, 0, none⟩ (.slice pta nta cta)).cell? ⟨w.heap.size + 1, 0, none⟩ = some (.slice pta nta cta) := set_same r0
      have x1 : ((w6.setCell ⟨w.heap.size + 1, 0, none⟩ (.slice pta nta cta)).setCell ⟨w.heap.size + 1, 1, none⟩ (.slice ptb ntb ctb)).cell? ⟨w.heap.size + 1, 1, none⟩ = some (.slice ptb ntb ctb) := set_same ((set_other (by simp)).trans r1)
      have HSET : Hid (Below w.heap.size w ((w6.setCell ⟨w.heap.size + 1, 0, none⟩ (.slice pta nta cta)).setCell ⟨w.heap.size + 1, 1, none⟩ (.slice ptb ntb ctb))) := by
        have b2 := K6.grown (grownBy_setCell w6 (w.heap.size + 1) 0 (.slice pta nta cta)) K6.size (fun q hq => by injection hq with hq; omega)
        exact b2.grown (grownBy_setCell _ (w.heap.size + 1) 1 (.slice ptb ntb ctb)) b2.size (fun q hq => by injection hq with hq; omega)
      clear A1 cM ht hb6 bx6
      go_wp2
      (try simp only [Exit.inBlock, Exit.then])
      refine bodyPost_ret (by simp [results, Tryz.results34, go_sem, x0, x1]; try rfl) rfl ?_
      exact ⟨_, rfl, ((HT.out.set (by omega)).set (by omega)).base (by omega), HSET.out⟩

end Go.Proofs.YteipohpfaofchabGreat

namespace Go.Proofs.YteipohpfaofchabGreat
open Go.RowKit Go.Shelf Go.Sort
set_option linter.unusedVariables false

theorem pw_rise : ∀ {l : List ByteArray}, l.Pairwise (fun a b => bcmp a b < 0) → riseB l = true
  | [], _ => rfl
  | [x], _ => rfl
  | x :: y :: l, h => by
    obtain ⟨h1, h2⟩ := List.pairwise_cons.1 h
    show (Op.bytesLess x.toList y.toList && riseB (y :: l)) = true
    rw [Bool.and_eq_true, less_bcmp]
    exact ⟨decide_eq_true (h1 y (List.mem_cons_self ..)), pw_rise h2⟩
theorem rowsO_zero {m : Nat} : ∀ {rs : List (List Val)} {x : List Val}, (∀ r ∈ rs, r.length = m ∧ okR r) → (x :: rs).Pairwise (fun a b => rowC a b < 0) → rowsO m (some x) rs = 0
  | [], x, _, _ => rfl
  | r :: l, x, h, hp => by
    obtain ⟨h1, h2⟩ := List.pairwise_cons.1 hp
    have h3 := h r (List.mem_cons_self ..)
    have h4 := h1 r (List.mem_cons_self ..)
    unfold rowsO
    have h5 : rowChk r m = 0 := by unfold rowChk; rw [if_pos h3.1, rowE_zero h3.2]
    rw [if_pos h5, if_neg (by omega)]
    exact rowsO_zero (fun y hy => h y (List.mem_cons_of_mem _ hy)) h2
theorem OkT.chk {vs : List ByteArray} {rs : List (List Val)} (h : OkT vs rs) : tabChk vs rs = 0 := by
  unfold tabChk
  rw [if_pos ⟨h.few, h.rise⟩]
  cases rs with
  | nil => rfl
  | cons r l =>
    have h3 := h.rows r (List.mem_cons_self ..)
    unfold rowsO
    have h5 : rowChk r vs.length = 0 := by unfold rowChk; rw [if_pos h3.1, rowE_zero h3.2]
    rw [if_pos h5]
    exact rowsO_zero (fun y hy => h.rows y (List.mem_cons_of_mem _ hy)) h.sorted
theorem OkT.filter {vs : List ByteArray} {rs : List (List Val)} (h : OkT vs rs) (p : List Val → Bool) : OkT vs (rs.filter p) := ⟨h.few, h.rise, fun r hr => h.rows r (List.mem_filter.1 hr).1, h.sorted.sublist List.filter_sublist⟩
theorem OkT.made {vs : List ByteArray} {rs : List (List Val)} (hn : vs.Nodup) (h8 : vs.length ≤ 8) (h : ∀ r ∈ rs, r.length = vs.length ∧ okR r) : OkT (madeS vs) (ofRows vs rs) := by
  have okm : ∀ r ∈ rs.map (fun r => picks r (colsAt vs (madeS vs))), okR r := fun r hr => by
    obtain ⟨x, hx, rfl⟩ := List.mem_map.1 hr
    exact (h x hx).2.picks _
  have hm : ∀ x ∈ madeS vs, ¬ Lib.idxOfS vs x < 0 := fun x hx => found_self vs x ((mem_madeS hn x).1 hx)
  refine ⟨by rw [madeS_len]; exact h8, pw_rise (madeS_rises hn), fun r hr => ?_, madeR_rises okm⟩
  obtain ⟨x, hx, rfl⟩ := List.mem_map.1 ((mem_madeR okm r).1 hr)
  refine ⟨?_, (h x hx).2.picks _⟩
  rw [picks_len (fun c hc => by rw [(h x hx).1]; exact cols_lt hm c hc), cols_len]
theorem fm_same {α β : Type} {f g : α → Option β} : ∀ {l : List α}, (∀ x ∈ l, f x = g x) → l.filterMap f = l.filterMap g
  | [], _ => rfl
  | x :: l, h => by
    rw [List.filterMap_cons, List.filterMap_cons, h x (List.mem_cons_self ..), fm_same fun y hy => h y (List.mem_cons_of_mem _ hy)]
theorem picks_front {α : Type} (r y : List α) : picks (r ++ y) (List.range r.length) = r := by
  have h : picks (r ++ y) (List.range r.length) = picks r (List.range r.length) := by
    unfold picks
    refine fm_same fun c hc => ?_
    rw [List.getElem?_append_left (List.mem_range.1 hc)]
  rw [h, picks_self]
theorem cols_front {vs vs' : List ByteArray} (hn : (allV vs vs').Nodup) : colsAt (allV vs vs') vs = List.range vs.length := by
  have h := cols_of_picks hn (cs := List.range vs.length) (fun c hc => by
    have := List.mem_range.1 hc
    unfold allV
    rw [List.length_append]
    omega)
  have e : picks (allV vs vs') (List.range vs.length) = vs := picks_front vs _
  rw [e] at h
  exact h.symm
/-- Does a row of the other table fit it? -/
def fitsL (vs vs' : List ByteArray) (qs : List (List Val)) (r : List Val) : Bool := qs.any fun q => rowS (picks r ((bothL vs' 0 vs).map (·.1))) (picks q ((bothL vs' 0 vs).map (·.2)))
theorem antiL_fits (vs vs' : List ByteArray) (rs qs : List (List Val)) : antiL vs vs' rs qs = rs.filter fun r => !fitsL vs vs' qs r := rfl
theorem join_back {vs vs' : List ByteArray} {rs qs : List (List Val)} (a : OkT vs rs) (b : OkT vs' qs) : projR (madeS (allV vs vs')) vs (ofRows (allV vs vs') (joinL vs vs' rs qs)) = rs.filter (fitsL vs vs' qs) := by
  have hJ := allV_nodup a.nodup b.nodup
  have hjo := joinL_ok a b
  have hm : ∀ x ∈ madeS (allV vs vs'), ¬ Lib.idxOfS (allV vs vs') x < 0 := fun x hx => found_self _ x ((mem_madeS hJ x).1 hx)
  have hv : ∀ x ∈ vs, ¬ Lib.idxOfS (madeS (allV vs vs')) x < 0 := fun x hx => found_self _ x ((mem_madeS hJ x).2 (List.mem_append_left _ hx))
  have okm : ∀ r ∈ (joinL vs vs' rs qs).map (fun r => picks r (colsAt (allV vs vs') (madeS (allV vs vs')))), okR r := fun r hr => by
    obtain ⟨x, hx, rfl⟩ := List.mem_map.1 hr
    exact (hjo x hx).2.picks _
  have key : ∀ x ∈ joinL vs vs' rs qs, picks (picks x (colsAt (allV vs vs') (madeS (allV vs vs')))) (colsAt (madeS (allV vs vs')) vs) = picks x (List.range vs.length) := fun x hx => by
    rw [picks_picks x _ _ (fun c hc => by rw [(hjo x hx).1]; exact cols_lt hm c hc) (fun d hd => by rw [cols_len]; exact cols_lt hv d hd)]
    refine congrArg (picks x) ?_
    rw [← cols_front hJ]
    show picks ((madeS (allV vs vs')).map fun y => (Lib.idxOfS (allV vs vs') y).toNat) _ = _
    rw [picks_map, picks_at hv]
    rfl
  unfold projR
  rw [madeS_self a.rise]
  refine (madeR_eq (fun r hr => ?_) (a.sorted.sublist List.filter_sublist) fun z => ?_).symm
  · obtain ⟨y, hy, rfl⟩ := List.mem_map.1 hr
    exact (madeR_ok okm y hy).picks _
  · rw [List.mem_filter, List.mem_map]
    constructor
    · rintro ⟨hz, hf⟩
      obtain ⟨q, hq, hs⟩ := List.any_eq_true.1 hf
      have hx : z ++ picks q (outs vs 0 vs') ∈ joinL vs vs' rs qs := by
        unfold joinL joinR
        exact List.mem_flatMap.2 ⟨z, hz, List.mem_map.2 ⟨q, List.mem_filter.2 ⟨hq, hs⟩, rfl⟩⟩
      refine ⟨_, (mem_madeR okm _).2 (List.mem_map.2 ⟨_, hx, rfl⟩), ?_⟩
      rw [key _ hx, ← (a.rows z hz).1, picks_front]
    · rintro ⟨y, hy, rfl⟩
      obtain ⟨x, hx, rfl⟩ := List.mem_map.1 ((mem_madeR okm y).1 hy)
      rw [key x hx]
      unfold joinL joinR at hx
      obtain ⟨r, hr, hx⟩ := List.mem_flatMap.1 hx
      obtain ⟨q, hq, rfl⟩ := List.mem_map.1 hx
      obtain ⟨hq1, hq2⟩ := List.mem_filter.1 hq
      rw [← (a.rows r hr).1, picks_front]
      exact ⟨hr, List.any_eq_true.2 ⟨q, hq1, hq2⟩⟩
theorem anti_again {vs vs' : List ByteArray} {rs qs : List (List Val)} (a : OkT vs rs) : antiL vs vs rs (rs.filter (fitsL vs vs' qs)) = antiL vs vs' rs qs := by
  rw [antiL_self a (a.filter _), antiL_fits]
  refine List.filter_congr fun r hr => ?_
  refine congrArg (!·) ?_
  rw [Bool.eq_iff_iff]
  unfold anyS
  rw [List.any_eq_true]
  constructor
  · rintro ⟨q, hq, hs⟩
    rw [rowS_iff.1 hs]
    exact (List.mem_filter.1 hq).2
  · intro h
    exact ⟨r, List.mem_filter.2 ⟨hr, h⟩, rowS_iff.2 rfl⟩
theorem whole_again {vs vs' : List ByteArray} {rs qs : List (List Val)} (a : OkT vs rs) : mergeL (antiL vs vs' rs qs) (rs.filter (fitsL vs vs' qs)) = rs := by
  have o1 := a.filter fun r => !fitsL vs vs' qs r
  have o2 := a.filter (fitsL vs vs' qs)
  rw [antiL_fits, mergeL_made (fun r hr => (o1.rows r hr).2) (fun r hr => (o2.rows r hr).2) o1.sorted o2.sorted]
  refine (madeR_eq (fun r hr => ?_) a.sorted fun z => ?_).symm
  · rcases List.mem_append.1 hr with hr | hr
    · exact (o1.rows r hr).2
    · exact (o2.rows r hr).2
  · rw [List.mem_append, List.mem_filter, List.mem_filter]
    cases h : fitsL vs vs' qs z <;> simp
theorem joinL_len (vs vs' : List ByteArray) : ∀ (rs qs : List (List Val)), (joinL vs vs' rs qs).length ≤ rs.length * qs.length := by
  intro rs qs
  unfold joinL joinR
  induction rs with
  | nil => simp
  | cons r rs ih =>
    rw [List.flatMap_cons, List.length_append, List.length_map, List.length_cons, Nat.succ_mul]
    have h := List.length_filter_le (fun q => rowS (picks r ((bothL vs' 0 vs).map (·.1))) (picks q ((bothL vs' 0 vs).map (·.2)))) qs
    omega
end Go.Proofs.YteipohpfaofchabGreat

namespace Go.Proofs.YteipohpfaofchabGreat
open Go.RowKit Go.Shelf Go.Sort
set_option linter.unusedVariables false

theorem rowsS_comm : ∀ xs ys : List (List Val), rowsS xs ys = rowsS ys xs
  | [], [] => rfl
  | [], _ :: _ => rfl
  | _ :: _, [] => rfl
  | x :: xs, y :: ys => by simp only [rowsS]; rw [rowS_comm x y, rowsS_comm xs ys]
theorem rowsS_refl : ∀ xs : List (List Val), rowsS xs xs = true
  | [] => rfl
  | x :: xs => by simp only [rowsS]; rw [(rowS_iff).2 rfl, rowsS_refl xs]; rfl

end Go.Proofs.YteipohpfaofchabGreat
