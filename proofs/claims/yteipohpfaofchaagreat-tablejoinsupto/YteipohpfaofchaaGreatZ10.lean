/- The document's side: does a row fit another? The variables of both. -/
import Derived.Test.YteipohpfaofchaaGreatZ09
import Derived.Test.YteipohpfaofchaaGreatZ06
import Derived.Test.YteipohpfaofchaaGreatZ07
import Derived.Test.YteipohpfaofchaaGreatZ08

namespace Go.Proofs.YteipohpfaofchaaGreat
open Go.RowKit Go.Shelf Go.Sort
set_option linter.unusedVariables false

theorem putS_len (x : ByteArray) : ∀ l, (putS x l).length = l.length + 1
  | [] => rfl
  | y :: l => by
    have ih := putS_len x l
    unfold putS
    split <;> simp [ih]
theorem putS_at (x : ByteArray) : ∀ (l : List ByteArray) (j : Nat), j ≤ l.length → (∀ i (h : i < l.length), i < j → bcmp l[i] x < 0) → (∀ h : j < l.length, ¬ bcmp l[j] x < 0) → putS x l = l.take j ++ [x] ++ l.drop j
  | [], j, h, _, _ => by have : j = 0 := by simpa using h
                         subst this; rfl
  | y :: l, 0, _, _, h => by
    have h0 := h (by simp)
    simp only [List.getElem_cons_zero] at h0
    unfold putS
    rw [if_neg h0]
    rfl
  | y :: l, j + 1, hj, h1, h2 => by
    have h0 := h1 0 (by simp) (by omega)
    simp only [List.getElem_cons_zero] at h0
    have ih := putS_at x l j (by simpa using hj) (fun i h hi => by have := h1 (i + 1) (by simpa using h) (by omega); simpa using this) (fun h => by have := h2 (by simpa using h); simpa using this)
    unfold putS
    rw [if_pos h0, ih]
    simp
theorem madeS_snoc (vs : List ByteArray) (x : ByteArray) : madeS (vs ++ [x]) = putS x (madeS vs) := by
  unfold madeS
  rw [List.foldl_append]
  rfl
theorem madeS_len (vs : List ByteArray) : (madeS vs).length = vs.length := by
  have : ∀ (vs l : List ByteArray), (vs.foldl (fun l x => putS x l) l).length = l.length + vs.length := by
    intro vs
    induction vs with
    | nil => intro l; rfl
    | cons x vs ih => intro l; rw [List.foldl_cons, ih, putS_len]; simp; omega
  have h := this vs []
  simpa [madeS] using h
theorem strs_sub {w : World} {g n j m : Nat} {c : Nat} {M : List ByteArray} (hg : g < w.heap.size) (h : ∀ i (hi : i < M.length), w.cell? ⟨g, i, none⟩ = some (.string M[i])) (hm : j + m ≤ M.length) : StrsAt w (.slice (some ⟨g, j, none⟩) m c) ((M.drop j).take m) := by
  refine ⟨_, c, by rw [List.length_take, List.length_drop, Nat.min_eq_left (by omega)], Or.inr ⟨g, j, rfl, hg, fun k hk => ?_⟩⟩
  simp only [List.length_take, List.length_drop] at hk
  rw [List.getElem_take, List.getElem_drop]
  exact h (j + k) (by omega)

set_option maxRecDepth 100000 in
set_option maxHeartbeats 8000000 in
theorem drising_any {V : Value} {vs : List ByteArray} {w : World} (hV : StrsAt w V vs) (lv : vs.length ≤ 1000000) :
    Calls Tryz.prog 86 #[V] w fun e w' => ∃ v, e = .returned v ∧ OwnS w.heap.size v (madeS vs) w' ∧ Below w.heap.size w w' := by
  obtain ⟨i0, hi, hz0, hz1, hz2⟩ := info_parts inS
  obtain ⟨p, c, rfl, HV0⟩ := hV.all
  have HV : Hid (∀ k (hk : k < vs.length), ∃ b off, p = some ⟨b, off, none⟩ ∧ b < w.heap.size ∧ w.cell? ⟨b, off + k, none⟩ = some (.string vs[k])) := HV0
  obtain ⟨n, en⟩ : ∃ n : Nat, Hid (vs.length = n) := ⟨_, rfl⟩
  rw [en.out] at lv ⊢
  clear hV HV0
  go_enter Tryz.func86, Tryz.ntmps86
  go_wp2
  go_loopw [3, 4] (fun o i wr => ∃ k : Nat, k ≤ n ∧ i = .int .i64 k ∧ Hid (OwnS w.heap.size o (madeS (vs.take k)) wr) ∧ Below w.heap.size w wr) (fun _ i _ => n - (intOf i).toNat)
  case atStart => exact ⟨0, Nat.zero_le _, rfl, (show OwnS _ _ _ _ from World.ownsRow_nil _ _ _ _), Below.refl _ _⟩
  case round =>
    obtain ⟨k, hk, rfl, HO, hB⟩ := hrel
    by_cases hlt : k < n
    · have kx : k < vs.length := by have := en.out; omega
      obtain ⟨bv, ov, rfl, hbv, x1⟩ := HV.out k kx
      have hM : Hid (madeS (vs.take (k + 1)) = putS vs[k] (madeS (vs.take k))) := by
        show _ = _
        rw [List.take_succ_eq_append_getElem kx, madeS_snoc]
      have hL : Hid ((madeS (vs.take k)).length = k) := by
        show _ = _
        rw [madeS_len, List.length_take]
        omega
      generalize vs[k] = X at x1 hM
      have HX : Hid (w.cell? ⟨bv, ov + k, none⟩ = some (.string X)) := x1
      have q1 := (hB.cell (p := ⟨bv, ov + k, none⟩) hbv).trans x1
      clear x1
      obtain ⟨M, eM⟩ : ∃ M, Hid (madeS (vs.take k) = M) := ⟨_, rfl⟩
      rw [eM.out] at HO hM hL
      have k1 : k ≤ 1000000 := by omega
      obtain ⟨-, ⟨rfl, hk0⟩ | ⟨g, cap, cur, rfl, hg1, hg2, hn, -, hn2, hn3⟩⟩ := (show World.ownsRow _ _ _ _ _ _ _ from HO.out)
      · have hk0' : k = 0 := by have h := hL.out; rw [h] at hk0; exact hk0
        have ek1 : k ≤ 0 := by omega
        have HK0 : Hid (k = 0) := hk0'
        clear hk0' hk0
        have hM0 : Hid (M = []) := List.eq_nil_of_length_eq_zero (by have := hL.out; omega)
        obtain ⟨j, ej⟩ : ∃ j : Nat, Hid (j = 0) := ⟨0, rfl⟩
        have ej1 : j ≤ 0 := by have := ej.out; omega
        go_upto_region 5 with fail
        go_wp2
        go_loopw [5] (fun a wx => a = .int .i64 0 ∧ ∃ q, wx = wr.drewN q) (fun _ _ => 0)
        case atStart => exact ⟨rfl, 0, rfl⟩
        case round =>
          obtain ⟨rfl, q, rfl⟩ := hrel
          have hP : Hid (putS X M = M.take j ++ [X] ++ M.drop j) := by
            show _ = _
            rw [hM0.out, ej.out]
            rfl
          have BW0 : Below w.heap.size w (wr.drewN q) := bdrewN _ hB
          go_upto_region 6 with fail
          go_quiet (fail)
          have BW1 : Below w.heap.size w ((wr.drewN q).drewN nq) := bdrewN _ BW0
          generalize (wr.drewN q).drewN nq = Wd at BW1 ⊢
          have BW := BW1
          clear q1 BW0 BW1 hB HO
          have S1n : Hid (Src Wd 1 (Value.slice none 0 0) j ((M.take j).map Value.string)) := Or.inl ⟨_, _, rfl, ej.out, by rw [hM0.out, ej.out]; rfl⟩
          have a63n : 0 + j ≤ maxLen := by unfold maxLen; omega
          have abyn : (0 + j) * 16 ≤ 140737488355328 := by omega
          have aszn : w.heap.size ≤ Wd.heap.size := BW.size
          go_wp2_with (at_builtin; refine wpList_append_src rfl (.tmp 30) (.tmp 33) 22 rfl w.heap.size 9 i0 _ 1 16 Tryz.underlying22 hi hz0 hz1 hz2 rfl (by decide) (.slice none 0 0) 0 [] rfl (World.ownsRow_nil _ _ _ _) (Value.slice none 0 0) j ((M.take j).map Value.string) rfl S1n.out ?onen a63n abyn aszn ?grown)
          case onen => (intro u hu; first | (obtain ⟨x, -, rfl⟩ := List.mem_map.1 hu; rfl) | (obtain ⟨x, -, rfl⟩ := List.mem_map.1 (List.mem_of_mem_take hu); rfl) | (obtain ⟨x, -, rfl⟩ := List.mem_map.1 (List.mem_of_mem_drop hu); rfl))
          case grown =>
            intro v1 w1 h2 h3 h4
            obtain ⟨p1, n1, c1, rfl⟩ := slice_of h2
            have B1 : Below w.heap.size w w1 := BW.grown h3 BW.size (fun q hq => by cases hq)
            have NE1 : Hid (∀ q, (Value.slice p1 n1 c1).ownBlock = some q → Wd.heap.size ≤ q) := fun q hq => by
              rcases h4 with h4 | h4
              · rw [h4] at hq; cases hq
              · rw [h4] at hq; injection hq with hq; omega
            have K1 : Hid (Below Wd.heap.size Wd w1) := (Below.refl _ _).grown h3 (Nat.le_refl _) (fun q hq => by cases hq)
            have q2 : w1.cell? ⟨bv, ov + k, none⟩ = some (.string X) := (B1.cell (p := ⟨bv, ov + k, none⟩) hbv).trans HX.out
            have HO2 : Hid ((w1.alloc (.cells #[.string X] 9)).ownsRow w.heap.size 9 1 (.slice p1 n1 c1) j ((M.take j).map Value.string)) := by
              have h := World.ownsRow.alloc h2 (.cells #[.string X] 9)
              show World.ownsRow _ _ _ _ _ _ _
              simpa using h
            have HSb : Hid (Src (w1.alloc (.cells #[.string X] 9)) 1 (.slice (some ⟨w1.heap.size, 0, none⟩) 1 1) 1 [.string X]) := Or.inr ⟨_, 1, rfl, rfl, fun i x hj => by
              rw [Addr.add_lit, Nat.zero_add]
              exact cell_of_heap (heap_alloc w1 _) i (by simpa using hj)⟩
            have b63 : j + 1 ≤ maxLen := by unfold maxLen; omega
            have bby : (j + 1) * 16 ≤ 140737488355328 := by omega
            have bsz : w.heap.size ≤ (w1.alloc (.cells #[.string X] 9)).heap.size := by simp; have := B1.size; omega
            clear h2 h3 h4
            go_wp2_with (at_builtin; refine wpList_append_src rfl (.tmp 35) (.tmp 40) 22 rfl w.heap.size 9 i0 _ 1 16 Tryz.underlying22 hi hz0 hz1 hz2 rfl (by decide) (.slice p1 n1 c1) j ((M.take j).map Value.string) rfl HO2.out (.slice (some ⟨w1.heap.size, 0, none⟩) 1 1) 1 [.string X] rfl HSb.out ?twon b63 bby bsz ?grow2n)
            case twon => (intro u hu; simp at hu; subst hu; rfl)
            case grow2n =>
              intro v2 w2 h2 h3 h4
              obtain ⟨p2, n2, c2, rfl⟩ := slice_of h2
              have hK : Below Wd.heap.size Wd (w1.alloc (.cells #[.string X] 9)) := K1.out.alloc K1.out.size _
              have K2 : Hid (Below Wd.heap.size Wd w2) := hK.grown h3 hK.size NE1.out
              have B2 : Below w.heap.size w w2 := BW.trans (K2.out.mono BW.size)
              have NE2 : Hid (∀ q, (Value.slice p2 n2 c2).ownBlock = some q → w.heap.size ≤ q) := fun q hq => (World.ownsRow.lt h2 q hq).1
              have HO3 : Hid (w2.ownsRow w.heap.size 9 1 (.slice p2 n2 c2) (j + 1) ((M.take j ++ [X]).map Value.string)) := by
                show World.ownsRow _ _ _ _ _ _ _
                simpa using h2
              have S2n : Hid (Src w2 1 (Value.slice none 0 0) (k - j) ((M.drop j).map Value.string)) := Or.inl ⟨_, _, rfl, by rw [ej.out, HK0.out], by rw [hM0.out, ej.out]; rfl⟩
              have d63 : j + 1 + (k - j) ≤ maxLen := by unfold maxLen; omega
              have dby : (j + 1 + (k - j)) * 16 ≤ 140737488355328 := by omega
              have dsz : w.heap.size ≤ w2.heap.size := B2.size
              clear h2 h3 h4 q2 HO2 HSb hK S1n K1 K2 NE1 B1 b63 bby bsz a63n abyn aszn
              go_wp2_with (at_builtin; refine wpList_append_src rfl (.tmp 42) (.tmp 45) 22 rfl w.heap.size 9 i0 _ 1 16 Tryz.underlying22 hi hz0 hz1 hz2 rfl (by decide) (.slice p2 n2 c2) (j + 1) ((M.take j ++ [X]).map Value.string) rfl HO3.out (Value.slice none 0 0) (k - j) ((M.drop j).map Value.string) rfl S2n.out ?threen d63 dby dsz ?grow3n)
              case threen => (intro u hu; first | (obtain ⟨x, -, rfl⟩ := List.mem_map.1 hu; rfl) | (obtain ⟨x, -, rfl⟩ := List.mem_map.1 (List.mem_of_mem_take hu); rfl) | (obtain ⟨x, -, rfl⟩ := List.mem_map.1 (List.mem_of_mem_drop hu); rfl))
              case grow3n =>
                intro v3 w3 h2 h3 h4
                have B3 : Below w.heap.size w w3 := B2.grown h3 dsz NE2.out
                have O3 : Hid (OwnS w.heap.size v3 (madeS (vs.take (k + 1))) w3) := by
                  show OwnS _ _ _ _
                  rw [hM.out, hP.out]
                  unfold OwnS
                  have e1 : (M.take j ++ [X] ++ M.drop j).length = j + 1 + (k - j) := by have := hL.out; simp; omega
                  rw [e1]
                  first | (simpa using h2; done) | (rw [show j + 1 + (k - j) = j + 1 by omega]; simpa using h2)
                clear h2 h3 h4 HO3 S2n d63 dby NE2
                go_wp2
                exact ⟨⟨k + 1, by omega, by go_num, O3, B3⟩, by simp [intOf]; omega⟩
      · have gl : g < wr.heap.size := (Array.getElem?_eq_some_iff.1 hg2).1
        have hc0 : Hid (∀ i (h : i < M.length), wr.cell? ⟨g, i, none⟩ = some (.string M[i])) := fun i h => by
          have h5 := World.ownsRow.cellAt (show wr.ownsRow w.heap.size 9 1 (.slice (some ⟨g, 0, none⟩) M.length cap) M.length (M.map Value.string) from HO.out) i (by omega)
          rw [h5, List.getElem?_map, List.getElem?_eq_getElem h]
          rfl
        rw [hL.out] at hn
        rw [hL.out]
        clear hg2 hn2 hn3 HO cur
        go_upto_region 5 with fail
        go_wp2
        go_loopw [5] (fun a wx => ∃ (j q : Nat), j ≤ k ∧ a = .int .i64 j ∧ Hid (∀ i (h : i < M.length), i < j → bcmp M[i] X < 0) ∧ wx = wr.drewN q) (fun a _ => k - (intOf a).toNat)
        case atStart => exact ⟨0, 0, Nat.zero_le _, rfl, (fun i h hi => by omega), rfl⟩
        case round =>
          obtain ⟨j, q, hj, rfl, hless, rfl⟩ := hrel
          have BW0 : Below w.heap.size w (wr.drewN q) := bdrewN _ hB
          have j0 : (0 : Int) ≤ (j : Int) := by omega
          have k0 : (0 : Int) ≤ (k : Int) := by omega
          have k2 : (k : Int) < (n : Int) := by omega
          have j3 : (j : Int) ≤ (cap : Int) := by omega
          have j4 : (j : Int) ≤ (k : Int) := by omega
          by_cases hjk : j < k
          · have jm : j < M.length := by have := hL.out; omega
            have q3 : wr.cell? ⟨g, j, none⟩ = some (.string M[j]) := hc0.out j jm
            have hle2 := less_bcmp M[j] X
            obtain ⟨Z, eZ⟩ : ∃ Z, Hid (M[j] = Z) := ⟨M[j], (rfl : M[j] = M[j])⟩
            rw [eZ.out] at q3 hle2
            have j1 : (j : Int) < (k : Int) := by omega
            by_cases hz : bcmp Z X < 0
            · have hl2 : Hid (∀ i (h : i < M.length), i < j + 1 → bcmp M[i] X < 0) := fun i h hi => by
                by_cases e : i = j
                · subst e
                  rw [eZ.out]
                  exact hz
                · exact hless.out i h (by omega)
              rw [decide_eq_true hz] at hle2
              go_upto_region 6 with fail
              go_quiet (fail)
              go_wp2
              exact ⟨⟨j + 1, q + nq, by omega, by go_num, hl2, by first | rfl | exact World.drewN_drewN ..⟩, by simp [intOf]; omega⟩
            · have hP : Hid (putS X M = M.take j ++ [X] ++ M.drop j) := putS_at X M j (by omega) hless.out (fun h => by rw [eZ.out]; exact hz)
              rw [decide_eq_false hz] at hle2
              go_upto_region 6 with fail
              go_quiet (fail)
              have BW : Below w.heap.size w ((wr.drewN q).drewN nq) := bdrewN _ BW0
              have cM : Hid (∀ i (h : i < M.length), ((wr.drewN q).drewN nq).cell? ⟨g, i, none⟩ = some (.string M[i])) := fun i h => hc0.out i h
              have gW : g < ((wr.drewN q).drewN nq).heap.size := gl
              generalize (wr.drewN q).drewN nq = Wd at BW cM gW ⊢
              have hcj : ¬ cap = j := by omega
              clear q1 q3 hc0 hle2 BW0 hB gl
              have S1a : Hid (Src Wd 1 (Value.slice (some ⟨g, 0, none⟩) j cap) j ((M.take j).map Value.string)) := by
                have h := src_strs (strs_sub (j := 0) (m := j) (c := cap) (n := 0) gW cM.out (by have := hL.out; omega))
                rw [List.drop_zero, List.length_take, Nat.min_eq_left (by have := hL.out; omega)] at h
                exact h
              have a63a : 0 + j ≤ maxLen := by unfold maxLen; omega
              have abya : (0 + j) * 16 ≤ 140737488355328 := by omega
              have asza : w.heap.size ≤ Wd.heap.size := BW.size
              go_wp2_with (at_builtin; refine wpList_append_src rfl (.tmp 30) (.tmp 33) 22 rfl w.heap.size 9 i0 _ 1 16 Tryz.underlying22 hi hz0 hz1 hz2 rfl (by decide) (.slice none 0 0) 0 [] rfl (World.ownsRow_nil _ _ _ _) (Value.slice (some ⟨g, 0, none⟩) j cap) j ((M.take j).map Value.string) rfl S1a.out ?onea a63a abya asza ?growa)
              case onea => (intro u hu; first | (obtain ⟨x, -, rfl⟩ := List.mem_map.1 hu; rfl) | (obtain ⟨x, -, rfl⟩ := List.mem_map.1 (List.mem_of_mem_take hu); rfl) | (obtain ⟨x, -, rfl⟩ := List.mem_map.1 (List.mem_of_mem_drop hu); rfl))
              case growa =>
                intro v1 w1 h2 h3 h4
                obtain ⟨p1, n1, c1, rfl⟩ := slice_of h2
                have B1 : Below w.heap.size w w1 := BW.grown h3 BW.size (fun q hq => by cases hq)
                have NE1 : Hid (∀ q, (Value.slice p1 n1 c1).ownBlock = some q → Wd.heap.size ≤ q) := fun q hq => by
                  rcases h4 with h4 | h4
                  · rw [h4] at hq; cases hq
                  · rw [h4] at hq; injection hq with hq; omega
                have K1 : Hid (Below Wd.heap.size Wd w1) := (Below.refl _ _).grown h3 (Nat.le_refl _) (fun q hq => by cases hq)
                have q2 : w1.cell? ⟨bv, ov + k, none⟩ = some (.string X) := (B1.cell (p := ⟨bv, ov + k, none⟩) hbv).trans HX.out
                have HO2 : Hid ((w1.alloc (.cells #[.string X] 9)).ownsRow w.heap.size 9 1 (.slice p1 n1 c1) j ((M.take j).map Value.string)) := by
                  have h := World.ownsRow.alloc h2 (.cells #[.string X] 9)
                  show World.ownsRow _ _ _ _ _ _ _
                  simpa using h
                have HSb : Hid (Src (w1.alloc (.cells #[.string X] 9)) 1 (.slice (some ⟨w1.heap.size, 0, none⟩) 1 1) 1 [.string X]) := Or.inr ⟨_, 1, rfl, rfl, fun i x hj => by
                  rw [Addr.add_lit, Nat.zero_add]
                  exact cell_of_heap (heap_alloc w1 _) i (by simpa using hj)⟩
                have b63 : j + 1 ≤ maxLen := by unfold maxLen; omega
                have bby : (j + 1) * 16 ≤ 140737488355328 := by omega
                have bsz : w.heap.size ≤ (w1.alloc (.cells #[.string X] 9)).heap.size := by simp; have := B1.size; omega
                clear h2 h3 h4
                go_wp2_with (at_builtin; refine wpList_append_src rfl (.tmp 35) (.tmp 40) 22 rfl w.heap.size 9 i0 _ 1 16 Tryz.underlying22 hi hz0 hz1 hz2 rfl (by decide) (.slice p1 n1 c1) j ((M.take j).map Value.string) rfl HO2.out (.slice (some ⟨w1.heap.size, 0, none⟩) 1 1) 1 [.string X] rfl HSb.out ?twoa b63 bby bsz ?grow2a)
                case twoa => (intro u hu; simp at hu; subst hu; rfl)
                case grow2a =>
                  intro v2 w2 h2 h3 h4
                  obtain ⟨p2, n2, c2, rfl⟩ := slice_of h2
                  have hK : Below Wd.heap.size Wd (w1.alloc (.cells #[.string X] 9)) := K1.out.alloc K1.out.size _
                  have K2 : Hid (Below Wd.heap.size Wd w2) := hK.grown h3 hK.size NE1.out
                  have B2 : Below w.heap.size w w2 := BW.trans (K2.out.mono BW.size)
                  have NE2 : Hid (∀ q, (Value.slice p2 n2 c2).ownBlock = some q → w.heap.size ≤ q) := fun q hq => (World.ownsRow.lt h2 q hq).1
                  have HO3 : Hid (w2.ownsRow w.heap.size 9 1 (.slice p2 n2 c2) (j + 1) ((M.take j ++ [X]).map Value.string)) := by
                    show World.ownsRow _ _ _ _ _ _ _
                    simpa using h2
                  have S2a : Hid (Src w2 1 (Value.slice (some ⟨g, j, none⟩) (k - j) (cap - j)) (k - j) ((M.drop j).map Value.string)) := by
                      have gW2 : g < w2.heap.size := Nat.lt_of_lt_of_le gW K2.out.size
                      have h := src_strs (strs_sub (j := j) (m := k - j) (c := cap - j) (n := 0) gW2 (fun i h => (K2.out.cell (p := ⟨g, i, none⟩) gW).trans (cM.out i h)) (by have := hL.out; omega))
                      rw [List.take_of_length_le (by simp; have := hL.out; omega), List.length_drop, hL.out] at h
                      exact h
                  have d63 : j + 1 + (k - j) ≤ maxLen := by unfold maxLen; omega
                  have dby : (j + 1 + (k - j)) * 16 ≤ 140737488355328 := by omega
                  have dsz : w.heap.size ≤ w2.heap.size := B2.size
                  clear h2 h3 h4 q2 HO2 HSb hK S1a K1 K2 NE1 B1 b63 bby bsz a63a abya asza
                  go_wp2_with (at_builtin; refine wpList_append_src rfl (.tmp 42) (.tmp 45) 22 rfl w.heap.size 9 i0 _ 1 16 Tryz.underlying22 hi hz0 hz1 hz2 rfl (by decide) (.slice p2 n2 c2) (j + 1) ((M.take j ++ [X]).map Value.string) rfl HO3.out (Value.slice (some ⟨g, j, none⟩) (k - j) (cap - j)) (k - j) ((M.drop j).map Value.string) rfl S2a.out ?threea d63 dby dsz ?grow3a)
                  case threea => (intro u hu; first | (obtain ⟨x, -, rfl⟩ := List.mem_map.1 hu; rfl) | (obtain ⟨x, -, rfl⟩ := List.mem_map.1 (List.mem_of_mem_take hu); rfl) | (obtain ⟨x, -, rfl⟩ := List.mem_map.1 (List.mem_of_mem_drop hu); rfl))
                  case grow3a =>
                    intro v3 w3 h2 h3 h4
                    have B3 : Below w.heap.size w w3 := B2.grown h3 dsz NE2.out
                    have O3 : Hid (OwnS w.heap.size v3 (madeS (vs.take (k + 1))) w3) := by
                      show OwnS _ _ _ _
                      rw [hM.out, hP.out]
                      unfold OwnS
                      have e1 : (M.take j ++ [X] ++ M.drop j).length = j + 1 + (k - j) := by have := hL.out; simp; omega
                      rw [e1]
                      first | (simpa using h2; done) | (rw [show j + 1 + (k - j) = j + 1 by omega]; simpa using h2)
                    clear h2 h3 h4 HO3 S2a d63 dby NE2
                    go_wp2
                    exact ⟨⟨k + 1, by omega, by go_num, O3, B3⟩, by simp [intOf]; omega⟩
          · have ej : k ≤ j := by omega
            have j1 : ¬ (j : Int) < (k : Int) := by omega
            have hP : Hid (putS X M = M.take j ++ [X] ++ M.drop j) := putS_at X M j (by have := hL.out; omega) hless.out (fun h => by have := hL.out; omega)
            go_upto_region 6 with fail
            go_quiet (fail)
            have BW : Below w.heap.size w ((wr.drewN q).drewN nq) := bdrewN _ BW0
            have cM : Hid (∀ i (h : i < M.length), ((wr.drewN q).drewN nq).cell? ⟨g, i, none⟩ = some (.string M[i])) := fun i h => hc0.out i h
            have gW : g < ((wr.drewN q).drewN nq).heap.size := gl
            generalize (wr.drewN q).drewN nq = Wd at BW cM gW ⊢
            clear q1 hc0 BW0 hB gl
            by_cases hcj : cap = j
            · have hcj2 := hcj.symm
              subst hcj2
              have S1b : Hid (Src Wd 1 (Value.slice (some ⟨g, 0, none⟩) j j) j ((M.take j).map Value.string)) := by
                have h := src_strs (strs_sub (j := 0) (m := j) (c := j) (n := 0) gW cM.out (by have := hL.out; omega))
                rw [List.drop_zero, List.length_take, Nat.min_eq_left (by have := hL.out; omega)] at h
                exact h
              have a63b : 0 + j ≤ maxLen := by unfold maxLen; omega
              have abyb : (0 + j) * 16 ≤ 140737488355328 := by omega
              have aszb : w.heap.size ≤ Wd.heap.size := BW.size
              go_wp2_with (at_builtin; refine wpList_append_src rfl (.tmp 30) (.tmp 33) 22 rfl w.heap.size 9 i0 _ 1 16 Tryz.underlying22 hi hz0 hz1 hz2 rfl (by decide) (.slice none 0 0) 0 [] rfl (World.ownsRow_nil _ _ _ _) (Value.slice (some ⟨g, 0, none⟩) j j) j ((M.take j).map Value.string) rfl S1b.out ?oneb a63b abyb aszb ?growb)
              case oneb => (intro u hu; first | (obtain ⟨x, -, rfl⟩ := List.mem_map.1 hu; rfl) | (obtain ⟨x, -, rfl⟩ := List.mem_map.1 (List.mem_of_mem_take hu); rfl) | (obtain ⟨x, -, rfl⟩ := List.mem_map.1 (List.mem_of_mem_drop hu); rfl))
              case growb =>
                intro v1 w1 h2 h3 h4
                obtain ⟨p1, n1, c1, rfl⟩ := slice_of h2
                have B1 : Below w.heap.size w w1 := BW.grown h3 BW.size (fun q hq => by cases hq)
                have NE1 : Hid (∀ q, (Value.slice p1 n1 c1).ownBlock = some q → Wd.heap.size ≤ q) := fun q hq => by
                  rcases h4 with h4 | h4
                  · rw [h4] at hq; cases hq
                  · rw [h4] at hq; injection hq with hq; omega
                have K1 : Hid (Below Wd.heap.size Wd w1) := (Below.refl _ _).grown h3 (Nat.le_refl _) (fun q hq => by cases hq)
                have q2 : w1.cell? ⟨bv, ov + k, none⟩ = some (.string X) := (B1.cell (p := ⟨bv, ov + k, none⟩) hbv).trans HX.out
                have HO2 : Hid ((w1.alloc (.cells #[.string X] 9)).ownsRow w.heap.size 9 1 (.slice p1 n1 c1) j ((M.take j).map Value.string)) := by
                  have h := World.ownsRow.alloc h2 (.cells #[.string X] 9)
                  show World.ownsRow _ _ _ _ _ _ _
                  simpa using h
                have HSb : Hid (Src (w1.alloc (.cells #[.string X] 9)) 1 (.slice (some ⟨w1.heap.size, 0, none⟩) 1 1) 1 [.string X]) := Or.inr ⟨_, 1, rfl, rfl, fun i x hj => by
                  rw [Addr.add_lit, Nat.zero_add]
                  exact cell_of_heap (heap_alloc w1 _) i (by simpa using hj)⟩
                have b63 : j + 1 ≤ maxLen := by unfold maxLen; omega
                have bby : (j + 1) * 16 ≤ 140737488355328 := by omega
                have bsz : w.heap.size ≤ (w1.alloc (.cells #[.string X] 9)).heap.size := by simp; have := B1.size; omega
                clear h2 h3 h4
                go_wp2_with (at_builtin; refine wpList_append_src rfl (.tmp 35) (.tmp 40) 22 rfl w.heap.size 9 i0 _ 1 16 Tryz.underlying22 hi hz0 hz1 hz2 rfl (by decide) (.slice p1 n1 c1) j ((M.take j).map Value.string) rfl HO2.out (.slice (some ⟨w1.heap.size, 0, none⟩) 1 1) 1 [.string X] rfl HSb.out ?twob b63 bby bsz ?grow2b)
                case twob => (intro u hu; simp at hu; subst hu; rfl)
                case grow2b =>
                  intro v2 w2 h2 h3 h4
                  obtain ⟨p2, n2, c2, rfl⟩ := slice_of h2
                  have hK : Below Wd.heap.size Wd (w1.alloc (.cells #[.string X] 9)) := K1.out.alloc K1.out.size _
                  have K2 : Hid (Below Wd.heap.size Wd w2) := hK.grown h3 hK.size NE1.out
                  have B2 : Below w.heap.size w w2 := BW.trans (K2.out.mono BW.size)
                  have NE2 : Hid (∀ q, (Value.slice p2 n2 c2).ownBlock = some q → w.heap.size ≤ q) := fun q hq => (World.ownsRow.lt h2 q hq).1
                  have HO3 : Hid (w2.ownsRow w.heap.size 9 1 (.slice p2 n2 c2) (j + 1) ((M.take j ++ [X]).map Value.string)) := by
                    show World.ownsRow _ _ _ _ _ _ _
                    simpa using h2
                  have S2b : Hid (Src w2 1 (Value.slice (some ⟨g, 0, none⟩) 0 0) (k - j) ((M.drop j).map Value.string)) := by
                      have e0 : k - j = 0 := by omega
                      rw [e0, List.drop_eq_nil_of_le (by have := hL.out; omega)]
                      exact Or.inl ⟨_, _, rfl, rfl, rfl⟩
                  have d63 : j + 1 + (k - j) ≤ maxLen := by unfold maxLen; omega
                  have dby : (j + 1 + (k - j)) * 16 ≤ 140737488355328 := by omega
                  have dsz : w.heap.size ≤ w2.heap.size := B2.size
                  clear h2 h3 h4 q2 HO2 HSb hK S1b K1 K2 NE1 B1 b63 bby bsz a63b abyb aszb
                  go_wp2_with (at_builtin; refine wpList_append_src rfl (.tmp 42) (.tmp 45) 22 rfl w.heap.size 9 i0 _ 1 16 Tryz.underlying22 hi hz0 hz1 hz2 rfl (by decide) (.slice p2 n2 c2) (j + 1) ((M.take j ++ [X]).map Value.string) rfl HO3.out (Value.slice (some ⟨g, 0, none⟩) 0 0) (k - j) ((M.drop j).map Value.string) rfl S2b.out ?threeb d63 dby dsz ?grow3b)
                  case threeb => (intro u hu; first | (obtain ⟨x, -, rfl⟩ := List.mem_map.1 hu; rfl) | (obtain ⟨x, -, rfl⟩ := List.mem_map.1 (List.mem_of_mem_take hu); rfl) | (obtain ⟨x, -, rfl⟩ := List.mem_map.1 (List.mem_of_mem_drop hu); rfl))
                  case grow3b =>
                    intro v3 w3 h2 h3 h4
                    have B3 : Below w.heap.size w w3 := B2.grown h3 dsz NE2.out
                    have O3 : Hid (OwnS w.heap.size v3 (madeS (vs.take (k + 1))) w3) := by
                      show OwnS _ _ _ _
                      rw [hM.out, hP.out]
                      unfold OwnS
                      have e1 : (M.take j ++ [X] ++ M.drop j).length = j + 1 + (k - j) := by have := hL.out; simp; omega
                      rw [e1]
                      first | (simpa using h2; done) | (rw [show j + 1 + (k - j) = j + 1 by omega]; simpa using h2)
                    clear h2 h3 h4 HO3 S2b d63 dby NE2
                    go_wp2
                    exact ⟨⟨k + 1, by omega, by go_num, O3, B3⟩, by simp [intOf]; omega⟩
            · skip
              have S1c : Hid (Src Wd 1 (Value.slice (some ⟨g, 0, none⟩) j cap) j ((M.take j).map Value.string)) := by
                have h := src_strs (strs_sub (j := 0) (m := j) (c := cap) (n := 0) gW cM.out (by have := hL.out; omega))
                rw [List.drop_zero, List.length_take, Nat.min_eq_left (by have := hL.out; omega)] at h
                exact h
              have a63c : 0 + j ≤ maxLen := by unfold maxLen; omega
              have abyc : (0 + j) * 16 ≤ 140737488355328 := by omega
              have aszc : w.heap.size ≤ Wd.heap.size := BW.size
              go_wp2_with (at_builtin; refine wpList_append_src rfl (.tmp 30) (.tmp 33) 22 rfl w.heap.size 9 i0 _ 1 16 Tryz.underlying22 hi hz0 hz1 hz2 rfl (by decide) (.slice none 0 0) 0 [] rfl (World.ownsRow_nil _ _ _ _) (Value.slice (some ⟨g, 0, none⟩) j cap) j ((M.take j).map Value.string) rfl S1c.out ?onec a63c abyc aszc ?growc)
              case onec => (intro u hu; first | (obtain ⟨x, -, rfl⟩ := List.mem_map.1 hu; rfl) | (obtain ⟨x, -, rfl⟩ := List.mem_map.1 (List.mem_of_mem_take hu); rfl) | (obtain ⟨x, -, rfl⟩ := List.mem_map.1 (List.mem_of_mem_drop hu); rfl))
              case growc =>
                intro v1 w1 h2 h3 h4
                obtain ⟨p1, n1, c1, rfl⟩ := slice_of h2
                have B1 : Below w.heap.size w w1 := BW.grown h3 BW.size (fun q hq => by cases hq)
                have NE1 : Hid (∀ q, (Value.slice p1 n1 c1).ownBlock = some q → Wd.heap.size ≤ q) := fun q hq => by
                  rcases h4 with h4 | h4
                  · rw [h4] at hq; cases hq
                  · rw [h4] at hq; injection hq with hq; omega
                have K1 : Hid (Below Wd.heap.size Wd w1) := (Below.refl _ _).grown h3 (Nat.le_refl _) (fun q hq => by cases hq)
                have q2 : w1.cell? ⟨bv, ov + k, none⟩ = some (.string X) := (B1.cell (p := ⟨bv, ov + k, none⟩) hbv).trans HX.out
                have HO2 : Hid ((w1.alloc (.cells #[.string X] 9)).ownsRow w.heap.size 9 1 (.slice p1 n1 c1) j ((M.take j).map Value.string)) := by
                  have h := World.ownsRow.alloc h2 (.cells #[.string X] 9)
                  show World.ownsRow _ _ _ _ _ _ _
                  simpa using h
                have HSb : Hid (Src (w1.alloc (.cells #[.string X] 9)) 1 (.slice (some ⟨w1.heap.size, 0, none⟩) 1 1) 1 [.string X]) := Or.inr ⟨_, 1, rfl, rfl, fun i x hj => by
                  rw [Addr.add_lit, Nat.zero_add]
                  exact cell_of_heap (heap_alloc w1 _) i (by simpa using hj)⟩
                have b63 : j + 1 ≤ maxLen := by unfold maxLen; omega
                have bby : (j + 1) * 16 ≤ 140737488355328 := by omega
                have bsz : w.heap.size ≤ (w1.alloc (.cells #[.string X] 9)).heap.size := by simp; have := B1.size; omega
                clear h2 h3 h4
                go_wp2_with (at_builtin; refine wpList_append_src rfl (.tmp 35) (.tmp 40) 22 rfl w.heap.size 9 i0 _ 1 16 Tryz.underlying22 hi hz0 hz1 hz2 rfl (by decide) (.slice p1 n1 c1) j ((M.take j).map Value.string) rfl HO2.out (.slice (some ⟨w1.heap.size, 0, none⟩) 1 1) 1 [.string X] rfl HSb.out ?twoc b63 bby bsz ?grow2c)
                case twoc => (intro u hu; simp at hu; subst hu; rfl)
                case grow2c =>
                  intro v2 w2 h2 h3 h4
                  obtain ⟨p2, n2, c2, rfl⟩ := slice_of h2
                  have hK : Below Wd.heap.size Wd (w1.alloc (.cells #[.string X] 9)) := K1.out.alloc K1.out.size _
                  have K2 : Hid (Below Wd.heap.size Wd w2) := hK.grown h3 hK.size NE1.out
                  have B2 : Below w.heap.size w w2 := BW.trans (K2.out.mono BW.size)
                  have NE2 : Hid (∀ q, (Value.slice p2 n2 c2).ownBlock = some q → w.heap.size ≤ q) := fun q hq => (World.ownsRow.lt h2 q hq).1
                  have HO3 : Hid (w2.ownsRow w.heap.size 9 1 (.slice p2 n2 c2) (j + 1) ((M.take j ++ [X]).map Value.string)) := by
                    show World.ownsRow _ _ _ _ _ _ _
                    simpa using h2
                  have S2c : Hid (Src w2 1 (Value.slice (some ⟨g, j, none⟩) 0 (cap - j)) (k - j) ((M.drop j).map Value.string)) := by
                      have e0 : k - j = 0 := by omega
                      rw [e0, List.drop_eq_nil_of_le (by have := hL.out; omega)]
                      exact Or.inl ⟨_, _, rfl, rfl, rfl⟩
                  have d63 : j + 1 + (k - j) ≤ maxLen := by unfold maxLen; omega
                  have dby : (j + 1 + (k - j)) * 16 ≤ 140737488355328 := by omega
                  have dsz : w.heap.size ≤ w2.heap.size := B2.size
                  clear h2 h3 h4 q2 HO2 HSb hK S1c K1 K2 NE1 B1 b63 bby bsz a63c abyc aszc
                  go_wp2_with (at_builtin; refine wpList_append_src rfl (.tmp 42) (.tmp 45) 22 rfl w.heap.size 9 i0 _ 1 16 Tryz.underlying22 hi hz0 hz1 hz2 rfl (by decide) (.slice p2 n2 c2) (j + 1) ((M.take j ++ [X]).map Value.string) rfl HO3.out (Value.slice (some ⟨g, j, none⟩) 0 (cap - j)) (k - j) ((M.drop j).map Value.string) rfl S2c.out ?threec d63 dby dsz ?grow3c)
                  case threec => (intro u hu; first | (obtain ⟨x, -, rfl⟩ := List.mem_map.1 hu; rfl) | (obtain ⟨x, -, rfl⟩ := List.mem_map.1 (List.mem_of_mem_take hu); rfl) | (obtain ⟨x, -, rfl⟩ := List.mem_map.1 (List.mem_of_mem_drop hu); rfl))
                  case grow3c =>
                    intro v3 w3 h2 h3 h4
                    have B3 : Below w.heap.size w w3 := B2.grown h3 dsz NE2.out
                    have O3 : Hid (OwnS w.heap.size v3 (madeS (vs.take (k + 1))) w3) := by
                      show OwnS _ _ _ _
                      rw [hM.out, hP.out]
                      unfold OwnS
                      have e1 : (M.take j ++ [X] ++ M.drop j).length = j + 1 + (k - j) := by have := hL.out; simp; omega
                      rw [e1]
                      first | (simpa using h2; done) | (rw [show j + 1 + (k - j) = j + 1 by omega]; simpa using h2)
                    clear h2 h3 h4 HO3 S2c d63 dby NE2
                    go_wp2
                    exact ⟨⟨k + 1, by omega, by go_num, O3, B3⟩, by simp [intOf]; omega⟩
    · have c2 : ¬ (k : Int) < n := by omega
      have O3 : Hid (OwnS w.heap.size u3 (madeS vs) wr) := by
        have h := HO.out
        rwa [List.take_of_length_le (by have := en.out; omega)] at h
      go_wp2
      go_ret
      exact ⟨_, rfl, O3.out, hB⟩

end Go.Proofs.YteipohpfaofchaaGreat

namespace Go.Proofs.YteipohpfaofchaaGreat
open Go.RowKit Go.Shelf Go.Sort
set_option linter.unusedVariables false

/-- What else is the call's own stands while a row is put behind rows. -/
theorem keep_arr {T : Nat} {x u b A b' : Value} {zs : List Value} {B e size n : Nat} {v : Value} {xs : List Value} {wx w2 : World} (h : wx.ownsRow B e size v n xs) (hb : wx.ownsRow T 37 1 b zs.length zs) (h3 : (wx.alloc (.cells #[x] 37)).grownBy w2 b.ownBlock)
    (T3 : w2.heap[T]? = some (.cells #[A, b'] 25 (0, 0))) (n1 : e ≠ 37) (n2 : e ≠ 25) : (w2.setCell ⟨T, 1, none⟩ u).ownsRow B e size v n xs := by
  have a1 := World.ownsRow.alloc h (.cells #[x] 37)
  have a2 := World.ownsRow.kept a1 h3 (own_ne2 a1 (World.ownsRow.alloc hb _) n1)
  exact World.ownsRow.kept a2 (grownBy_setCell w2 T 1 u) (Or.inr (own_ne a2 T3 n2))

set_option maxRecDepth 100000 in
set_option maxHeartbeats 8000000 in
theorem copied_any {V R : Value} {vs : List ByteArray} {rs : List (List Val)} {w : World} (hV : StrsAt w V vs) (hA : TabRows w R rs) (bv : vs.length * 16 ≤ 140737488355328) (br : rs.length * 24 ≤ 140737488355328) (bs : ∀ r ∈ rs, r.length * 40 ≤ 140737488355328) :
    Calls Tryz.prog 11 #[.agg #[V, R]] w fun e w' => ∃ t, e = .returned t ∧ OwnT w.heap.size t vs rs w' ∧ Below w.heap.size w w' := by
  have HS : Hid (∀ W, Below w.heap.size w W → Src W 1 V vs.length (vs.map Value.string)) := fun W hW => src_strs (hV.below hW)
  obtain ⟨p, cv, rfl⟩ := hV.form
  obtain ⟨q, c, rfl, HX0⟩ := hA.form
  have HX : Hid (∀ k (hk : k < rs.length), ∃ b off u, q = some ⟨b, off, none⟩ ∧ b < w.heap.size ∧ w.cell? ⟨b, off + k, none⟩ = some u ∧ RowAt w u rs[k]) := HX0
  have SX : Hid (∀ r ∈ rs, r.length * 40 ≤ 140737488355328) := bs
  obtain ⟨n, en⟩ : ∃ n : Nat, Hid (rs.length = n) := ⟨_, rfl⟩
  obtain ⟨m, em⟩ : ∃ m : Nat, Hid (vs.length = m) := ⟨_, rfl⟩
  rw [en.out] at br ⊢
  rw [em.out] at bv HS ⊢
  clear hA hV HX0 bs
  go_enter Tryz.func11, Tryz.ntmps11
  obtain ⟨i0, hi, hz0, hz1, hz2⟩ := info_parts inS
  go_upto_region 1 with fail
  refine wp_world ?_
  intro w7 h7
  have VT : Hid (Var w7 w.heap.size (.slice p m cv) (.slice q n c)) := by
    rw [h7]
    exact (Var.made w _ _).below ((Below.refl _ _).alloc (Nat.le_refl _) _)
  have VR : Hid (Var w7 (w.heap.size + 1) (.slice none 0 0) (.slice none 0 0)) := by
    rw [h7]
    have h := Var.made (w.alloc (.cells #[.slice p m cv, .slice q n c] 25)) (.slice none 0 0) (.slice none 0 0)
    exact at_size (P := fun g => Var _ g _ _) h (by simp)
  have K7 : Below w.heap.size w w7 := by rw [h7]; go_grown
  have Z7 : Hid (w7.heap.size = w.heap.size + 2) := by rw [h7]; show _ = _; simp
  clear h7
  go_upto_region 2 with fail
  refine wp_world ?_
  intro W0 hW0
  have VO : Hid (Var W0 w7.heap.size (.slice none 0 0) (.slice none 0 0)) := by
    rw [hW0]
    exact Var.made _ _ _
  have K0 : Below w7.heap.size w7 W0 := by rw [hW0]; go_grown
  clear hW0
  have KK0 : Hid (Below w.heap.size w W0) := K7.trans (K0.mono K7.size)
  have a0 := (VT.out.below K0).c0
  have o0 := VO.out.c0
  have hK := K0.size
  have h63 : 0 + m ≤ maxLen := by unfold maxLen; omega
  have hby : (0 + m) * 16 ≤ 140737488355328 := by omega
  go_wp2_with (at_builtin; refine wpList_append_src rfl (.tmp 7) (.tmp 9) 22 rfl w7.heap.size 9 i0 _ 1 16 Tryz.underlying22 hi hz0 hz1 hz2 rfl (by decide) (.slice none 0 0) 0 [] rfl (World.ownsRow_nil _ _ _ _) (.slice p m cv) m (vs.map Value.string) rfl (HS.out _ KK0.out) ?one h63 hby hK ?grow)
  case one => (intro u hu; obtain ⟨x, -, rfl⟩ := List.mem_map.1 hu; rfl)
  case grow =>
    intro v' w3 h2 h3 h4
    obtain ⟨pA, nA, cA, rfl⟩ := slice_of h2
    have T3 : w3.heap[w7.heap.size]? = some (.cells #[.slice none 0 0, .slice none 0 0] 25 (0, 0)) := (h3.block _ (Array.getElem?_eq_some_iff.1 VO.out).1 (fun e => by cases e)).trans VO.out
    have x0 := cell_of_heap T3 0 rfl
    have f0 := frozen_of_heap T3 0
    have hg := grownBy_setCell w3 w7.heap.size 0 (.slice pA nA cA)
    have T1 : Hid ((w3.setCell ⟨w7.heap.size, 0, none⟩ (.slice pA nA cA)).heap[w7.heap.size]? = some (.cells #[.slice pA nA cA, .slice none 0 0] 25 (0, 0))) := by
      show _ = _
      rw [setCell_eq]
      show (w3.heap.modify _ _)[_]? = _
      rw [Array.getElem?_modify, if_pos rfl, T3]
      rfl
    have S1 : Hid (OwnS w7.heap.size (.slice pA nA cA) vs (w3.setCell ⟨w7.heap.size, 0, none⟩ (.slice pA nA cA))) := by
      have h := World.ownsRow.kept h2 hg (Or.inr (own_ne h2 T3 (by decide)))
      show World.ownsRow _ _ _ _ _ _ _
      rw [em.out]
      simpa using h
    have B1 : Hid (Below w7.heap.size w7 (w3.setCell ⟨w7.heap.size, 0, none⟩ (.slice pA nA cA))) := by
      have b2 := K0.grown h3 hK (fun q hq => by cases hq)
      exact b2.grown hg b2.size (fun q hq => by injection hq with hq; omega)
    clear h2 h3 h4 hg T3 a0 o0 hK h63 hby VO K0 KK0 HS i0 hi hz0 hz1 hz2
    obtain ⟨i0, hi, hz0, hz1, hz2⟩ := info_parts inR
    obtain ⟨i1, hi', hy0, hy1, hy2⟩ := info_parts inV
    go_wp2
    clear x0 f0
    generalize w3.setCell ⟨w7.heap.size, 0, none⟩ (.slice pA nA cA) = W1 at T1 S1 B1 ⊢
    go_loopw [4] (fun v wr => ∃ i : Nat, i ≤ n ∧ v = .int .i64 i ∧ Hid (∃ b zs, wr.heap[w7.heap.size]? = some (.cells #[.slice pA nA cA, b] 25 (0, 0)) ∧ wr.ownsRow w7.heap.size 37 1 b zs.length zs ∧ OwnRs w7.heap.size zs (rs.take i) wr ∧ Below w7.heap.size w7 wr) ∧ Hid (OwnS w7.heap.size (.slice pA nA cA) vs wr)) (fun v _ => n - (intOf v).toNat)
    case atStart => exact ⟨0, Nat.zero_le _, rfl, ⟨.slice none 0 0, [], T1.out, World.ownsRow_nil _ _ _ _, OwnRs.nil _ _, B1.out⟩, S1⟩
    case round =>
      obtain ⟨i, hk, rfl, hI, hS⟩ := hrel
      obtain ⟨b, zs, hT, hob, hrs, hB⟩ := hI.out
      obtain ⟨pb, nb, cb, rfl⟩ := slice_of hob
      have KW : Below w.heap.size w wr := K7.trans (hB.mono K7.size)
      have VW : Hid (Var wr w.heap.size (.slice p m cv) (.slice q n c)) := VT.out.below hB
      have a1 := VW.out.c1
      by_cases hlt : i < n
      · have kx : i < rs.length := by have := en.out; omega
        obtain ⟨bx, off, v, rfl, hbx, x1, x2⟩ := HX.out i kx
        have q1 := (KW.cell (p := ⟨bx, off + i, none⟩) hbx).trans x1
        have l1 := SX.out rs[i] (List.getElem_mem kx)
        have hstep : Hid (rs.take (i + 1) = rs.take i ++ [rs[i]]) := List.take_succ_eq_append_getElem kx
        have X0 : Hid (Src wr 4 v rs[i].length (flat rs[i])) := src_row (x2.below KW)
        obtain ⟨pu, cu, rfl⟩ := x2.form
        generalize rs[i] = r at *
        clear x1 x2
        have h63 : 0 + r.length ≤ maxLen := by unfold maxLen; omega
        have hby : (0 + r.length) * 40 ≤ 140737488355328 := by omega
        have hT1 : Hid (wr.heap[w7.heap.size]? = some (.cells #[.slice pA nA cA, .slice pb nb cb] 25 (0, 0))) := hT
        have hob1 : Hid (wr.ownsRow w7.heap.size 37 1 (.slice pb nb cb) zs.length zs) := hob
        have hrs1 : Hid (OwnRs w7.heap.size zs (rs.take i) wr) := hrs
        have hB1 : Hid (Below w7.heap.size w7 wr) := hB
        clear hT hob hrs hB hI
        go_upto_region 7 with fail
        go_wp2_with (at_builtin; refine wpList_append_src rfl (.tmp 19) (.tmp 24) 37 rfl wr.heap.size 47 i1 _ 4 40 Tryz.underlying37 hi' hy0 hy1 hy2 rfl (by decide) (.slice none 0 0) 0 [] rfl (World.ownsRow_nil _ _ _ _) (.slice pu r.length cu) r.length (flat r) rfl X0.out (flat_one r) h63 hby (Nat.le_refl _) ?grow)
        case grow =>
          intro v' w4 h2 h3 h4
          obtain ⟨px, nx, cx, rfl⟩ := slice_of h2
          have HX1 : Hid (OwnV wr.heap.size (.slice px nx cx) r w4) := by
            show World.ownsRow _ _ _ _ _ _ _
            simpa using h2
          have HW1 : Hid (Below wr.heap.size wr w4) := (Below.refl _ _).grown h3 (Nat.le_refl _) (fun q hq => by cases hq)
          have hTl : w7.heap.size < wr.heap.size := (Array.getElem?_eq_some_iff.1 hT1.out).1
          have HT2 : Hid (w4.heap[w7.heap.size]? = some (.cells #[.slice pA nA cA, .slice pb nb cb] 25 (0, 0))) := (HW1.out.block _ hTl).trans hT1.out
          have HOB2 : Hid (w4.ownsRow w7.heap.size 37 1 (.slice pb nb cb) zs.length zs) := own_below hob1.out HW1.out
          have HS2 : Hid (OwnS w7.heap.size (.slice pA nA cA) vs w4) := own_below hS.out HW1.out
          have hzl : zs.length = i := by
            have h1 := hrs1.out.1
            rw [List.length_take, en.out] at h1
            omega
          have hz63 : zs.length + 1 ≤ maxLen := by unfold maxLen; omega
          have hzby : (zs.length + 1) * 24 ≤ 140737488355328 := by omega
          have HZL : Hid (zs.length = i) := hzl
          have o1 := cell_of_heap HT2.out 1 rfl
          have hsz4 : w7.heap.size ≤ (w4.alloc (.cells #[.slice px nx cx] 37)).heap.size := by simp; have := HW1.out.size; omega
          have HSRC : Hid (Src (w4.alloc (.cells #[.slice px nx cx] 37)) 1 (.slice (some ⟨w4.heap.size, 0, none⟩) 1 1) 1 [.slice px nx cx]) := Or.inr ⟨_, 1, rfl, rfl, fun j x hj => by
            rw [Addr.add_lit, Nat.zero_add]
            exact cell_of_heap (heap_alloc w4 _) j (by simpa using hj)⟩
          have HO4 : Hid ((w4.alloc (.cells #[.slice px nx cx] 37)).ownsRow w7.heap.size 37 1 (.slice pb nb cb) zs.length zs) := World.ownsRow.alloc HOB2.out _
          clear h2 h3 h4 hzl h63 hby a1 q1 X0 l1
          go_upto_region 8 with fail
          go_wp2_with (at_builtin; refine wpList_append_src rfl (.tmp 27) (.tmp 29) 23 rfl w7.heap.size 37 i0 _ 1 24 Tryz.underlying23 hi hz0 hz1 hz2 rfl (by decide) (.slice pb nb cb) zs.length zs rfl HO4.out (.slice (some ⟨w4.heap.size, 0, none⟩) 1 1) 1 [.slice px nx cx] rfl HSRC.out ?one2 hz63 hzby hsz4 ?grow2)
          case one2 => (intro u hu; simp at hu; subst hu; rfl)
          case grow2 =>
            intro v2 w5 h5 h6 h7
            obtain ⟨pv, nv, cv2, T3, t3, f3, W3, rfl⟩ := arr_step2 px nx cx pb nb cb (.slice pA nA cA) zs v2 r (rs.take i) wr w7 w4 w5 hTl HT2.out HOB2.out hrs1.out hB1.out HW1.out HX1.out h5 h6
            have S3 : Hid (OwnS w7.heap.size (.slice pA nA cA) vs (w5.setCell ⟨w7.heap.size, 1, none⟩ (.slice pv nv cv2))) := keep_arr HS2.out HOB2.out h6 T3 (by decide) (by decide)
            rw [← hstep.out] at W3
            clear h5 h6 h7 T3 HX1 HOB2 HT2 HS2 HSRC HO4 o1 hsz4
            go_wp2
            exact ⟨⟨i + 1, by omega, by go_num, W3, S3⟩, by simp [intOf]; omega⟩
      · have c2 : ¬ (i : Int) < n := by omega
        have ei : rs.take i = rs := List.take_of_length_le (by have := en.out; omega)
        rw [ei] at hrs
        have g1 : w.heap.size + 1 < w7.heap.size := by have := Z7.out; omega
        have HT : Hid (OwnT w7.heap.size (.agg #[.slice pA nA cA, .slice pb nb cb]) vs rs wr) := ⟨_, _, zs, rfl, hS.out, hob, hrs⟩
        have VRW := VR.out.below hB
        have VOW : Var wr w7.heap.size (.slice pA nA cA) (.slice pb nb cb) := hT
        have o0 := VOW.c0
        have o1 := VOW.c1
        have r0 := VRW.c0
        have r1 := VRW.c1
        have f0 := frozen_of_heap VRW 0
        have f1 := frozen_of_heap VRW 1
        have y0 : (wr.setCell ⟨w.heap.size + 1, 0, none⟩ (.slice pA nA cA)).cell? ⟨w.heap.size + 1, 0, none⟩ = some (.slice pA nA cA) := set_same r0
        have y1 : ((wr.setCell ⟨w.heap.size + 1, 0, none⟩ (.slice pA nA cA)).setCell ⟨w.heap.size + 1, 1, none⟩ (.slice pb nb cb)).cell? ⟨w.heap.size + 1, 1, none⟩ = some (.slice pb nb cb) := set_same ((set_other (by simp)).trans r1)
        have HSET : Hid (Below w.heap.size w ((wr.setCell ⟨w.heap.size + 1, 0, none⟩ (.slice pA nA cA)).setCell ⟨w.heap.size + 1, 1, none⟩ (.slice pb nb cb))) := by
          have b2 := KW.grown (grownBy_setCell wr (w.heap.size + 1) 0 (.slice pA nA cA)) KW.size (fun q hq => by injection hq with hq; omega)
          exact b2.grown (grownBy_setCell _ (w.heap.size + 1) 1 (.slice pb nb cb)) b2.size (fun q hq => by injection hq with hq; omega)
        have hle : w.heap.size ≤ w7.heap.size := K7.size
        clear hI hS hob hrs hB hT VRW VOW
        go_wp2
        (try simp only [Exit.inBlock, Exit.then])
        refine bodyPost_ret (by simp [results, Tryz.results11, go_sem, y0, y1]; try rfl) rfl ?_
        exact ⟨_, rfl, ((HT.out.set g1).set g1).base hle, HSET.out⟩

end Go.Proofs.YteipohpfaofchaaGreat

namespace Go.Proofs.YteipohpfaofchaaGreat
open Go.RowKit Go.Shelf Go.Sort
set_option linter.unusedVariables false

theorem mem_putP {y : Value × List Val} : ∀ {l : List (Value × List Val)} {x}, x ∈ putP y l → x = y ∨ x ∈ l
  | [], x, h => by simp [putP] at h; exact Or.inl h
  | a :: l, x, h => by
    unfold putP at h
    split at h
    · rcases List.mem_cons.1 h with h | h
      · exact Or.inl h
      · exact Or.inr h
    · split at h
      · exact Or.inr h
      · rcases List.mem_cons.1 h with rfl | h
        · exact Or.inr (List.mem_cons_self ..)
        · rcases mem_putP h with h | h
          · exact Or.inl h
          · exact Or.inr (List.mem_cons_of_mem _ h)
theorem putR_len (r : List Val) : ∀ l, (putR r l).length ≤ l.length + 1
  | [] => by simp [putR]
  | x :: l => by
    have ih := putR_len r l
    unfold putR
    split
    · simp
    · split
      · simp
      · simp; omega
theorem madeR_snoc (rs : List (List Val)) (x : List Val) : madeR (rs ++ [x]) = putR x (madeR rs) := by
  unfold madeR
  rw [List.foldl_append]
  rfl
theorem madeR_len (rs : List (List Val)) : (madeR rs).length ≤ rs.length := by
  have : ∀ (rs l : List (List Val)), (rs.foldl (fun l r => putR r l) l).length ≤ l.length + rs.length := by
    intro rs
    induction rs with
    | nil => intro l; simp
    | cons x rs ih =>
      intro l
      have h1 := ih (putR x l)
      have h2 := putR_len x l
      rw [List.foldl_cons, List.length_cons]
      omega
  have h := this rs []
  simpa [madeR] using h
/-- Rows and where each lies, all of the call's own. -/
def OwnG (B : Nat) (b : Value) (G : List (Value × List Val)) (w : World) : Prop := w.ownsRow B 37 1 b G.length (G.map (·.1)) ∧ ∀ x ∈ G, OwnV B x.1 x.2 w
theorem OwnG.rs {B : Nat} {b : Value} {G : List (Value × List Val)} {w : World} (h : OwnG B b G w) : OwnRs B (G.map (·.1)) (G.map (·.2)) w := by
  refine ⟨by simp, fun i h1 h2 => ?_⟩
  rw [List.getElem_map, List.getElem_map]
  exact h.2 _ (List.getElem_mem _)
theorem OwnG.tab {B : Nat} {a b : Value} {vs : List ByteArray} {G : List (Value × List Val)} {w : World} (h : OwnG B b G w) (hs : OwnS B a vs w) : OwnT B (.agg #[a, b]) vs (G.map (·.2)) w := by
  refine ⟨a, b, G.map (·.1), rfl, hs, ?_, h.rs⟩
  have := h.1
  rwa [← List.length_map (f := (·.1))] at this

set_option maxRecDepth 100000 in
set_option maxHeartbeats 8000000 in
theorem dmade_any {V R : Value} {vs : List ByteArray} {rs : List (List Val)} {w : World} (hV : StrsAt w V vs) (hn : vs.Nodup) (lv : vs.length ≤ 8) (hA : TabRows w R rs) (hl : ∀ r ∈ rs, r.length = vs.length ∧ okR r) (lr : rs.length ≤ 5864062014805) :
    Calls Tryz.prog 47 #[V, R] w fun e w' => ∃ t, e = .returned t ∧ OwnT w.heap.size t (madeS vs) (ofRows vs rs) w' ∧ Below w.heap.size w w' := by
  have RIS : Hid (∀ W, Below w.heap.size w W → Calls Tryz.prog 86 #[V] W fun e w' => ∃ v, e = .returned v ∧ OwnS W.heap.size v (madeS vs) w' ∧ Below W.heap.size W w') := fun W hW => drising_any (hV.below hW) (by omega)
  have PIC : Hid (∀ W Y U (ys : List Val), Below w.heap.size w W → RowAt W Y ys → ys.length = vs.length → StrsAt W U (madeS vs) → Calls Tryz.prog 64 #[V, Y, U] W fun e w' => ∃ v, e = .returned v ∧ OwnV W.heap.size v (picks ys (colsAt vs (madeS vs))) w' ∧ Below W.heap.size W w') := fun W Y U ys hW hY hy hU => by
    refine dpicked_any (hV.below hW) hY hU (by omega) (by omega) (by rw [madeS_len]; omega) (fun x hx => ?_) (by omega)
    have := (Lib.idxOfS_nonneg_iff vs x).2 ((mem_madeS hn x).1 hx)
    omega
  obtain ⟨pv, cv, rfl⟩ := hV.form
  obtain ⟨q, c, rfl, HX0⟩ := hA.form
  have HX : Hid (∀ k (hk : k < rs.length), ∃ b off u, q = some ⟨b, off, none⟩ ∧ b < w.heap.size ∧ w.cell? ⟨b, off + k, none⟩ = some u ∧ RowAt w u rs[k]) := HX0
  have HL : Hid (∀ r ∈ rs, r.length = vs.length ∧ okR r) := hl
  have LV : Hid (vs.length ≤ 8) := lv
  obtain ⟨n, en⟩ : ∃ n : Nat, Hid (rs.length = n) := ⟨_, rfl⟩
  rw [en.out] at lr ⊢
  clear hA hV HX0 hl lv hn
  obtain ⟨m, em⟩ : ∃ m : Nat, Hid (vs.length = m) := ⟨_, rfl⟩
  rw [em.out] at RIS PIC ⊢
  go_enter Tryz.func47, Tryz.ntmps47
  go_upto_region 1 with fail
  refine wp_world ?_
  intro w7 h7
  have VR : Hid (Var w7 w.heap.size (.slice none 0 0) (.slice none 0 0)) := by
    rw [h7]
    exact Var.made w _ _
  have K7 : Below w.heap.size w w7 := by rw [h7]; go_grown
  have Z7 : Hid (w7.heap.size = w.heap.size + 1) := by rw [h7]; show _ = _; simp
  clear h7
  go_upto_region 2 with fail
  refine wp_world ?_
  intro W0 hW0
  have VO : Hid (Var W0 w7.heap.size (.slice none 0 0) (.slice none 0 0)) := by
    rw [hW0]
    exact Var.made _ _ _
  have K0 : Below w7.heap.size w7 W0 := by rw [hW0]; go_grown
  clear hW0
  have KK0 : Below w.heap.size w W0 := K7.trans (K0.mono K7.size)
  go_wp2_with fail
  refine (RIS.out W0 KK0).mono ?_
  rintro e w3 ⟨A, rfl, oA, hb3⟩
  obtain ⟨pA, nA, cA, rfl⟩ := slice_of oA
  have T3 : w3.heap[w7.heap.size]? = some (.cells #[.slice none 0 0, .slice none 0 0] 25 (0, 0)) := (hb3.block _ (Array.getElem?_eq_some_iff.1 VO.out).1).trans VO.out
  have x0 := cell_of_heap T3 0 rfl
  have f0 := frozen_of_heap T3 0
  have hg := grownBy_setCell w3 w7.heap.size 0 (.slice pA nA cA)
  have T1 : Hid ((w3.setCell ⟨w7.heap.size, 0, none⟩ (.slice pA nA cA)).heap[w7.heap.size]? = some (.cells #[.slice pA nA cA, .slice none 0 0] 25 (0, 0))) := by
    show _ = _
    rw [setCell_eq]
    show (w3.heap.modify _ _)[_]? = _
    rw [Array.getElem?_modify, if_pos rfl, T3]
    rfl
  have S1 : Hid (OwnS w7.heap.size (.slice pA nA cA) (madeS vs) (w3.setCell ⟨w7.heap.size, 0, none⟩ (.slice pA nA cA))) := World.ownsRow.kept (own_base oA K0.size) hg (Or.inr (own_ne oA T3 (by decide)))
  have B1 : Hid (Below w7.heap.size w7 (w3.setCell ⟨w7.heap.size, 0, none⟩ (.slice pA nA cA))) := by
    have b2 := K0.trans (hb3.mono K0.size)
    exact b2.grown hg b2.size (fun q hq => by injection hq with hq; omega)
  clear hg T3 VO K0 KK0 hb3 oA RIS
  go_wp2
  clear x0 f0
  generalize w3.setCell ⟨w7.heap.size, 0, none⟩ (.slice pA nA cA) = W1 at T1 S1 B1 ⊢
  go_loopw [6] (fun v wr => ∃ i : Nat, i ≤ n ∧ v = .int .i64 i ∧ Hid (∃ b G, wr.heap[w7.heap.size]? = some (.cells #[.slice pA nA cA, b] 25 (0, 0)) ∧ OwnG w7.heap.size b G wr ∧ G.map (·.2) = madeR ((rs.take i).map fun r => picks r (colsAt vs (madeS vs))) ∧ Below w7.heap.size w7 wr) ∧ Hid (OwnS w7.heap.size (.slice pA nA cA) (madeS vs) wr)) (fun v _ => n - (intOf v).toNat)
  case atStart => exact ⟨0, Nat.zero_le _, rfl, ⟨.slice none 0 0, [], T1.out, ⟨World.ownsRow_nil _ _ _ _, by simp⟩, by simp [madeR], B1.out⟩, S1⟩
  case round =>
    obtain ⟨i, hk, rfl, hI, hS⟩ := hrel
    obtain ⟨b, G, hT, hG, hE, hB⟩ := hI.out
    obtain ⟨pb, nb, cb, rfl⟩ := slice_of hG.1
    have KW : Below w.heap.size w wr := K7.trans (hB.mono K7.size)
    by_cases hlt : i < n
    · have kx : i < rs.length := by have := en.out; omega
      obtain ⟨bx, off, U, rfl, hbx, x1, x2⟩ := HX.out i kx
      obtain ⟨l1, l2⟩ := HL.out rs[i] (List.getElem_mem kx)
      have hstep : Hid (rs.take (i + 1) = rs.take i ++ [rs[i]]) := List.take_succ_eq_append_getElem kx
      have x2w := x2.below KW
      have q1 := (KW.cell (p := ⟨bx, off + i, none⟩) hbx).trans x1
      have a0 := cell_of_heap hT 0 rfl
      generalize rs[i] = y at *
      obtain ⟨pu, cu, rfl⟩ := x2.form
      obtain ⟨ny, eny⟩ : ∃ ny : Nat, Hid (y.length = ny) := ⟨_, rfl⟩
      rw [eny.out] at x2w q1 x1 x2
      have ct : Hid (∀ W : World, Below wr.heap.size wr W → Calls Tryz.prog 64 #[.slice pv m cv, .slice pu ny cu, .slice pA nA cA] W fun e w' => ∃ v, e = .returned v ∧ OwnV wr.heap.size v (picks y (colsAt vs (madeS vs))) w' ∧ Below W.heap.size W w') := fun W hW => by
        refine (PIC.out W _ _ y (KW.trans (hW.mono KW.size)) (x2w.below hW) (l1.trans em.out) ((OwnS.strs hS.out).below hW)).mono ?_
        rintro e w' ⟨v, h1, h2, h3⟩
        exact ⟨v, h1, own_base h2 hW.size, h3⟩
      have hbr : bx < wr.heap.size := Nat.lt_of_lt_of_le hbx KW.size
      have htl : w7.heap.size < wr.heap.size := (Array.getElem?_eq_some_iff.1 hT).1
      have hT1 : Hid (wr.heap[w7.heap.size]? = some (.cells #[.slice pA nA cA, .slice pb nb cb] 25 (0, 0))) := hT
      have hG1 : Hid (OwnG w7.heap.size (.slice pb nb cb) G wr) := hG
      have hE1 : Hid (G.map (·.2) = madeR ((rs.take i).map fun r => picks r (colsAt vs (madeS vs)))) := hE
      have hB1 : Hid (Below w7.heap.size w7 wr) := hB
      have okX : Hid (okR (picks y (colsAt vs (madeS vs)))) := l2.picks _
      have okG : Hid (∀ x ∈ G, okR x.2) := fun x hx => by
        have h1 : x.2 ∈ G.map (·.2) := List.mem_map.2 ⟨x, hx, rfl⟩
        rw [hE] at h1
        refine madeR_ok (fun r hr => ?_) _ h1
        obtain ⟨z, hz, rfl⟩ := List.mem_map.1 hr
        exact ((HL.out z (List.mem_of_mem_take hz)).2).picks _
      have lenX : Hid ((picks y (colsAt vs (madeS vs))).length ≤ 8) := by
        have h1 : (picks y (colsAt vs (madeS vs))).length ≤ (colsAt vs (madeS vs)).length := List.length_filterMap_le _ _
        have h2 : (colsAt vs (madeS vs)).length = vs.length := by unfold colsAt; rw [List.length_map, madeS_len]
        have := LV.out
        show _ ≤ _
        omega
      have lenG : Hid (∀ x ∈ G, x.2.length ≤ 8) := fun x hx => by
        have h1 : x.2 ∈ G.map (·.2) := List.mem_map.2 ⟨x, hx, rfl⟩
        rw [hE] at h1
        have h2 := (mem_madeR (fun r hr => by
          obtain ⟨z, hz, rfl⟩ := List.mem_map.1 hr
          exact ((HL.out z (List.mem_of_mem_take hz)).2).picks _) x.2).1 h1
        obtain ⟨z, hz, e⟩ := List.mem_map.1 h2
        rw [← e]
        have h3 : (picks z (colsAt vs (madeS vs))).length ≤ (colsAt vs (madeS vs)).length := List.length_filterMap_le _ _
        have h4 : (colsAt vs (madeS vs)).length = vs.length := by unfold colsAt; rw [List.length_map, madeS_len]
        have := LV.out
        omega
      have lG : Hid (G.length + 1 ≤ 5864062014805) := by
        have h1 : G.length = (G.map (·.2)).length := by simp
        have h2 := madeR_len ((rs.take i).map fun r => picks r (colsAt vs (madeS vs)))
        rw [← hE] at h2
        simp only [List.length_map, List.length_take] at h1 h2
        have := en.out
        show _ ≤ _
        omega
      have hE2 : Hid (∀ X, (putP (X, picks y (colsAt vs (madeS vs))) G).map (·.2) = madeR ((rs.take (i + 1)).map fun r => picks r (colsAt vs (madeS vs)))) := fun X => by
        rw [putP_snd, hstep.out, List.map_append, List.map_cons, List.map_nil, madeR_snoc, hE]
      clear hT hG hE hB hI x1 x2 l1 l2 x2w hE1
      obtain ⟨z, ez⟩ : ∃ z, Hid (picks y (colsAt vs (madeS vs)) = z) := ⟨_, rfl⟩
      rw [ez.out] at ct okX lenX hE2
      have j0 : (0 : Int) ≤ (i : Int) := by omega
      have j1 : (i : Int) < (n : Int) := by omega
      go_upto_region 6 with fail
      go_region_held3 (fun w' => w'.cell? ⟨bx, off + i, none⟩ = some (.slice pu ny cu) ∧ w'.cell? ⟨w7.heap.size, 0, none⟩ = some (.slice pA nA cA))
        (exact ⟨bcl (n := wr.heap.size) (by go_grown) q1 hbr, bcl (n := wr.heap.size) (by go_grown) a0 htl⟩)
        (first
          | (go_at_call 64; refine (ct.out _ (by go_grown)).mono ?_; rintro e v1 ⟨X, rfl, oX, hv1⟩; obtain ⟨hw1, hn1⟩ := bg0 (n := wr.heap.size) (W0 := wr) (by go_grown) (by go_size) hv1; clear hv1))
      obtain ⟨px, nx, cx, rfl⟩ := slice_of oX
      have HB2 : Hid (Below wr.heap.size wr v1) := hw1
      have HX1 : Hid (OwnV wr.heap.size (.slice px nx cx) z v1) := oX
      have HT2 : Hid (v1.heap[w7.heap.size]? = some (.cells #[.slice pA nA cA, .slice pb nb cb] 25 (0, 0))) := (hw1.block _ htl).trans hT1.out
      have o1 := cell_of_heap HT2.out 1 rfl
      have HG2 : Hid (OwnG w7.heap.size (.slice pb nb cb) G v1) := ⟨own_below hG1.out.1 hw1, fun x hx => own_below (hG1.out.2 x hx) hw1⟩
      have HS2 : Hid (OwnS w7.heap.size (.slice pA nA cA) (madeS vs) v1) := own_below hS.out hw1
      have ct2 : Hid (Calls Tryz.prog 87 #[.slice pb nb cb, .slice px nx cx] v1 fun e w' => ∃ v, e = .returned v ∧ w'.ownsRow v1.heap.size 37 1 v (putP (.slice px nx cx, z) G).length ((putP (.slice px nx cx, z) G).map (·.1)) ∧ Below v1.heap.size v1 w') :=
        dput_any (vals_own HG2.out.1) (fun x hx => ⟨(HG2.out.2 x hx).row, fun v hv => (okG.out x hx v hv).2, by have := lenG.out x hx; omega⟩) HX1.out.row (fun v hv => (okX.out v hv).2) (by have := lenX.out; omega) lG.out
      clear oX hw1 ct q1 a0 hn1 hT1 hG1 hS
      go_wp2_with fail
      refine ct2.out.mono ?_
      rintro e w2 ⟨bb, rfl, ob, hb2⟩
      obtain ⟨pd, nd, cd, rfl⟩ := slice_of ob
      have hv1 : w7.heap.size < v1.heap.size := Nat.lt_of_lt_of_le htl HB2.out.size
      have HT4 : Hid (w2.heap[w7.heap.size]? = some (.cells #[.slice pA nA cA, .slice pb nb cb] 25 (0, 0))) := (hb2.block _ hv1).trans HT2.out
      have x1 := cell_of_heap HT4.out 1 rfl
      have f1 := frozen_of_heap HT4.out 1
      have hg := grownBy_setCell w2 w7.heap.size 1 (.slice pd nd cd)
      have T5 : (w2.setCell ⟨w7.heap.size, 1, none⟩ (.slice pd nd cd)).heap[w7.heap.size]? = some (.cells #[.slice pA nA cA, .slice pd nd cd] 25 (0, 0)) := by
        rw [setCell_eq]
        show (w2.heap.modify _ _)[_]? = _
        rw [Array.getElem?_modify, if_pos rfl, HT4.out]
        rfl
      have keep : ∀ {e size n : Nat} {v : Value} {xs : List Value}, w2.ownsRow w7.heap.size e size v n xs → e ≠ 25 → (w2.setCell ⟨w7.heap.size, 1, none⟩ (.slice pd nd cd)).ownsRow w7.heap.size e size v n xs := fun h hne => World.ownsRow.kept h hg (Or.inr (own_ne h HT4.out hne))
      have G5 : OwnG w7.heap.size (.slice pd nd cd) (putP (.slice px nx cx, z) G) (w2.setCell ⟨w7.heap.size, 1, none⟩ (.slice pd nd cd)) := by
        refine ⟨keep (own_base ob (Nat.le_of_lt hv1)) (by decide), fun x hx => ?_⟩
        rcases mem_putP hx with rfl | hx
        · exact keep (own_below (own_base HX1.out (Nat.le_of_lt htl)) hb2) (by decide)
        · exact keep (own_below (HG2.out.2 x hx) hb2) (by decide)
      have S5 : Hid (OwnS w7.heap.size (.slice pA nA cA) (madeS vs) (w2.setCell ⟨w7.heap.size, 1, none⟩ (.slice pd nd cd))) := keep (own_below HS2.out hb2) (by decide)
      have B5 : Below w7.heap.size w7 (w2.setCell ⟨w7.heap.size, 1, none⟩ (.slice pd nd cd)) := by
        have b1 := HB2.out.trans (hb2.mono HB2.out.size)
        have b2 := hB1.out.trans (b1.mono hB1.out.size)
        exact b2.grown hg b2.size (fun q hq => by injection hq with hq; omega)
      have I5 : Hid (∃ b G, (w2.setCell ⟨w7.heap.size, 1, none⟩ (.slice pd nd cd)).heap[w7.heap.size]? = some (.cells #[.slice pA nA cA, b] 25 (0, 0)) ∧ OwnG w7.heap.size b G (w2.setCell ⟨w7.heap.size, 1, none⟩ (.slice pd nd cd)) ∧ G.map (·.2) = madeR ((rs.take (i + 1)).map fun r => picks r (colsAt vs (madeS vs))) ∧ Below w7.heap.size w7 (w2.setCell ⟨w7.heap.size, 1, none⟩ (.slice pd nd cd))) := ⟨_, _, T5, G5, hE2.out _, B5⟩
      clear ct2 ob hb2 HX1 HG2 HS2 HT2 o1 hg T5 keep G5 B5 hE2 HT4 lG okX okG lenX lenG
      go_wp2
      exact ⟨⟨i + 1, by omega, by go_num, I5, S5⟩, by simp [intOf]; omega⟩
    · have c2 : ¬ (i : Int) < n := by omega
      have ei : rs.take i = rs := List.take_of_length_le (by have := en.out; omega)
      rw [ei] at hE
      have g1 : w.heap.size < w7.heap.size := by have := Z7.out; omega
      have HT : Hid (OwnT w7.heap.size (.agg #[.slice pA nA cA, .slice pb nb cb]) (madeS vs) (ofRows vs rs) wr) := by
        have h := hG.tab hS.out
        rwa [hE] at h
      have VRW := VR.out.below hB
      have VOW : Var wr w7.heap.size (.slice pA nA cA) (.slice pb nb cb) := hT
      have o0 := VOW.c0
      have o1 := VOW.c1
      have r0 := VRW.c0
      have r1 := VRW.c1
      have f0 := frozen_of_heap VRW 0
      have f1 := frozen_of_heap VRW 1
      have y0 : (wr.setCell ⟨w.heap.size, 0, none⟩ (.slice pA nA cA)).cell? ⟨w.heap.size, 0, none⟩ = some (.slice pA nA cA) := set_same r0
      have y1 : ((wr.setCell ⟨w.heap.size, 0, none⟩ (.slice pA nA cA)).setCell ⟨w.heap.size, 1, none⟩ (.slice pb nb cb)).cell? ⟨w.heap.size, 1, none⟩ = some (.slice pb nb cb) := set_same ((set_other (by simp)).trans r1)
      have HSET : Hid (Below w.heap.size w ((wr.setCell ⟨w.heap.size, 0, none⟩ (.slice pA nA cA)).setCell ⟨w.heap.size, 1, none⟩ (.slice pb nb cb))) := by
        have b2 := KW.grown (grownBy_setCell wr w.heap.size 0 (.slice pA nA cA)) KW.size (fun q hq => by injection hq with hq; omega)
        exact b2.grown (grownBy_setCell _ w.heap.size 1 (.slice pb nb cb)) b2.size (fun q hq => by injection hq with hq; omega)
      have hle : w.heap.size ≤ w7.heap.size := K7.size
      clear hI hS hG hB hT VRW VOW hE
      go_wp2
      (try simp only [Exit.inBlock, Exit.then])
      refine bodyPost_ret (by simp [results, Tryz.results47, go_sem, y0, y1]; try rfl) rfl ?_
      exact ⟨_, rfl, ((HT.out.set g1).set g1).base hle, HSET.out⟩

end Go.Proofs.YteipohpfaofchaaGreat

namespace Go.Proofs.YteipohpfaofchaaGreat
open Go.RowKit Go.Shelf Go.Sort
set_option linter.unusedVariables false

theorem OwnT.none (B : Nat) (w : World) : OwnT B (.agg #[.slice none 0 0, .slice none 0 0]) [] [] w := ⟨_, _, [], rfl, World.ownsRow_nil _ _ _ _, World.ownsRow_nil _ _ _ _, OwnRs.nil _ _⟩
/-- What is told together with an error: nothing, if there is one. -/
def TabO (B : Nat) (E : Int) (vs : List ByteArray) (L : List (List Val)) (t : Value) (w : World) : Prop := OwnT B t (if E = 0 then vs else []) (if E = 0 then L else []) w
theorem TabO.of {B : Nat} {E : Int} {vs : List ByteArray} {L : List (List Val)} {t : Value} {w : World} (h1 : E = 0 → OwnT B t vs L w) (h2 : E ≠ 0 → t = .agg #[.slice none 0 0, .slice none 0 0]) : TabO B E vs L t w := by
  unfold TabO
  by_cases h : E = 0
  · rw [if_pos h, if_pos h]; exact h1 h
  · rw [if_neg h, if_neg h, h2 h]; exact OwnT.none _ _
theorem own_forms2 {B : Nat} {t : Value} {vs : List ByteArray} {L : List (List Val)} {w : World} (h : OwnT B t vs L w) : ∃ p n c p' n' c', t = .agg #[.slice p n c, .slice p' n' c'] := by
  obtain ⟨p, c, p', c', e⟩ := own_forms h
  exact ⟨_, _, _, _, _, _, e⟩
theorem OwnT.grown {B : Nat} {t : Value} {vs : List ByteArray} {L : List (List Val)} {w w' : World} (h : OwnT B t vs L w) (hb : Below w.heap.size w w') : OwnT B t vs L w' := by
  obtain ⟨a, b, us, rfl, h1, h2, h3⟩ := h
  exact ⟨a, b, us, rfl, own_below h1 hb, own_below h2 hb, h3.below hb⟩
theorem TabO.grown {B : Nat} {E : Int} {vs : List ByteArray} {L : List (List Val)} {t : Value} {w w' : World} (h : TabO B E vs L t w) (hb : Below w.heap.size w w') : TabO B E vs L t w' := OwnT.grown h hb
/-- What a call tells: a table of its own and an error. -/
def TellsT (B : Nat) (E : Int) (vs : List ByteArray) (L : List (List Val)) (w0 : World) (e : Ending) (w : World) : Prop := ∃ pa na ca pb nb cb, e = .returned (.tuple #[.agg #[.slice pa na ca, .slice pb nb cb], .int .i64 E]) ∧ TabO B E vs L (.agg #[.slice pa na ca, .slice pb nb cb]) w ∧ Below B w0 w
theorem TellsT.of {B : Nat} {E : Int} {vs : List ByteArray} {L : List (List Val)} {w0 w : World} {t : Value} (h1 : E = 0 → OwnT B t vs L w) (h2 : E ≠ 0 → t = .agg #[.slice none 0 0, .slice none 0 0]) (hb : Below B w0 w) : TellsT B E vs L w0 (.returned (.tuple #[t, .int .i64 E])) w := by
  have h := TabO.of h1 h2
  obtain ⟨p, n, c, p', n', c', rfl⟩ := own_forms2 h
  exact ⟨_, _, _, _, _, _, rfl, h, hb⟩
end Go.Proofs.YteipohpfaofchaaGreat

namespace Go.Proofs.YteipohpfaofchaaGreat
open Go.RowKit Go.Shelf Go.Sort
set_option linter.unusedVariables false

theorem madeS_self {vs : List ByteArray} (h : riseB vs = true) : madeS vs = vs := (madeS_eq (rises_nodup (rise_pw h)) (rise_pw h) fun _ => Iff.rfl).symm
theorem cols_self {vs : List ByteArray} (hn : vs.Nodup) : colsAt vs vs = List.range vs.length := by
  have h := cols_of_picks hn (cs := List.range vs.length) (fun c hc => List.mem_range.1 hc)
  rw [picks_self] at h
  exact h.symm
theorem ofRows_self {vs : List ByteArray} (h : riseB vs = true) {L : List (List Val)} (hl : ∀ r ∈ L, r.length = vs.length) : ofRows vs L = madeR L := by
  unfold ofRows
  rw [madeS_self h, cols_self (rises_nodup (rise_pw h))]
  refine congrArg madeR ?_
  have : ∀ r ∈ L, picks r (List.range vs.length) = r := fun r hr => by rw [← hl r hr, picks_self]
  conv => rhs; rw [← List.map_id L]
  exact List.map_congr_left this
theorem madeR_filter {rs : List (List Val)} (ok : ∀ r ∈ rs, okR r) (h : rs.Pairwise (fun a b => rowC a b < 0)) (p : List Val → Bool) : madeR (rs.filter p) = rs.filter p :=
  (madeR_eq (fun r hr => ok r ((List.mem_filter.1 hr).1)) (h.sublist List.filter_sublist) fun _ => Iff.rfl).symm
end Go.Proofs.YteipohpfaofchaaGreat

namespace Go.Proofs.YteipohpfaofchaaGreat
open Go.RowKit Go.Shelf Go.Sort
set_option linter.unusedVariables false

/-- A table in memory, as the document's functions ask for it. -/
structure DTab (w : World) (V R : Value) (vs : List ByteArray) (rs : List (List Val)) : Prop where
  vars : StrsAt w V vs
  rows : TabRows w R rs
  fits : ∀ r ∈ rs, ∀ v ∈ r, v.Fits
  long : ∀ r ∈ rs, r.length ≤ 9223372036854775807
  names : vs.length ≤ 9223372036854775807
  many : rs.length ≤ 5864062014805
theorem DTab.below {w w' : World} {V R : Value} {vs : List ByteArray} {rs : List (List Val)} (h : DTab w V R vs rs) (hb : Below w.heap.size w w') : DTab w' V R vs rs := ⟨h.vars.below hb, h.rows.below hb, h.fits, h.long, h.names, h.many⟩
theorem DTab.forms {w : World} {V R : Value} {vs : List ByteArray} {rs : List (List Val)} (h : DTab w V R vs rs) : ∃ p c p' c', V = .slice p vs.length c ∧ R = .slice p' rs.length c' := by
  obtain ⟨p, c, rfl⟩ := h.vars.form
  obtain ⟨p', c', rfl, -⟩ := h.rows.form
  exact ⟨p, c, p', c', rfl, rfl⟩
theorem DTab.check {w : World} {V R : Value} {vs : List ByteArray} {rs : List (List Val)} (h : DTab w V R vs rs) : Calls Tryz.prog 13 #[.agg #[V, R]] w fun e w' => e = .returned (.int .i64 (tabChk vs rs)) ∧ Below w.heap.size w w' :=
  dcheck_any h.vars h.rows h.names h.fits (by have := h.many; omega) h.long
set_option maxRecDepth 100000 in
set_option maxHeartbeats 2000000 in
theorem dboth2_any {Va Ra Vb Rb : Value} {vs vs' : List ByteArray} {rs qs : List (List Val)} {w : World} (ha : DTab w Va Ra vs rs) (hb : DTab w Vb Rb vs' qs) :
    Calls Tryz.prog 57 #[.agg #[Va, Ra], .agg #[Vb, Rb]] w fun e w' => e = .returned (.int .i64 (bothE vs rs vs' qs)) ∧ Below w.heap.size w w' := by
  have c1 : Hid (∀ W, Below w.heap.size w W → Calls Tryz.prog 13 #[.agg #[Va, Ra]] W fun e w' => e = .returned (.int .i64 (tabChk vs rs)) ∧ Below W.heap.size W w') := fun W hW => (ha.below hW).check
  have c2 : Hid (∀ W, Below w.heap.size w W → Calls Tryz.prog 13 #[.agg #[Vb, Rb]] W fun e w' => e = .returned (.int .i64 (tabChk vs' qs)) ∧ Below W.heap.size W w') := fun W hW => (hb.below hW).check
  obtain ⟨p1, k1, p2, k2, rfl, rfl⟩ := ha.forms
  obtain ⟨p3, k3, p4, k4, rfl, rfl⟩ := hb.forms
  unfold bothE
  generalize vs.length = n1 at *
  generalize rs.length = n2 at *
  generalize vs'.length = n3 at *
  generalize qs.length = n4 at *
  generalize tabChk vs rs = E at *
  generalize tabChk vs' qs = D at *
  clear ha hb
  go_enter Tryz.func57, Tryz.ntmps57
  go_wp2_with fail
  refine (c1.out _ (by go_grown)).mono ?_
  rintro e w1 ⟨rfl, hb1⟩
  have b0 : w1.cell? ⟨w.heap.size + 1, 0, none⟩ = some (.slice p3 n3 k3) := (hb1.cell (p := ⟨w.heap.size + 1, 0, none⟩) (by simp)).trans (by simp (maxDischargeDepth := 8) [go_sem])
  have b1 : w1.cell? ⟨w.heap.size + 1, 1, none⟩ = some (.slice p4 n4 k4) := (hb1.cell (p := ⟨w.heap.size + 1, 1, none⟩) (by simp)).trans (by simp (maxDischargeDepth := 8) [go_sem])
  have hB1 : Below w.heap.size w w1 := by
    obtain ⟨hw1, -⟩ := bg0 (n := w.heap.size) (W0 := w) (by go_grown) (by go_size) hb1
    exact hw1
  clear hb1 c1
  by_cases hE : E = 0
  · subst hE
    go_wp2_with fail
    refine (c2.out _ hB1).mono ?_
    rintro e w2 ⟨rfl, hb2⟩
    have hB2 : Below w.heap.size w w2 := hB1.trans (hb2.mono hB1.size)
    clear b0 b1 c2 hb2 hB1
    go_wp2
    go_ret
    exact ⟨ret_int (by simp), hB2⟩
  · have hE2 : (E == 0) = false := by simpa using hE
    go_wp2
    go_ret
    exact ⟨ret_int (by simp), hB1⟩


end Go.Proofs.YteipohpfaofchaaGreat

namespace Go.Proofs.YteipohpfaofchaaGreat
open Go.RowKit Go.Shelf Go.Sort
set_option linter.unusedVariables false

theorem weak1 {w : World} {B e size n : Nat} {v : Value} {xs : List Value} (h : w.ownsRow B e size v n xs) (g o : Nat) (u : Value) : ∃ ys, (w.setCell ⟨g, o, none⟩ u).ownsRow B e size v n ys := by
  rcases h with ⟨h0, ⟨rfl, rfl⟩ | ⟨g', cap, cur, rfl, h1⟩⟩
  · exact ⟨[], by simp, Or.inl ⟨rfl, rfl⟩⟩
  · have h' : w.ownsRow B e size (.slice (some ⟨g', 0, none⟩) n cap) n xs := ⟨h0, Or.inr ⟨g', cap, cur, rfl, h1⟩⟩
    by_cases hg : g' = g
    · subst hg
      exact ⟨_, (h'.stored o u).1⟩
    · exact ⟨xs, World.ownsRow.kept h' (grownBy_setCell w g o u) (Or.inr (fun e => hg (by injection e)))⟩
/-- A table that may be written over, in a variable. -/
def Sp (B T : Nat) (A b : Value) (us : List Value) (ls : List Nat) (nv : Nat) (w : World) : Prop :=
  w.heap[T]? = some (.cells #[A, b] 25 (0, 0)) ∧ w.ownsRow B 37 1 b us.length us ∧ us.length = ls.length ∧ (∀ i (h : i < us.length) (g : i < ls.length), ∃ ys, w.ownsRow B 47 4 us[i] ls[i] ys) ∧ ∃ zs, w.ownsRow B 9 1 A nv zs
theorem Sp.set {B T : Nat} {A b : Value} {us : List Value} {ls : List Nat} {nv : Nat} {w : World} (h : Sp B T A b us ls nv w) {g : Nat} {cur : Array Value} {e' : Nat} (hg : w.heap[g]? = some (.cells cur e' (0, 0))) (n1 : 25 ≠ e') (n2 : 37 ≠ e') (o : Nat) (u : Value) : Sp B T A b us ls nv (w.setCell ⟨g, o, none⟩ u) ∧ ∃ cur', (w.setCell ⟨g, o, none⟩ u).heap[g]? = some (.cells cur' e' (0, 0)) := by
  obtain ⟨h1, h2, h3, h4, zs, h5⟩ := h
  have hgb := grownBy_setCell w g o u
  refine ⟨⟨?_, World.ownsRow.kept h2 hgb (Or.inr (own_ne h2 hg n2)), h3, fun i a c => ?_, weak1 h5 g o u⟩, ?_⟩
  · have hne : T ≠ g := by
      intro e
      subst e
      rw [h1] at hg
      injection hg with hg
      injection hg with _ hg _
      exact n1 hg
    exact (hgb.block T (Array.getElem?_eq_some_iff.1 h1).1 (fun e => hne (by injection e with e; first | done | exact e | exact e.symm))).trans h1
  · obtain ⟨ys, hy⟩ := h4 i a c
    exact weak1 hy g o u
  · rw [setCell_eq]
    show ∃ cur', (w.heap.modify _ _)[_]? = _
    rw [Array.getElem?_modify, if_pos rfl, hg]
    exact ⟨_, rfl⟩
theorem Sp.below {B T : Nat} {A b : Value} {us : List Value} {ls : List Nat} {nv : Nat} {w w' : World} (h : Sp B T A b us ls nv w) (hb : Below w.heap.size w w') : Sp B T A b us ls nv w' := by
  obtain ⟨h1, h2, h3, h4, zs, h5⟩ := h
  exact ⟨(hb.block T (Array.getElem?_eq_some_iff.1 h1).1).trans h1, own_below h2 hb, h3, fun i a c => (h4 i a c).imp fun _ h => own_below h hb, zs, own_below h5 hb⟩

theorem Sp.set4 {B T : Nat} {A b : Value} {us : List Value} {ls : List Nat} {nv : Nat} {w : World} (h : Sp B T A b us ls nv w) {g : Nat} {cur : Array Value} {e' : Nat} (hg : w.heap[g]? = some (.cells cur e' (0, 0))) (n1 : 25 ≠ e') (n2 : 37 ≠ e') (o1 o2 o3 o4 : Nat) (u1 u2 u3 u4 : Value) : Sp B T A b us ls nv ((((w.setCell ⟨g, o1, none⟩ u1).setCell ⟨g, o2, none⟩ u2).setCell ⟨g, o3, none⟩ u3).setCell ⟨g, o4, none⟩ u4) := by
  obtain ⟨h1, c1, e1⟩ := h.set hg n1 n2 o1 u1
  obtain ⟨h2, c2, e2⟩ := h1.set e1 n1 n2 o2 u2
  obtain ⟨h3, c3, e3⟩ := h2.set e2 n1 n2 o3 u3
  exact (h3.set e3 n1 n2 o4 u4).1
theorem below_set1 {B : Nat} {w w' : World} (h : Below B w w') (hB : B ≤ w.heap.size) {g : Nat} (hg : B ≤ g) (o : Nat) (u : Value) : Below B w (w'.setCell ⟨g, o, none⟩ u) :=
  h.grown (grownBy_setCell w' g o u) (Nat.le_trans hB h.size) (fun q hq => by injection hq with hq; omega)

set_option maxRecDepth 100000 in
set_option maxHeartbeats 8000000 in
theorem spoil_any {B : Nat} {t : Value} {vs : List ByteArray} {L : List (List Val)} {w : World} (hT : OwnT B t vs L w) (hB0 : B ≤ w.heap.size) (lv : vs.length ≤ 9223372036854775807) (ll : L.length ≤ 9223372036854775807) (lr : ∀ r ∈ L, r.length ≤ 9223372036854775807) :
    Calls Tryz.prog 48 #[t] w fun e w' => (∃ v, e = .returned v) ∧ Below B w w' := by
  obtain ⟨A, b, us, rfl, hA, hb, hr⟩ := hT
  have S0 : Hid (Sp B w.heap.size A b us (L.map (·.length)) vs.length (w.alloc (.cells #[A, b] 25))) := by
    refine ⟨heap_alloc _ _, World.ownsRow.alloc hb _, by simpa using hr.1, fun i h g => ?_, ⟨_, World.ownsRow.alloc hA _⟩⟩
    rw [List.getElem_map]
    exact ⟨_, World.ownsRow.alloc (hr.2 i h (by simpa using g)) _⟩
  have hul := hr.1
  obtain ⟨pA, nA, cA, rfl⟩ := slice_of hA
  obtain ⟨pb, nb, cb, rfl⟩ := slice_of hb
  have LN : Hid (∀ i (g : i < (L.map (·.length)).length), (L.map (·.length))[i] ≤ 9223372036854775807) := fun i g => by
    rw [List.getElem_map]
    exact lr _ (List.getElem_mem _)
  generalize L.map (·.length) = ls at S0 LN
  obtain ⟨n, en⟩ : ∃ n : Nat, Hid (us.length = n) := ⟨_, rfl⟩
  have en1 : nb = n := by
    have h := own_form hb
    obtain ⟨p, c, e, -⟩ := h
    injection e with _ e _
    rw [e, en.out]
  have em : nA = vs.length := by
    obtain ⟨p, c, e⟩ := (OwnS.strs hA).form
    injection e
  subst en1 em
  rw [← hul, en.out] at ll
  obtain ⟨m, em⟩ : ∃ m : Nat, Hid (vs.length = m) := ⟨_, rfl⟩
  rw [em.out] at S0 lv ⊢
  have B0 : Below B w (w.alloc (.cells #[.slice pA m cA, .slice pb nb cb] 25)) := (Below.refl _ _).alloc hB0 _
  clear hA hb hr hul lr
  go_enter Tryz.func48, Tryz.ntmps48
  go_wp2
  generalize w.alloc (.cells #[.slice pA m cA, .slice pb nb cb] 25) = W0 at S0 B0 ⊢
  go_loopw [2] (fun v wr => ∃ i : Nat, i ≤ nb ∧ v = .int .i64 i ∧ Hid (Sp B w.heap.size (.slice pA m cA) (.slice pb nb cb) us ls m wr) ∧ Below B w wr) (fun v _ => nb - (intOf v).toNat)
  case atStart => exact ⟨0, Nat.zero_le _, rfl, S0, B0⟩
  case round =>
    obtain ⟨i, hi, rfl, hS, hB⟩ := hrel
    have t1 := cell_of_heap hS.out.1 1 rfl
    by_cases hlt : i < nb
    · have kx : i < us.length := by have := en.out; omega
      have ky : i < ls.length := by have := hS.out.2.2.1; omega
      obtain ⟨ro, hro⟩ : ∃ ro : Nat, Hid (ls[i] = ro) := ⟨ls[i], (rfl : ls[i] = ls[i])⟩
      have lro : ro ≤ 9223372036854775807 := by have := LN.out i ky; rw [hro.out] at this; exact this
      clear t1
      obtain ⟨U, eU⟩ : ∃ U, Hid (us[i] = U) := ⟨us[i], (rfl : us[i] = us[i])⟩
      obtain ⟨ys0, hy0⟩ := hS.out.2.2.2.1 i kx ky
      obtain ⟨pu, nu, cu, hf⟩ := slice_of hy0
      rw [eU.out] at hf
      subst hf
      have enu : nu = ro := by
        rw [eU.out, hro.out] at hy0
        rcases hy0 with ⟨-, ⟨e, h⟩ | ⟨_, _, _, e, -⟩⟩
        · injection e with _ e _; omega
        · injection e
      subst enu
      have j0 : (0 : Int) ≤ (i : Int) := by omega
      have j1 : (i : Int) < (nb : Int) := by omega
      have OUT : Hid (∀ W, Sp B w.heap.size (.slice pA m cA) (.slice pb nb cb) us ls m W → ∃ gb, pb = some ⟨gb, 0, none⟩ ∧ gb < W.heap.size ∧ W.cell? ⟨gb, i, none⟩ = some (.slice pu nu cu)) := fun W h => by
        obtain ⟨p, c, e, h5⟩ := own_form h.2.1
        obtain ⟨g, h6, -, h7, h8⟩ := h5 i kx
        injection e with e1 e2 e3
        subst e1
        rw [eU.out] at h8
        exact ⟨g, h6, h7, h8⟩
      have ROW : Hid (∀ W, Sp B w.heap.size (.slice pA m cA) (.slice pb nb cb) us ls m W → ∃ ys, W.ownsRow B 47 4 (.slice pu nu cu) nu ys) := fun W h => by
        obtain ⟨ys, hy⟩ := h.2.2.2.1 i kx ky
        rw [eU.out, hro.out] at hy
        exact ⟨ys, hy⟩
      clear hy0
      obtain ⟨gb, rfl, -, -⟩ := OUT.out _ hS.out
      have t1 := cell_of_heap hS.out.1 1 rfl
      go_upto_region 4 with fail
      go_wp2
      go_loopw [3] (fun v wr => ∃ k : Nat, k ≤ nu ∧ v = .int .i64 k ∧ Hid (Sp B w.heap.size (.slice pA m cA) (.slice (some ⟨gb, 0, none⟩) nb cb) us ls m wr) ∧ Below B w wr) (fun v _ => nu - (intOf v).toNat)
      case atStart => exact ⟨0, Nat.zero_le _, rfl, hS, hB⟩
      case round =>
        clear t1 hS hB
        obtain ⟨k, hk, rfl, hS, hB⟩ := hrel
        have t1 := cell_of_heap hS.out.1 1 rfl
        obtain ⟨gb', e1, lgb, q1⟩ := OUT.out _ hS.out
        injection e1 with e1
        injection e1 with e1
        subst e1
        have hsB : B ≤ wr.heap.size := Nat.le_trans hB0 hB.size
        by_cases hlk : k < nu
        · obtain ⟨ys, hy⟩ := ROW.out _ hS.out
          rcases hy with ⟨-, ⟨-, h⟩ | ⟨gr, cap, cur, e, hBg, hcur, hnc, -, hsz, -⟩⟩
          · omega
          injection e with e1 _ e3
          subst e1 e3
          have HC : Hid (wr.heap[gr]? = some (.cells cur 47 (0, 0))) := hcur
          have z0 : k * 4 < cur.size := by rw [hsz]; omega
          have z1 : k * 4 + 1 < cur.size := by rw [hsz]; omega
          have z2 : k * 4 + 2 < cur.size := by rw [hsz]; omega
          have z3 : k * 4 + 3 < cur.size := by rw [hsz]; omega
          have grl : gr < wr.heap.size := (Array.getElem?_eq_some_iff.1 hcur).1
          have tl : w.heap.size < wr.heap.size := (Array.getElem?_eq_some_iff.1 hS.out.1).1
          have T1 : Hid (wr.heap[w.heap.size]? = some (.cells #[.slice pA m cA, .slice (some ⟨gb, 0, none⟩) nb cb] 25 (0, 0))) := hS.out.1
          have Q1 : Hid (wr.cell? ⟨gb, i, none⟩ = some (.slice (some ⟨gr, 0, none⟩) nu cu)) := q1
          have FACT : Hid (∀ W, Below wr.heap.size wr W → W.cell? ⟨w.heap.size, 1, none⟩ = some (.slice (some ⟨gb, 0, none⟩) nb cb) ∧ W.cell? ⟨gb, i, none⟩ = some (.slice (some ⟨gr, 0, none⟩) nu cu) ∧ W.cell? ⟨gr, k * 4, none⟩ = some cur[k * 4] ∧ W.cell? ⟨gr, k * 4 + 1, none⟩ = some cur[k * 4 + 1] ∧ W.cell? ⟨gr, k * 4 + 2, none⟩ = some cur[k * 4 + 2] ∧ W.cell? ⟨gr, k * 4 + 3, none⟩ = some cur[k * 4 + 3] ∧ W.frozen? ⟨gr, k * 4, none⟩ = false ∧ W.frozen? ⟨gr, k * 4 + 1, none⟩ = false ∧ W.frozen? ⟨gr, k * 4 + 2, none⟩ = false ∧ W.frozen? ⟨gr, k * 4 + 3, none⟩ = false) := fun W hW => by
            have h1 := (hW.block _ grl).trans HC.out
            have h2 := (hW.block _ tl).trans T1.out
            exact ⟨cell_of_heap h2 1 rfl, (hW.cell (p := ⟨gb, i, none⟩) lgb).trans Q1.out, cell_of_heap h1 _ (Array.getElem?_eq_getElem z0), cell_of_heap h1 _ (Array.getElem?_eq_getElem z1), cell_of_heap h1 _ (Array.getElem?_eq_getElem z2), cell_of_heap h1 _ (Array.getElem?_eq_getElem z3), frozen_of_heap h1 _, frozen_of_heap h1 _, frozen_of_heap h1 _, frozen_of_heap h1 _⟩
          generalize cur[k * 4] = o0 at FACT
          generalize cur[k * 4 + 1] = o1 at FACT
          generalize cur[k * 4 + 2] = o2 at FACT
          generalize cur[k * 4 + 3] = o3 at FACT
          have ONE : Hid (∀ W : World, Calls Tryz.prog 35 #[.int .i64 (-77)] W fun e w' => e = .returned (.agg #[.int .i64 1, .int .i64 (-77), .int .i64 0, .string ⟨#[]⟩]) ∧ Below W.heap.size W w') := fun W => one_any (-77) W
          have i1 : (0 : Int) ≤ (k : Int) := by omega
          have i2 : (k : Int) < (nu : Int) := by omega
          clear hcur
          go_upto_region 7 with fail
          go_region_with (go_at_call 35; refine (ONE.out _).mono ?_; rintro e v1 ⟨rfl, hv1⟩; obtain ⟨hw1, hn1⟩ := bg0 (n := wr.heap.size) (W0 := wr) (by go_grown) (by go_size) hv1; clear hv1; obtain ⟨x1, x2, x3, x4, x5, x6, x7, x8, x9, x10⟩ := FACT.out _ hw1)
          all_goals (
            have HS4 : Hid (Sp B w.heap.size (.slice pA m cA) (.slice (some ⟨gb, 0, none⟩) nb cb) us ls m ((((v1.setCell ⟨gr, k * 4, none⟩ (.int .i64 1)).setCell ⟨gr, k * 4 + 1, none⟩ (.int .i64 (-77))).setCell ⟨gr, k * 4 + 2, none⟩ (.int .i64 0)).setCell ⟨gr, k * 4 + 3, none⟩ (.string ⟨#[]⟩))) := Sp.set4 (hS.out.below hw1) ((hw1.block _ grl).trans HC.out) (by decide) (by decide) _ _ _ _ _ _ _ _
            have BB : Below B w v1 := hB.trans (hw1.mono hsB)
            have HB4 : Below B w ((((v1.setCell ⟨gr, k * 4, none⟩ (.int .i64 1)).setCell ⟨gr, k * 4 + 1, none⟩ (.int .i64 (-77))).setCell ⟨gr, k * 4 + 2, none⟩ (.int .i64 0)).setCell ⟨gr, k * 4 + 3, none⟩ (.string ⟨#[]⟩)) := below_set1 (below_set1 (below_set1 (below_set1 BB hB0 hBg _ _) hB0 hBg _ _) hB0 hBg _ _) hB0 hBg _ _
            clear x1 x2 x3 x4 x5 x6 x7 x8 x9 x10 hw1 hn1 FACT HC T1 Q1 hS BB
            go_wp2
            exact ⟨⟨k + 1, by omega, by go_num, HS4, HB4⟩, by simp [intOf]; omega⟩)
        · have c2 : ¬ (k : Int) < nu := by omega
          go_wp2
          exact ⟨⟨i + 1, by omega, by go_num, hS, hB⟩, by simp [intOf]; omega⟩
    · have c2 : ¬ (i : Int) < nb := by omega
      go_wp2
      clear t1
      go_loopw [4] (fun v wr => ∃ i : Nat, i ≤ m ∧ v = .int .i64 i ∧ Hid (Sp B w.heap.size (.slice pA m cA) (.slice pb nb cb) us ls m wr) ∧ Below B w wr) (fun v _ => m - (intOf v).toNat)
      case atStart => exact ⟨0, Nat.zero_le _, rfl, hS, hB⟩
      case round =>
        clear hS hB
        obtain ⟨k, hk, rfl, hS, hB⟩ := hrel
        have t0 := cell_of_heap hS.out.1 0 rfl
        by_cases hlk : k < m
        · obtain ⟨zs, hy⟩ := hS.out.2.2.2.2
          rcases hy with ⟨-, ⟨-, h⟩ | ⟨gr, cap, cur, e, hBg, hcur, hnc, -, hsz, -⟩⟩
          · omega
          injection e with e1 _ e3
          subst e1 e3
          have z0 : k < cur.size := by rw [hsz]; omega
          have x0 := cell_of_heap hcur k (Array.getElem?_eq_getElem z0)
          have f0 := frozen_of_heap hcur k
          have HS4 : Hid (Sp B w.heap.size (.slice (some ⟨gr, 0, none⟩) m cA) (.slice pb nb cb) us ls m (wr.setCell ⟨gr, k, none⟩ (.string ⟨#[64]⟩))) := (hS.out.set hcur (by decide) (by decide) k (.string ⟨#[64]⟩)).1
          have HB4 : Below B w (wr.setCell ⟨gr, k, none⟩ (.string ⟨#[64]⟩)) := below_set1 hB hB0 hBg _ _
          generalize cur[k] = o0 at x0
          have i1 : (0 : Int) ≤ (k : Int) := by omega
          have i2 : (k : Int) < (m : Int) := by omega
          clear hS hcur hsz
          go_wp2
          exact ⟨⟨k + 1, by omega, by go_num, HS4, HB4⟩, by simp [intOf]; omega⟩
        · have c3 : ¬ (k : Int) < m := by omega
          go_wp2
          go_end0
          exact ⟨⟨_, rfl⟩, hB⟩

end Go.Proofs.YteipohpfaofchaaGreat

namespace Go.Proofs.YteipohpfaofchaaGreat
open Go.RowKit Go.Shelf Go.Sort
set_option linter.unusedVariables false

theorem rowsS_refl : ∀ xs : List (List Val), rowsS xs xs = true
  | [] => rfl
  | x :: xs => by simp only [rowsS]; rw [(rowS_iff).2 rfl, rowsS_refl xs]; rfl

end Go.Proofs.YteipohpfaofchaaGreat

namespace Go.Proofs.YteipohpfaofchaaGreat
open Go.RowKit Go.Shelf Go.Sort
set_option linter.unusedVariables false

set_option maxRecDepth 100000 in
set_option maxHeartbeats 4000000 in
theorem is_any {B B' : Nat} {t u : Value} {vs : List ByteArray} {L : List (List Val)} {E : Int} {w : World} (hT : OwnT B t vs L w) (hU : OwnT B' u vs L w) (hB : B ≤ w.heap.size) (f : ∀ r ∈ L, ∀ v ∈ r, v.Fits) (lv : vs.length ≤ 9223372036854775807) (ll : L.length ≤ 9223372036854775807) (lr : ∀ r ∈ L, r.length ≤ 9223372036854775807) :
    Calls Tryz.prog 17 #[t, .int .i64 E, u, .int .i64 E] w fun e w' => e = .returned (.bool true) ∧ Below B w w' := by
  obtain ⟨pa, na, ca, pb, nb, cb, rfl⟩ := own_forms2 hT
  obtain ⟨qa, ma, da, qb, mb, db, rfl⟩ := own_forms2 hU
  have SAM : Hid (∀ W, Below w.heap.size w W → Calls Tryz.prog 14 #[.agg #[.slice pa na ca, .slice pb nb cb], .agg #[.slice qa ma da, .slice qb mb db]] W fun e w' => e = .returned (.bool true) ∧ Below W.heap.size W w') := fun W hW => by
    have h1 := own_two (hT.grown hW)
    have h2 := own_two (hU.grown hW)
    have h := dsame_any h1.1 h2.1 h1.2 h2.2 lv lv f f lr ll ll
    rw [rowsS_refl, show decide (vs = vs) = true by simp] at h
    exact h
  have SPO : Hid (∀ W, Below w.heap.size w W → Calls Tryz.prog 48 #[.agg #[.slice pa na ca, .slice pb nb cb]] W fun e w' => (∃ v, e = .returned v) ∧ Below B W w') := fun W hW => spoil_any (hT.grown hW) (Nat.le_trans hB hW.size) lv ll lr
  clear hT hU f lv ll lr
  go_enter Tryz.func17, Tryz.ntmps17
  go_wp2_with fail
  refine (SAM.out _ (by go_grown)).mono ?_
  rintro e w1 ⟨rfl, hb1⟩
  have K1 : Below w.heap.size w w1 := by
    obtain ⟨hw1, -⟩ := bg0 (n := w.heap.size) (W0 := w) (by go_grown) (by go_size) hb1
    exact hw1
  have a0 : w1.cell? ⟨w.heap.size, 0, none⟩ = some (.slice pa na ca) := (hb1.cell (p := ⟨w.heap.size, 0, none⟩) (by simp; omega)).trans (by simp (maxDischargeDepth := 8) [go_sem])
  have a1 : w1.cell? ⟨w.heap.size, 1, none⟩ = some (.slice pb nb cb) := (hb1.cell (p := ⟨w.heap.size, 1, none⟩) (by simp; omega)).trans (by simp (maxDischargeDepth := 8) [go_sem])
  clear hb1 SAM
  go_wp2_with fail
  refine (SPO.out _ K1).mono ?_
  rintro e w2 ⟨⟨v, rfl⟩, hb2⟩
  have K2 : Below B w w2 := (K1.mono hB).trans hb2
  clear a0 a1 hb2 SPO K1
  go_wp2
  go_ret
  exact ⟨rfl, K2⟩

end Go.Proofs.YteipohpfaofchaaGreat

namespace Go.Proofs.YteipohpfaofchaaGreat
open Go.RowKit Go.Shelf Go.Sort
set_option linter.unusedVariables false

/-- copied, in the form of the walks. -/
theorem copied_two {V R : Value} {vs : List ByteArray} {rs : List (List Val)} {w : World} (hV : StrsAt w V vs) (hA : TabRows w R rs) (bv : vs.length * 16 ≤ 140737488355328) (br : rs.length * 24 ≤ 140737488355328) (bs : ∀ r ∈ rs, r.length * 40 ≤ 140737488355328) :
    Calls Tryz.prog 11 #[.agg #[V, R]] w fun e w' => ∃ pa na ca pb nb cb, e = .returned (.agg #[.slice pa na ca, .slice pb nb cb]) ∧ OwnT w.heap.size (.agg #[.slice pa na ca, .slice pb nb cb]) vs rs w' ∧ Below w.heap.size w w' := by
  refine (copied_any hV hA bv br bs).mono ?_
  rintro e w' ⟨t, rfl, ht, hb⟩
  obtain ⟨p, c, p', c', rfl⟩ := own_forms ht
  exact ⟨_, _, _, _, _, _, rfl, ht, hb⟩

end Go.Proofs.YteipohpfaofchaaGreat

namespace Go.Proofs.YteipohpfaofchaaGreat
open Go.RowKit Go.Shelf Go.Sort
set_option linter.unusedVariables false

def n8 : List ByteArray := [⟨#[104]⟩, ⟨#[103]⟩, ⟨#[102]⟩, ⟨#[101]⟩, ⟨#[100]⟩, ⟨#[99]⟩, ⟨#[98]⟩, ⟨#[97]⟩]
end Go.Proofs.YteipohpfaofchaaGreat

namespace Go.Proofs.YteipohpfaofchaaGreat
open Go.RowKit Go.Shelf Go.Sort
set_option linter.unusedVariables false

end Go.Proofs.YteipohpfaofchaaGreat

namespace Go.Proofs.YteipohpfaofchaaGreat
open Go.RowKit Go.Shelf Go.Sort
set_option linter.unusedVariables false

set_option maxRecDepth 100000 in
set_option maxHeartbeats 8000000 in
theorem twoJoin_any {Va Ra Vb Rb : Value} {vs vs' us : List ByteArray} {rs qs L : List (List Val)} {E : Int} (w : World) (ha : DTab w Va Ra vs rs) (hb : DTab w Vb Rb vs' qs)
    (bv : vs.length * 16 ≤ 140737488355328) (bs : ∀ r ∈ rs, r.length * 40 ≤ 140737488355328) (bv' : vs'.length * 16 ≤ 140737488355328) (bs' : ∀ r ∈ qs, r.length * 40 ≤ 140737488355328)
    (cG : ∀ W, Below w.heap.size w W → Calls Tryz.prog 27 #[.agg #[Va, Ra], .agg #[Vb, Rb]] W (TellsT W.heap.size E us L W))
    (cH : ∀ W Xa Ya Xb Yb, OwnT w.heap.size (.agg #[Xa, Ya]) vs rs W → OwnT w.heap.size (.agg #[Xb, Yb]) vs' qs W → Calls Tryz.prog 28 #[.agg #[Xa, Ya], .agg #[Xb, Yb]] W (TellsT W.heap.size E us L W))
    (bL : (∀ r ∈ (if E = 0 then L else []), ∀ v ∈ r, v.Fits) ∧ (if E = 0 then us else []).length ≤ 9223372036854775807 ∧ (if E = 0 then L else []).length ≤ 9223372036854775807 ∧ ∀ r ∈ (if E = 0 then L else []), r.length ≤ 9223372036854775807) :
    Calls Tryz.prog 22 #[.agg #[Va, Ra], .agg #[Vb, Rb], .func (.func 27) #[] #[], .func (.func 28) #[] #[]] w fun e w' => e = .returned (.bool true) ∧ Below w.heap.size w w' := by
  have c1 : Hid (∀ W : World, Below w.heap.size w W → Calls Tryz.prog 11 #[.agg #[Va, Ra]] W fun e w' => ∃ pa na ca pb nb cb, e = .returned (.agg #[.slice pa na ca, .slice pb nb cb]) ∧ OwnT W.heap.size (.agg #[.slice pa na ca, .slice pb nb cb]) vs rs w' ∧ Below W.heap.size W w') := fun W hW => copied_two (ha.vars.below hW) (ha.rows.below hW) bv (by have := ha.many; omega) bs
  have c2 : Hid (∀ W : World, Below w.heap.size w W → Calls Tryz.prog 11 #[.agg #[Vb, Rb]] W fun e w' => ∃ pa na ca pb nb cb, e = .returned (.agg #[.slice pa na ca, .slice pb nb cb]) ∧ OwnT W.heap.size (.agg #[.slice pa na ca, .slice pb nb cb]) vs' qs w' ∧ Below W.heap.size W w') := fun W hW => copied_two (hb.vars.below hW) (hb.rows.below hW) bv' (by have := hb.many; omega) bs'
  have c3 : Hid (∀ W, Below w.heap.size w W → Calls Tryz.prog 27 #[.agg #[Va, Ra], .agg #[Vb, Rb]] W (TellsT W.heap.size E us L W)) := cG
  have c4 : Hid (∀ W Xa Ya Xb Yb, OwnT w.heap.size (.agg #[Xa, Ya]) vs rs W → OwnT w.heap.size (.agg #[Xb, Yb]) vs' qs W → Calls Tryz.prog 28 #[.agg #[Xa, Ya], .agg #[Xb, Yb]] W (TellsT W.heap.size E us L W)) := cH
  have c5 : Hid (∀ (W : World) (B B' : Nat) (t u : Value), TabO B E us L t W → TabO B' E us L u W → B ≤ W.heap.size → Calls Tryz.prog 17 #[t, .int .i64 E, u, .int .i64 E] W fun e w' => e = .returned (.bool true) ∧ Below B W w') := fun W B B' t u h1 h2 hB => is_any h1 h2 hB bL.1 bL.2.1 bL.2.2.1 bL.2.2.2
  have c6 : Hid (∀ (W : World) (U Q : Value), Below w.heap.size w W → OwnT w.heap.size (.agg #[U, Q]) vs rs W → Calls Tryz.prog 14 #[.agg #[Va, Ra], .agg #[U, Q]] W fun e w' => e = .returned (.bool true) ∧ Below W.heap.size W w') := fun W U Q hW h1 => by
    have h := dsame_any (ha.vars.below hW) (own_two h1).1 (ha.rows.below hW) (own_two h1).2 ha.names ha.names ha.fits ha.fits ha.long (by have := ha.many; omega) (by have := ha.many; omega)
    rw [rowsS_refl, show decide (vs = vs) = true by simp] at h
    exact h
  have c7 : Hid (∀ (W : World) (U Q : Value), Below w.heap.size w W → OwnT w.heap.size (.agg #[U, Q]) vs' qs W → Calls Tryz.prog 14 #[.agg #[Vb, Rb], .agg #[U, Q]] W fun e w' => e = .returned (.bool true) ∧ Below W.heap.size W w') := fun W U Q hW h1 => by
    have h := dsame_any (hb.vars.below hW) (own_two h1).1 (hb.rows.below hW) (own_two h1).2 hb.names hb.names hb.fits hb.fits hb.long (by have := hb.many; omega) (by have := hb.many; omega)
    rw [rowsS_refl, show decide (vs' = vs') = true by simp] at h
    exact h
  obtain ⟨p1, k1, p2, k2, eV, eR⟩ := ha.forms
  obtain ⟨p3, k3, p4, k4, eV', eR'⟩ := hb.forms
  subst eV eR eV' eR'
  generalize vs.length = n1 at *
  generalize rs.length = n2 at *
  generalize vs'.length = n3 at *
  generalize qs.length = n4 at *
  clear ha hb bv bs bv' bs' cG cH bL
  go_enter Tryz.func22, Tryz.ntmps22
  go_upto_region 1 with fail
  refine wp_world ?_
  intro W0 hW0
  have K0 : Below w.heap.size w W0 := by rw [hW0]; go_grown
  have VA0 : Hid (Var W0 w.heap.size (.slice p1 n1 k1) (.slice p2 n2 k2)) := by
    rw [hW0]
    exact (Var.made w _ _).below ((Below.refl _ _).alloc (Nat.le_refl _) _)
  have VB0 : Hid (Var W0 (w.heap.size + 1) (.slice p3 n3 k3) (.slice p4 n4 k4)) := by
    rw [hW0]
    have h := Var.made (w.alloc (.cells #[.slice p1 n1 k1, .slice p2 n2 k2] 25)) (.slice p3 n3 k3) (.slice p4 n4 k4)
    exact at_size (P := fun g => Var _ g _ _) h (by simp)
  clear hW0
  have a0 := VA0.out.c0
  have a1 := VA0.out.c1
  go_wp2_with fail
  refine (c1.out _ K0).mono ?_
  rintro e w1 ⟨xa, ja, da, xb, jb, db, rfl, ht, hb1⟩
  have HX : Hid (OwnT w.heap.size (.agg #[.slice xa ja da, .slice xb jb db]) vs rs w1) := ht.base K0.size
  clear ht c1 a0 a1
  go_upto_region 2 with fail
  refine wp_world ?_
  intro W1 hW1
  have H1 : Below w1.heap.size w1 W1 := by rw [hW1]; go_grown
  have VX1 : Hid (Var W1 w1.heap.size (.slice xa ja da) (.slice xb jb db)) := by rw [hW1]; exact Var.made _ _ _
  clear hW1
  have L1 : Below W0.heap.size W0 W1 := hb1.trans (H1.mono hb1.size)
  have K1 : Below w.heap.size w W1 := K0.trans (L1.mono K0.size)
  have VA1 : Hid (Var W1 w.heap.size (.slice p1 n1 k1) (.slice p2 n2 k2)) := VA0.out.below L1
  have VB1 : Hid (Var W1 (w.heap.size + 1) (.slice p3 n3 k3) (.slice p4 n4 k4)) := VB0.out.below L1
  have HX1 : Hid (OwnT w.heap.size (.agg #[.slice xa ja da, .slice xb jb db]) vs rs W1) := HX.out.grown H1
  obtain ⟨gx, egx⟩ : ∃ gx, Hid (w1.heap.size = gx) := ⟨_, rfl⟩
  rw [egx.out] at VX1 ⊢
  clear HX H1 L1 hb1 K0 VA0 VB0
  have b0 := VB1.out.c0
  have b1 := VB1.out.c1
  go_wp2_with fail
  refine (c2.out _ (by exact K1)).mono ?_
  rintro e w2 ⟨ya, ia, fa, yb, ib, fb, rfl, ht, hb2⟩
  have HY : Hid (OwnT w.heap.size (.agg #[.slice ya ia fa, .slice yb ib fb]) vs' qs w2) := ht.base K1.size
  clear ht c2 b0 b1
  go_upto_region 3 with fail
  refine wp_world ?_
  intro W2 hW2
  have H2 : Below w2.heap.size w2 W2 := by rw [hW2]; go_grown
  have VY2 : Hid (Var W2 w2.heap.size (.slice ya ia fa) (.slice yb ib fb)) := by rw [hW2]; exact Var.made _ _ _
  clear hW2
  have L2 : Below W1.heap.size W1 W2 := hb2.trans (H2.mono hb2.size)
  have K2 : Below w.heap.size w W2 := K1.trans (L2.mono K1.size)
  have VA2 : Hid (Var W2 w.heap.size (.slice p1 n1 k1) (.slice p2 n2 k2)) := VA1.out.below L2
  have VB2 : Hid (Var W2 (w.heap.size + 1) (.slice p3 n3 k3) (.slice p4 n4 k4)) := VB1.out.below L2
  have VX2 : Hid (Var W2 gx (.slice xa ja da) (.slice xb jb db)) := VX1.out.below L2
  have HX2 : Hid (OwnT w.heap.size (.agg #[.slice xa ja da, .slice xb jb db]) vs rs W2) := HX1.out.grown L2
  have HY2 : Hid (OwnT w.heap.size (.agg #[.slice ya ia fa, .slice yb ib fb]) vs' qs W2) := HY.out.grown H2
  obtain ⟨gy, egy⟩ : ∃ gy, Hid (w2.heap.size = gy) := ⟨_, rfl⟩
  rw [egy.out] at VY2 ⊢
  clear HY H2 L2 hb2 K1 VA1 VB1 VX1 HX1
  have a0 := VA2.out.c0
  have a1 := VA2.out.c1
  have b0 := VB2.out.c0
  have b1 := VB2.out.c1
  go_wp2_with fail
  refine (c3.out _ (by exact K2)).mono ?_
  rintro e w3 ⟨ta, ra, la, tb, rb, lb, rfl, ht, hb3⟩
  have HT : Hid (TabO W2.heap.size E us L (.agg #[.slice ta ra la, .slice tb rb lb]) w3) := ht
  clear ht c3 a0 a1 b0 b1
  go_upto_region 4 with fail
  refine wp_world ?_
  intro W3 hW3
  have H3 : Below w3.heap.size w3 W3 := by rw [hW3]; go_grown
  have VT3 : Hid (Var W3 w3.heap.size (.slice ta ra la) (.slice tb rb lb)) := by rw [hW3]; exact Var.made _ _ _
  clear hW3
  have L3 : Below W2.heap.size W2 W3 := hb3.trans (H3.mono hb3.size)
  have HT3 : Hid (TabO W2.heap.size E us L (.agg #[.slice ta ra la, .slice tb rb lb]) W3) := HT.out.grown H3
  have VX3 : Hid (Var W3 gx (.slice xa ja da) (.slice xb jb db)) := VX2.out.below L3
  have VY3 : Hid (Var W3 gy (.slice ya ia fa) (.slice yb ib fb)) := VY2.out.below L3
  have HX3 : Hid (OwnT w.heap.size (.agg #[.slice xa ja da, .slice xb jb db]) vs rs W3) := HX2.out.grown L3
  have HY3 : Hid (OwnT w.heap.size (.agg #[.slice ya ia fa, .slice yb ib fb]) vs' qs W3) := HY2.out.grown L3
  obtain ⟨gt, egt⟩ : ∃ gt, Hid (w3.heap.size = gt) := ⟨_, rfl⟩
  rw [egt.out] at VT3 ⊢
  clear HT H3 hb3
  have a0 := VX3.out.c0
  have a1 := VX3.out.c1
  have b0 := VY3.out.c0
  have b1 := VY3.out.c1
  go_wp2_with fail
  refine (c4.out _ _ _ _ _ HX3.out HY3.out).mono ?_
  rintro e w4 ⟨oa, sa, qa, ob, sb, qb, rfl, ht, hb4⟩
  have HU : Hid (TabO W3.heap.size E us L (.agg #[.slice oa sa qa, .slice ob sb qb]) w4) := ht
  clear ht c4 a0 a1 b0 b1
  go_upto_region 5 with fail
  refine wp_world ?_
  intro W4 hW4
  have H4 : Below w4.heap.size w4 W4 := by rw [hW4]; go_grown
  have VU4 : Hid (Var W4 w4.heap.size (.slice oa sa qa) (.slice ob sb qb)) := by rw [hW4]; exact Var.made _ _ _
  clear hW4
  have L4 : Below W3.heap.size W3 W4 := hb4.trans (H4.mono hb4.size)
  have HU4 : Hid (TabO W3.heap.size E us L (.agg #[.slice oa sa qa, .slice ob sb qb]) W4) := HU.out.grown H4
  have VT4 : Hid (Var W4 gt (.slice ta ra la) (.slice tb rb lb)) := VT3.out.below L4
  have HT4 : Hid (TabO W2.heap.size E us L (.agg #[.slice ta ra la, .slice tb rb lb]) W4) := HT3.out.grown L4
  obtain ⟨gu, egu⟩ : ∃ gu, Hid (w4.heap.size = gu) := ⟨_, rfl⟩
  rw [egu.out] at VU4 ⊢
  have M4 : Below W2.heap.size W2 W4 := L3.trans (L4.mono L3.size)
  clear HU H4 hb4 L3 L4 HT3 VT3 VX3 VY3 HX3 HY3
  have a0 := VT4.out.c0
  have a1 := VT4.out.c1
  have b0 := VU4.out.c0
  have b1 := VU4.out.c1
  go_wp2_with fail
  refine (c5.out _ _ _ _ _ HT4.out HU4.out M4.size).mono ?_
  rintro e w5 ⟨rfl, hb5⟩
  have M5 : Below W2.heap.size W2 w5 := M4.trans hb5
  have K5 : Below w.heap.size w w5 := K2.trans (M5.mono K2.size)
  have VA5 : Hid (Var w5 w.heap.size (.slice p1 n1 k1) (.slice p2 n2 k2)) := VA2.out.below M5
  have VB5 : Hid (Var w5 (w.heap.size + 1) (.slice p3 n3 k3) (.slice p4 n4 k4)) := VB2.out.below M5
  have VX5 : Hid (Var w5 gx (.slice xa ja da) (.slice xb jb db)) := VX2.out.below M5
  have VY5 : Hid (Var w5 gy (.slice ya ia fa) (.slice yb ib fb)) := VY2.out.below M5
  have HX5 : Hid (OwnT w.heap.size (.agg #[.slice xa ja da, .slice xb jb db]) vs rs w5) := HX2.out.grown M5
  have HY5 : Hid (OwnT w.heap.size (.agg #[.slice ya ia fa, .slice yb ib fb]) vs' qs w5) := HY2.out.grown M5
  clear a0 a1 b0 b1 c5 hb5 M4 M5 HT4 HU4 VT4 VU4 VA2 VB2 VX2 VY2 HX2 HY2 K2
  have a0 := VA5.out.c0
  have a1 := VA5.out.c1
  have b0 := VX5.out.c0
  have b1 := VX5.out.c1
  go_wp2_with fail
  refine (c6.out _ _ _ (by exact K5) HX5.out).mono ?_
  rintro e w6 ⟨rfl, hb6⟩
  have K6 : Below w.heap.size w w6 := K5.trans (hb6.mono K5.size)
  have VB6 : Hid (Var w6 (w.heap.size + 1) (.slice p3 n3 k3) (.slice p4 n4 k4)) := VB5.out.below hb6
  have VY6 : Hid (Var w6 gy (.slice ya ia fa) (.slice yb ib fb)) := VY5.out.below hb6
  have HY6 : Hid (OwnT w.heap.size (.agg #[.slice ya ia fa, .slice yb ib fb]) vs' qs w6) := HY5.out.grown hb6
  clear a0 a1 b0 b1 c6 hb6 VA5 VB5 VX5 VY5 HX5 HY5 K5
  have a0 := VB6.out.c0
  have a1 := VB6.out.c1
  have b0 := VY6.out.c0
  have b1 := VY6.out.c1
  go_wp2_with fail
  refine (c7.out _ _ _ (by exact K6) HY6.out).mono ?_
  rintro e w7 ⟨rfl, hb7⟩
  have K7 : Below w.heap.size w w7 := K6.trans (hb7.mono K6.size)
  clear a0 a1 b0 b1 c7 hb7 VB6 VY6 HY6 K6
  go_wp2
  go_ret
  exact ⟨rfl, K7⟩

end Go.Proofs.YteipohpfaofchaaGreat

namespace Go.Proofs.YteipohpfaofchaaGreat
open Go.RowKit Go.Shelf Go.Sort
set_option linter.unusedVariables false

set_option maxRecDepth 100000 in
set_option maxHeartbeats 8000000 in
theorem twoAnti_any {Va Ra Vb Rb : Value} {vs vs' us : List ByteArray} {rs qs L : List (List Val)} {E : Int} (w : World) (ha : DTab w Va Ra vs rs) (hb : DTab w Vb Rb vs' qs)
    (bv : vs.length * 16 ≤ 140737488355328) (bs : ∀ r ∈ rs, r.length * 40 ≤ 140737488355328) (bv' : vs'.length * 16 ≤ 140737488355328) (bs' : ∀ r ∈ qs, r.length * 40 ≤ 140737488355328)
    (cG : ∀ W, Below w.heap.size w W → Calls Tryz.prog 29 #[.agg #[Va, Ra], .agg #[Vb, Rb]] W (TellsT W.heap.size E us L W))
    (cH : ∀ W Xa Ya Xb Yb, OwnT w.heap.size (.agg #[Xa, Ya]) vs rs W → OwnT w.heap.size (.agg #[Xb, Yb]) vs' qs W → Calls Tryz.prog 30 #[.agg #[Xa, Ya], .agg #[Xb, Yb]] W (TellsT W.heap.size E us L W))
    (bL : (∀ r ∈ (if E = 0 then L else []), ∀ v ∈ r, v.Fits) ∧ (if E = 0 then us else []).length ≤ 9223372036854775807 ∧ (if E = 0 then L else []).length ≤ 9223372036854775807 ∧ ∀ r ∈ (if E = 0 then L else []), r.length ≤ 9223372036854775807) :
    Calls Tryz.prog 22 #[.agg #[Va, Ra], .agg #[Vb, Rb], .func (.func 29) #[] #[], .func (.func 30) #[] #[]] w fun e w' => e = .returned (.bool true) ∧ Below w.heap.size w w' := by
  have c1 : Hid (∀ W : World, Below w.heap.size w W → Calls Tryz.prog 11 #[.agg #[Va, Ra]] W fun e w' => ∃ pa na ca pb nb cb, e = .returned (.agg #[.slice pa na ca, .slice pb nb cb]) ∧ OwnT W.heap.size (.agg #[.slice pa na ca, .slice pb nb cb]) vs rs w' ∧ Below W.heap.size W w') := fun W hW => copied_two (ha.vars.below hW) (ha.rows.below hW) bv (by have := ha.many; omega) bs
  have c2 : Hid (∀ W : World, Below w.heap.size w W → Calls Tryz.prog 11 #[.agg #[Vb, Rb]] W fun e w' => ∃ pa na ca pb nb cb, e = .returned (.agg #[.slice pa na ca, .slice pb nb cb]) ∧ OwnT W.heap.size (.agg #[.slice pa na ca, .slice pb nb cb]) vs' qs w' ∧ Below W.heap.size W w') := fun W hW => copied_two (hb.vars.below hW) (hb.rows.below hW) bv' (by have := hb.many; omega) bs'
  have c3 : Hid (∀ W, Below w.heap.size w W → Calls Tryz.prog 29 #[.agg #[Va, Ra], .agg #[Vb, Rb]] W (TellsT W.heap.size E us L W)) := cG
  have c4 : Hid (∀ W Xa Ya Xb Yb, OwnT w.heap.size (.agg #[Xa, Ya]) vs rs W → OwnT w.heap.size (.agg #[Xb, Yb]) vs' qs W → Calls Tryz.prog 30 #[.agg #[Xa, Ya], .agg #[Xb, Yb]] W (TellsT W.heap.size E us L W)) := cH
  have c5 : Hid (∀ (W : World) (B B' : Nat) (t u : Value), TabO B E us L t W → TabO B' E us L u W → B ≤ W.heap.size → Calls Tryz.prog 17 #[t, .int .i64 E, u, .int .i64 E] W fun e w' => e = .returned (.bool true) ∧ Below B W w') := fun W B B' t u h1 h2 hB => is_any h1 h2 hB bL.1 bL.2.1 bL.2.2.1 bL.2.2.2
  have c6 : Hid (∀ (W : World) (U Q : Value), Below w.heap.size w W → OwnT w.heap.size (.agg #[U, Q]) vs rs W → Calls Tryz.prog 14 #[.agg #[Va, Ra], .agg #[U, Q]] W fun e w' => e = .returned (.bool true) ∧ Below W.heap.size W w') := fun W U Q hW h1 => by
    have h := dsame_any (ha.vars.below hW) (own_two h1).1 (ha.rows.below hW) (own_two h1).2 ha.names ha.names ha.fits ha.fits ha.long (by have := ha.many; omega) (by have := ha.many; omega)
    rw [rowsS_refl, show decide (vs = vs) = true by simp] at h
    exact h
  have c7 : Hid (∀ (W : World) (U Q : Value), Below w.heap.size w W → OwnT w.heap.size (.agg #[U, Q]) vs' qs W → Calls Tryz.prog 14 #[.agg #[Vb, Rb], .agg #[U, Q]] W fun e w' => e = .returned (.bool true) ∧ Below W.heap.size W w') := fun W U Q hW h1 => by
    have h := dsame_any (hb.vars.below hW) (own_two h1).1 (hb.rows.below hW) (own_two h1).2 hb.names hb.names hb.fits hb.fits hb.long (by have := hb.many; omega) (by have := hb.many; omega)
    rw [rowsS_refl, show decide (vs' = vs') = true by simp] at h
    exact h
  obtain ⟨p1, k1, p2, k2, eV, eR⟩ := ha.forms
  obtain ⟨p3, k3, p4, k4, eV', eR'⟩ := hb.forms
  subst eV eR eV' eR'
  generalize vs.length = n1 at *
  generalize rs.length = n2 at *
  generalize vs'.length = n3 at *
  generalize qs.length = n4 at *
  clear ha hb bv bs bv' bs' cG cH bL
  go_enter Tryz.func22, Tryz.ntmps22
  go_upto_region 1 with fail
  refine wp_world ?_
  intro W0 hW0
  have K0 : Below w.heap.size w W0 := by rw [hW0]; go_grown
  have VA0 : Hid (Var W0 w.heap.size (.slice p1 n1 k1) (.slice p2 n2 k2)) := by
    rw [hW0]
    exact (Var.made w _ _).below ((Below.refl _ _).alloc (Nat.le_refl _) _)
  have VB0 : Hid (Var W0 (w.heap.size + 1) (.slice p3 n3 k3) (.slice p4 n4 k4)) := by
    rw [hW0]
    have h := Var.made (w.alloc (.cells #[.slice p1 n1 k1, .slice p2 n2 k2] 25)) (.slice p3 n3 k3) (.slice p4 n4 k4)
    exact at_size (P := fun g => Var _ g _ _) h (by simp)
  clear hW0
  have a0 := VA0.out.c0
  have a1 := VA0.out.c1
  go_wp2_with fail
  refine (c1.out _ K0).mono ?_
  rintro e w1 ⟨xa, ja, da, xb, jb, db, rfl, ht, hb1⟩
  have HX : Hid (OwnT w.heap.size (.agg #[.slice xa ja da, .slice xb jb db]) vs rs w1) := ht.base K0.size
  clear ht c1 a0 a1
  go_upto_region 2 with fail
  refine wp_world ?_
  intro W1 hW1
  have H1 : Below w1.heap.size w1 W1 := by rw [hW1]; go_grown
  have VX1 : Hid (Var W1 w1.heap.size (.slice xa ja da) (.slice xb jb db)) := by rw [hW1]; exact Var.made _ _ _
  clear hW1
  have L1 : Below W0.heap.size W0 W1 := hb1.trans (H1.mono hb1.size)
  have K1 : Below w.heap.size w W1 := K0.trans (L1.mono K0.size)
  have VA1 : Hid (Var W1 w.heap.size (.slice p1 n1 k1) (.slice p2 n2 k2)) := VA0.out.below L1
  have VB1 : Hid (Var W1 (w.heap.size + 1) (.slice p3 n3 k3) (.slice p4 n4 k4)) := VB0.out.below L1
  have HX1 : Hid (OwnT w.heap.size (.agg #[.slice xa ja da, .slice xb jb db]) vs rs W1) := HX.out.grown H1
  obtain ⟨gx, egx⟩ : ∃ gx, Hid (w1.heap.size = gx) := ⟨_, rfl⟩
  rw [egx.out] at VX1 ⊢
  clear HX H1 L1 hb1 K0 VA0 VB0
  have b0 := VB1.out.c0
  have b1 := VB1.out.c1
  go_wp2_with fail
  refine (c2.out _ (by exact K1)).mono ?_
  rintro e w2 ⟨ya, ia, fa, yb, ib, fb, rfl, ht, hb2⟩
  have HY : Hid (OwnT w.heap.size (.agg #[.slice ya ia fa, .slice yb ib fb]) vs' qs w2) := ht.base K1.size
  clear ht c2 b0 b1
  go_upto_region 3 with fail
  refine wp_world ?_
  intro W2 hW2
  have H2 : Below w2.heap.size w2 W2 := by rw [hW2]; go_grown
  have VY2 : Hid (Var W2 w2.heap.size (.slice ya ia fa) (.slice yb ib fb)) := by rw [hW2]; exact Var.made _ _ _
  clear hW2
  have L2 : Below W1.heap.size W1 W2 := hb2.trans (H2.mono hb2.size)
  have K2 : Below w.heap.size w W2 := K1.trans (L2.mono K1.size)
  have VA2 : Hid (Var W2 w.heap.size (.slice p1 n1 k1) (.slice p2 n2 k2)) := VA1.out.below L2
  have VB2 : Hid (Var W2 (w.heap.size + 1) (.slice p3 n3 k3) (.slice p4 n4 k4)) := VB1.out.below L2
  have VX2 : Hid (Var W2 gx (.slice xa ja da) (.slice xb jb db)) := VX1.out.below L2
  have HX2 : Hid (OwnT w.heap.size (.agg #[.slice xa ja da, .slice xb jb db]) vs rs W2) := HX1.out.grown L2
  have HY2 : Hid (OwnT w.heap.size (.agg #[.slice ya ia fa, .slice yb ib fb]) vs' qs W2) := HY.out.grown H2
  obtain ⟨gy, egy⟩ : ∃ gy, Hid (w2.heap.size = gy) := ⟨_, rfl⟩
  rw [egy.out] at VY2 ⊢
  clear HY H2 L2 hb2 K1 VA1 VB1 VX1 HX1
  have a0 := VA2.out.c0
  have a1 := VA2.out.c1
  have b0 := VB2.out.c0
  have b1 := VB2.out.c1
  go_wp2_with fail
  refine (c3.out _ (by exact K2)).mono ?_
  rintro e w3 ⟨ta, ra, la, tb, rb, lb, rfl, ht, hb3⟩
  have HT : Hid (TabO W2.heap.size E us L (.agg #[.slice ta ra la, .slice tb rb lb]) w3) := ht
  clear ht c3 a0 a1 b0 b1
  go_upto_region 4 with fail
  refine wp_world ?_
  intro W3 hW3
  have H3 : Below w3.heap.size w3 W3 := by rw [hW3]; go_grown
  have VT3 : Hid (Var W3 w3.heap.size (.slice ta ra la) (.slice tb rb lb)) := by rw [hW3]; exact Var.made _ _ _
  clear hW3
  have L3 : Below W2.heap.size W2 W3 := hb3.trans (H3.mono hb3.size)
  have HT3 : Hid (TabO W2.heap.size E us L (.agg #[.slice ta ra la, .slice tb rb lb]) W3) := HT.out.grown H3
  have VX3 : Hid (Var W3 gx (.slice xa ja da) (.slice xb jb db)) := VX2.out.below L3
  have VY3 : Hid (Var W3 gy (.slice ya ia fa) (.slice yb ib fb)) := VY2.out.below L3
  have HX3 : Hid (OwnT w.heap.size (.agg #[.slice xa ja da, .slice xb jb db]) vs rs W3) := HX2.out.grown L3
  have HY3 : Hid (OwnT w.heap.size (.agg #[.slice ya ia fa, .slice yb ib fb]) vs' qs W3) := HY2.out.grown L3
  obtain ⟨gt, egt⟩ : ∃ gt, Hid (w3.heap.size = gt) := ⟨_, rfl⟩
  rw [egt.out] at VT3 ⊢
  clear HT H3 hb3
  have a0 := VX3.out.c0
  have a1 := VX3.out.c1
  have b0 := VY3.out.c0
  have b1 := VY3.out.c1
  go_wp2_with fail
  refine (c4.out _ _ _ _ _ HX3.out HY3.out).mono ?_
  rintro e w4 ⟨oa, sa, qa, ob, sb, qb, rfl, ht, hb4⟩
  have HU : Hid (TabO W3.heap.size E us L (.agg #[.slice oa sa qa, .slice ob sb qb]) w4) := ht
  clear ht c4 a0 a1 b0 b1
  go_upto_region 5 with fail
  refine wp_world ?_
  intro W4 hW4
  have H4 : Below w4.heap.size w4 W4 := by rw [hW4]; go_grown
  have VU4 : Hid (Var W4 w4.heap.size (.slice oa sa qa) (.slice ob sb qb)) := by rw [hW4]; exact Var.made _ _ _
  clear hW4
  have L4 : Below W3.heap.size W3 W4 := hb4.trans (H4.mono hb4.size)
  have HU4 : Hid (TabO W3.heap.size E us L (.agg #[.slice oa sa qa, .slice ob sb qb]) W4) := HU.out.grown H4
  have VT4 : Hid (Var W4 gt (.slice ta ra la) (.slice tb rb lb)) := VT3.out.below L4
  have HT4 : Hid (TabO W2.heap.size E us L (.agg #[.slice ta ra la, .slice tb rb lb]) W4) := HT3.out.grown L4
  obtain ⟨gu, egu⟩ : ∃ gu, Hid (w4.heap.size = gu) := ⟨_, rfl⟩
  rw [egu.out] at VU4 ⊢
  have M4 : Below W2.heap.size W2 W4 := L3.trans (L4.mono L3.size)
  clear HU H4 hb4 L3 L4 HT3 VT3 VX3 VY3 HX3 HY3
  have a0 := VT4.out.c0
  have a1 := VT4.out.c1
  have b0 := VU4.out.c0
  have b1 := VU4.out.c1
  go_wp2_with fail
  refine (c5.out _ _ _ _ _ HT4.out HU4.out M4.size).mono ?_
  rintro e w5 ⟨rfl, hb5⟩
  have M5 : Below W2.heap.size W2 w5 := M4.trans hb5
  have K5 : Below w.heap.size w w5 := K2.trans (M5.mono K2.size)
  have VA5 : Hid (Var w5 w.heap.size (.slice p1 n1 k1) (.slice p2 n2 k2)) := VA2.out.below M5
  have VB5 : Hid (Var w5 (w.heap.size + 1) (.slice p3 n3 k3) (.slice p4 n4 k4)) := VB2.out.below M5
  have VX5 : Hid (Var w5 gx (.slice xa ja da) (.slice xb jb db)) := VX2.out.below M5
  have VY5 : Hid (Var w5 gy (.slice ya ia fa) (.slice yb ib fb)) := VY2.out.below M5
  have HX5 : Hid (OwnT w.heap.size (.agg #[.slice xa ja da, .slice xb jb db]) vs rs w5) := HX2.out.grown M5
  have HY5 : Hid (OwnT w.heap.size (.agg #[.slice ya ia fa, .slice yb ib fb]) vs' qs w5) := HY2.out.grown M5
  clear a0 a1 b0 b1 c5 hb5 M4 M5 HT4 HU4 VT4 VU4 VA2 VB2 VX2 VY2 HX2 HY2 K2
  have a0 := VA5.out.c0
  have a1 := VA5.out.c1
  have b0 := VX5.out.c0
  have b1 := VX5.out.c1
  go_wp2_with fail
  refine (c6.out _ _ _ (by exact K5) HX5.out).mono ?_
  rintro e w6 ⟨rfl, hb6⟩
  have K6 : Below w.heap.size w w6 := K5.trans (hb6.mono K5.size)
  have VB6 : Hid (Var w6 (w.heap.size + 1) (.slice p3 n3 k3) (.slice p4 n4 k4)) := VB5.out.below hb6
  have VY6 : Hid (Var w6 gy (.slice ya ia fa) (.slice yb ib fb)) := VY5.out.below hb6
  have HY6 : Hid (OwnT w.heap.size (.agg #[.slice ya ia fa, .slice yb ib fb]) vs' qs w6) := HY5.out.grown hb6
  clear a0 a1 b0 b1 c6 hb6 VA5 VB5 VX5 VY5 HX5 HY5 K5
  have a0 := VB6.out.c0
  have a1 := VB6.out.c1
  have b0 := VY6.out.c0
  have b1 := VY6.out.c1
  go_wp2_with fail
  refine (c7.out _ _ _ (by exact K6) HY6.out).mono ?_
  rintro e w7 ⟨rfl, hb7⟩
  have K7 : Below w.heap.size w w7 := K6.trans (hb7.mono K6.size)
  clear a0 a1 b0 b1 c7 hb7 VB6 VY6 HY6 K6
  go_wp2
  go_ret
  exact ⟨rfl, K7⟩

end Go.Proofs.YteipohpfaofchaaGreat

namespace Go.Proofs.YteipohpfaofchaaGreat
open Go.RowKit Go.Shelf Go.Sort
set_option linter.unusedVariables false

/-- Does a row fit another, where both have a variable? -/
def fitB (vs us : List ByteArray) (r q : List Val) (k : Nat) : Bool := rowS (picks r ((bothL us k (vs.drop k)).map (·.1))) (picks q ((bothL us k (vs.drop k)).map (·.2)))
theorem fitB_end {vs us : List ByteArray} {r q : List Val} {k : Nat} (h : vs.length ≤ k) : fitB vs us r q k = true := by
  unfold fitB
  rw [List.drop_eq_nil_of_le h]
  rfl
theorem bothL_cons (us : List ByteArray) (k : Nat) (x : ByteArray) (l : List ByteArray) : bothL us k (x :: l) = if Lib.idxOfS us x < 0 then bothL us (k + 1) l else (k, (Lib.idxOfS us x).toNat) :: bothL us (k + 1) l := rfl
theorem fitB_step {vs us : List ByteArray} {r q : List Val} {k : Nat} (h : k < vs.length) : fitB vs us r q k = if Lib.idxOfS us vs[k] < 0 then fitB vs us r q (k + 1) else
    rowS (picks r (k :: (bothL us (k + 1) (vs.drop (k + 1))).map (·.1))) (picks q ((Lib.idxOfS us vs[k]).toNat :: (bothL us (k + 1) (vs.drop (k + 1))).map (·.2))) := by
  unfold fitB
  rw [List.drop_eq_getElem_cons h, bothL_cons]
  by_cases hx : Lib.idxOfS us vs[k] < 0
  · rw [if_pos hx, if_pos hx]
  · rw [if_neg hx, if_neg hx]
    rfl
theorem fitB_zero (vs us : List ByteArray) (r q : List Val) : fitB vs us r q 0 = rowS (picks r ((bothL us 0 vs).map (·.1))) (picks q ((bothL us 0 vs).map (·.2))) := by
  unfold fitB
  rw [List.drop_zero]

set_option maxRecDepth 100000 in
set_option maxHeartbeats 8000000 in
theorem dfits_any {V R U Q : Value} {vs us : List ByteArray} {r q : List Val} {w : World} (hV : StrsAt w V vs) (hR : RowAt w R r) (hU : StrsAt w U us) (hQ : RowAt w Q q) (lr : r.length = vs.length) (lq : q.length = us.length) (lv : vs.length ≤ 8) (lu : us.length ≤ 8) :
    Calls Tryz.prog 63 #[V, R, U, Q] w fun e w' => e = .returned (.bool (fitB vs us r q 0)) ∧ Below w.heap.size w w' := by
  have FD : Hid (∀ (W : World) (X : ByteArray), Below w.heap.size w W → Calls Tryz.prog 85 #[U, .string X] W fun e w' => e = .returned (.int .i64 (Lib.idxOfS us X)) ∧ Below W.heap.size W w') := fun W X hW => dfind_any (hU.below hW) (by omega)
  obtain ⟨pv, cv, rfl, HV0⟩ := hV.all
  have HV : Hid (∀ k (hk : k < vs.length), ∃ b off, pv = some ⟨b, off, none⟩ ∧ b < w.heap.size ∧ w.cell? ⟨b, off + k, none⟩ = some (.string vs[k])) := HV0
  obtain ⟨pu, cu, rfl⟩ := hU.form
  obtain ⟨pr, cr, rfl⟩ := hR.form
  obtain ⟨pq, cq, rfl⟩ := hQ.form
  have GR : Hid (∀ i (hi : i < r.length), ∃ b off, pr = some ⟨b, off, none⟩ ∧ b < w.heap.size ∧ w.cell? ⟨b, off + i * 4, none⟩ = some (.int .i64 r[i].k) ∧ w.cell? ⟨b, off + i * 4 + 1, none⟩ = some (.int .i64 r[i].n) ∧ w.cell? ⟨b, off + i * 4 + 2, none⟩ = some (.int .i64 r[i].d) ∧ w.cell? ⟨b, off + i * 4 + 3, none⟩ = some (.string r[i].s)) := hR.get.2
  have GQ : Hid (∀ i (hi : i < q.length), ∃ b off, pq = some ⟨b, off, none⟩ ∧ b < w.heap.size ∧ w.cell? ⟨b, off + i * 4, none⟩ = some (.int .i64 q[i].k) ∧ w.cell? ⟨b, off + i * 4 + 1, none⟩ = some (.int .i64 q[i].n) ∧ w.cell? ⟨b, off + i * 4 + 2, none⟩ = some (.int .i64 q[i].d) ∧ w.cell? ⟨b, off + i * 4 + 3, none⟩ = some (.string q[i].s)) := hQ.get.2
  obtain ⟨n, en⟩ : ∃ n : Nat, Hid (vs.length = n) := ⟨_, rfl⟩
  obtain ⟨m, em⟩ : ∃ m : Nat, Hid (us.length = m) := ⟨_, rfl⟩
  have er : Hid (r.length = n) := lr.trans en.out
  have eq2 : Hid (q.length = m) := lq.trans em.out
  rw [en.out] at lv ⊢
  rw [em.out] at lu FD ⊢
  rw [er.out, eq2.out]
  clear hV hR hU hQ HV0 lr lq
  obtain ⟨FT, eF⟩ : ∃ FT : Bool, Hid (fitB vs us r q 0 = FT) := ⟨_, rfl⟩
  rw [eF.out]
  go_enter Tryz.func63, Tryz.ntmps63
  go_wp2
  go_loopw [9] (fun i wr => ∃ k : Nat, k ≤ n ∧ i = .int .i64 k ∧ Hid (FT = fitB vs us r q k) ∧ Below w.heap.size w wr) (fun i _ => n - (intOf i).toNat)
  case atStart => exact ⟨0, Nat.zero_le _, rfl, (show FT = _ from eF.out.symm), Below.refl _ _⟩
  case round =>
    obtain ⟨k, hk, rfl, hr, hB⟩ := hrel
    by_cases hlt : k < n
    · have kx : k < vs.length := by have := en.out; omega
      have kr : k < r.length := by have := er.out; omega
      obtain ⟨b, off, rfl, hb, x1⟩ := HV.out k kx
      have q1 := (hB.cell (p := ⟨b, off + k, none⟩) hb).trans x1
      have hr2 : Hid (FT = if Lib.idxOfS us vs[k] < 0 then fitB vs us r q (k + 1) else rowS (picks r (k :: (bothL us (k + 1) (vs.drop (k + 1))).map (·.1))) (picks q ((Lib.idxOfS us vs[k]).toNat :: (bothL us (k + 1) (vs.drop (k + 1))).map (·.2)))) := by
        have h := hr.out
        rw [fitB_step kx] at h
        exact h
      have ct : Hid (∀ W, Below w.heap.size w W → Calls Tryz.prog 85 #[.slice pu m cu, .string vs[k]] W fun e w' => e = .returned (.int .i64 (Lib.idxOfS us vs[k])) ∧ Below W.heap.size W w') := fun W hW => FD.out W _ hW
      have hix : Hid (0 ≤ Lib.idxOfS us vs[k] → (Lib.idxOfS us vs[k]).toNat < us.length) := fun h => (idx_lt (by omega)).1
      generalize vs[k] = X at q1 ct hr2 hix
      obtain ⟨D, eD⟩ : ∃ D : Int, Hid (Lib.idxOfS us X = D) := ⟨_, rfl⟩
      rw [eD.out] at ct hr2 hix
      have i1 : (0 : Int) ≤ (k : Int) := by omega
      have i2 : (k : Int) < (n : Int) := by omega
      clear x1 hr
      go_wp2_with fail
      refine (ct.out _ (by exact hB)).mono ?_
      rintro e w1 ⟨rfl, hb1⟩
      have B1 : Below w.heap.size w w1 := hB.trans (hb1.mono hB.size)
      clear hb1 ct q1 hB
      by_cases hD : D < 0
      · have hr3 : Hid (FT = fitB vs us r q (k + 1)) := by have h := hr2.out; rwa [if_pos hD] at h
        have hD2 : ¬ 0 ≤ D := by omega
        clear hr2 hix
        go_wp2
        exact ⟨⟨k + 1, by omega, by go_num, hr3, B1⟩, by simp [intOf]; omega⟩
      · have hC := hix.out (by omega)
        obtain ⟨C, eC⟩ : ∃ C : Nat, Hid (D.toNat = C) := ⟨_, rfl⟩
        have hDC : D = (C : Int) := by have := eC.out; omega
        have hr3 : Hid (FT = rowS (picks r (k :: (bothL us (k + 1) (vs.drop (k + 1))).map (·.1))) (picks q (C :: (bothL us (k + 1) (vs.drop (k + 1))).map (·.2)))) := by
          have h := hr2.out
          rwa [if_neg hD, eC.out] at h
        rw [eC.out] at hC
        subst hDC
        have cx : C < q.length := by have := eq2.out; have := em.out; omega
        have cm : (C : Int) < (m : Int) := by have := em.out; omega
        have c0 : (0 : Int) ≤ (C : Int) := by omega
        have hr4 : Hid (FT = (r[k].same q[C] && fitB vs us r q (k + 1))) := by
          have h := hr3.out
          rw [picks_cons kr, picks_cons cx] at h
          exact h
        obtain ⟨ba, oa, rfl, hba, x0, x1, x2, x3⟩ := GR.out k kr
        obtain ⟨bb, ob, rfl, hbb, y0, y1, y2, y3⟩ := GQ.out C cx
        generalize r[k] = A at x0 x1 x2 x3 hr4
        generalize q[C] = Bq at y0 y1 y2 y3 hr4
        have a0 := (B1.cell (p := ⟨ba, oa + k * 4, none⟩) hba).trans x0
        have a1 := (B1.cell (p := ⟨ba, oa + k * 4 + 1, none⟩) hba).trans x1
        have a2 := (B1.cell (p := ⟨ba, oa + k * 4 + 2, none⟩) hba).trans x2
        have a3 := (B1.cell (p := ⟨ba, oa + k * 4 + 3, none⟩) hba).trans x3
        have b0 := (B1.cell (p := ⟨bb, ob + C * 4, none⟩) hbb).trans y0
        have b1 := (B1.cell (p := ⟨bb, ob + C * 4 + 1, none⟩) hbb).trans y1
        have b2 := (B1.cell (p := ⟨bb, ob + C * 4 + 2, none⟩) hbb).trans y2
        have b3 := (B1.cell (p := ⟨bb, ob + C * 4 + 3, none⟩) hbb).trans y3
        have wa : ba < w1.heap.size := Nat.lt_of_lt_of_le hba B1.size
        have wb : bb < w1.heap.size := Nat.lt_of_lt_of_le hbb B1.size
        obtain ⟨Y, eY⟩ : ∃ Y : Bool, Hid (A.same Bq = Y) := ⟨_, rfl⟩
        rw [eY.out] at hr4
        have ct : Hid (∀ W : World, Calls Tryz.prog 73 #[.agg #[.int .i64 A.k, .int .i64 A.n, .int .i64 A.d, .string A.s], .agg #[.int .i64 Bq.k, .int .i64 Bq.n, .int .i64 Bq.d, .string Bq.s]] W fun e w' => e = .returned (.bool Y) ∧ Below W.heap.size W w') := fun W => by
          have h := rsame_any A.k A.n A.d A.s Bq.k Bq.n Bq.d Bq.s W
          rw [show sameB A.k A.n A.d A.s Bq.k Bq.n Bq.d Bq.s = Y from eY.out] at h
          exact h
        clear x0 x1 x2 x3 y0 y1 y2 y3 hr2 hr3 hix
        go_upto_region 6 with fail
        go_region_held3 (fun w' => w'.cell? ⟨ba, oa + k * 4, none⟩ = some (.int .i64 A.k) ∧ w'.cell? ⟨ba, oa + k * 4 + 1, none⟩ = some (.int .i64 A.n) ∧ w'.cell? ⟨ba, oa + k * 4 + 2, none⟩ = some (.int .i64 A.d) ∧ w'.cell? ⟨ba, oa + k * 4 + 3, none⟩ = some (.string A.s) ∧ w'.cell? ⟨bb, ob + C * 4, none⟩ = some (.int .i64 Bq.k) ∧ w'.cell? ⟨bb, ob + C * 4 + 1, none⟩ = some (.int .i64 Bq.n) ∧ w'.cell? ⟨bb, ob + C * 4 + 2, none⟩ = some (.int .i64 Bq.d) ∧ w'.cell? ⟨bb, ob + C * 4 + 3, none⟩ = some (.string Bq.s))
          (exact ⟨bcl (n := w1.heap.size) (by go_grown) a0 wa, bcl (n := w1.heap.size) (by go_grown) a1 wa, bcl (n := w1.heap.size) (by go_grown) a2 wa, bcl (n := w1.heap.size) (by go_grown) a3 wa, bcl (n := w1.heap.size) (by go_grown) b0 wb, bcl (n := w1.heap.size) (by go_grown) b1 wb, bcl (n := w1.heap.size) (by go_grown) b2 wb, bcl (n := w1.heap.size) (by go_grown) b3 wb⟩)
          (first
            | (go_at_call 73; refine (ct.out _).mono ?_; rintro e v1 ⟨rfl, hv1⟩; obtain ⟨hw1, hn1⟩ := bg0 (n := w1.heap.size) (W0 := w1) (by go_grown) (by go_size) hv1; clear hv1))
        have B2 : Below w.heap.size w v1 := B1.trans (hw1.mono B1.size)
        clear a0 a1 a2 a3 b0 b1 b2 b3 hw1 hn1 ct B1
        cases Y with
        | true =>
          have hr5 : Hid (FT = fitB vs us r q (k + 1)) := by have := hr4.out; rwa [Bool.true_and] at this
          clear hr4
          go_wp2
          exact ⟨⟨k + 1, by omega, by go_num, hr5, B2⟩, by simp [intOf]; omega⟩
        | false =>
          have hr5 : Hid (FT = false) := by have := hr4.out; rwa [Bool.false_and] at this
          clear hr4
          go_wp2
          go_ret
          exact ⟨ret_bool hr5.out.symm, B2⟩
    · have c2 : ¬ (k : Int) < n := by omega
      have hr3 : Hid (FT = true) := by
        have h := hr.out
        rwa [fitB_end (by have := en.out; omega)] at h
      go_wp2
      go_ret
      exact ⟨ret_bool hr3.out.symm, hB⟩

set_option maxRecDepth 100000 in
set_option maxHeartbeats 8000000 in
theorem dall_any {V U : Value} {vs us : List ByteArray} {w : World} (hV : StrsAt w V vs) (hU : StrsAt w U us) (lv : vs.length ≤ 8) (lu : us.length ≤ 8) :
    Calls Tryz.prog 62 #[V, U] w fun e w' => ∃ v, e = .returned v ∧ OwnS w.heap.size v (allV vs us) w' ∧ Below w.heap.size w w' := by
  obtain ⟨i0, hi, hz0, hz1, hz2⟩ := info_parts inS
  have FD : Hid (∀ (W : World) (X : ByteArray), Below w.heap.size w W → Calls Tryz.prog 85 #[V, .string X] W fun e w' => e = .returned (.int .i64 (Lib.idxOfS vs X)) ∧ Below W.heap.size W w') := fun W X hW => dfind_any (hV.below hW) (by omega)
  have HS : Hid (Src w 1 V vs.length (vs.map Value.string)) := src_strs hV
  obtain ⟨pv, cv, rfl⟩ := hV.form
  obtain ⟨pu, cu, rfl, HU0⟩ := hU.all
  have HU : Hid (∀ k (hk : k < us.length), ∃ b off, pu = some ⟨b, off, none⟩ ∧ b < w.heap.size ∧ w.cell? ⟨b, off + k, none⟩ = some (.string us[k])) := HU0
  obtain ⟨n, en⟩ : ∃ n : Nat, Hid (vs.length = n) := ⟨_, rfl⟩
  obtain ⟨m, em⟩ : ∃ m : Nat, Hid (us.length = m) := ⟨_, rfl⟩
  rw [en.out] at lv FD HS ⊢
  rw [em.out] at lu ⊢
  clear hV hU HU0
  have l63 : 0 + n ≤ maxLen := by unfold maxLen; omega
  have lby : (0 + n) * 16 ≤ 140737488355328 := by omega
  have lsz : w.heap.size ≤ w.heap.size := Nat.le_refl _
  go_enter Tryz.func62, Tryz.ntmps62
  go_wp2_with (at_builtin; refine wpList_append_src rfl (.tmp 8) (.tmp 9) 22 rfl w.heap.size 9 i0 _ 1 16 Tryz.underlying22 hi hz0 hz1 hz2 rfl (by decide) (.slice none 0 0) 0 [] rfl (World.ownsRow_nil _ _ _ _) (.slice pv n cv) n (vs.map Value.string) rfl HS.out ?one l63 lby lsz ?grow)
  case one => (intro u hu; obtain ⟨x, -, rfl⟩ := List.mem_map.1 hu; rfl)
  case grow =>
    intro v1 w1 h2 h3 _
    have B1 : Below w.heap.size w w1 := (Below.refl _ _).grown h3 (Nat.le_refl _) (fun q hq => by cases hq)
    have O1 : Hid (OwnS w.heap.size v1 (vs ++ (us.take 0).filter fun x => !Lib.containsS vs x) w1) := by
      show World.ownsRow _ _ _ _ _ _ _
      simp only [List.take_zero, List.filter_nil, List.append_nil, en.out]
      simpa using h2
    clear h2 h3 HS l63 lby lsz
    go_wp2
    go_loopw [5, 6] (fun v i wr => ∃ k : Nat, k ≤ m ∧ i = .int .i64 k ∧ Hid (OwnS w.heap.size v (vs ++ (us.take k).filter fun x => !Lib.containsS vs x) wr) ∧ Below w.heap.size w wr) (fun _ i _ => m - (intOf i).toNat)
    case atStart => exact ⟨0, Nat.zero_le _, rfl, O1, B1⟩
    case round =>
      obtain ⟨k, hk, rfl, hO, hB⟩ := hrel
      clear O1 B1
      by_cases hlt : k < m
      · have kx : k < us.length := by have := em.out; omega
        obtain ⟨b, off, rfl, hb, x1⟩ := HU.out k kx
        have hst : Hid (vs ++ (us.take (k + 1)).filter (fun x => !Lib.containsS vs x) = (vs ++ (us.take k).filter fun x => !Lib.containsS vs x) ++ if Lib.containsS vs us[k] then [] else [us[k]]) := by
          show _ = _
          rw [List.take_succ_eq_append_getElem kx, List.filter_append, List.append_assoc]
          cases h : Lib.containsS vs us[k] <;> simp [h]
        have hLL : Hid ((vs ++ (us.take k).filter fun x => !Lib.containsS vs x).length ≤ 16) := by
          have h1 : ((us.take k).filter fun x => !Lib.containsS vs x).length ≤ (us.take k).length := List.length_filter_le _ _
          rw [List.length_take] at h1
          show _ ≤ _
          rw [List.length_append, en.out]
          omega
        have hcx : Hid (Lib.containsS vs us[k] = !decide (Lib.idxOfS vs us[k] < 0)) := by
          show _ = _
          cases h : Lib.containsS vs us[k] with
          | true =>
            have := (Lib.idxOfS_nonneg_iff vs us[k]).2 ((Lib.containsS_iff vs us[k]).1 h)
            simp; omega
          | false =>
            have hn : ¬ 0 ≤ Lib.idxOfS vs us[k] := fun g => by
              have := (Lib.containsS_iff vs us[k]).2 ((Lib.idxOfS_nonneg_iff vs us[k]).1 g)
              rw [h] at this
              cases this
            simp; omega
        have q1 := (hB.cell (p := ⟨b, off + k, none⟩) hb).trans x1
        have Q0 : Hid (w.cell? ⟨b, off + k, none⟩ = some (.string us[k])) := x1
        have ct : Hid (∀ W, Below w.heap.size w W → Calls Tryz.prog 85 #[.slice pv n cv, .string us[k]] W fun e w' => e = .returned (.int .i64 (Lib.idxOfS vs us[k])) ∧ Below W.heap.size W w') := fun W hW => FD.out W _ hW
        generalize us[k] = X at q1 ct hst Q0 hcx
        obtain ⟨M, eM⟩ : ∃ M, Hid ((vs ++ (us.take k).filter fun x => !Lib.containsS vs x) = M) := ⟨_, rfl⟩
        rw [eM.out] at hO hst hLL
        obtain ⟨D, eD⟩ : ∃ D : Int, Hid (Lib.idxOfS vs X = D) := ⟨_, rfl⟩
        rw [eD.out] at ct hcx
        rw [hcx.out] at hst
        have i1 : (0 : Int) ≤ (k : Int) := by omega
        have i2 : (k : Int) < (m : Int) := by omega
        clear x1 hcx
        go_wp2_with fail
        refine (ct.out _ (by exact hB)).mono ?_
        rintro e w2 ⟨rfl, hb2⟩
        have B4 : Below w.heap.size w w2 := hB.trans (hb2.mono hB.size)
        have O4 : Hid (OwnS w.heap.size u5 M w2) := own_below hO.out hb2
        clear hb2 ct q1 hB hO
        by_cases hD : D < 0
        · have q1 : w2.cell? ⟨b, off + k, none⟩ = some (.string X) := (B4.cell (p := ⟨b, off + k, none⟩) hb).trans Q0.out
          obtain ⟨p5, n5, c5, rfl⟩ := slice_of O4.out
          have HSRC : Hid (Src (w2.alloc (.cells #[.string X] 9)) 1 (.slice (some ⟨w2.heap.size, 0, none⟩) 1 1) 1 [.string X]) := Or.inr ⟨_, 1, rfl, rfl, fun j x hj => by
            rw [Addr.add_lit, Nat.zero_add]
            exact cell_of_heap (heap_alloc w2 _) j (by simpa using hj)⟩
          have HO4 : Hid ((w2.alloc (.cells #[.string X] 9)).ownsRow w.heap.size 9 1 (.slice p5 n5 c5) M.length (M.map Value.string)) := World.ownsRow.alloc O4.out _
          have HK4 : Hid (∀ q, (Value.slice p5 n5 c5).ownBlock = some q → w.heap.size ≤ q) := fun q hq => (World.ownsRow.lt O4.out q hq).1
          have s1 : M.length + 1 ≤ maxLen := by unfold maxLen; have := hLL.out; omega
          have s2 : (M.length + 1) * 16 ≤ 140737488355328 := by have := hLL.out; omega
          have s3 : w.heap.size ≤ (w2.alloc (.cells #[.string X] 9)).heap.size := by simp; have := B4.size; omega
          clear O4
          go_wp2_with (at_builtin; refine wpList_append_src rfl (.tmp 25) (.tmp 30) 22 rfl w.heap.size 9 i0 _ 1 16 Tryz.underlying22 hi hz0 hz1 hz2 rfl (by decide) (.slice p5 n5 c5) M.length (M.map Value.string) rfl HO4.out (.slice (some ⟨w2.heap.size, 0, none⟩) 1 1) 1 [.string X] rfl HSRC.out ?one s1 s2 s3 ?grow)
          case one => (intro u hu; simp at hu; subst hu; rfl)
          case grow =>
            intro v' w3 h2 h3 _
            have O5 : Hid (OwnS w.heap.size v' (vs ++ (us.take (k + 1)).filter fun x => !Lib.containsS vs x) w3) := by
              show OwnS _ _ _ _
              rw [hst.out, decide_eq_true hD]
              unfold OwnS
              simp only [Bool.not_true, Bool.false_eq_true, if_false]
              rw [List.length_append, List.map_append]
              exact h2
            have B5 : Below w.heap.size w w3 := (B4.alloc B4.size _).grown h3 s3 HK4.out
            clear h2 h3 HSRC HO4 HK4 s1 s2 s3 B4 q1
            go_wp2
            exact ⟨⟨k + 1, by omega, by go_num, O5, B5⟩, by simp [intOf]; omega⟩
        · have O5 : Hid (OwnS w.heap.size u5 (vs ++ (us.take (k + 1)).filter fun x => !Lib.containsS vs x) w2) := by
            show OwnS _ _ _ _
            rw [hst.out, decide_eq_false hD]
            simpa using O4.out
          clear hst O4
          go_wp2
          exact ⟨⟨k + 1, by omega, by go_num, O5, B4⟩, by simp [intOf]; omega⟩
      · have c2 : ¬ (k : Int) < (m : Int) := by omega
        have OF : Hid (OwnS w.heap.size u5 (allV vs us) wr) := by
          have h := hO.out
          rw [List.take_of_length_le (by have := em.out; omega), ← allV_eq] at h
          exact h
        go_wp2
        go_ret
        exact ⟨_, rfl, OF.out, hB⟩

end Go.Proofs.YteipohpfaofchaaGreat
