/- What the laws' own 'live' tells. -/
import Derived.Test.YticmebamclacaaaGreatDoorZ01
import Derived.Shelf.Abstract
import Derived.Deep.Cut
import Derived.Test.YticmebamclacaaaGreatDoorRows
import Derived.WalkKit
import Derived.WalkSpells
import Derived.WalkLawsBesides
import Derived.Handy
import Derived.BigQuiet
import Derived.Deep.QuietTactic
import Derived.Deep.RegionHeld3
import Derived.Laws.MathBits
import Derived.Deep.DeepCutAuto
import Derived.Lib.AppendStr
import Derived.Lib.UnsafeStr
import Derived.Lib.MakeNoZero
import Derived.Laws.Externs
import Derived.OwnWalk
import Derived.LoopN
import Derived.Lib.AppendIntMem
import Derived.Lib.ItoaLen
import Derived.Lib.ConvBytes
import Derived.Lib.AtoiErrMem
import Derived.Laws.EntriesVeiled

namespace Go.Proofs.YticmebamclacaaaGreatDoor
open Go.RowKit LX Go.Shelf
set_option linter.unusedVariables false

/-- Kinds lie in a slice. -/
def KAt (w : World) (v : Value) (ks : List Int) : Prop := ∃ p c, v = .slice p ks.length c ∧ (ks = [] ∨ ∃ b off, p = some ⟨b, off, none⟩ ∧ b < w.heap.size ∧ ∀ i (h : i < ks.length), w.cell? ⟨b, off + i, none⟩ = some (.int .i64 ks[i]))
theorem KAt.below {w w' : World} {v : Value} {ks : List Int} (h : KAt w v ks) (hb : Below w.heap.size w w') : KAt w' v ks := by
  obtain ⟨p, c, e, h | ⟨b, off, h1, h2, h3⟩⟩ := h
  · exact ⟨p, c, e, Or.inl h⟩
  · exact ⟨p, c, e, Or.inr ⟨b, off, h1, Nat.lt_of_lt_of_le h2 hb.size, fun i hi => (hb.cell (p := ⟨b, _, none⟩) h2).trans (h3 i hi)⟩⟩
theorem KAt.form {w : World} {v : Value} {ks : List Int} (h : KAt w v ks) : ∃ p c, v = .slice p ks.length c ∧ ∀ i (hi : i < ks.length), ∃ b off, p = some ⟨b, off, none⟩ ∧ b < w.heap.size ∧ w.cell? ⟨b, off + i, none⟩ = some (.int .i64 ks[i]) := by
  obtain ⟨p, c, e, h | ⟨b, off, h1, h2, h3⟩⟩ := h
  · exact ⟨p, c, e, fun i hi => by subst h; simp at hi⟩
  · exact ⟨p, c, e, fun i hi => ⟨b, off, h1, h2, h3 i hi⟩⟩
/-- Declarations lie in a slice. -/
def SigAt (w : World) (v : Value) (L : List Dec) : Prop := ∃ p c, v = .slice p L.length c ∧ L.length ≤ c ∧ (L = [] ∨ ∃ b off, p = some ⟨b, off, none⟩ ∧ b < w.heap.size ∧ ∀ i (h : i < L.length), ∃ u, w.cell? ⟨b, off + i * 2, none⟩ = some (.string L[i].name) ∧ w.cell? ⟨b, off + i * 2 + 1, none⟩ = some u ∧ KAt w u L[i].kinds)
theorem SigAt.below {w w' : World} {v : Value} {L : List Dec} (h : SigAt w v L) (hb : Below w.heap.size w w') : SigAt w' v L := by
  obtain ⟨p, c, e, hc, h | ⟨b, off, h1, h2, h3⟩⟩ := h
  · exact ⟨p, c, e, hc, Or.inl h⟩
  · refine ⟨p, c, e, hc, Or.inr ⟨b, off, h1, Nat.lt_of_lt_of_le h2 hb.size, fun i hi => ?_⟩⟩
    obtain ⟨u, a1, a2, a3⟩ := h3 i hi
    exact ⟨u, (hb.cell (p := ⟨b, _, none⟩) h2).trans a1, (hb.cell (p := ⟨b, _, none⟩) h2).trans a2, a3.below hb⟩
theorem SigAt.form {w : World} {v : Value} {L : List Dec} (h : SigAt w v L) : ∃ p c, v = .slice p L.length c ∧ L.length ≤ c ∧ ∀ i (hi : i < L.length), ∃ b off u, p = some ⟨b, off, none⟩ ∧ b < w.heap.size ∧ w.cell? ⟨b, off + i * 2, none⟩ = some (.string L[i].name) ∧ w.cell? ⟨b, off + i * 2 + 1, none⟩ = some u ∧ KAt w u L[i].kinds := by
  obtain ⟨p, c, e, hc, h | ⟨b, off, h1, h2, h3⟩⟩ := h
  · exact ⟨p, c, e, hc, fun i hi => by subst h; simp at hi⟩
  · refine ⟨p, c, e, hc, fun i hi => ?_⟩
    obtain ⟨u, a1, a2, a3⟩ := h3 i hi
    exact ⟨b, off, u, h1, h2, a1, a2, a3⟩
theorem SigAt.take {w : World} {p : Option Addr} {n c : Nat} {L : List Dec} (h : SigAt w (.slice p n c) L) (k : Nat) (hk : k ≤ L.length) : SigAt w (.slice p k c) (L.take k) := by
  obtain ⟨p', c', e, hc, h⟩ := h
  injection e with e1 e2 e3
  subst e1 e3
  refine ⟨p, c, by rw [List.length_take, Nat.min_eq_left hk], by rw [List.length_take, Nat.min_eq_left hk]; omega, ?_⟩
  rcases h with h | ⟨b, off, h1, h2, h3⟩
  · exact Or.inl (by rw [h]; simp)
  · refine Or.inr ⟨b, off, h1, h2, fun i hi => ?_⟩
    have hi' : i < L.length := by rw [List.length_take] at hi; omega
    obtain ⟨u, a1, a2, a3⟩ := h3 i hi'
    rw [List.getElem_take]
    exact ⟨u, a1, a2, a3⟩

theorem beq_ba (a b : ByteArray) : (a.toList == b.toList) = decide (a = b) := by
  rw [ByteArray.toList_eq, ByteArray.toList_eq]
  by_cases h : a = b
  · subst h; simp
  · have : ¬ a.data.toList = b.data.toList := fun e => h (by cases a; cases b; simp at e; rw [e])
    simp only [h, decide_false]
    exact beq_eq_false_iff_ne.mpr this

set_option maxRecDepth 100000 in
theorem findf_any (nm x : ByteArray) (p : Option Addr) (n c : Nat) (B : Nat) (w : World) (hB : B < w.heap.size) (hc : w.cell? ⟨B, 0, none⟩ = some (.string x)) :
    Calls Tryz.prog 98 #[.agg #[.string nm, .slice p n c], .pointer (some ⟨B, 0, none⟩)] w fun e w' => e = .returned (.bool (decide (nm = x))) ∧ Below w.heap.size w w' := by
  have hl := beq_ba nm x
  rw [← hl]
  clear hl
  have hc2 : (w.alloc (.cells #[.string nm, .slice p n c] 40)).cell? ⟨B, 0, none⟩ = some (.string x) := by rw [World.cell?_alloc_lt _ _ ⟨B, 0, none⟩ hB]; exact hc
  go_enter Tryz.func98, Tryz.ntmps98
  go_wp2
  go_ret
  exact ⟨rfl, by go_grown⟩

theorem findI_cons (x : ByteArray) (d : Dec) (l : List Dec) (k : Nat) : findI x (d :: l) k = if d.name = x then (k : Int) else findI x l (k + 1) := rfl

set_option maxRecDepth 100000 in
set_option maxHeartbeats 2000000 in
theorem idxd_any (A : Value) (L : List Dec) (x : ByteArray) (B : Nat) (w : World) (hB : B < w.heap.size) (hc : w.cell? ⟨B, 0, none⟩ = some (.string x)) (hA : SigAt w A L) (lr : L.length ≤ 9223372036854775807) :
    Calls Tryz.prog 97 #[A, .func (.func 98) #[] #[.pointer (some ⟨B, 0, none⟩)]] w fun e w' => e = .returned (.int .i64 (findI x L 0)) ∧ Below w.heap.size w w' := by
  have eg : ∀ args w, (callFunc 98 args).run Tryz.prog w = .ok (.enter 98 args) w := enters_of Tryz.func98 (by kernel_rfl) rfl
  obtain ⟨p, c, rfl, -, HX0⟩ := hA.form
  have HX : Hid (∀ i (hi : i < L.length), ∃ b off u, p = some ⟨b, off, none⟩ ∧ b < w.heap.size ∧ w.cell? ⟨b, off + i * 2, none⟩ = some (.string L[i].name) ∧ w.cell? ⟨b, off + i * 2 + 1, none⟩ = some u ∧ KAt w u L[i].kinds) := HX0
  have HC : Hid (w.cell? ⟨B, 0, none⟩ = some (.string x)) := hc
  obtain ⟨n, en⟩ : ∃ n : Nat, Hid (L.length = n) := ⟨_, rfl⟩
  rw [en.out] at lr ⊢
  clear hA HX0 hc
  go_enter Tryz.func97, Tryz.ntmps97
  go_wp2
  go_loopw [8] (fun i wr => ∃ k : Nat, k ≤ n ∧ i = .int .i64 k ∧ Hid (findI x L 0 = findI x (L.drop k) k) ∧ Below w.heap.size w wr) (fun i _ => n - (intOf i).toNat)
  case atStart => exact ⟨0, Nat.zero_le _, rfl, (show findI x L 0 = findI x (L.drop 0) 0 by simp), Below.refl _ _⟩
  case round =>
    obtain ⟨k, hk, rfl, hr, hBw⟩ := hrel
    by_cases hlt : k < n
    · have kx : k < L.length := by have := en.out; omega
      obtain ⟨b, off, u, rfl, hb, r0, r1, r2⟩ := HX.out k kx
      have a0 := (hBw.cell (p := ⟨b, off + k * 2, none⟩) hb).trans r0
      have a1 := (hBw.cell (p := ⟨b, off + k * 2 + 1, none⟩) hb).trans r1
      have hr2 : Hid (findI x L 0 = if L[k].name = x then (k : Int) else findI x (L.drop (k + 1)) (k + 1)) := by
        have h := hr.out
        rw [List.drop_eq_getElem_cons kx, findI_cons] at h
        exact h
      obtain ⟨pu, cu, rfl, -⟩ := r2.form
      have ct : Hid (Calls Tryz.prog 98 #[.agg #[.string L[k].name, .slice pu L[k].kinds.length cu], .pointer (some ⟨B, 0, none⟩)] wr fun e w' => e = .returned (.bool (decide (L[k].name = x))) ∧ Below wr.heap.size wr w') := findf_any _ x pu _ cu B wr (Nat.lt_of_lt_of_le hB hBw.size) ((hBw.cell (p := ⟨B, 0, none⟩) hB).trans HC.out)
      clear r0 r1 r2 hr
      generalize L[k].kinds.length = nk at a1 ct
      generalize L[k].name = X at a0 hr2 ct
      by_cases hC : X = x
      · have hr3 : Hid (findI x L 0 = k) := by have h := hr2.out; rwa [if_pos hC] at h
        rw [decide_eq_true hC] at ct
        clear hC hr2
        go_wp2_with fail
        refine ct.out.mono ?_
        rintro e w1 ⟨rfl, hw1⟩
        have hB2 : Below w.heap.size w w1 := hBw.trans (hw1.mono hBw.size)
        clear a0 a1 ct hw1
        go_wp2
        go_ret
        exact ⟨reti hr3.out.symm, hB2⟩
      · have hr3 : Hid (findI x L 0 = findI x (L.drop (k + 1)) (k + 1)) := by have h := hr2.out; rwa [if_neg hC] at h
        rw [decide_eq_false hC] at ct
        clear hC hr2
        go_wp2_with fail
        refine ct.out.mono ?_
        rintro e w1 ⟨rfl, hw1⟩
        have hB2 : Below w.heap.size w w1 := hBw.trans (hw1.mono hBw.size)
        clear a0 a1 ct hw1
        go_wp2
        exact ⟨⟨k + 1, by omega, by go_num, hr3, hB2⟩, by simp [intOf]; omega⟩
    · have c2 : ¬ (k : Int) < n := by omega
      have hr3 : Hid (findI x L 0 = -1) := by
        have h := hr.out
        rw [List.drop_eq_nil_of_le (by have := en.out; omega)] at h
        exact h
      go_wp2
      go_ret
      exact ⟨reti hr3.out.symm, hBw⟩

set_option maxRecDepth 100000 in
theorem find_any (A : Value) (L : List Dec) (x : ByteArray) (w : World) (hA : SigAt w A L) (lr : L.length ≤ 9223372036854775807) :
    Calls Tryz.prog 70 #[A, .string x] w fun e w' => e = .returned (.int .i64 (findI x L 0)) ∧ Below w.heap.size w w' := by
  have ct : Hid (Calls Tryz.prog 97 #[A, .func (.func 98) #[] #[.pointer (some ⟨w.heap.size, 0, none⟩)]] (w.alloc (.cells #[.string x] 9)) fun e w' => e = .returned (.int .i64 (findI x L 0)) ∧ Below (w.alloc (.cells #[.string x] 9)).heap.size (w.alloc (.cells #[.string x] 9)) w') := idxd_any A L x w.heap.size _ (by simp) (by simp) (hA.below (by go_grown)) lr
  obtain ⟨p, c, rfl, -⟩ := hA.form
  generalize findI x L 0 = I at *
  generalize L.length = n at *
  clear hA
  go_enter Tryz.func70, Tryz.ntmps70
  go_wp2_with fail
  refine ct.out.mono ?_
  rintro e w1 ⟨rfl, hw1⟩
  obtain ⟨hw2, hn2⟩ := bgX (n := w.heap.size) (W0 := w) (by go_grown) (by go_size) hw1
  clear ct hw1
  go_wp2
  go_ret
  exact ⟨rfl, hw2⟩

/-- The word of a kind. -/
def kwL (k : Int) : List UInt8 := if k = 1 then [105, 110, 116] else if k = 2 then [114, 97, 116] else if k = 3 then [115, 116, 114] else []
theorem kword_any (k : Int) (w : World) :
    Calls Tryz.prog 30 #[.int .i64 k] w fun e w' => e = .returned (.string ⟨(kwL k).toArray⟩) ∧ w' = w := by
  by_cases h1 : k = 1
  · subst h1
    go_enter Tryz.func30, Tryz.ntmps30
    go_wp2
    go_ret
    exact ⟨rfl, rfl⟩
  by_cases h2 : k = 2
  · subst h2
    go_enter Tryz.func30, Tryz.ntmps30
    go_wp2
    go_ret
    exact ⟨rfl, rfl⟩
  by_cases h3 : k = 3
  · subst h3
    go_enter Tryz.func30, Tryz.ntmps30
    go_wp2
    go_ret
    exact ⟨rfl, rfl⟩
  have e1 : (k == 1) = false := by simpa using h1
  have e2 : (k == 2) = false := by simpa using h2
  have e3 : (k == 3) = false := by simpa using h3
  have hz : Hid (kwL k = []) := by unfold Hid kwL; rw [if_neg h1, if_neg h2, if_neg h3]
  rw [hz.out]
  clear h1 h2 h3
  go_enter Tryz.func30, Tryz.ntmps30
  go_wp2
  go_ret
  exact ⟨rfl, rfl⟩

end Go.Proofs.YticmebamclacaaaGreatDoor

namespace Go.Proofs.YticmebamclacaaaGreatDoor
open Go.RowKit LX
set_option linter.unusedVariables false

theorem wpX_world {P : Program} {c : Code} {Q : Exit → Act → World → Prop} {a : Act} {w : World} (h : ∀ W, W = w → c.wp P Q a W) : c.wp P Q a w := h w rfl
theorem bclX {n : Nat} {W0 wx : World} (h : Below n W0 wx) {a : Addr} {v : Value} (hv : W0.cell? a = some v) (ha : a.block < n) : wx.cell? a = some v := (h.cell ha).trans hv
theorem retE {E n : Int} {v : Value} (h : E = n) (hv : v = errV n) : Ending.returned v = .returned (errV E) := by rw [h, hv]
theorem kwL_some {k : Int} (h : 1 ≤ k ∧ k ≤ 3) : ((⟨(kwL k).toArray⟩ : ByteArray).toList == []) = false := by
  rw [ByteArray.toList_eq]
  have : k = 1 ∨ k = 2 ∨ k = 3 := by omega
  rcases this with rfl | rfl | rfl <;> rfl
theorem kwL_none {k : Int} (h : ¬ (1 ≤ k ∧ k ≤ 3)) : ((⟨(kwL k).toArray⟩ : ByteArray).toList == []) = true := by
  rw [ByteArray.toList_eq]
  unfold kwL
  rw [if_neg (by omega), if_neg (by omega), if_neg (by omega)]
  rfl

set_option maxRecDepth 100000 in
set_option maxHeartbeats 2000000 in
theorem cdecl_any (A V : Value) (L : List Dec) (d : Dec) (w : World) (hA : SigAt w A L) (hV : KAt w V d.kinds) (lL : L.length ≤ 9223372036854775807) (lk : d.kinds.length ≤ 9223372036854775807) :
    Calls Tryz.prog 50 #[A, .agg #[.string d.name, V]] w fun e w' => e = .returned (errV (declE L d)) ∧ Below w.heap.size w w' := by
  have cN : Hid (∀ W : World, Calls Tryz.prog 73 #[.string d.name] W fun e w' => e = .returned (.bool (nameB d.name)) ∧ w' = W) := fun W => name_any d.name W
  have cF : Hid (∀ W : World, Below w.heap.size w W → Calls Tryz.prog 70 #[A, .string d.name] W fun e w' => e = .returned (.int .i64 (findI d.name L 0)) ∧ Below W.heap.size W w') := fun W hW => find_any A L d.name W (hA.below hW) lL
  obtain ⟨pA, cA, rfl, -⟩ := hA.form
  obtain ⟨pk, ck, rfl, HK0⟩ := hV.form
  have HK : Hid (∀ i (hi : i < d.kinds.length), ∃ b off, pk = some ⟨b, off, none⟩ ∧ b < w.heap.size ∧ w.cell? ⟨b, off + i, none⟩ = some (.int .i64 d.kinds[i])) := HK0
  clear hA hV HK0
  obtain ⟨n, en⟩ : ∃ n : Nat, Hid (L.length = n) := ⟨_, rfl⟩
  obtain ⟨m, em⟩ : ∃ m : Nat, Hid (d.kinds.length = m) := ⟨_, rfl⟩
  obtain ⟨X, eX⟩ : ∃ X : ByteArray, Hid (d.name = X) := ⟨_, rfl⟩
  obtain ⟨I, eI⟩ : ∃ I : Int, Hid (findI X L 0 = I) := ⟨_, rfl⟩
  have hD : Hid (declE L d = if nameB X = false ∨ 0 ≤ I then 1 else if 6 < m then 3 else kindsE d.kinds) := by
    unfold Hid declE
    rw [eX.out, eI.out, em.out]
  obtain ⟨E, eE⟩ : ∃ E : Int, Hid (declE L d = E) := ⟨_, rfl⟩
  rw [eE.out] at hD ⊢
  rw [eX.out, eI.out] at cF
  rw [eX.out] at cN
  rw [eX.out, en.out, em.out]
  rw [en.out] at cF lL
  rw [em.out] at lk
  go_enter Tryz.func50, Tryz.ntmps50
  cases hN : nameB X with
  | false =>
    have hE : Hid (E = 1) := by have h := hD.out; rwa [if_pos (Or.inl hN)] at h
    rw [hN] at cN
    go_wp2_with fail
    refine (cN.out _).mono ?_
    rintro e w1 ⟨rfl, rfl⟩
    go_wp2
    go_ret
    exact ⟨retE hE.out rfl, by go_grown⟩
  | true =>
    rw [hN] at cN
    go_wp2_with fail
    refine (cN.out _).mono ?_
    rintro e w1 ⟨rfl, rfl⟩
    go_wp2_with fail
    refine (cF.out _ (by go_grown)).mono ?_
    rintro e w1 ⟨rfl, hb1⟩
    have b0 : w1.cell? ⟨w.heap.size, 1, none⟩ = some (.slice pk m ck) := (hb1.cell (p := ⟨w.heap.size, 1, none⟩) (by simp)).trans (by simp [go_sem])
    have hs1 : w.heap.size < w1.heap.size := by have := hb1.size; simp at this; omega
    obtain ⟨hB1, -⟩ := bgX (n := w.heap.size) (W0 := w) (by go_grown) (by go_size) hb1
    clear hb1 cF cN
    by_cases hI : 0 ≤ I
    · have hE : Hid (E = 1) := by have h := hD.out; rwa [if_pos (Or.inr hI)] at h
      go_wp2
      go_ret
      exact ⟨retE hE.out rfl, hB1⟩
    · have hE1 : Hid (E = if 6 < m then 3 else kindsE d.kinds) := by have h := hD.out; rwa [if_neg (by rw [hN]; simp; omega)] at h
      have hI' : I < 0 := by omega
      by_cases h6 : 6 < m
      · have hE : Hid (E = 3) := by have h := hE1.out; rwa [if_pos h6] at h
        have h6' : (6 : Int) < m := by omega
        go_wp2
        go_ret
        exact ⟨retE hE.out rfl, hB1⟩
      · have hE : Hid (E = kindsE d.kinds) := by have h := hE1.out; rwa [if_neg h6] at h
        have h6' : ¬ (6 : Int) < m := by omega
        clear hE1 hD
        go_wp2
        go_loop [29] (fun i => ∃ k : Nat, k ≤ m ∧ i = .int .i64 k ∧ Hid (E = kindsE (d.kinds.drop k))) (fun i => m - (intOf i).toNat)
        case atStart => exact ⟨0, Nat.zero_le _, rfl, by rw [List.drop_zero]; exact hE⟩
        case round =>
          obtain ⟨k, hk, rfl, hr⟩ := hrel
          by_cases hlt : k < m
          · have kx : k < d.kinds.length := by have := em.out; omega
            obtain ⟨b, off, rfl, hb, r0⟩ := HK.out k kx
            have a0 := (hB1.cell (p := ⟨b, off + k, none⟩) hb).trans r0
            have hr2 : Hid (E = if 1 ≤ d.kinds[k] ∧ d.kinds[k] ≤ 3 then kindsE (d.kinds.drop (k + 1)) else 20) := by
              have h := hr.out
              rw [List.drop_eq_getElem_cons kx] at h
              exact h
            clear r0 hr
            generalize d.kinds[k] = K at a0 hr2
            have cK : Hid (∀ W : World, Calls Tryz.prog 30 #[.int .i64 K] W fun e w' => e = .returned (.string ⟨(kwL K).toArray⟩) ∧ w' = W) := fun W => kword_any K W
            by_cases hK : 1 ≤ K ∧ K ≤ 3
            · have hr3 : Hid (E = kindsE (d.kinds.drop (k + 1))) := by have h := hr2.out; rwa [if_pos hK] at h
              have hs := kwL_some hK
              generalize (⟨(kwL K).toArray⟩ : ByteArray) = S at cK hs
              clear hK hr2
              go_wp2_with fail
              refine (cK.out _).mono ?_
              rintro e w2 ⟨rfl, rfl⟩
              clear cK
              go_wp2
              exact ⟨⟨k + 1, by omega, by go_num, hr3⟩, by simp [intOf]; omega⟩
            · have hr3 : Hid (E = 20) := by have h := hr2.out; rwa [if_neg hK] at h
              have hs := kwL_none hK
              generalize (⟨(kwL K).toArray⟩ : ByteArray) = S at cK hs
              clear hK hr2
              go_wp2_with fail
              refine (cK.out _).mono ?_
              rintro e w2 ⟨rfl, rfl⟩
              clear cK
              go_wp2
              go_ret
              exact ⟨retE hr3.out rfl, hB1⟩
          · have c2 : ¬ (k : Int) < m := by omega
            have hr3 : Hid (E = 0) := by
              have h := hr.out
              rw [List.drop_eq_nil_of_le (by have := em.out; omega)] at h
              exact h
            go_wp2
            go_ret
            exact ⟨retE hr3.out rfl, hB1⟩

set_option maxRecDepth 100000 in
set_option maxHeartbeats 2000000 in
theorem csig_any (A : Value) (L : List Dec) (w : World) (hA : SigAt w A L) (lL : L.length ≤ 9223372036854775807) (lk : ∀ d ∈ L, d.kinds.length ≤ 9223372036854775807) :
    Calls Tryz.prog 26 #[A] w fun e w' => e = .returned (errV (sigE L)) ∧ Below w.heap.size w w' := by
  have HA : Hid (SigAt w A L) := hA
  obtain ⟨p, c, rfl, hc, HX0⟩ := hA.form
  have HX : Hid (∀ i (hi : i < L.length), ∃ b off u, p = some ⟨b, off, none⟩ ∧ b < w.heap.size ∧ w.cell? ⟨b, off + i * 2, none⟩ = some (.string L[i].name) ∧ w.cell? ⟨b, off + i * 2 + 1, none⟩ = some u ∧ KAt w u L[i].kinds) := HX0
  clear hA HX0
  obtain ⟨n, en⟩ : ∃ n : Nat, Hid (L.length = n) := ⟨_, rfl⟩
  obtain ⟨E, eE⟩ : ∃ E : Int, Hid (sigE L = E) := ⟨_, rfl⟩
  rw [en.out] at lL hc HA
  rw [eE.out, en.out]
  go_enter Tryz.func26, Tryz.ntmps26
  by_cases h32 : 32 < n
  · have hE : Hid (E = 3) := by have h := eE.out; unfold sigE at h; rw [if_pos (by have := en.out; omega)] at h; exact h.symm
    have h' : (32 : Int) < n := by omega
    go_wp2
    go_ret
    exact ⟨retE hE.out rfl, Below.refl _ _⟩
  · have hE : Hid (E = sigO [] L) := by have h := eE.out; unfold sigE at h; rw [if_neg (by have := en.out; omega)] at h; exact h.symm
    have h' : ¬ (32 : Int) < n := by omega
    go_wp2
    go_loopw [13] (fun i wr => ∃ k : Nat, k ≤ n ∧ i = .int .i64 k ∧ Hid (E = sigO (L.take k) (L.drop k)) ∧ Below w.heap.size w wr) (fun i _ => n - (intOf i).toNat)
    case atStart => exact ⟨0, Nat.zero_le _, rfl, by rw [List.drop_zero]; exact hE, Below.refl _ _⟩
    case round =>
      obtain ⟨k, hk, rfl, hr, hBw⟩ := hrel
      by_cases hlt : k < n
      · have kx : k < L.length := by have := en.out; omega
        obtain ⟨b, off, u, rfl, hb, r0, r1, r2⟩ := HX.out k kx
        have a0 := (hBw.cell (p := ⟨b, off + k * 2, none⟩) hb).trans r0
        have a1 := (hBw.cell (p := ⟨b, off + k * 2 + 1, none⟩) hb).trans r1
        have hr2 : Hid (E = if declE (L.take k) L[k] = 0 then sigO (L.take (k + 1)) (L.drop (k + 1)) else declE (L.take k) L[k]) := by
          have h := hr.out
          rw [List.drop_eq_getElem_cons kx] at h
          rw [h, List.take_succ_eq_append_getElem kx]
          rfl
        obtain ⟨pu, cu, hu, -⟩ := r2.form
        subst hu
        obtain ⟨D, eD⟩ : ∃ D : Int, Hid (declE (L.take k) L[k] = D) := ⟨declE (L.take k) L[k], (show _ = _ from rfl)⟩
        have kc : k ≤ c := by omega
        have ct : Hid (∀ W : World, Below wr.heap.size wr W → Calls Tryz.prog 50 #[.slice (some ⟨b, off, none⟩) k c, .agg #[.string L[k].name, .slice pu L[k].kinds.length cu]] W fun e w' => e = .returned (errV D) ∧ Below W.heap.size W w') := fun W hW => by
          have hWw := hBw.trans (hW.mono hBw.size)
          have h := cdecl_any (.slice (some ⟨b, off, none⟩) k c) (.slice pu L[k].kinds.length cu) (L.take k) L[k] W ((HA.out.take k (by omega)).below hWw) (r2.below hWw) (by rw [List.length_take]; omega) (lk _ (List.getElem_mem kx))
          rw [eD.out] at h
          exact h
        rw [eD.out] at hr2
        have hbr : b < wr.heap.size := Nat.lt_of_lt_of_le hb hBw.size
        clear r0 r1 r2 hr eD
        generalize L[k].kinds.length = nk at a1 ct
        generalize L[k].name = X at a0 ct
        by_cases hD : D = 0
        · have hr3 : Hid (E = sigO (L.take (k + 1)) (L.drop (k + 1))) := by have h := hr2.out; rwa [if_pos hD] at h
          subst hD
          rw [errV_0] at ct
          clear hr2
          go_upto_region 6 with fail
          refine wpX_world ?_
          intro W0 hW0
          have d0 : W0.cell? ⟨wr.heap.size, 0, none⟩ = some (.string X) := by rw [hW0]; simp [go_sem]
          have d1 : W0.cell? ⟨wr.heap.size, 1, none⟩ = some (.slice pu nk cu) := by rw [hW0]; simp [go_sem]
          have k0 : Below wr.heap.size wr W0 := by rw [hW0]; go_grown
          have k1 : wr.heap.size < W0.heap.size := by rw [hW0]; simp
          clear hW0 a0 a1
          go_region_held3 (fun w' => w'.cell? ⟨wr.heap.size, 0, none⟩ = some (.string X) ∧ w'.cell? ⟨wr.heap.size, 1, none⟩ = some (.slice pu nk cu)) (exact ⟨bclX (n := W0.heap.size) (by go_grown) d0 k1, bclX (n := W0.heap.size) (by go_grown) d1 k1⟩)
            (first
              | (go_at_call 50; refine (ct.out _ (k0.trans (Below.mono (B := W0.heap.size) (by go_grown) k0.size))).mono ?_; rintro e w1 ⟨rfl, hb1⟩; obtain ⟨hB1, hn1⟩ := bgX (n := W0.heap.size) (W0 := W0) (by go_grown) (by go_size) hb1))
          all_goals
            have K9 : Below w.heap.size w w1 := hBw.trans ((k0.trans (hB1.mono k0.size)).mono hBw.size)
            clear ct d0 d1 hB1 hn1 hb1
            go_wp2
            exact ⟨⟨k + 1, by omega, by go_num, hr3, K9⟩, by simp [intOf]; omega⟩
        · have hr3 : Hid (E = D) := by have h := hr2.out; rwa [if_neg hD] at h
          have hd : Hid (errV D = .iface 92 (.agg #[.int .i64 D])) := errV_ne hD
          rw [hd.out] at ct
          clear hr2 hD
          go_upto_region 6 with fail
          refine wpX_world ?_
          intro W0 hW0
          have d0 : W0.cell? ⟨wr.heap.size, 0, none⟩ = some (.string X) := by rw [hW0]; simp [go_sem]
          have d1 : W0.cell? ⟨wr.heap.size, 1, none⟩ = some (.slice pu nk cu) := by rw [hW0]; simp [go_sem]
          have k0 : Below wr.heap.size wr W0 := by rw [hW0]; go_grown
          have k1 : wr.heap.size < W0.heap.size := by rw [hW0]; simp
          clear hW0 a0 a1
          go_region_held3 (fun w' => w'.cell? ⟨wr.heap.size, 0, none⟩ = some (.string X) ∧ w'.cell? ⟨wr.heap.size, 1, none⟩ = some (.slice pu nk cu)) (exact ⟨bclX (n := W0.heap.size) (by go_grown) d0 k1, bclX (n := W0.heap.size) (by go_grown) d1 k1⟩)
            (first
              | (go_at_call 50; refine (ct.out _ (k0.trans (Below.mono (B := W0.heap.size) (by go_grown) k0.size))).mono ?_; rintro e w1 ⟨rfl, hb1⟩; obtain ⟨hB1, hn1⟩ := bgX (n := W0.heap.size) (W0 := W0) (by go_grown) (by go_size) hb1))
          all_goals
            have K9 : Below w.heap.size w w1 := hBw.trans ((k0.trans (hB1.mono k0.size)).mono hBw.size)
            clear ct d0 d1 hB1 hn1 hb1
            go_wp2
            go_ret
            exact ⟨retE hr3.out hd.out.symm, K9⟩
      · have c2 : ¬ (k : Int) < n := by omega
        have hr3 : Hid (E = 0) := by
          have h := hr.out
          rw [List.drop_eq_nil_of_le (by have := en.out; omega)] at h
          exact h
        go_wp2
        go_ret
        exact ⟨retE hr3.out rfl, hBw⟩

end Go.Proofs.YticmebamclacaaaGreatDoor

namespace Go.Proofs.YticmebamclacaaaGreatDoor

/-- How far a number is from 0. -/
def sz (n : Int) : Int := (n.natAbs : Int)
/-- The greatest common divisor of two numbers from 0 on. -/
def gc (a b : Int) : Int := ((Nat.gcd a.toNat b.toNat : Nat) : Int)

theorem sz_of_neg {n : Int} (h : n < 0) : sz n = -n := by unfold sz; omega
theorem sz_of_nonneg {n : Int} (h : 0 ≤ n) : sz n = n := by unfold sz; omega
theorem sz_nonneg (n : Int) : 0 ≤ sz n := by unfold sz; omega
theorem sz_le {n : Int} (h1 : -9223372036854775808 ≤ n) (h2 : n ≤ 9223372036854775807) : sz n ≤ 9223372036854775808 := by unfold sz; omega
theorem gc_zero (a : Int) (h : 0 ≤ a) : gc a 0 = a := by unfold gc; simp; omega
theorem gc_step (a b : Int) (ha : 0 ≤ a) (hb : 0 < b) : gc b (a % b) = gc a b := by
  unfold gc
  have e : (a % b).toNat = a.toNat % b.toNat := by
    obtain ⟨x, rfl⟩ := Int.eq_ofNat_of_zero_le ha
    obtain ⟨y, rfl⟩ := Int.eq_ofNat_of_zero_le (Int.le_of_lt hb)
    simp [← Int.natCast_emod]
  rw [e, Nat.gcd_comm b.toNat, ← Nat.gcd_rec, Nat.gcd_comm]

/-- A number by its sign and size. -/
def sg (b : Bool) (n : Int) : Int := if b then -n else n
/-- Does a fraction in its least form fit 64 bits? What is told of it: N, D, the error. -/
def okF (p q : Int) : Bool := decide (-9223372036854775808 ≤ p ∧ p ≤ 9223372036854775807 ∧ q ≤ 9223372036854775807)
def outN (p q : Int) : Int := if okF p q then p else 0
def outD (p q : Int) : Int := if okF p q then q else 0
def outE (p q : Int) : Int := if okF p q then 0 else 10

/-- p / q, q above 0, in its least form, if that fits. -/
def rN (p q : Int) : Int := outN (p / gc (sz p) q) (q / gc (sz p) q)
def rD (p q : Int) : Int := outD (p / gc (sz p) q) (q / gc (sz p) q)
def rE (p q : Int) : Int := outE (p / gc (sz p) q) (q / gc (sz p) q)

theorem sz_sg (b : Bool) (n : Int) : sz (sg b n) = sz n := by unfold sz sg; split <;> omega
theorem gc_pos (a b : Int) (hb : 0 < b) : 0 < gc a b := by
  unfold gc
  have : 0 < Nat.gcd a.toNat b.toNat := Nat.gcd_pos_of_pos_right _ (by omega)
  omega
theorem gc_le (a b : Int) (hb : 0 < b) : gc a b ≤ b := by
  unfold gc
  have : Nat.gcd a.toNat b.toNat ≤ b.toNat := Nat.gcd_le_right _ (by omega)
  omega
theorem gc_dvd_left (a b : Int) (ha : 0 ≤ a) : gc a b ∣ a := by
  unfold gc
  have h := Int.natCast_dvd_natCast.2 (Nat.gcd_dvd_left a.toNat b.toNat)
  have e : ((a.toNat : Nat) : Int) = a := by omega
  rwa [e] at h
theorem gc_dvd_right (a b : Int) (hb : 0 ≤ b) : gc a b ∣ b := by
  unfold gc
  have h := Int.natCast_dvd_natCast.2 (Nat.gcd_dvd_right a.toNat b.toNat)
  have e : ((b.toNat : Nat) : Int) = b := by omega
  rwa [e] at h
theorem sg_div (b : Bool) (n g : Int) (h : g ∣ n) : sg b (n / g) = sg b n / g := by
  unfold sg; split
  · exact (Int.neg_ediv_of_dvd h).symm
  · rfl
theorem sg_sz (n : Int) (b : Bool) : sg (decide (n < 0) != b) (sz n) = sg b n := by
  unfold sg sz
  by_cases h : n < 0 <;> cases b <;> simp [h] <;> omega
theorem div_le_self (a g : Int) (ha : 0 ≤ a) (hg : 0 < g) : a / g ≤ a := by
  have h1 := Int.ediv_mul_le a (show g ≠ 0 by omega)
  have h2 : 0 ≤ a / g := Int.ediv_nonneg ha (by omega)
  have h3 : a / g * 1 ≤ a / g * g := Int.mul_le_mul_of_nonneg_left (by omega) h2
  omega

end Go.Proofs.YticmebamclacaaaGreatDoor

namespace Go.Proofs.YticmebamclacaaaGreatDoor
open Go.RowKit

theorem ret_int {k : IntKind} {a b : Int} (h : a = b) : Ending.returned (.int k a) = .returned (.int k b) := by rw [h]

theorem bdrewN {B : Nat} {a w : World} (n : Nat) (h : Below B a w) : Below B a (w.drewN n) := ⟨h.os, h.tape, h.output, h.size, h.block⟩

/-- What a caller knows of the world behind a callee that only makes new memory: old cells and marks, the heap's size, and that nothing older has turned. -/
theorem bf {w W w1 : World} (h0 : Below w.heap.size w W) (hb : Below W.heap.size W w1) :
    (∀ b o, b < W.heap.size → w1.cell? ⟨b, o, none⟩ = W.cell? ⟨b, o, none⟩) ∧ (∀ b o, b < W.heap.size → w1.frozen? ⟨b, o, none⟩ = W.frozen? ⟨b, o, none⟩) ∧ W.heap.size ≤ w1.heap.size ∧ Below w.heap.size w w1 :=
  ⟨fun b o h => hb.cell (p := ⟨b, o, none⟩) h, fun b o h => hb.frozen (p := ⟨b, o, none⟩) h, hb.size, h0.trans (hb.mono h0.size)⟩

set_option maxHeartbeats 400000 in
theorem size_any (n : Int) (w : World) (h1 : -9223372036854775808 ≤ n) (h2 : n ≤ 9223372036854775807) :
    Calls Tryz.prog 133 #[.int .i64 n] w fun e w' => e = .returned (.int .u64 (sz n)) ∧ w' = w := by
  by_cases h : n < 0
  · go_enter Tryz.func133, Tryz.ntmps133
    go_wp2
    go_ret
    exact ⟨ret_int (by rw [sz_of_neg h]; go_arith), rfl⟩
  · have h' : 0 ≤ n := by omega
    go_enter Tryz.func133, Tryz.ntmps133
    go_wp2
    go_ret
    exact ⟨ret_int (by rw [sz_of_nonneg h']), rfl⟩

set_option maxHeartbeats 400000 in
theorem divisor_any (a b : Int) (w : World) (ha : 0 ≤ a) (hb : 0 ≤ b) (ha' : a ≤ 18446744073709551615) (hb' : b ≤ 18446744073709551615) :
    Calls Tryz.prog 134 #[.int .u64 a, .int .u64 b] w fun e w' => e = .returned (.int .u64 (gc a b)) ∧ ∃ k, w' = w.drewN k := by
  go_enter Tryz.func134, Tryz.ntmps134
  go_wp2
  go_loopw [0, 1] (fun u v wr => ∃ x y : Int, 0 ≤ x ∧ 0 ≤ y ∧ x ≤ 18446744073709551615 ∧ y ≤ 18446744073709551615 ∧ Hid (gc x y = gc a b) ∧ u = .int .u64 x ∧ v = .int .u64 y ∧ ∃ k, wr = w.drewN k) (fun _ v _ => (intOf v).toNat)
  case atStart => exact ⟨a, b, ha, hb, ha', hb', rfl, rfl, rfl, 0, rfl⟩
  case round =>
    obtain ⟨x, y, hx, hy, hx', hy', hg, rfl, rfl, k, rfl⟩ := hrel
    by_cases hz : y = 0
    · subst hz
      go_wp2
      go_ret
      exact ⟨ret_int (by rw [← hg.out, gc_zero _ hx]), k, rfl⟩
    · have hz' : (y != 0) = true := by simpa using hz
      have hp : 0 < y := by omega
      go_wp2
      go_quiet (fail)
      go_wp2
      exact ⟨⟨y, x % y, hy, Int.emod_nonneg _ hz, hy', by have := Int.emod_lt_of_pos x hp; omega, (gc_step x y hx hp).trans hg.out, rfl, rfl, k + nq, World.drewN_drewN ..⟩, by have := Int.emod_lt_of_pos x hp; have := Int.emod_nonneg x hz; simp [intOf]; omega⟩

theorem out_yes {p q : Int} (h1 : -9223372036854775808 ≤ p) (h2 : p ≤ 9223372036854775807) (h3 : q ≤ 9223372036854775807) : outN p q = p ∧ outD p q = q ∧ outE p q = 0 := by
  have h : okF p q = true := by simp [okF]; omega
  simp [outN, outD, outE, h]
theorem out_no {p q : Int} (h : ¬ (-9223372036854775808 ≤ p ∧ p ≤ 9223372036854775807 ∧ q ≤ 9223372036854775807)) : outN p q = 0 ∧ outD p q = 0 ∧ outE p q = 10 := by
  have h : okF p q = false := by simp [okF]; omega
  simp [outN, outD, outE, h]

theorem ret_frac {a b c a' b' c' : Int} (h1 : a = a') (h2 : b = b') (h3 : c = c') : Ending.returned (.tuple #[.agg #[.int .i64 a, .int .i64 b], .int .i64 c]) = Ending.returned (.tuple #[.agg #[.int .i64 a', .int .i64 b'], .int .i64 c']) := by rw [h1, h2, h3]

set_option maxHeartbeats 1000000 in
theorem fit_any (b : Bool) (n d : Int) (w : World) (h0 : 0 ≤ n) (h1 : n ≤ 18446744073709551615) (g0 : 0 ≤ d) (g1 : d ≤ 18446744073709551615) :
    Calls Tryz.prog 135 #[.agg #[.bool b, .int .u64 n, .int .u64 d]] w fun e w' => e = .returned (.tuple #[.agg #[.int .i64 (outN (sg b n) d), .int .i64 (outD (sg b n) d)], .int .i64 (outE (sg b n) d)]) ∧ Below w.heap.size w w' := by
  cases b
  · by_cases a1 : n ≤ 9223372036854775807
    · by_cases a2 : d ≤ 9223372036854775807
      · obtain ⟨e1, e2, e3⟩ := out_yes (p := n) (q := d) (by omega) a1 a2
        have H1 : Hid (outN (sg false n) d = n) := e1
        have H2 : Hid (outD (sg false n) d = d) := e2
        have H3 : Hid (outE (sg false n) d = 0) := e3
        clear e1 e2 e3
        go_enter Tryz.func135, Tryz.ntmps135
        go_wp2
        go_returns
        exact ⟨ret_frac H1.out.symm H2.out.symm H3.out.symm, by go_grown⟩
      · obtain ⟨e1, e2, e3⟩ := out_no (p := n) (q := d) (by omega)
        have H1 : Hid (outN (sg false n) d = 0) := e1
        have H2 : Hid (outD (sg false n) d = 0) := e2
        have H3 : Hid (outE (sg false n) d = 10) := e3
        clear e1 e2 e3
        go_enter Tryz.func135, Tryz.ntmps135
        go_wp2
        go_returns
        exact ⟨ret_frac H1.out.symm H2.out.symm H3.out.symm, by go_grown⟩
    · obtain ⟨e1, e2, e3⟩ := out_no (p := n) (q := d) (by omega)
      have H1 : Hid (outN (sg false n) d = 0) := e1
      have H2 : Hid (outD (sg false n) d = 0) := e2
      have H3 : Hid (outE (sg false n) d = 10) := e3
      clear e1 e2 e3
      go_enter Tryz.func135, Tryz.ntmps135
      go_wp2
      go_returns
      exact ⟨ret_frac H1.out.symm H2.out.symm H3.out.symm, by go_grown⟩
  · by_cases a1 : n ≤ 9223372036854775808
    · by_cases a2 : d ≤ 9223372036854775807
      · obtain ⟨e1, e2, e3⟩ := out_yes (p := -n) (q := d) (by omega) (by omega) a2
        have H1 : Hid (outN (sg true n) d = -n) := e1
        have H2 : Hid (outD (sg true n) d = d) := e2
        have H3 : Hid (outE (sg true n) d = 0) := e3
        clear e1 e2 e3
        go_enter Tryz.func135, Tryz.ntmps135
        go_wp2
        go_returns
        exact ⟨ret_frac (H1.out.trans (by go_arith)).symm H2.out.symm H3.out.symm, by go_grown⟩
      · obtain ⟨e1, e2, e3⟩ := out_no (p := -n) (q := d) (by omega)
        have H1 : Hid (outN (sg true n) d = 0) := e1
        have H2 : Hid (outD (sg true n) d = 0) := e2
        have H3 : Hid (outE (sg true n) d = 10) := e3
        clear e1 e2 e3
        go_enter Tryz.func135, Tryz.ntmps135
        go_wp2
        go_returns
        exact ⟨ret_frac H1.out.symm H2.out.symm H3.out.symm, by go_grown⟩
    · obtain ⟨e1, e2, e3⟩ := out_no (p := -n) (q := d) (by omega)
      have H1 : Hid (outN (sg true n) d = 0) := e1
      have H2 : Hid (outD (sg true n) d = 0) := e2
      have H3 : Hid (outE (sg true n) d = 10) := e3
      clear e1 e2 e3
      go_enter Tryz.func135, Tryz.ntmps135
      go_wp2
      go_returns
      exact ⟨ret_frac H1.out.symm H2.out.symm H3.out.symm, by go_grown⟩

end Go.Proofs.YticmebamclacaaaGreatDoor

namespace Go.Proofs.YticmebamclacaaaGreatDoor
open Go.RowKit

theorem u64_tdiv (a b : Int) (ha : 0 ≤ a) (ha' : a ≤ 18446744073709551615) (hb : 0 < b) : IntKind.u64.wrap (a.tdiv b) = a / b := by
  rw [Int.tdiv_eq_ediv_of_nonneg ha, IntKind.wrap_u64]
  have h1 := div_le_self a b ha hb
  have h2 : 0 ≤ a / b := Int.ediv_nonneg ha (by omega)
  omega

set_option maxHeartbeats 400000 in
theorem of_zero (n : Int) (w : World) :
    Calls Tryz.prog 113 #[.int .i64 n, .int .i64 0] w fun e w' => e = .returned (.tuple #[.agg #[.int .i64 0, .int .i64 0], .int .i64 11]) ∧ Below w.heap.size w w' := by
  go_enter Tryz.func113, Tryz.ntmps113
  go_wp2
  go_returns
  exact ⟨rfl, by go_grown⟩

set_option maxHeartbeats 400000 in
theorem of_raw (n d : Int) (w : World) (h1 : -9223372036854775808 ≤ n) (h2 : n ≤ 9223372036854775807) (g1 : -9223372036854775808 ≤ d) (g2 : d ≤ 9223372036854775807) (hd : (d == 0) = false) :
    Calls Tryz.prog 113 #[.int .i64 n, .int .i64 d] w fun e w' => (∃ b : Bool, b = (!(decide (n < 0) == decide (d < 0))) ∧ e = .returned (.tuple #[.agg #[.int .i64 (outN (sg b (sz n / gc (sz n) (sz d))) (sz d / gc (sz n) (sz d))), .int .i64 (outD (sg b (sz n / gc (sz n) (sz d))) (sz d / gc (sz n) (sz d)))], .int .i64 (outE (sg b (sz n / gc (sz n) (sz d))) (sz d / gc (sz n) (sz d)))])) ∧ Below w.heap.size w w' := by
  have hd' : d ≠ 0 := by simpa using hd
  have hz : 0 < sz d := by unfold sz; omega
  have hz2 := sz_nonneg n
  have hz3 := sz_le h1 h2
  have hz4 := sz_le g1 g2
  have hp := gc_pos (sz n) (sz d) hz
  have q1 : 0 ≤ sz n / gc (sz n) (sz d) := Int.ediv_nonneg hz2 (by omega)
  have q2 : 0 ≤ sz d / gc (sz n) (sz d) := Int.ediv_nonneg (by omega) (by omega)
  have q3 := div_le_self (sz n) _ hz2 hp
  have q4 := div_le_self (sz d) _ (by omega) hp
  have hne : ¬ gc (sz n) (sz d) = 0 := by omega
  have t1 := u64_tdiv (sz n) (gc (sz n) (sz d)) hz2 (by omega) hp
  have t2 := u64_tdiv (sz d) (gc (sz n) (sz d)) (by omega) (by omega) hp
  clear hd'
  go_enter Tryz.func113, Tryz.ntmps113
  go_wp2_with (first
    | (go_at_call 133; refine (size_any _ _ (by omega) (by omega)).mono ?_; rintro e w' ⟨rfl, rfl⟩)
    | (go_at_call 134; refine (divisor_any _ _ _ (by omega) (by omega) (by omega) (by omega)).mono ?_; rintro e w' ⟨rfl, k, rfl⟩))
  go_region_held3 (fun _ => True) (trivial)
    (first
      | (go_at_call 135; refine (fit_any _ _ _ _ q1 (by omega) q2 (by omega)).mono ?_; rintro e w1 ⟨rfl, hb⟩; obtain ⟨hc, hf, hz5, hB⟩ := bf (w := w) (bdrewN _ (by go_grown)) hb))
  go_wp2
  refine bodyPost_ret (by simp [results, Tryz.results113, go_sem, hc]; try rfl) rfl ?_
  refine ⟨⟨_, rfl, rfl⟩, ?_⟩
  go_grown

/-- The numerator that Of takes to the least form: d's sign goes there. -/
def ofP (n d : Int) : Int := sg (decide (d < 0)) n

theorem of_any (n d : Int) (w : World) (h1 : -9223372036854775808 ≤ n) (h2 : n ≤ 9223372036854775807) (g1 : -9223372036854775808 ≤ d) (g2 : d ≤ 9223372036854775807) (hd : (d == 0) = false) :
    Calls Tryz.prog 113 #[.int .i64 n, .int .i64 d] w fun e w' => e = .returned (.tuple #[.agg #[.int .i64 (rN (ofP n d) (sz d)), .int .i64 (rD (ofP n d) (sz d))], .int .i64 (rE (ofP n d) (sz d))]) ∧ Below w.heap.size w w' := by
  refine (of_raw n d w h1 h2 g1 g2 hd).mono ?_
  rintro e w' ⟨⟨b, rfl, rfl⟩, hb⟩
  refine ⟨?_, hb⟩
  have e1 : sg (!(decide (n < 0) == decide (d < 0))) (sz n / gc (sz n) (sz d)) = ofP n d / gc (sz n) (sz d) := by
    rw [sg_div _ _ _ (gc_dvd_left _ _ (sz_nonneg n))]
    exact congrArg (· / gc (sz n) (sz d)) (sg_sz n (decide (d < 0)))
  have e2 : sz (ofP n d) = sz n := sz_sg _ _
  unfold rN rD rE
  rw [e1, e2]

/-- What Of tells of any two numbers. -/
def oN (n d : Int) : Int := if d = 0 then 0 else rN (ofP n d) (sz d)
def oD (n d : Int) : Int := if d = 0 then 0 else rD (ofP n d) (sz d)
def oE (n d : Int) : Int := if d = 0 then 11 else rE (ofP n d) (sz d)

theorem of_all (n d : Int) (w : World) (h1 : -9223372036854775808 ≤ n) (h2 : n ≤ 9223372036854775807) (g1 : -9223372036854775808 ≤ d) (g2 : d ≤ 9223372036854775807) :
    Calls Tryz.prog 113 #[.int .i64 n, .int .i64 d] w fun e w' => e = .returned (.tuple #[.agg #[.int .i64 (oN n d), .int .i64 (oD n d)], .int .i64 (oE n d)]) ∧ Below w.heap.size w w' := by
  unfold oN oD oE
  by_cases h : d = 0
  · subst h; simpa using of_zero n w
  · simpa [h] using of_any n d w h1 h2 g1 g2 (by simpa using h)

/-- May a fraction be, by Of alone? -/
def mayB (n d : Int) : Bool := oE n d == 0 && (oN n d == n && oD n d == d)

end Go.Proofs.YticmebamclacaaaGreatDoor

namespace Go.Proofs.YticmebamclacaaaGreatDoor
open Go.RowKit Go.Shelf

/-- The two words of a number of 128 bits. -/
def hi (x : Int) : Int := x / 18446744073709551616
def lo (x : Int) : Int := x % 18446744073709551616
end Go.Proofs.YticmebamclacaaaGreatDoor

namespace Go.Proofs.YticmebamclacaaaGreatDoor

end Go.Proofs.YticmebamclacaaaGreatDoor

namespace Go.Proofs.YticmebamclacaaaGreatDoor
open Go.RowKit Go.Shelf

end Go.Proofs.YticmebamclacaaaGreatDoor

namespace Go.Proofs.YticmebamclacaaaGreatDoor
open Go.RowKit Go.Shelf

theorem bcl {n : Nat} {W0 wx : World} (h : Below n W0 wx) {a : Addr} {v : Value} (hv : W0.cell? a = some v) (ha : a.block < n) : wx.cell? a = some v := (h.cell ha).trans hv
end Go.Proofs.YticmebamclacaaaGreatDoor

namespace Go.Proofs.YticmebamclacaaaGreatDoor
open Go.RowKit Go.Shelf

end Go.Proofs.YticmebamclacaaaGreatDoor

namespace Go.Proofs.YticmebamclacaaaGreatDoor
open Go.RowKit Go.Shelf

end Go.Proofs.YticmebamclacaaaGreatDoor

namespace Go.Proofs.YticmebamclacaaaGreatDoor

end Go.Proofs.YticmebamclacaaaGreatDoor

namespace Go.Proofs.YticmebamclacaaaGreatDoor
open Go.RowKit Go.Shelf

theorem bg0 {n : Nat} {W0 W w1 : World} (h0 : Below n W0 W) (hn : n ≤ W.heap.size) (hb : Below W.heap.size W w1) : Below n W0 w1 ∧ n ≤ w1.heap.size := ⟨h0.trans (hb.mono hn), Nat.le_trans hn hb.size⟩

theorem may_of {n d : Int} (h : mayB n d = true) : 0 < d ∧ Nat.Coprime n.natAbs d.toNat := by
  unfold mayB oE oN oD at h
  by_cases hd : d = 0
  · simp [hd] at h
  · simp only [hd, if_false, Bool.and_eq_true, beq_iff_eq] at h
    obtain ⟨h1, h2, h3⟩ := h
    have hs : 0 < sz d := by unfold sz; omega
    have hg := gc_pos (sz (ofP n d)) (sz d) hs
    have hdv := gc_dvd_right (sz (ofP n d)) (sz d) (by omega)
    unfold rE outE at h1
    unfold rD outD at h3
    unfold rN outN at h2
    split at h1
    · rename_i hok
      rw [if_pos hok] at h2 h3
      have hp : 0 < d := by
        have : 0 ≤ sz d / gc (sz (ofP n d)) (sz d) := Int.ediv_nonneg (by omega) (by omega)
        omega
      have e1 : sz d = d := sz_of_nonneg (by omega)
      have e2 : ofP n d = n := by unfold ofP sg; simp [show ¬ d < 0 by omega]
      rw [e1, e2] at h3 hdv hg
      have e3 := Int.ediv_mul_cancel hdv
      rw [h3] at e3
      have e4 : gc (sz n) d = 1 := by
        have : d * gc (sz n) d = d * 1 := by rw [e3, Int.mul_one]
        exact Int.eq_of_mul_eq_mul_left (by omega) this
      refine ⟨hp, ?_⟩
      unfold gc sz at e4
      have : Nat.gcd ((n.natAbs : Int)).toNat d.toNat = 1 := by omega
      simpa using this
    · simp at h1

end Go.Proofs.YticmebamclacaaaGreatDoor

namespace Go.Proofs.YticmebamclacaaaGreatDoor
open Go.RowKit Go.Shelf

theorem szB : (Tryz.prog.info? 62).map (·.size) = some 2 := by kernel_rfl
theorem inB : (Tryz.prog.info? 5).map (fun i => (i.zero, i.size, i.bytes)) = some (some (.int .u8 0), 1, 1) := by kernel_rfl

set_option maxHeartbeats 1000000 in
set_option maxRecDepth 100000 in
theorem ck_used (b : Nat) (w : World) (h0 : w.cell? ⟨b, 0, none⟩ = some (.pointer (some ⟨b, 0, none⟩))) :
    Calls Tryz.prog 53 #[.pointer (some ⟨b, 0, none⟩)] w fun e w' => e = .returned (.tuple #[]) ∧ w' = w := by
  obtain ⟨j, hj, _⟩ := Option.map_eq_some_iff.1 szB
  have hr := Lib.run_neq_ptr_same (P := Tryz.prog) w ⟨b, 0, none⟩ Tryz.underlying59 hj
  go_enter Tryz.func53, Tryz.ntmps53
  go_wp2
  go_end0
  exact ⟨rfl, rfl⟩

set_option maxHeartbeats 1000000 in
set_option maxRecDepth 100000 in
theorem ck_fresh (b : Nat) (w : World) (h0 : w.cell? ⟨b, 0, none⟩ = some (.pointer none)) (hsh : w.shape? b = some (62, 2)) (hfz : w.frozen? ⟨b, 0, none⟩ = false) :
    Calls Tryz.prog 53 #[.pointer (some ⟨b, 0, none⟩)] w fun e w' => e = .returned (.tuple #[]) ∧ w' = w.setCell ⟨b, 0, none⟩ (.pointer (some ⟨b, 0, none⟩)) := by
  obtain ⟨j, hj, hjs⟩ := Option.map_eq_some_iff.1 szB
  have r1 := Lib.run_to_unsafe (P := Tryz.prog) w ⟨b, 0, none⟩ Tryz.underlying59 Tryz.underlying118 hj (by rw [hjs]; decide) hsh (Nat.zero_lt_succ 1)
  have r3 := Lib.run_from_unsafe (P := Tryz.prog) w ⟨b, 0, none⟩ Tryz.underlying118 Tryz.underlying59 hj hsh (by kernel_rfl)
  go_enter Tryz.func53, Tryz.ntmps53
  have r2 : (callFunc 74 #[.pointer (some ⟨b, 0, none⟩)]).run Tryz.prog w = .ok (.value (.pointer (some ⟨b, 0, none⟩))) w := by
    rw [run_callFunc_extern Tryz.func74 (by kernel_rfl) (by kernel_rfl) (by kernel_rfl) (e := Extern.AbiNoEscape.same) (by kernel_rfl), Lib.run_noEscape]
    rfl
  go_wp2
  go_end0
  exact ⟨rfl, rfl⟩

theorem ck (B b : Nat) (bs : List Value) (w : World) (h : Lib.IsBuilder 62 5 B b bs w) :
    Calls Tryz.prog 53 #[.pointer (some ⟨b, 0, none⟩)] w fun e w' => e = .returned (.tuple #[]) ∧ Lib.BuilderAt 62 5 B b (.pointer (some ⟨b, 0, none⟩)) bs w' ∧ Below B w w' := by
  rcases h with h | h
  · refine (ck_fresh b w h.cell0 h.shape h.frozen0).mono ?_
    rintro e w' ⟨rfl, rfl⟩
    exact ⟨rfl, h.used _, (Below.refl B w).setCell (p := ⟨b, 0, none⟩) h.1 _⟩
  · refine (ck_used b w h.cell0).mono ?_
    rintro e w' ⟨rfl, rfl⟩
    exact ⟨rfl, h, Below.refl B _⟩

set_option maxHeartbeats 2000000 in
set_option maxRecDepth 100000 in
/-- WriteByte: one byte more. -/
theorem wbyte (B b : Nat) (bs : List Value) (c : Int) (w : World) (h : Lib.IsBuilder 62 5 B b bs w) (hlen : bs.length + 1 ≤ 140737488355328) (hBw : B ≤ w.heap.size) :
    Calls Tryz.prog 31 #[.pointer (some ⟨b, 0, none⟩), .int .u8 c] w fun e w' => e = .returned .nilIface ∧ Lib.BuilderAt 62 5 B b (.pointer (some ⟨b, 0, none⟩)) (bs ++ [.int .u8 c]) w' ∧ Below B w w' := by
  obtain ⟨i0, hi, hz0, hz1, hz2⟩ := info_parts inB
  go_enter Tryz.func31, Tryz.ntmps31
  go_wp2_with (go_at_call 53; refine (ck B b bs _ h).mono ?_)
  rintro e w1 ⟨rfl, ⟨hB, v, hbk, hown, hne⟩, hb1⟩
  have s1 := hb1.size
  have c1 : w1.cell? ⟨b, 1, none⟩ = some v := by rw [Lib.cell_of_heap hbk]; rfl
  go_wp2_with (at_builtin; refine wpList_append_own _ rfl _ _ 60 rfl B 5 i0 (.int .u8 0) 1 1 Tryz.underlying60 hi hz0 hz1 hz2 rfl (by decide) _ _ _ rfl (hown.alloc _) ⟨w1.heap.size, 0, none⟩ 1 1 [.int .u8 c] rfl rfl ?c1 ?c2 ?c3 ?c4 ?c5 ?_)
  case c1 =>
    intro j u hj
    match j, hj with
    | 0, hj => simp at hj; subst hj; simp [Addr.add]
  case c2 => intro u hu; simp at hu; subst hu; rfl
  case c3 => unfold maxLen; omega
  case c4 => omega
  case c5 => simp; omega
  intro v' w2 hown' hgrow _
  have hlt : b < w1.heap.size := Lib.BuilderAt.lt ⟨hB, v, hbk, hown, hne⟩
  have hb2 : w2.heap[b]? = some (.cells #[.pointer (some ⟨b, 0, none⟩), v] 62 (0, 0)) := by
    rw [hgrow.block b (by simp; omega) (fun e => hne e.symm), Lib.alloc_old w1 _ b hlt]
    exact hbk
  have d1 : w2.cell? ⟨b, 1, none⟩ = some v := by rw [Lib.cell_of_heap hb2]; rfl
  have f1 : w2.frozen? ⟨b, 1, none⟩ = false := Lib.frozen_of_heap hb2 1
  obtain ⟨g, cap, rfl⟩ : ∃ g cap, v' = .slice (some ⟨g, 0, none⟩) (bs.length + 1) cap := by
    rcases hown'.2 with ⟨_, h0⟩ | ⟨g, cap, cur, hv, _⟩
    · omega
    · exact ⟨g, cap, hv⟩
  go_wp2
  go_ret
  refine ⟨rfl, ?_, ?_⟩
  · exact Lib.BuilderAt.put (T := 62) (e := 5) hB hb2 (bs' := bs ++ [.int .u8 c]) (by simpa using hown') (by decide)
  · exact ((hb1.alloc (by omega) _).grown hgrow (by simp; omega) (fun k hk => (hown.lt k hk).1)).setCell (p := ⟨b, 1, none⟩) hB _

set_option maxHeartbeats 2000000 in
set_option maxRecDepth 100000 in
/-- WriteString: some bytes more. -/
theorem wstr (B b : Nat) (bs : List Value) (s : ByteArray) (w : World) (h : Lib.IsBuilder 62 5 B b bs w) (hlen : bs.length + s.size ≤ 140737488355328) (hBw : B ≤ w.heap.size) :
    Calls Tryz.prog 29 #[.pointer (some ⟨b, 0, none⟩), .string s] w fun e w' => e = .returned (.tuple #[.int .i64 s.size, .nilIface]) ∧ Lib.BuilderAt 62 5 B b (.pointer (some ⟨b, 0, none⟩)) (bs ++ Lib.strCells s) w' ∧ Below B w w' := by
  obtain ⟨i0, hi, hz0, hz1, hz2⟩ := info_parts inB
  go_enter Tryz.func29, Tryz.ntmps29
  go_wp2_with (go_at_call 53; refine (ck B b bs _ h).mono ?_)
  rintro e w1 ⟨rfl, ⟨hB, v, hbk, hown, hne⟩, hb1⟩
  have s1 := hb1.size
  have c1 : w1.cell? ⟨b, 1, none⟩ = some v := by rw [Lib.cell_of_heap hbk]; rfl
  go_wp2_with (at_builtin; refine Lib.wpList_append_own_string _ rfl _ _ 60 9 rfl B 5 i0 Tryz.underlying60 Tryz.underlying9 hi hz0 hz1 hz2 _ _ _ rfl hown s rfl ?c3 ?c4 ?c5 ?_)
  case c3 => unfold maxLen; omega
  case c4 => omega
  case c5 => omega
  intro v' w2 hown' hgrow _
  have hlt : b < w1.heap.size := Lib.BuilderAt.lt ⟨hB, v, hbk, hown, hne⟩
  have hb2 : w2.heap[b]? = some (.cells #[.pointer (some ⟨b, 0, none⟩), v] 62 (0, 0)) := by
    rw [hgrow.block b hlt (fun e => hne e.symm)]
    exact hbk
  have d1 : w2.cell? ⟨b, 1, none⟩ = some v := by rw [Lib.cell_of_heap hb2]; rfl
  have f1 : w2.frozen? ⟨b, 1, none⟩ = false := Lib.frozen_of_heap hb2 1
  obtain ⟨ao, n', cap, rfl⟩ : ∃ ao n' cap, v' = .slice ao n' cap := by
    rcases hown'.2 with ⟨hv, _⟩ | ⟨g, cap, cur, hv, _⟩
    · exact ⟨_, _, _, hv⟩
    · exact ⟨_, _, _, hv⟩
  go_wp2
  go_ret2
  refine ⟨rfl, ?_, ?_⟩
  · exact Lib.BuilderAt.put (T := 62) (e := 5) hB hb2 (bs' := bs ++ Lib.strCells s) (by simpa [Lib.strCells_length] using hown') (by decide)
  · exact (hb1.grown hgrow (by omega) (fun k hk => (hown.lt k hk).1)).setCell (p := ⟨b, 1, none⟩) hB _

end Go.Proofs.YticmebamclacaaaGreatDoor

namespace Go.Proofs.YticmebamclacaaaGreatDoor
open Go.RowKit Go.Shelf

def hexd (n : Nat) : UInt8 := if n < 10 then (48 + n).toUInt8 else (87 + n).toUInt8
/-- A byte in a string's text. -/
def esc (c : UInt8) : List UInt8 := if c.toNat = 34 ∨ c.toNat = 92 then [92, c] else if 32 ≤ c.toNat ∧ c.toNat ≤ 126 then [c] else [92, 120, hexd (c.toNat / 16), hexd (c.toNat % 16)]
def inside (l : List UInt8) : List UInt8 := l.flatMap esc
def quoted (l : List UInt8) : List UInt8 := 34 :: inside l ++ [34]

theorem esc_len (c : UInt8) : (esc c).length ≤ 4 := by
  unfold esc; split
  · simp
  · split <;> simp
theorem inside_len (l : List UInt8) : (inside l).length ≤ 4 * l.length := by
  induction l with
  | nil => simp [inside]
  | cons c l ih =>
    have := esc_len c
    simp only [inside, List.flatMap_cons, List.length_append, List.length_cons] at ih ⊢
    omega
theorem inside_snoc (l : List UInt8) (c : UInt8) : inside (l ++ [c]) = inside l ++ esc c := by simp [inside]
theorem inside_take (s : ByteArray) (k : Nat) (h : k < s.size) : inside (s.data.toList.take (k + 1)) = inside (s.data.toList.take k) ++ esc s[k] := by
  rw [← inside_snoc]
  congr 1
  have h' : k < s.data.toList.length := by simpa using h
  rw [List.take_succ_eq_append_getElem h']
  rfl
theorem cells_snoc (l : List UInt8) (c : UInt8) : Lib.byteCells l ++ [.int .u8 c.toNat] = Lib.byteCells (l ++ [c]) := by simp [Lib.byteCells]

theorem hex_all : ∀ i : Fin 16, (⟨#[48, 49, 50, 51, 52, 53, 54, 55, 56, 57, 97, 98, 99, 100, 101, 102]⟩ : ByteArray)[i.1]'i.2 = hexd i.1 := by decide
theorem hex_tab (n : Nat) (h : n < 16) : (⟨#[48, 49, 50, 51, 52, 53, 54, 55, 56, 57, 97, 98, 99, 100, 101, 102]⟩ : ByteArray)[n]'h = hexd n := hex_all ⟨n, h⟩

set_option maxHeartbeats 4000000 in
set_option maxRecDepth 100000 in
theorem quote_any (s : ByteArray) (w : World) (hs : s.size ≤ 35184372088830) :
    Calls Tryz.prog 132 #[.string s] w fun e w' => e = .returned (.string ⟨(quoted s.data.toList).toArray⟩) ∧ Below w.heap.size w w' := by
  go_enter Tryz.func132, Tryz.ntmps132
  go_wp2_with fail
  refine (wbyte w.heap.size w.heap.size [] 34 _ (Lib.fresh_isBuilder _ _ w) (by simp) (by simp)).mono ?_
  rintro e w1 ⟨rfl, h1, hb1⟩
  go_wp2
  go_loopw [9] (fun i wr => ∃ k : Nat, k ≤ s.size ∧ i = .int .i64 k ∧ Hid (Lib.IsBuilder 62 5 w.heap.size w.heap.size (Lib.byteCells (34 :: inside (s.data.toList.take k))) wr) ∧ Below w.heap.size w wr) (fun i _ => s.size - (intOf i).toNat)
  case atStart => exact ⟨0, by omega, rfl, Or.inr h1, (Below.refl _ w |>.alloc (Nat.le_refl _) _).trans hb1⟩
  case round =>
    obtain ⟨k, hk, rfl, hI, hB⟩ := hrel
    have hsz := hB.size
    by_cases hke : k = s.size
    · subst hke
      have e0 : s.data.toList.take s.size = s.data.toList := List.take_of_length_le (by simp)
      rw [e0] at hI
      have hl := inside_len s.data.toList
      have hl2 : s.data.toList.length = s.size := by simp
      go_wp2_with fail
      refine (wbyte w.heap.size w.heap.size _ 34 _ hI.out (by rw [Lib.byteCells_length]; simp; omega) hsz).mono ?_
      rintro e w2 ⟨rfl, h2, hb2⟩
      have h2' : Hid (Lib.IsBuilder 62 5 w.heap.size w.heap.size (Lib.byteCells (quoted s.data.toList)) w2) := by
        have := cells_snoc (34 :: inside s.data.toList) 34
        unfold quoted
        refine Or.inr ?_
        rw [← this]; exact h2
      have hB2 := hB.trans hb2
      clear h2 hI
      go_wp2_with fail
      refine (Tryz.Builder_String_any w.heap.size w.heap.size _ _ h2'.out hB2.size).mono ?_
      rintro e w3 ⟨rfl, hb3⟩
      go_wp2
      go_ret
      exact ⟨rfl, hB2.trans hb3⟩
    · have hk' : (k : Int) < s.size := by omega
      have hkk : k < s.size := by omega
      have hstep := inside_take s k hkk
      have hl := inside_len (s.data.toList.take k)
      have hl2 : (s.data.toList.take k).length ≤ k := by simp; omega
      have hbd : (Lib.byteCells (34 :: inside (s.data.toList.take k))).length + 4 ≤ 140737488355328 := by rw [Lib.byteCells_length]; simp; omega
      have HS : Hid (inside (s.data.toList.take (k + 1)) = inside (s.data.toList.take k) ++ esc s[k]) := hstep
      clear hstep hl hl2
      have hu : s[k].toNat < 256 := s[k].toNat_lt
      obtain ⟨c, hc⟩ : ∃ c : UInt8, s[k] = c := ⟨_, rfl⟩
      rw [hc] at hu
      rw [hc] at HS
      by_cases a1 : (c.toNat : Int) = 34 ∨ (c.toNat : Int) = 92
      · rcases a1 with a1 | a1
        · obtain rfl : c = 34 := UInt8.toNat_inj.1 (show c.toNat = 34 from (by omega))
          have he : Hid (esc 34 = [92, 34]) := (show esc 34 = [92, 34] from (by decide))
          clear a1 hu
          go_wp2_with fail
          refine (wbyte w.heap.size w.heap.size _ _ _ hI.out (by omega) hsz).mono ?_
          rintro e w2 ⟨rfl, h2, hb2⟩
          have s2 := hb2.size
          have h2' : Hid (Lib.IsBuilder 62 5 w.heap.size w.heap.size (Lib.byteCells (34 :: inside (s.data.toList.take k)) ++ [Value.int IntKind.u8 92]) w2) := Or.inr h2
          clear h2
          go_wp2_with fail
          refine (wbyte w.heap.size w.heap.size _ _ _ h2'.out (by simp; omega) (by omega)).mono ?_
          rintro e w3 ⟨rfl, h3, hb3⟩
          go_wp2
          refine ⟨⟨k + 1, by omega, by simp, ?_, (hB.trans hb2).trans hb3⟩, by simp [intOf]; omega⟩
          have h4 : Lib.IsBuilder 62 5 w.heap.size w.heap.size (Lib.byteCells (34 :: inside (s.data.toList.take (k + 1)))) w3 := by
            have e1 := cells_snoc (34 :: inside (s.data.toList.take k)) 92
            have e2 := cells_snoc (34 :: inside (s.data.toList.take k) ++ [92]) 34
            rw [HS.out, he.out, ← List.cons_append, show ([92, 34] : List UInt8) = [92] ++ [34] from rfl, ← List.append_assoc, ← e2, ← e1]
            exact Or.inr h3
          exact h4
        · obtain rfl : c = 92 := UInt8.toNat_inj.1 (show c.toNat = 92 from (by omega))
          have he : Hid (esc 92 = [92, 92]) := (show esc 92 = [92, 92] from (by decide))
          clear a1 hu
          go_wp2_with fail
          refine (wbyte w.heap.size w.heap.size _ _ _ hI.out (by omega) hsz).mono ?_
          rintro e w2 ⟨rfl, h2, hb2⟩
          have s2 := hb2.size
          have h2' : Hid (Lib.IsBuilder 62 5 w.heap.size w.heap.size (Lib.byteCells (34 :: inside (s.data.toList.take k)) ++ [Value.int IntKind.u8 92]) w2) := Or.inr h2
          clear h2
          go_wp2_with fail
          refine (wbyte w.heap.size w.heap.size _ _ _ h2'.out (by simp; omega) (by omega)).mono ?_
          rintro e w3 ⟨rfl, h3, hb3⟩
          go_wp2
          refine ⟨⟨k + 1, by omega, by simp, ?_, (hB.trans hb2).trans hb3⟩, by simp [intOf]; omega⟩
          have h4 : Lib.IsBuilder 62 5 w.heap.size w.heap.size (Lib.byteCells (34 :: inside (s.data.toList.take (k + 1)))) w3 := by
            have e1 := cells_snoc (34 :: inside (s.data.toList.take k)) 92
            have e2 := cells_snoc (34 :: inside (s.data.toList.take k) ++ [92]) 92
            rw [HS.out, he.out, ← List.cons_append, show ([92, 92] : List UInt8) = [92] ++ [92] from rfl, ← List.append_assoc, ← e2, ← e1]
            exact Or.inr h3
          exact h4
      · have a2 : ((c.toNat : Int) == 34) = false := by simp; omega
        have a3 : ((c.toNat : Int) == 92) = false := by simp; omega
        by_cases a4 : 32 ≤ (c.toNat : Int) ∧ (c.toNat : Int) ≤ 126
        · have he : Hid (esc c = [c]) := by unfold Hid esc; rw [if_neg (by omega), if_pos (by omega)]
          obtain ⟨a5, a6⟩ := a4
          go_wp2_with fail
          refine (wbyte w.heap.size w.heap.size _ _ _ hI.out (by omega) hsz).mono ?_
          rintro e w2 ⟨rfl, h2, hb2⟩
          go_wp2
          refine ⟨⟨k + 1, by omega, by simp, ?_, hB.trans hb2⟩, by simp [intOf]; omega⟩
          have h3 : Lib.IsBuilder 62 5 w.heap.size w.heap.size (Lib.byteCells (34 :: inside (s.data.toList.take (k + 1)))) w2 := by
            rw [HS.out, he.out, ← List.cons_append, ← cells_snoc]
            exact Or.inr h2
          exact h3
        · have he : Hid (esc c = [92, 120, hexd (c.toNat / 16), hexd (c.toNat % 16)]) := by unfold Hid esc; rw [if_neg (by omega), if_neg (by omega)]
          by_cases a5 : 32 ≤ (c.toNat : Int)
          · have a6 : ((c.toNat : Int) ≤ 126) = False := by simp; omega
            go_wp2_with fail
            refine (wstr w.heap.size w.heap.size _ _ _ hI.out (show _ + 2 ≤ 140737488355328 from (by omega)) hsz).mono ?_
            rintro e w2 ⟨rfl, h2, hb2⟩
            have s2 := hb2.size
            have h2' : Hid (Lib.IsBuilder 62 5 w.heap.size w.heap.size (Lib.byteCells (34 :: inside (s.data.toList.take k)) ++ Lib.strCells ⟨#[92, 120]⟩) w2) := Or.inr h2
            have l2 : (Lib.byteCells (34 :: inside (s.data.toList.take k)) ++ Lib.strCells ⟨#[92, 120]⟩).length + 2 ≤ 140737488355328 := by
              have : (Lib.strCells ⟨#[92, 120]⟩).length = 2 := rfl
              rw [List.length_append]; omega
            clear h2
            go_wp2_with fail
            refine (wbyte w.heap.size w.heap.size _ _ _ h2'.out (by omega) (by omega)).mono ?_
            rintro e w3 ⟨rfl, h3, hb3⟩
            have s3 := hb3.size
            have h3' : Hid (Lib.IsBuilder 62 5 w.heap.size w.heap.size _ w3) := Or.inr h3
            clear h3
            go_wp2_with fail
            refine (wbyte w.heap.size w.heap.size _ _ _ h3'.out (by rw [List.length_append]; simp only [List.length_cons, List.length_nil]; omega) (by omega)).mono ?_
            rintro e w4 ⟨rfl, h4, hb4⟩
            go_wp2
            refine ⟨⟨k + 1, by omega, by simp, ?_, ((hB.trans hb2).trans hb3).trans hb4⟩, by simp [intOf]; omega⟩
            have h5 : Lib.IsBuilder 62 5 w.heap.size w.heap.size (Lib.byteCells (34 :: inside (s.data.toList.take (k + 1)))) w4 := by
              rw [HS.out, he.out, ← hex_tab (c.toNat / 16) (by omega), ← hex_tab (c.toNat % 16) (by omega)]
              refine Or.inr ?_
              simp only [Lib.byteCells, Lib.strCells, List.map_cons, List.map_append, List.map_nil, List.cons_append, List.append_assoc, List.nil_append] at h4 ⊢
              exact h4
            exact h5
          · have a6 : (32 ≤ (c.toNat : Int)) = False := by simp; omega
            go_wp2_with fail
            refine (wstr w.heap.size w.heap.size _ _ _ hI.out (show _ + 2 ≤ 140737488355328 from (by omega)) hsz).mono ?_
            rintro e w2 ⟨rfl, h2, hb2⟩
            have s2 := hb2.size
            have h2' : Hid (Lib.IsBuilder 62 5 w.heap.size w.heap.size (Lib.byteCells (34 :: inside (s.data.toList.take k)) ++ Lib.strCells ⟨#[92, 120]⟩) w2) := Or.inr h2
            have l2 : (Lib.byteCells (34 :: inside (s.data.toList.take k)) ++ Lib.strCells ⟨#[92, 120]⟩).length + 2 ≤ 140737488355328 := by
              have : (Lib.strCells ⟨#[92, 120]⟩).length = 2 := rfl
              rw [List.length_append]; omega
            clear h2
            go_wp2_with fail
            refine (wbyte w.heap.size w.heap.size _ _ _ h2'.out (by omega) (by omega)).mono ?_
            rintro e w3 ⟨rfl, h3, hb3⟩
            have s3 := hb3.size
            have h3' : Hid (Lib.IsBuilder 62 5 w.heap.size w.heap.size _ w3) := Or.inr h3
            clear h3
            go_wp2_with fail
            refine (wbyte w.heap.size w.heap.size _ _ _ h3'.out (by rw [List.length_append]; simp only [List.length_cons, List.length_nil]; omega) (by omega)).mono ?_
            rintro e w4 ⟨rfl, h4, hb4⟩
            go_wp2
            refine ⟨⟨k + 1, by omega, by simp, ?_, ((hB.trans hb2).trans hb3).trans hb4⟩, by simp [intOf]; omega⟩
            have h5 : Lib.IsBuilder 62 5 w.heap.size w.heap.size (Lib.byteCells (34 :: inside (s.data.toList.take (k + 1)))) w4 := by
              rw [HS.out, he.out, ← hex_tab (c.toNat / 16) (by omega), ← hex_tab (c.toNat % 16) (by omega)]
              refine Or.inr ?_
              simp only [Lib.byteCells, Lib.strCells, List.map_cons, List.map_append, List.map_nil, List.cons_append, List.append_assoc, List.nil_append] at h4 ⊢
              exact h4
            exact h5

end Go.Proofs.YticmebamclacaaaGreatDoor

namespace Go.Proofs.YticmebamclacaaaGreatDoor
open Go.RowKit Go.Shelf

/-- May a value be, its length aside? -/
def pureB (k n d : Int) (s : ByteArray) : Bool := if k = 1 then d == 0 && s.toList.isEmpty else if k = 2 then mayB n d && s.toList.isEmpty else if k = 3 then n == 0 && d == 0 else false
/-- Why a value may not be. -/
def chk (k n d : Int) (s : ByteArray) : Int := if pureB k n d s = false then 20 else if 64 < s.size then 2 else 0

theorem ret_bool {a b : Bool} (h : a = b) : Ending.returned (.bool a) = .returned (.bool b) := by rw [h]

set_option maxRecDepth 100000 in
set_option maxHeartbeats 1000000 in
theorem pure_any (k n d : Int) (s : ByteArray) (w : World) (h1 : -9223372036854775808 ≤ n) (h2 : n ≤ 9223372036854775807) (g1 : -9223372036854775808 ≤ d) (g2 : d ≤ 9223372036854775807) :
    Calls Tryz.prog 96 #[.agg #[.int .i64 k, .int .i64 n, .int .i64 d, .string s]] w fun e w' => e = .returned (.bool (pureB k n d s)) ∧ Below w.heap.size w w' := by
  by_cases k1 : k = 1
  · subst k1
    cases hd : d == 0
    · go_enter Tryz.func96, Tryz.ntmps96
      go_wp2
      go_ret
      exact ⟨ret_bool (by simp [pureB, hd]), by go_grown⟩
    · have hd' : d = 0 := by simpa using hd
      subst hd'
      go_enter Tryz.func96, Tryz.ntmps96
      go_wp2
      go_ret
      exact ⟨ret_bool (by simp [pureB]), by go_grown⟩
  · have k1' : (k == 1) = false := by simpa using k1
    by_cases k2 : k = 2
    · subst k2
      have e0 : pureB 2 n d s = (mayB n d && s.toList.isEmpty) := by simp [pureB]
      rw [e0]
      by_cases a1 : oE n d = 0
      · cases m : (oN n d == n && oD n d == d)
        · go_enter Tryz.func96, Tryz.ntmps96
          go_wp2_with (first
            | (go_at_call 113; refine (of_all _ _ _ h1 h2 g1 g2).mono ?_; rintro e w1 ⟨rfl, hb⟩; obtain ⟨hc, hf, hz, hB⟩ := bf (w := w) (by go_grown) hb; simp only [World.size_alloc] at hz; have z0 : w.heap.size < w1.heap.size := (by omega)))
          all_goals
            go_ret
            exact ⟨ret_bool (by simp_all [mayB]), by go_grown⟩
        · go_enter Tryz.func96, Tryz.ntmps96
          go_wp2_with (first
            | (go_at_call 113; refine (of_all _ _ _ h1 h2 g1 g2).mono ?_; rintro e w1 ⟨rfl, hb⟩; obtain ⟨hc, hf, hz, hB⟩ := bf (w := w) (by go_grown) hb; simp only [World.size_alloc] at hz; have z0 : w.heap.size < w1.heap.size := (by omega)))
          all_goals
            go_ret
            exact ⟨ret_bool (by simp_all [mayB]), by go_grown⟩
      · have a2 : (oE n d == 0) = false := by simpa using a1
        go_enter Tryz.func96, Tryz.ntmps96
        go_wp2_with (first
          | (go_at_call 113; refine (of_all _ _ _ h1 h2 g1 g2).mono ?_; rintro e w1 ⟨rfl, hb⟩; obtain ⟨hc, hf, hz, hB⟩ := bf (w := w) (by go_grown) hb; simp only [World.size_alloc] at hz; have z0 : w.heap.size < w1.heap.size := (by omega)))
        all_goals
          go_ret
          exact ⟨ret_bool (by simp [mayB, a2]), by go_grown⟩
    · have k2' : (k == 2) = false := by simpa using k2
      by_cases k3 : k = 3
      · subst k3
        have e0 : pureB 3 n d s = (n == 0 && d == 0) := by simp [pureB]
        rw [e0]
        cases hn : n == 0
        · go_enter Tryz.func96, Tryz.ntmps96
          go_wp2
          go_ret
          exact ⟨ret_bool (by simp), by go_grown⟩
        · go_enter Tryz.func96, Tryz.ntmps96
          go_wp2
          go_ret
          exact ⟨ret_bool (by simp), by go_grown⟩
      · have k3' : (k == 3) = false := by simpa using k3
        have e0 : pureB k n d s = false := by simp [pureB, k1, k2, k3]
        rw [e0]
        go_enter Tryz.func96, Tryz.ntmps96
        go_wp2
        go_ret
        exact ⟨rfl, by go_grown⟩

end Go.Proofs.YticmebamclacaaaGreatDoor

namespace Go.Proofs.YticmebamclacaaaGreatDoor
open Go.RowKit Go.Shelf

set_option maxRecDepth 100000 in
set_option maxHeartbeats 1000000 in
theorem check_any (k n d : Int) (s : ByteArray) (w : World) (h1 : -9223372036854775808 ≤ n) (h2 : n ≤ 9223372036854775807) (g1 : -9223372036854775808 ≤ d) (g2 : d ≤ 9223372036854775807) :
    Calls Tryz.prog 69 #[.agg #[.int .i64 k, .int .i64 n, .int .i64 d, .string s]] w fun e w' => e = .returned (.int .i64 (chk k n d s)) ∧ Below w.heap.size w w' := by
  cases hp : pureB k n d s
  · have e0 : chk k n d s = 20 := by simp [chk, hp]
    rw [e0]
    go_enter Tryz.func69, Tryz.ntmps69
    go_wp2_with fail
    refine (pure_any k n d s _ h1 h2 g1 g2).mono ?_
    rintro e w1 ⟨rfl, hb⟩
    obtain ⟨hc, hf, hz, hB⟩ := bf (w := w) (by go_grown) hb
    rw [hp]
    go_wp2
    go_ret
    exact ⟨rfl, hB⟩
  · by_cases hl : 64 < s.size
    · have e0 : chk k n d s = 2 := by simp [chk, hp, hl]
      rw [e0]
      have hl' : (64 : Int) < s.size := by omega
      go_enter Tryz.func69, Tryz.ntmps69
      go_wp2_with fail
      refine (pure_any k n d s _ h1 h2 g1 g2).mono ?_
      rintro e w1 ⟨rfl, hb⟩
      obtain ⟨hc, hf, hz, hB⟩ := bf (w := w) (by go_grown) hb
      rw [hp]
      go_wp2
      go_ret
      exact ⟨rfl, hB⟩
    · have e0 : chk k n d s = 0 := by simp [chk, hp, hl]
      rw [e0]
      have hl' : ((64 : Int) < s.size) = False := by simp; omega
      go_enter Tryz.func69, Tryz.ntmps69
      go_wp2_with fail
      refine (pure_any k n d s _ h1 h2 g1 g2).mono ?_
      rintro e w1 ⟨rfl, hb⟩
      obtain ⟨hc, hf, hz, hB⟩ := bf (w := w) (by go_grown) hb
      rw [hp]
      go_wp2
      go_ret
      exact ⟨rfl, hB⟩

end Go.Proofs.YticmebamclacaaaGreatDoor

namespace Go.Proofs.YticmebamclacaaaGreatDoor

/-- One bit more: what is left, and how often. -/
theorem bit_step {a b x bit : Int} (hb : 0 < b) (hx : a = 2 * x + bit) (h0 : 0 ≤ bit) (h1 : bit ≤ 1) :
    (b ≤ 2 * (x % b) + bit → a % b = 2 * (x % b) + bit - b ∧ a / b = 2 * (x / b) + 1) ∧ (2 * (x % b) + bit < b → a % b = 2 * (x % b) + bit ∧ a / b = 2 * (x / b)) := by
  have e := Int.mul_ediv_add_emod x b
  have m0 := Int.emod_nonneg x (show b ≠ 0 by omega)
  have m1 := Int.emod_lt_of_pos x hb
  generalize x / b = q at *
  generalize x % b = r at *
  constructor
  · intro h
    have ha : a = (2 * r + bit - b) + b * (2 * q + 1) := by rw [hx, ← e]; grind
    refine ⟨?_, ?_⟩
    · rw [ha, Int.add_mul_emod_self_left]; exact Int.emod_eq_of_lt (by omega) (by omega)
    · rw [ha, Int.add_mul_ediv_left _ _ (by omega), Int.ediv_eq_zero_of_lt (by omega) (by omega)]; omega
  · intro h
    have ha : a = (2 * r + bit) + b * (2 * q) := by rw [hx, ← e]; grind
    refine ⟨?_, ?_⟩
    · rw [ha, Int.add_mul_emod_self_left]; exact Int.emod_eq_of_lt (by omega) (by omega)
    · rw [ha, Int.add_mul_ediv_left _ _ (by omega), Int.ediv_eq_zero_of_lt (by omega) (by omega)]; omega

theorem pow_succ_i (k : Nat) : (2 : Int) ^ (k + 1) = 2 ^ k * 2 := Int.pow_succ 2 k
theorem pow_pos_i (k : Nat) : (0 : Int) < 2 ^ k := Int.pow_pos (by decide)

theorem half_step (a : Int) (k : Nat) : a / 2 ^ k = 2 * (a / 2 ^ (k + 1)) + a / 2 ^ k % 2 := by
  rw [pow_succ_i, ← Int.ediv_ediv_of_nonneg (Int.le_of_lt (pow_pos_i k))]
  omega

/-- The bit of a number is that of its digit: c is 2^(32 j), g the digit. -/
theorem bit_of (y : Int) (s : Nat) (hs : s < 32) : y / 2 ^ s % 2 = y % 4294967296 / 2 ^ s % 2 := by
  have hB : (4294967296 : Int) = 2 ^ s * (2 * 2 ^ (31 - s)) := by
    have : (2 : Int) ^ s * (2 * 2 ^ (31 - s)) = 2 ^ (s + (1 + (31 - s))) := by rw [Int.pow_add, Int.pow_add]; rfl
    rw [this, show s + (1 + (31 - s)) = 32 by omega]; rfl
  have hp := pow_pos_i s
  have e := Int.mul_ediv_add_emod y 4294967296
  generalize y / 4294967296 = q at *
  generalize y % 4294967296 = r at *
  have : y / 2 ^ s = r / 2 ^ s + 2 * (2 ^ (31 - s) * q) := by
    rw [← e, hB]
    rw [show 2 ^ s * (2 * 2 ^ (31 - s)) * q + r = r + 2 ^ s * (2 * (2 ^ (31 - s) * q)) by grind]
    exact Int.add_mul_ediv_left _ _ (by omega)
  rw [this]; omega

/-- A digit that is a multiple of 2^(s+1) has room for 2^s, which leaves a multiple of 2^s. -/
theorem dig_room (t : Int) (s : Nat) (hs : s < 32) (h0 : 0 ≤ t) (h1 : t < 4294967296) (hd : t % 2 ^ (s + 1) = 0) : t + 2 ^ s < 4294967296 ∧ (t + 2 ^ s) % 2 ^ s = 0 ∧ t % 2 ^ s = 0 := by
  have hp := pow_pos_i s
  have hB : (4294967296 : Int) = 2 ^ (s + 1) * 2 ^ (31 - s) := by
    rw [← Int.pow_add, show s + 1 + (31 - s) = 32 by omega]; rfl
  obtain ⟨c, hc⟩ := Int.dvd_of_emod_eq_zero hd
  have hp1 := pow_pos_i (s + 1)
  have hlt : c < 2 ^ (31 - s) := by
    apply Int.lt_of_not_ge; intro hge
    have := Int.mul_le_mul_of_nonneg_left hge (Int.le_of_lt hp1)
    omega
  have hle : 2 ^ (s + 1) * (c + 1) ≤ 2 ^ (s + 1) * 2 ^ (31 - s) := Int.mul_le_mul_of_nonneg_left (by omega) (Int.le_of_lt hp1)
  have e1 : (2 : Int) ^ (s + 1) * (c + 1) = t + 2 ^ (s + 1) := by rw [hc]; grind
  have e2 := pow_succ_i s
  have e3 : t = 2 ^ s * (2 * c) := by rw [hc, e2]; grind
  refine ⟨by omega, ?_, ?_⟩
  · rw [e3, show (2 : Int) ^ s * (2 * c) + 2 ^ s = 2 ^ s * (2 * c + 1) by grind]; exact Int.mul_emod_right _ _
  · rw [e3]; exact Int.mul_emod_right _ _

end Go.Proofs.YticmebamclacaaaGreatDoor

namespace Go.Proofs.YticmebamclacaaaGreatDoor
open Go.RowKit

/-- The digits of a number. -/
def g0 (x : Int) : Int := x % 4294967296
def g1 (x : Int) : Int := x / 4294967296 % 4294967296
def g2 (x : Int) : Int := x / 18446744073709551616 % 4294967296
def g3 (x : Int) : Int := x / 79228162514264337593543950336 % 4294967296
theorem g0_bd (x : Int) : 0 ≤ g0 x ∧ g0 x ≤ 4294967295 := by unfold g0; omega
theorem g1_bd (x : Int) : 0 ≤ g1 x ∧ g1 x ≤ 4294967295 := by unfold g1; omega
theorem g2_bd (x : Int) : 0 ≤ g2 x ∧ g2 x ≤ 4294967295 := by unfold g2; omega
theorem g3_bd (x : Int) : 0 ≤ g3 x ∧ g3 x ≤ 4294967295 := by unfold g3; omega
theorem g_sum (x : Int) (h0 : 0 ≤ x) (h1 : x < 340282366920938463463374607431768211456) : x = g0 x + g1 x * 4294967296 + g2 x * 18446744073709551616 + g3 x * 79228162514264337593543950336 := by
  unfold g0 g1 g2 g3; omega
theorem g_of (a b c d : Int) (h0 : 0 ≤ a ∧ a ≤ 4294967295) (h1 : 0 ≤ b ∧ b ≤ 4294967295) (h2 : 0 ≤ c ∧ c ≤ 4294967295) (h3 : 0 ≤ d ∧ d ≤ 4294967295) :
    g0 (a + b * 4294967296 + c * 18446744073709551616 + d * 79228162514264337593543950336) = a ∧ g1 (a + b * 4294967296 + c * 18446744073709551616 + d * 79228162514264337593543950336) = b ∧ g2 (a + b * 4294967296 + c * 18446744073709551616 + d * 79228162514264337593543950336) = c ∧ g3 (a + b * 4294967296 + c * 18446744073709551616 + d * 79228162514264337593543950336) = d := by
  unfold g0 g1 g2 g3; omega

theorem ret_big {a b c d a' b' c' d' : Int} (h0 : a = a') (h1 : b = b') (h2 : c = c') (h3 : d = d') : Ending.returned (.agg #[.int .u64 a, .int .u64 b, .int .u64 c, .int .u64 d]) = Ending.returned (.agg #[.int .u64 a', .int .u64 b', .int .u64 c', .int .u64 d']) := by rw [h0, h1, h2, h3]

set_option maxHeartbeats 400000 in
theorem rsize_any (n : Int) (w : World) (h1 : -9223372036854775808 ≤ n) (h2 : n ≤ 9223372036854775807) :
    Calls Tryz.prog 122 #[.int .i64 n] w fun e w' => e = .returned (.int .u64 (sz n)) ∧ w' = w := by
  by_cases h : n < 0
  · go_enter Tryz.func122, Tryz.ntmps122
    go_wp2
    go_ret
    exact ⟨ret_int (by rw [sz_of_neg h]; go_arith), rfl⟩
  · have h' : 0 ≤ n := by omega
    go_enter Tryz.func122, Tryz.ntmps122
    go_wp2
    go_ret
    exact ⟨ret_int (by rw [sz_of_nonneg h']), rfl⟩

set_option maxHeartbeats 400000 in
theorem rof_any (n : Int) (w : World) (h1 : 0 ≤ n) (h2 : n ≤ 18446744073709551615) :
    Calls Tryz.prog 121 #[.int .u64 n] w fun e w' => e = .returned (.agg #[.int .u64 (g0 n), .int .u64 (g1 n), .int .u64 (g2 n), .int .u64 (g3 n)]) ∧ Below w.heap.size w w' := by
  go_enter Tryz.func121, Tryz.ntmps121
  go_wp2
  go_returns
  exact ⟨ret_big (by unfold g0; rfl) (by unfold g1; omega) (by unfold g2; omega) (by unfold g3; omega), by go_grown⟩

set_option maxRecDepth 100000 in
set_option maxHeartbeats 2000000 in
theorem rplus_raw (a0 a1 a2 a3 b0 b1 b2 b3 : Int) (w : World) (p0 : 0 ≤ a0) (p1 : 0 ≤ a1) (p2 : 0 ≤ a2) (p3 : 0 ≤ a3) (q0 : 0 ≤ b0) (q1 : 0 ≤ b1) (q2 : 0 ≤ b2) (q3 : 0 ≤ b3)
    (r0 : a0 ≤ 4294967295) (r1 : a1 ≤ 4294967295) (r2 : a2 ≤ 4294967295) (r3 : a3 ≤ 4294967295) (s0 : b0 ≤ 4294967295) (s1 : b1 ≤ 4294967295) (s2 : b2 ≤ 4294967295) (s3 : b3 ≤ 4294967295) :
    Calls Tryz.prog 161 #[.agg #[.int .u64 a0, .int .u64 a1, .int .u64 a2, .int .u64 a3], .agg #[.int .u64 b0, .int .u64 b1, .int .u64 b2, .int .u64 b3]] w fun e w' => e = .returned (.agg #[.int .u64 ((a0 + b0) % 4294967296), .int .u64 ((a1 + b1 + (a0 + b0) / 4294967296) % 4294967296), .int .u64 ((a2 + b2 + (a1 + b1 + (a0 + b0) / 4294967296) / 4294967296) % 4294967296), .int .u64 ((a3 + b3 + (a2 + b2 + (a1 + b1 + (a0 + b0) / 4294967296) / 4294967296) / 4294967296) % 4294967296)]) ∧ Below w.heap.size w w' := by
  go_enter Tryz.func161, Tryz.ntmps161
  go_wp2
  refine wp_loop_rounds 5 ?_
  rw [rounds_succ]
  go_wp2
  go_quiet (fail)
  go_wp2
  rw [rounds_succ]
  go_wp2
  go_quiet (fail)
  go_wp2
  rw [rounds_succ]
  go_wp2
  go_quiet (fail)
  go_wp2
  rw [rounds_succ]
  go_wp2
  go_quiet (fail)
  go_wp2
  rw [rounds_succ]
  go_wp2
  go_returns
  exact ⟨rfl, by repeat' (first | (with_reducible exact Below.refl _ _) | (with_reducible assumption) | (with_reducible refine bdrewN _ ?_) | (with_reducible refine Below.alloc ?_ ?_ _) | (with_reducible refine Below.setCell ?_ ?_ _) | (with_reducible refine Below.drew ?_) | go_size)⟩

theorem rplus_any (x y : Int) (w : World) (hx : 0 ≤ x) (hy : 0 ≤ y) (h : x + y < 340282366920938463463374607431768211456) :
    Calls Tryz.prog 161 #[.agg #[.int .u64 (g0 x), .int .u64 (g1 x), .int .u64 (g2 x), .int .u64 (g3 x)], .agg #[.int .u64 (g0 y), .int .u64 (g1 y), .int .u64 (g2 y), .int .u64 (g3 y)]] w fun e w' => e = .returned (.agg #[.int .u64 (g0 (x + y)), .int .u64 (g1 (x + y)), .int .u64 (g2 (x + y)), .int .u64 (g3 (x + y))]) ∧ Below w.heap.size w w' := by
  have a0 := g0_bd x; have a1 := g1_bd x; have a2 := g2_bd x; have a3 := g3_bd x
  have b0 := g0_bd y; have b1 := g1_bd y; have b2 := g2_bd y; have b3 := g3_bd y
  have ex := g_sum x hx (by omega); have ey := g_sum y hy (by omega)
  refine (rplus_raw _ _ _ _ _ _ _ _ w a0.1 a1.1 a2.1 a3.1 b0.1 b1.1 b2.1 b3.1 a0.2 a1.2 a2.2 a3.2 b0.2 b1.2 b2.2 b3.2).mono ?_
  rintro e w' ⟨rfl, hb⟩
  have e : x + y = ((g0 x + g0 y) % 4294967296) + ((g1 x + g1 y + (g0 x + g0 y) / 4294967296) % 4294967296) * 4294967296 + ((g2 x + g2 y + (g1 x + g1 y + (g0 x + g0 y) / 4294967296) / 4294967296) % 4294967296) * 18446744073709551616 + ((g3 x + g3 y + (g2 x + g2 y + (g1 x + g1 y + (g0 x + g0 y) / 4294967296) / 4294967296) / 4294967296) % 4294967296) * 79228162514264337593543950336 := by
    generalize g0 x = X0 at *; generalize g1 x = X1 at *; generalize g2 x = X2 at *; generalize g3 x = X3 at *
    generalize g0 y = Y0 at *; generalize g1 y = Y1 at *; generalize g2 y = Y2 at *; generalize g3 y = Y3 at *
    clear hb
    omega
  obtain ⟨k0, k1, k2, k3⟩ := g_of ((g0 x + g0 y) % 4294967296) ((g1 x + g1 y + (g0 x + g0 y) / 4294967296) % 4294967296) ((g2 x + g2 y + (g1 x + g1 y + (g0 x + g0 y) / 4294967296) / 4294967296) % 4294967296) ((g3 x + g3 y + (g2 x + g2 y + (g1 x + g1 y + (g0 x + g0 y) / 4294967296) / 4294967296) / 4294967296) % 4294967296) (by omega) (by omega) (by omega) (by omega)
  rw [← e] at k0 k1 k2 k3
  exact ⟨ret_big k0.symm k1.symm k2.symm k3.symm, hb⟩

set_option maxRecDepth 100000 in
set_option maxHeartbeats 2000000 in
theorem rless_raw (a0 a1 a2 a3 b0 b1 b2 b3 : Int) (w : World) (p0 : 0 ≤ a0) (p1 : 0 ≤ a1) (p2 : 0 ≤ a2) (p3 : 0 ≤ a3) (q0 : 0 ≤ b0) (q1 : 0 ≤ b1) (q2 : 0 ≤ b2) (q3 : 0 ≤ b3)
    (r0 : a0 ≤ 4294967295) (r1 : a1 ≤ 4294967295) (r2 : a2 ≤ 4294967295) (r3 : a3 ≤ 4294967295) (s0 : b0 ≤ 4294967295) (s1 : b1 ≤ 4294967295) (s2 : b2 ≤ 4294967295) (s3 : b3 ≤ 4294967295) :
    Calls Tryz.prog 162 #[.agg #[.int .u64 a0, .int .u64 a1, .int .u64 a2, .int .u64 a3], .agg #[.int .u64 b0, .int .u64 b1, .int .u64 b2, .int .u64 b3]] w fun e w' => e = .returned (.agg #[.int .u64 ((a0 + 4294967296 - b0) % 4294967296), .int .u64 ((a1 + 4294967296 - b1 - (1 - (a0 + 4294967296 - b0) / 4294967296)) % 4294967296), .int .u64 ((a2 + 4294967296 - b2 - (1 - (a1 + 4294967296 - b1 - (1 - (a0 + 4294967296 - b0) / 4294967296)) / 4294967296)) % 4294967296), .int .u64 ((a3 + 4294967296 - b3 - (1 - (a2 + 4294967296 - b2 - (1 - (a1 + 4294967296 - b1 - (1 - (a0 + 4294967296 - b0) / 4294967296)) / 4294967296)) / 4294967296)) % 4294967296)]) ∧ Below w.heap.size w w' := by
  go_enter Tryz.func162, Tryz.ntmps162
  go_wp2
  refine wp_loop_rounds 5 ?_
  rw [rounds_succ]
  go_wp2
  go_quiet (fail)
  go_wp2
  rw [rounds_succ]
  go_wp2
  go_quiet (fail)
  go_wp2
  rw [rounds_succ]
  go_wp2
  go_quiet (fail)
  go_wp2
  rw [rounds_succ]
  go_wp2
  go_quiet (fail)
  go_wp2
  rw [rounds_succ]
  go_wp2
  go_returns
  exact ⟨rfl, by repeat' (first | (with_reducible exact Below.refl _ _) | (with_reducible assumption) | (with_reducible refine bdrewN _ ?_) | (with_reducible refine Below.alloc ?_ ?_ _) | (with_reducible refine Below.setCell ?_ ?_ _) | (with_reducible refine Below.drew ?_) | go_size)⟩

theorem rless_any (x y : Int) (w : World) (hy : 0 ≤ y) (h : y ≤ x) (hx : x < 340282366920938463463374607431768211456) :
    Calls Tryz.prog 162 #[.agg #[.int .u64 (g0 x), .int .u64 (g1 x), .int .u64 (g2 x), .int .u64 (g3 x)], .agg #[.int .u64 (g0 y), .int .u64 (g1 y), .int .u64 (g2 y), .int .u64 (g3 y)]] w fun e w' => e = .returned (.agg #[.int .u64 (g0 (x - y)), .int .u64 (g1 (x - y)), .int .u64 (g2 (x - y)), .int .u64 (g3 (x - y))]) ∧ Below w.heap.size w w' := by
  have a0 := g0_bd x; have a1 := g1_bd x; have a2 := g2_bd x; have a3 := g3_bd x
  have b0 := g0_bd y; have b1 := g1_bd y; have b2 := g2_bd y; have b3 := g3_bd y
  have ex := g_sum x (by omega) hx; have ey := g_sum y hy (by omega)
  refine (rless_raw _ _ _ _ _ _ _ _ w a0.1 a1.1 a2.1 a3.1 b0.1 b1.1 b2.1 b3.1 a0.2 a1.2 a2.2 a3.2 b0.2 b1.2 b2.2 b3.2).mono ?_
  rintro e w' ⟨rfl, hb⟩
  have e : x - y = ((g0 x + 4294967296 - g0 y) % 4294967296) + ((g1 x + 4294967296 - g1 y - (1 - (g0 x + 4294967296 - g0 y) / 4294967296)) % 4294967296) * 4294967296 + ((g2 x + 4294967296 - g2 y - (1 - (g1 x + 4294967296 - g1 y - (1 - (g0 x + 4294967296 - g0 y) / 4294967296)) / 4294967296)) % 4294967296) * 18446744073709551616 + ((g3 x + 4294967296 - g3 y - (1 - (g2 x + 4294967296 - g2 y - (1 - (g1 x + 4294967296 - g1 y - (1 - (g0 x + 4294967296 - g0 y) / 4294967296)) / 4294967296)) / 4294967296)) % 4294967296) * 79228162514264337593543950336 := by
    generalize g0 x = X0 at *; generalize g1 x = X1 at *; generalize g2 x = X2 at *; generalize g3 x = X3 at *
    generalize g0 y = Y0 at *; generalize g1 y = Y1 at *; generalize g2 y = Y2 at *; generalize g3 y = Y3 at *
    clear hb
    omega
  obtain ⟨k0, k1, k2, k3⟩ := g_of ((g0 x + 4294967296 - g0 y) % 4294967296) ((g1 x + 4294967296 - g1 y - (1 - (g0 x + 4294967296 - g0 y) / 4294967296)) % 4294967296) ((g2 x + 4294967296 - g2 y - (1 - (g1 x + 4294967296 - g1 y - (1 - (g0 x + 4294967296 - g0 y) / 4294967296)) / 4294967296)) % 4294967296) ((g3 x + 4294967296 - g3 y - (1 - (g2 x + 4294967296 - g2 y - (1 - (g1 x + 4294967296 - g1 y - (1 - (g0 x + 4294967296 - g0 y) / 4294967296)) / 4294967296)) / 4294967296)) % 4294967296) (by omega) (by omega) (by omega) (by omega)
  rw [← e] at k0 k1 k2 k3
  exact ⟨ret_big k0.symm k1.symm k2.symm k3.symm, hb⟩

/-- -1, 0, 1. -/
def cmpI (x y : Int) : Int := if x < y then -1 else if y < x then 1 else 0

set_option maxRecDepth 100000 in
set_option maxHeartbeats 2000000 in
theorem rcompare_raw (a0 a1 a2 a3 b0 b1 b2 b3 : Int) (w : World) (p0 : 0 ≤ a0) (p1 : 0 ≤ a1) (p2 : 0 ≤ a2) (_p3 : 0 ≤ a3) (q0 : 0 ≤ b0) (q1 : 0 ≤ b1) (q2 : 0 ≤ b2) (_q3 : 0 ≤ b3)
    (r0 : a0 ≤ 4294967295) (r1 : a1 ≤ 4294967295) (r2 : a2 ≤ 4294967295) (_r3 : a3 ≤ 4294967295) (s0 : b0 ≤ 4294967295) (s1 : b1 ≤ 4294967295) (s2 : b2 ≤ 4294967295) (_s3 : b3 ≤ 4294967295) :
    Calls Tryz.prog 153 #[.agg #[.int .u64 a0, .int .u64 a1, .int .u64 a2, .int .u64 a3], .agg #[.int .u64 b0, .int .u64 b1, .int .u64 b2, .int .u64 b3]] w fun e w' => e = .returned (.int .i64 (cmpI (a0 + a1 * 4294967296 + a2 * 18446744073709551616 + a3 * 79228162514264337593543950336) (b0 + b1 * 4294967296 + b2 * 18446744073709551616 + b3 * 79228162514264337593543950336))) ∧ Below w.heap.size w w' := by
  go_enter Tryz.func153, Tryz.ntmps153
  go_wp2
  refine wp_loop_rounds 5 ?_
  rw [rounds_succ]
  go_wp2
  go_quiet (fail)
  by_cases u3 : a3 < b3
  · go_wp2
    go_ret
    exact ⟨ret_int (by unfold cmpI; rw [if_pos (by omega)]), by repeat' (first | (with_reducible exact Below.refl _ _) | (with_reducible assumption) | (with_reducible refine bdrewN _ ?_) | (with_reducible refine Below.alloc ?_ ?_ _) | (with_reducible refine Below.setCell ?_ ?_ _) | (with_reducible refine Below.drew ?_) | go_size)⟩
  go_wp2
  go_quiet (fail)
  by_cases v3 : b3 < a3
  · go_wp2
    go_ret
    exact ⟨ret_int (by unfold cmpI; rw [if_neg (by omega), if_pos (by omega)]), by repeat' (first | (with_reducible exact Below.refl _ _) | (with_reducible assumption) | (with_reducible refine bdrewN _ ?_) | (with_reducible refine Below.alloc ?_ ?_ _) | (with_reducible refine Below.setCell ?_ ?_ _) | (with_reducible refine Below.drew ?_) | go_size)⟩
  go_wp2
  rw [rounds_succ]
  go_wp2
  go_quiet (fail)
  by_cases u2 : a2 < b2
  · go_wp2
    go_ret
    exact ⟨ret_int (by unfold cmpI; rw [if_pos (by omega)]), by repeat' (first | (with_reducible exact Below.refl _ _) | (with_reducible assumption) | (with_reducible refine bdrewN _ ?_) | (with_reducible refine Below.alloc ?_ ?_ _) | (with_reducible refine Below.setCell ?_ ?_ _) | (with_reducible refine Below.drew ?_) | go_size)⟩
  go_wp2
  go_quiet (fail)
  by_cases v2 : b2 < a2
  · go_wp2
    go_ret
    exact ⟨ret_int (by unfold cmpI; rw [if_neg (by omega), if_pos (by omega)]), by repeat' (first | (with_reducible exact Below.refl _ _) | (with_reducible assumption) | (with_reducible refine bdrewN _ ?_) | (with_reducible refine Below.alloc ?_ ?_ _) | (with_reducible refine Below.setCell ?_ ?_ _) | (with_reducible refine Below.drew ?_) | go_size)⟩
  go_wp2
  rw [rounds_succ]
  go_wp2
  go_quiet (fail)
  by_cases u1 : a1 < b1
  · go_wp2
    go_ret
    exact ⟨ret_int (by unfold cmpI; rw [if_pos (by omega)]), by repeat' (first | (with_reducible exact Below.refl _ _) | (with_reducible assumption) | (with_reducible refine bdrewN _ ?_) | (with_reducible refine Below.alloc ?_ ?_ _) | (with_reducible refine Below.setCell ?_ ?_ _) | (with_reducible refine Below.drew ?_) | go_size)⟩
  go_wp2
  go_quiet (fail)
  by_cases v1 : b1 < a1
  · go_wp2
    go_ret
    exact ⟨ret_int (by unfold cmpI; rw [if_neg (by omega), if_pos (by omega)]), by repeat' (first | (with_reducible exact Below.refl _ _) | (with_reducible assumption) | (with_reducible refine bdrewN _ ?_) | (with_reducible refine Below.alloc ?_ ?_ _) | (with_reducible refine Below.setCell ?_ ?_ _) | (with_reducible refine Below.drew ?_) | go_size)⟩
  go_wp2
  rw [rounds_succ]
  go_wp2
  go_quiet (fail)
  by_cases u0 : a0 < b0
  · go_wp2
    go_ret
    exact ⟨ret_int (by unfold cmpI; rw [if_pos (by omega)]), by repeat' (first | (with_reducible exact Below.refl _ _) | (with_reducible assumption) | (with_reducible refine bdrewN _ ?_) | (with_reducible refine Below.alloc ?_ ?_ _) | (with_reducible refine Below.setCell ?_ ?_ _) | (with_reducible refine Below.drew ?_) | go_size)⟩
  go_wp2
  go_quiet (fail)
  by_cases v0 : b0 < a0
  · go_wp2
    go_ret
    exact ⟨ret_int (by unfold cmpI; rw [if_neg (by omega), if_pos (by omega)]), by repeat' (first | (with_reducible exact Below.refl _ _) | (with_reducible assumption) | (with_reducible refine bdrewN _ ?_) | (with_reducible refine Below.alloc ?_ ?_ _) | (with_reducible refine Below.setCell ?_ ?_ _) | (with_reducible refine Below.drew ?_) | go_size)⟩
  go_wp2
  rw [rounds_succ]
  go_wp2
  go_ret
  exact ⟨ret_int (by unfold cmpI; rw [if_neg (by omega), if_neg (by omega)]), by repeat' (first | (with_reducible exact Below.refl _ _) | (with_reducible assumption) | (with_reducible refine bdrewN _ ?_) | (with_reducible refine Below.alloc ?_ ?_ _) | (with_reducible refine Below.setCell ?_ ?_ _) | (with_reducible refine Below.drew ?_) | go_size)⟩

theorem rcompare_any (x y : Int) (w : World) (hx : 0 ≤ x) (hx' : x < 340282366920938463463374607431768211456) (hy : 0 ≤ y) (hy' : y < 340282366920938463463374607431768211456) :
    Calls Tryz.prog 153 #[.agg #[.int .u64 (g0 x), .int .u64 (g1 x), .int .u64 (g2 x), .int .u64 (g3 x)], .agg #[.int .u64 (g0 y), .int .u64 (g1 y), .int .u64 (g2 y), .int .u64 (g3 y)]] w fun e w' => e = .returned (.int .i64 (cmpI x y)) ∧ Below w.heap.size w w' := by
  have a0 := g0_bd x; have a1 := g1_bd x; have a2 := g2_bd x; have a3 := g3_bd x
  have b0 := g0_bd y; have b1 := g1_bd y; have b2 := g2_bd y; have b3 := g3_bd y
  have h := rcompare_raw _ _ _ _ _ _ _ _ w a0.1 a1.1 a2.1 a3.1 b0.1 b1.1 b2.1 b3.1 a0.2 a1.2 a2.2 a3.2 b0.2 b1.2 b2.2 b3.2
  rwa [← g_sum x hx hx', ← g_sum y hy hy'] at h

end Go.Proofs.YticmebamclacaaaGreatDoor

namespace Go.Proofs.YticmebamclacaaaGreatDoor
open Go.RowKit

theorem wp_world {P : Program} {c : Code} {Q : Exit → Act → World → Prop} {a : Act} {w : World} (h : ∀ W, W = w → c.wp P Q a W) : c.wp P Q a w := h w rfl

/-- With k bits of a still to come: what is left, how often b goes in, and which bits of that are still 0. -/
structure Inv (a b : Int) (k : Nat) (t0 t1 t2 t3 R : Int) : Prop where
  rest : R = a / 2 ^ k % b
  times : t0 + t1 * 4294967296 + t2 * 18446744073709551616 + t3 * 79228162514264337593543950336 = a / 2 ^ k / b * 2 ^ k
  d0 : t0 % 2 ^ min k 32 = 0
  d1 : t1 % 2 ^ min (k - 32) 32 = 0
  d2 : t2 % 2 ^ min (k - 64) 32 = 0
  d3 : t3 % 2 ^ min (k - 96) 32 = 0

theorem inv_step0 (a b t0 t1 t2 t3 R : Int) (s : Nat) (hs : s < 32) (hb : 0 < b) (h0 : 0 ≤ t0) (h1 : t0 < 4294967296) (h : Inv a b (0 + s + 1) t0 t1 t2 t3 R) :
    (b ≤ 2 * R + g0 a / 2 ^ s % 2 → t0 + 2 ^ s < 4294967296 ∧ Inv a b (0 + s) (t0 + 2 ^ s) t1 t2 t3 (2 * R + g0 a / 2 ^ s % 2 - b)) ∧ (2 * R + g0 a / 2 ^ s % 2 < b → Inv a b (0 + s) t0 t1 t2 t3 (2 * R + g0 a / 2 ^ s % 2)) := by
  obtain ⟨hr, ht, q0, q1, q2, q3⟩ := h
  have hbit : a / 2 ^ (0 + s) % 2 = g0 a / 2 ^ s % 2 := by
    unfold g0
    rw [show 0 + s = s by omega]; exact bit_of a s hs
  have hx := half_step a (0 + s)
  rw [hbit] at hx
  have hb0 : 0 ≤ g0 a / 2 ^ s % 2 := by omega
  have hb1 : g0 a / 2 ^ s % 2 ≤ 1 := by omega
  have hp : (2 : Int) ^ (0 + s + 1) = 2 ^ (0 + s) * 2 := pow_succ_i _
  have hp2 : (2 : Int) ^ (0 + s) = 1 * 2 ^ s := by rw [Int.pow_add]; rfl
  have qe : min (0 + s + 1) 32 = s + 1 := by omega
  have qj := q0
  rw [qe] at qj
  obtain ⟨r1, r2, r3⟩ := dig_room t0 s hs h0 h1 qj
  obtain ⟨s1, s2⟩ := bit_step hb hx hb0 hb1
  rw [← hr] at s1 s2
  generalize g0 a / 2 ^ s % 2 = bit at *
  constructor
  · intro hc
    obtain ⟨u1, u2⟩ := s1 hc
    refine ⟨r1, ⟨u1.symm, ?_, (by rw [show min ((0 + s)) 32 = s by omega]; exact r2), (by rw [show min ((0 + s) - 32) 32 = 0 by omega]; simp), (by rw [show min ((0 + s) - 64) 32 = 0 by omega]; simp), (by rw [show min ((0 + s) - 96) 32 = 0 by omega]; simp)⟩⟩
    rw [u2]
    have : (2 * (a / 2 ^ (0 + s + 1) / b) + 1) * 2 ^ (0 + s) = a / 2 ^ (0 + s + 1) / b * 2 ^ (0 + s + 1) + 2 ^ (0 + s) := by rw [hp]; grind
    rw [this, ← ht, hp2]
    generalize (2 : Int) ^ s = p at *
    grind
  · intro hc
    obtain ⟨u1, u2⟩ := s2 hc
    refine ⟨u1.symm, ?_, (by rw [show min ((0 + s)) 32 = s by omega]; exact r3), (by rw [show min ((0 + s) - 32) 32 = 0 by omega]; simp), (by rw [show min ((0 + s) - 64) 32 = 0 by omega]; simp), (by rw [show min ((0 + s) - 96) 32 = 0 by omega]; simp)⟩
    rw [u2]
    have : 2 * (a / 2 ^ (0 + s + 1) / b) * 2 ^ (0 + s) = a / 2 ^ (0 + s + 1) / b * 2 ^ (0 + s + 1) := by rw [hp]; grind
    rw [this, ht]

theorem inv_step1 (a b t0 t1 t2 t3 R : Int) (s : Nat) (hs : s < 32) (hb : 0 < b) (h0 : 0 ≤ t1) (h1 : t1 < 4294967296) (h : Inv a b (32 + s + 1) t0 t1 t2 t3 R) :
    (b ≤ 2 * R + g1 a / 2 ^ s % 2 → t1 + 2 ^ s < 4294967296 ∧ Inv a b (32 + s) t0 (t1 + 2 ^ s) t2 t3 (2 * R + g1 a / 2 ^ s % 2 - b)) ∧ (2 * R + g1 a / 2 ^ s % 2 < b → Inv a b (32 + s) t0 t1 t2 t3 (2 * R + g1 a / 2 ^ s % 2)) := by
  obtain ⟨hr, ht, q0, q1, q2, q3⟩ := h
  have hbit : a / 2 ^ (32 + s) % 2 = g1 a / 2 ^ s % 2 := by
    unfold g1
    have e : a / 2 ^ (32 + s) = a / 4294967296 / 2 ^ s := by
      rw [Int.pow_add, ← Int.ediv_ediv_of_nonneg (by decide)]; rfl
    rw [e]; exact bit_of _ s hs
  have hx := half_step a (32 + s)
  rw [hbit] at hx
  have hb0 : 0 ≤ g1 a / 2 ^ s % 2 := by omega
  have hb1 : g1 a / 2 ^ s % 2 ≤ 1 := by omega
  have hp : (2 : Int) ^ (32 + s + 1) = 2 ^ (32 + s) * 2 := pow_succ_i _
  have hp2 : (2 : Int) ^ (32 + s) = 4294967296 * 2 ^ s := by rw [Int.pow_add]; rfl
  have qe : min ((32 + s + 1) - 32) 32 = s + 1 := by omega
  have qj := q1
  rw [qe] at qj
  obtain ⟨r1, r2, r3⟩ := dig_room t1 s hs h0 h1 qj
  obtain ⟨s1, s2⟩ := bit_step hb hx hb0 hb1
  rw [← hr] at s1 s2
  generalize g1 a / 2 ^ s % 2 = bit at *
  constructor
  · intro hc
    obtain ⟨u1, u2⟩ := s1 hc
    refine ⟨r1, ⟨u1.symm, ?_, (by rw [show min ((32 + s)) 32 = min ((32 + s + 1)) 32 by omega]; exact q0), (by rw [show min ((32 + s) - 32) 32 = s by omega]; exact r2), (by rw [show min ((32 + s) - 64) 32 = 0 by omega]; simp), (by rw [show min ((32 + s) - 96) 32 = 0 by omega]; simp)⟩⟩
    rw [u2]
    have : (2 * (a / 2 ^ (32 + s + 1) / b) + 1) * 2 ^ (32 + s) = a / 2 ^ (32 + s + 1) / b * 2 ^ (32 + s + 1) + 2 ^ (32 + s) := by rw [hp]; grind
    rw [this, ← ht, hp2]
    generalize (2 : Int) ^ s = p at *
    grind
  · intro hc
    obtain ⟨u1, u2⟩ := s2 hc
    refine ⟨u1.symm, ?_, (by rw [show min ((32 + s)) 32 = min ((32 + s + 1)) 32 by omega]; exact q0), (by rw [show min ((32 + s) - 32) 32 = s by omega]; exact r3), (by rw [show min ((32 + s) - 64) 32 = 0 by omega]; simp), (by rw [show min ((32 + s) - 96) 32 = 0 by omega]; simp)⟩
    rw [u2]
    have : 2 * (a / 2 ^ (32 + s + 1) / b) * 2 ^ (32 + s) = a / 2 ^ (32 + s + 1) / b * 2 ^ (32 + s + 1) := by rw [hp]; grind
    rw [this, ht]

theorem inv_step2 (a b t0 t1 t2 t3 R : Int) (s : Nat) (hs : s < 32) (hb : 0 < b) (h0 : 0 ≤ t2) (h1 : t2 < 4294967296) (h : Inv a b (64 + s + 1) t0 t1 t2 t3 R) :
    (b ≤ 2 * R + g2 a / 2 ^ s % 2 → t2 + 2 ^ s < 4294967296 ∧ Inv a b (64 + s) t0 t1 (t2 + 2 ^ s) t3 (2 * R + g2 a / 2 ^ s % 2 - b)) ∧ (2 * R + g2 a / 2 ^ s % 2 < b → Inv a b (64 + s) t0 t1 t2 t3 (2 * R + g2 a / 2 ^ s % 2)) := by
  obtain ⟨hr, ht, q0, q1, q2, q3⟩ := h
  have hbit : a / 2 ^ (64 + s) % 2 = g2 a / 2 ^ s % 2 := by
    unfold g2
    have e : a / 2 ^ (64 + s) = a / 18446744073709551616 / 2 ^ s := by
      rw [Int.pow_add, ← Int.ediv_ediv_of_nonneg (by decide)]; rfl
    rw [e]; exact bit_of _ s hs
  have hx := half_step a (64 + s)
  rw [hbit] at hx
  have hb0 : 0 ≤ g2 a / 2 ^ s % 2 := by omega
  have hb1 : g2 a / 2 ^ s % 2 ≤ 1 := by omega
  have hp : (2 : Int) ^ (64 + s + 1) = 2 ^ (64 + s) * 2 := pow_succ_i _
  have hp2 : (2 : Int) ^ (64 + s) = 18446744073709551616 * 2 ^ s := by rw [Int.pow_add]; rfl
  have qe : min ((64 + s + 1) - 64) 32 = s + 1 := by omega
  have qj := q2
  rw [qe] at qj
  obtain ⟨r1, r2, r3⟩ := dig_room t2 s hs h0 h1 qj
  obtain ⟨s1, s2⟩ := bit_step hb hx hb0 hb1
  rw [← hr] at s1 s2
  generalize g2 a / 2 ^ s % 2 = bit at *
  constructor
  · intro hc
    obtain ⟨u1, u2⟩ := s1 hc
    refine ⟨r1, ⟨u1.symm, ?_, (by rw [show min ((64 + s)) 32 = min ((64 + s + 1)) 32 by omega]; exact q0), (by rw [show min ((64 + s) - 32) 32 = min ((64 + s + 1) - 32) 32 by omega]; exact q1), (by rw [show min ((64 + s) - 64) 32 = s by omega]; exact r2), (by rw [show min ((64 + s) - 96) 32 = 0 by omega]; simp)⟩⟩
    rw [u2]
    have : (2 * (a / 2 ^ (64 + s + 1) / b) + 1) * 2 ^ (64 + s) = a / 2 ^ (64 + s + 1) / b * 2 ^ (64 + s + 1) + 2 ^ (64 + s) := by rw [hp]; grind
    rw [this, ← ht, hp2]
    generalize (2 : Int) ^ s = p at *
    grind
  · intro hc
    obtain ⟨u1, u2⟩ := s2 hc
    refine ⟨u1.symm, ?_, (by rw [show min ((64 + s)) 32 = min ((64 + s + 1)) 32 by omega]; exact q0), (by rw [show min ((64 + s) - 32) 32 = min ((64 + s + 1) - 32) 32 by omega]; exact q1), (by rw [show min ((64 + s) - 64) 32 = s by omega]; exact r3), (by rw [show min ((64 + s) - 96) 32 = 0 by omega]; simp)⟩
    rw [u2]
    have : 2 * (a / 2 ^ (64 + s + 1) / b) * 2 ^ (64 + s) = a / 2 ^ (64 + s + 1) / b * 2 ^ (64 + s + 1) := by rw [hp]; grind
    rw [this, ht]

theorem inv_step3 (a b t0 t1 t2 t3 R : Int) (s : Nat) (hs : s < 32) (hb : 0 < b) (h0 : 0 ≤ t3) (h1 : t3 < 4294967296) (h : Inv a b (96 + s + 1) t0 t1 t2 t3 R) :
    (b ≤ 2 * R + g3 a / 2 ^ s % 2 → t3 + 2 ^ s < 4294967296 ∧ Inv a b (96 + s) t0 t1 t2 (t3 + 2 ^ s) (2 * R + g3 a / 2 ^ s % 2 - b)) ∧ (2 * R + g3 a / 2 ^ s % 2 < b → Inv a b (96 + s) t0 t1 t2 t3 (2 * R + g3 a / 2 ^ s % 2)) := by
  obtain ⟨hr, ht, q0, q1, q2, q3⟩ := h
  have hbit : a / 2 ^ (96 + s) % 2 = g3 a / 2 ^ s % 2 := by
    unfold g3
    have e : a / 2 ^ (96 + s) = a / 79228162514264337593543950336 / 2 ^ s := by
      rw [Int.pow_add, ← Int.ediv_ediv_of_nonneg (by decide)]; rfl
    rw [e]; exact bit_of _ s hs
  have hx := half_step a (96 + s)
  rw [hbit] at hx
  have hb0 : 0 ≤ g3 a / 2 ^ s % 2 := by omega
  have hb1 : g3 a / 2 ^ s % 2 ≤ 1 := by omega
  have hp : (2 : Int) ^ (96 + s + 1) = 2 ^ (96 + s) * 2 := pow_succ_i _
  have hp2 : (2 : Int) ^ (96 + s) = 79228162514264337593543950336 * 2 ^ s := by rw [Int.pow_add]; rfl
  have qe : min ((96 + s + 1) - 96) 32 = s + 1 := by omega
  have qj := q3
  rw [qe] at qj
  obtain ⟨r1, r2, r3⟩ := dig_room t3 s hs h0 h1 qj
  obtain ⟨s1, s2⟩ := bit_step hb hx hb0 hb1
  rw [← hr] at s1 s2
  generalize g3 a / 2 ^ s % 2 = bit at *
  constructor
  · intro hc
    obtain ⟨u1, u2⟩ := s1 hc
    refine ⟨r1, ⟨u1.symm, ?_, (by rw [show min ((96 + s)) 32 = min ((96 + s + 1)) 32 by omega]; exact q0), (by rw [show min ((96 + s) - 32) 32 = min ((96 + s + 1) - 32) 32 by omega]; exact q1), (by rw [show min ((96 + s) - 64) 32 = min ((96 + s + 1) - 64) 32 by omega]; exact q2), (by rw [show min ((96 + s) - 96) 32 = s by omega]; exact r2)⟩⟩
    rw [u2]
    have : (2 * (a / 2 ^ (96 + s + 1) / b) + 1) * 2 ^ (96 + s) = a / 2 ^ (96 + s + 1) / b * 2 ^ (96 + s + 1) + 2 ^ (96 + s) := by rw [hp]; grind
    rw [this, ← ht, hp2]
    generalize (2 : Int) ^ s = p at *
    grind
  · intro hc
    obtain ⟨u1, u2⟩ := s2 hc
    refine ⟨u1.symm, ?_, (by rw [show min ((96 + s)) 32 = min ((96 + s + 1)) 32 by omega]; exact q0), (by rw [show min ((96 + s) - 32) 32 = min ((96 + s + 1) - 32) 32 by omega]; exact q1), (by rw [show min ((96 + s) - 64) 32 = min ((96 + s + 1) - 64) 32 by omega]; exact q2), (by rw [show min ((96 + s) - 96) 32 = s by omega]; exact r3)⟩
    rw [u2]
    have : 2 * (a / 2 ^ (96 + s + 1) / b) * 2 ^ (96 + s) = a / 2 ^ (96 + s + 1) / b * 2 ^ (96 + s + 1) := by rw [hp]; grind
    rw [this, ht]

end Go.Proofs.YticmebamclacaaaGreatDoor

namespace Go.Proofs.YticmebamclacaaaGreatDoor
open Go.RowKit Go.Shelf

/-- The table of the powers of ten lies as it was laid. -/
def Pow (w : World) : Prop := Lib.TabIs Tryz.prog w "internal/strconv.uint64pow10" .u64 Lib.pow10Tab
theorem Pow.below {w W : World} (h : Pow w) (hb : Below w.heap.size w W) : Pow W := Lib.tabBelow_of_tabIs h W hb

theorem below_grow (w : World) (k : Nat) (os : Array Obj) : Below w.heap.size w (Sort.grow (w.drewN k) os) :=
  ⟨rfl, rfl, rfl, by simp [Sort.grow], fun i hi => by simp [Sort.grow, Array.getElem?_append, hi]⟩

set_option maxRecDepth 100000 in
set_option maxHeartbeats 400000 in
theorem dec_any (n : Int) (w : World) (h1 : -9223372036854775808 ≤ n) (h2 : n ≤ 9223372036854775807) (ht : Pow w) :
    Calls Tryz.prog 131 #[.int .i64 n] w fun e w' => e = .returned (.string ⟨(Lib.itoa n).toArray⟩) ∧ Below w.heap.size w w' := by
  go_enter Tryz.func131, Tryz.ntmps131
  go_wp2_with fail
  refine (Tryz.strconv_FormatInt_10 n h1 h2 _ ht).mono ?_
  rintro e w1 ⟨rfl, k, os, rfl⟩
  go_wp2
  go_ret
  exact ⟨rfl, below_grow w k os⟩

set_option maxRecDepth 100000 in
set_option maxHeartbeats 1000000 in
theorem text_rat (n d : Int) (s : ByteArray) (w : World) (h1 : -9223372036854775808 ≤ n) (h2 : n ≤ 9223372036854775807) (g1 : -9223372036854775808 ≤ d) (g2 : d ≤ 9223372036854775807) (ht : Pow w) :
    Calls Tryz.prog 112 #[.agg #[.int .i64 2, .int .i64 n, .int .i64 d, .string s]] w fun e w' => e = .returned (.string ⟨(Lib.itoa n ++ 47 :: Lib.itoa d).toArray⟩) ∧ Below w.heap.size w w' := by
  go_enter Tryz.func112, Tryz.ntmps112
  go_upto_region 5 with fail
  refine wp_world ?_
  intro W0 hW0
  have c1 : W0.cell? ⟨w.heap.size, 1, none⟩ = some (.int .i64 n) := by rw [hW0]; simp [go_sem]
  have c2 : W0.cell? ⟨w.heap.size, 2, none⟩ = some (.int .i64 d) := by rw [hW0]; simp [go_sem]
  have k0 : Below w.heap.size w W0 := by rw [hW0]; go_grown
  have k1 : w.heap.size < W0.heap.size := by rw [hW0]; simp
  clear hW0
  have lA := Lib.itoa_length_le n h1 h2
  have lB := Lib.itoa_length_le d g1 g2
  obtain ⟨A, eA⟩ : ∃ A : ByteArray, A = ⟨(Lib.itoa n).toArray⟩ := ⟨_, rfl⟩
  obtain ⟨B, eB⟩ : ∃ B : ByteArray, B = ⟨(Lib.itoa d).toArray⟩ := ⟨_, rfl⟩
  have sA : A.size ≤ 21 := by rw [eA]; show (Lib.itoa n).toArray.size ≤ 21; simpa using lA
  have sB : B.size ≤ 21 := by rw [eB]; show (Lib.itoa d).toArray.size ≤ 21; simpa using lB
  have DA := fun (W : World) (h : Pow W) => dec_any n W h1 h2 h
  have DB := fun (W : World) (h : Pow W) => dec_any d W g1 g2 h
  rw [← eA] at DA
  rw [← eB] at DB
  obtain ⟨C, eC⟩ : ∃ C : ByteArray, C = A ++ ⟨#[47]⟩ := ⟨_, rfl⟩
  have sC : C.size ≤ 22 := by rw [eC, ByteArray.size_append]; have : (⟨#[47]⟩ : ByteArray).size = 1 := rfl
                              omega
  have x1 : ∀ W : World, (Op.stringOp .add A ⟨#[47]⟩).run Tryz.prog W = .ok (.string C) W := fun W => by
    rw [run_string_add_sum W _ _ (by have : (⟨#[47]⟩ : ByteArray).size = 1 := rfl
                                     omega), eC]
  have x2 : ∀ W : World, (Op.stringOp .add C B).run Tryz.prog W = .ok (.string (C ++ B)) W := fun W => run_string_add_sum W _ _ (by omega)
  have eF : Hid (C ++ B = ⟨(Lib.itoa n ++ 47 :: Lib.itoa d).toArray⟩) := by
    rw [eC, eA, eB]
    apply ByteArray.ext
    simp
  have DA' : Hid (∀ W : World, Pow W → Calls Tryz.prog 131 #[.int .i64 n] W fun e w' => e = .returned (.string A) ∧ Below W.heap.size W w') := DA
  have DB' : Hid (∀ W : World, Pow W → Calls Tryz.prog 131 #[.int .i64 d] W fun e w' => e = .returned (.string B) ∧ Below W.heap.size W w') := DB
  clear DA DB eA eB eC sA sB sC lA lB
  go_region_held3 (fun w' => w'.cell? ⟨w.heap.size, 1, none⟩ = some (.int .i64 n) ∧ w'.cell? ⟨w.heap.size, 2, none⟩ = some (.int .i64 d)) (exact ⟨bcl (n := W0.heap.size) (by go_grown) c1 k1, bcl (n := W0.heap.size) (by go_grown) c2 k1⟩)
    (first
      | (go_at_call_of 131 (Value.int IntKind.i64 n); refine (DA'.out _ (ht.below (k0.trans (Below.mono (B := W0.heap.size) (by go_grown) k0.size)))).mono ?_; rintro e w1 ⟨rfl, hb1⟩; obtain ⟨hB1, hn1⟩ := bg0 (n := W0.heap.size) (W0 := W0) (by go_grown) (by go_size) hb1)
      | (go_at_call_of 131 (Value.int IntKind.i64 d); refine (DB'.out _ (ht.below (k0.trans (Below.mono (B := W0.heap.size) (by go_grown) k0.size)))).mono ?_; rintro e w2 ⟨rfl, hb2⟩; obtain ⟨hB2, hn2⟩ := bg0 (n := W0.heap.size) (W0 := W0) (by go_grown) (by go_size) hb2))
  all_goals
    go_wp2
    go_ret
    exact ⟨by rw [eF.out]; rfl, k0.trans (Below.mono (B := W0.heap.size) (by go_grown) k0.size)⟩

set_option maxRecDepth 100000 in
set_option maxHeartbeats 1000000 in
theorem text_int (n d : Int) (s : ByteArray) (w : World) (h1 : -9223372036854775808 ≤ n) (h2 : n ≤ 9223372036854775807) (ht : Pow w) :
    Calls Tryz.prog 112 #[.agg #[.int .i64 1, .int .i64 n, .int .i64 d, .string s]] w fun e w' => e = .returned (.string ⟨(Lib.itoa n).toArray⟩) ∧ Below w.heap.size w w' := by
  go_enter Tryz.func112, Tryz.ntmps112
  go_wp2_with fail
  refine (dec_any n _ h1 h2 (ht.below (by go_grown))).mono ?_
  rintro e w1 ⟨rfl, hb⟩
  obtain ⟨hc, hf, hz, hB⟩ := bf (w := w) (by go_grown) hb
  go_wp2
  go_ret
  exact ⟨rfl, hB⟩

set_option maxRecDepth 100000 in
set_option maxHeartbeats 1000000 in
theorem text_str (k n d : Int) (s : ByteArray) (w : World) (hs : s.size ≤ 35184372088830) (k1 : (k == 1) = false) (k2 : (k == 2) = false) :
    Calls Tryz.prog 112 #[.agg #[.int .i64 k, .int .i64 n, .int .i64 d, .string s]] w fun e w' => e = .returned (.string ⟨(quoted s.data.toList).toArray⟩) ∧ Below w.heap.size w w' := by
  go_enter Tryz.func112, Tryz.ntmps112
  go_wp2_with fail
  refine (quote_any s _ hs).mono ?_
  rintro e w1 ⟨rfl, hb⟩
  obtain ⟨hc, hf, hz, hB⟩ := bf (w := w) (by go_grown) hb
  go_wp2
  go_ret
  exact ⟨rfl, hB⟩

/-- A value's text. -/
def vtext (k n d : Int) (s : ByteArray) : List UInt8 := if k = 1 then Lib.itoa n else if k = 2 then Lib.itoa n ++ 47 :: Lib.itoa d else quoted s.data.toList

theorem text_any (k n d : Int) (s : ByteArray) (w : World) (h1 : -9223372036854775808 ≤ n) (h2 : n ≤ 9223372036854775807) (g1 : -9223372036854775808 ≤ d) (g2 : d ≤ 9223372036854775807) (hs : s.size ≤ 35184372088830) (ht : Pow w) :
    Calls Tryz.prog 112 #[.agg #[.int .i64 k, .int .i64 n, .int .i64 d, .string s]] w fun e w' => e = .returned (.string ⟨(vtext k n d s).toArray⟩) ∧ Below w.heap.size w w' := by
  unfold vtext
  by_cases k1 : k = 1
  · subst k1; exact text_int n d s w h1 h2 ht
  · rw [if_neg k1]
    by_cases k2 : k = 2
    · subst k2; exact text_rat n d s w h1 h2 g1 g2 ht
    · rw [if_neg k2]; exact text_str k n d s w hs (by simpa using k1) (by simpa using k2)

theorem chk_size {k n d : Int} {s : ByteArray} (h : chk k n d s = 0) : s.size ≤ 64 := by
  unfold chk at h
  split at h
  · cases h
  · split at h
    · cases h
    · omega

set_option maxRecDepth 100000 in
set_option maxHeartbeats 1000000 in
theorem print_any (k n d : Int) (s : ByteArray) (w : World) (h1 : -9223372036854775808 ≤ n) (h2 : n ≤ 9223372036854775807) (g1 : -9223372036854775808 ≤ d) (g2 : d ≤ 9223372036854775807) (ht : Pow w) :
    Calls Tryz.prog 92 #[.agg #[.int .i64 k, .int .i64 n, .int .i64 d, .string s]] w fun e w' => e = .returned (.tuple #[.string ⟨(if chk k n d s = 0 then vtext k n d s else []).toArray⟩, .int .i64 (chk k n d s)]) ∧ Below w.heap.size w w' := by
  by_cases hc0 : chk k n d s = 0
  · have hs := chk_size hc0
    rw [if_pos hc0, hc0]
    go_enter Tryz.func92, Tryz.ntmps92
    go_wp2_with fail
    refine (check_any k n d s _ h1 h2 g1 g2).mono ?_
    rintro e w1 ⟨rfl, hb⟩
    obtain ⟨hc, hf, hz, hB⟩ := bf (w := w) (by go_grown) hb
    rw [hc0]
    have ht1 := ht.below hB
    go_wp2_with fail
    refine (text_any k n d s _ h1 h2 g1 g2 (by omega) ht1).mono ?_
    rintro e w2 ⟨rfl, hb2⟩
    go_wp2
    go_ret2
    exact ⟨rfl, hB.trans (hb2.mono hB.size)⟩
  · rw [if_neg hc0]
    have hc1 : (chk k n d s != 0) = true := by simpa using hc0
    go_enter Tryz.func92, Tryz.ntmps92
    go_wp2_with fail
    refine (check_any k n d s _ h1 h2 g1 g2).mono ?_
    rintro e w1 ⟨rfl, hb⟩
    obtain ⟨hc, hf, hz, hB⟩ := bf (w := w) (by go_grown) hb
    go_wp2
    go_ret2
    exact ⟨rfl, hB⟩

end Go.Proofs.YticmebamclacaaaGreatDoor

namespace Go.Proofs.YticmebamclacaaaGreatDoor
open Go.RowKit Go.Shelf

theorem isB_below {T e : TypeId} {B b : Nat} {bs : List Value} {w W : World} (h : Lib.IsBuilder T e B b bs w) (hb : Below w.heap.size w W) : Lib.IsBuilder T e B b bs W := by
  have go : ∀ p, Lib.BuilderAt T e B b p bs w → Lib.BuilderAt T e B b p bs W := by
    intro p h
    have hlt := h.lt
    obtain ⟨hB, v, hbk, hown, hne⟩ := h
    exact ⟨hB, v, (hb.block b hlt).trans hbk, hown.kept (row := none) ⟨hb.os, hb.tape, hb.output, hb.size, fun k hk _ => hb.block k hk⟩ (Classical.em _), hne⟩
  rcases h with h | h
  · exact Or.inl (go _ h)
  · exact Or.inr (go _ h)

/-- A block that holds a value, which may be written. -/
structure BlkV (W : World) (B : Nat) (k n d : Int) (s : ByteArray) : Prop where
  c0 : W.cell? ⟨B, 0, none⟩ = some (.int .i64 k)
  c1 : W.cell? ⟨B, 1, none⟩ = some (.int .i64 n)
  c2 : W.cell? ⟨B, 2, none⟩ = some (.int .i64 d)
  c3 : W.cell? ⟨B, 3, none⟩ = some (.string s)
  f0 : W.frozen? ⟨B, 0, none⟩ = false
  f1 : W.frozen? ⟨B, 1, none⟩ = false
  f2 : W.frozen? ⟨B, 2, none⟩ = false
  f3 : W.frozen? ⟨B, 3, none⟩ = false
theorem BlkV.below {W W' : World} {B m : Nat} {k n d : Int} {s : ByteArray} (h : BlkV W B k n d s) (hb : Below m W W') (hB : B < m) : BlkV W' B k n d s :=
  ⟨(hb.cell (p := ⟨B, 0, none⟩) hB).trans h.c0, (hb.cell (p := ⟨B, 1, none⟩) hB).trans h.c1, (hb.cell (p := ⟨B, 2, none⟩) hB).trans h.c2, (hb.cell (p := ⟨B, 3, none⟩) hB).trans h.c3,
   (hb.frozen (p := ⟨B, 0, none⟩) hB).trans h.f0, (hb.frozen (p := ⟨B, 1, none⟩) hB).trans h.f1, (hb.frozen (p := ⟨B, 2, none⟩) hB).trans h.f2, (hb.frozen (p := ⟨B, 3, none⟩) hB).trans h.f3⟩
theorem BlkV.four {W : World} {B : Nat} {k n d k' n' d' : Int} {s s' : ByteArray} (h : BlkV W B k n d s) : BlkV ((((W.setCell ⟨B, 0, none⟩ (.int .i64 k')).setCell ⟨B, 1, none⟩ (.int .i64 n')).setCell ⟨B, 2, none⟩ (.int .i64 d')).setCell ⟨B, 3, none⟩ (.string s')) B k' n' d' s' := by
  obtain ⟨c0, c1, c2, c3, f0, f1, f2, f3⟩ := h
  constructor <;> simp (maxDischargeDepth := 12) [go_sem, c0, c1, c2, c3, f0, f1, f2, f3]

end Go.Proofs.YticmebamclacaaaGreatDoor

namespace Go.Proofs.YticmebamclacaaaGreatDoor
open Go.RowKit Go.Shelf

end Go.Proofs.YticmebamclacaaaGreatDoor

namespace Go.Proofs.YticmebamclacaaaGreatDoor
open Go.RowKit Go.Shelf

end Go.Proofs.YticmebamclacaaaGreatDoor

namespace Go.Proofs.YticmebamclacaaaGreatDoor
open Go.RowKit Go.Shelf

end Go.Proofs.YticmebamclacaaaGreatDoor

namespace Go.Proofs.YticmebamclacaaaGreatDoor
open Go.RowKit Go.Shelf

end Go.Proofs.YticmebamclacaaaGreatDoor

namespace Go.Proofs.YticmebamclacaaaGreatDoor
open Go.RowKit Go.Shelf

end Go.Proofs.YticmebamclacaaaGreatDoor

namespace Go.Proofs.YticmebamclacaaaGreatDoor
open Go.RowKit Go.Shelf

/-- What a call tells: N, D, the error: if both fractions may be that of p / q, else nothing and ErrArg. -/
def both (a b c d : Int) : Bool := mayB a b && mayB c d
/-- How two fractions stand to one another. -/
def cmpV (a b c d : Int) : Int := if both a b c d then (if a * d < c * b then -1 else if c * b < a * d then 1 else 0) else 0

end Go.Proofs.YticmebamclacaaaGreatDoor

namespace Go.Proofs.YticmebamclacaaaGreatDoor
open Go.RowKit Go.Shelf

/-- A block that holds a fraction, which may be written. -/
structure BlkR (W : World) (B : Nat) (n d : Int) : Prop where
  c0 : W.cell? ⟨B, 0, none⟩ = some (.int .i64 n)
  c1 : W.cell? ⟨B, 1, none⟩ = some (.int .i64 d)
theorem BlkR.below {W W' : World} {B m : Nat} {n d : Int} (h : BlkR W B n d) (hb : Below m W W') (hB : B < m) : BlkR W' B n d :=
  ⟨(hb.cell (p := ⟨B, 0, none⟩) hB).trans h.c0, (hb.cell (p := ⟨B, 1, none⟩) hB).trans h.c1⟩

end Go.Proofs.YticmebamclacaaaGreatDoor

namespace Go.Proofs.YticmebamclacaaaGreatDoor
open Go.RowKit Go.Shelf

end Go.Proofs.YticmebamclacaaaGreatDoor

namespace Go.Proofs.YticmebamclacaaaGreatDoor
open Go.RowKit Go.Shelf

end Go.Proofs.YticmebamclacaaaGreatDoor

namespace Go.Proofs.YticmebamclacaaaGreatDoor
open Go.RowKit Go.Shelf

end Go.Proofs.YticmebamclacaaaGreatDoor

namespace Go.Proofs.YticmebamclacaaaGreatDoor
open Go.RowKit Go.Shelf

end Go.Proofs.YticmebamclacaaaGreatDoor

namespace Go.Proofs.YticmebamclacaaaGreatDoor
open Go.RowKit Go.Shelf

end Go.Proofs.YticmebamclacaaaGreatDoor
