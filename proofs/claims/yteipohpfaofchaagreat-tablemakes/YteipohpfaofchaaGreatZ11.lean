/- A table that came in, and how large it may be. -/
import Derived.Test.YteipohpfaofchaaGreatZ09
import Derived.Test.YteipohpfaofchaaGreatZ10
import Derived.Test.YteipohpfaofchaaGreatZ08
import Derived.SizedLaws

namespace Go.Proofs.YteipohpfaofchaaGreat
open Go.RowKit Go.Shelf Go.Sort
set_option linter.unusedVariables false

theorem strs_litN (W : World) (l : List ByteArray) : StrsAt (W.alloc (.cells (l.map Value.string).toArray 9)) (.slice (some ⟨W.heap.size, 0, none⟩) l.length l.length) l := by
  refine ⟨_, l.length, rfl, Or.inr ⟨W.heap.size, 0, rfl, by simp, fun i hi => ?_⟩⟩
  rw [Nat.zero_add]
  exact cell_of_heap (heap_alloc W _) i (by simp [hi])

set_option maxRecDepth 100000 in
set_option maxHeartbeats 2000000 in
theorem empty_any {V : Value} {vs : List ByteArray} {w : World} (hV : StrsAt w V vs) (hc : ∀ p n c, V = .slice p n c → n ≤ c) (lv : vs.length ≤ 9223372036854775807) :
    Calls Tryz.prog 9 #[V] w fun e w' => ∃ pa na ca pb nb cb, e = .returned (.tuple #[.agg #[.slice pa na ca, .slice pb nb cb], .int .i64 (ofChk vs [])]) ∧ (ofChk vs [] = 0 → OwnT w.heap.size (.agg #[.slice pa na ca, .slice pb nb cb]) (madeS vs) (ofRows vs []) w') ∧ Below w.heap.size w w' := by
  have cO : Hid (∀ W, Below w.heap.size w W → Calls Tryz.prog 15 #[V, .slice none 0 0] W fun e w' => ∃ pa na ca pb nb cb, e = .returned (.tuple #[.agg #[.slice pa na ca, .slice pb nb cb], .int .i64 (ofChk vs [])]) ∧ (ofChk vs [] = 0 → OwnT W.heap.size (.agg #[.slice pa na ca, .slice pb nb cb]) (madeS vs) (ofRows vs []) w') ∧ Below W.heap.size W w') := fun W hW => by
    refine (tof_any V _ vs [] [] W (hV.below hW) hc (Or.inl ⟨0, rfl, rfl⟩) ⟨rfl, fun i h => absurd h (Nat.not_lt_zero _)⟩ (by simp) (by simp) lv (by decide)).mono ?_
    rintro e w' ⟨t, rfl, h1, h2, hb⟩
    by_cases hz : ofChk vs [] = 0
    · have ht := (h1 hz).spec (ofChk_nodup hz) (by simp)
      obtain ⟨p, c, p', c', rfl⟩ := own_forms ht
      exact ⟨_, _, _, _, _, _, rfl, fun _ => ht, hb⟩
    · have ht := h2 hz
      subst ht
      exact ⟨_, _, _, _, _, _, rfl, fun h => absurd h hz, hb⟩
  obtain ⟨p, c, rfl⟩ := hV.form
  obtain ⟨n, en⟩ : ∃ n, Hid (vs.length = n) := ⟨_, rfl⟩
  rw [en.out] at cO lv ⊢
  generalize ofChk vs [] = E at *
  clear hV hc
  go_enter Tryz.func9, Tryz.ntmps9
  go_wp2_with fail
  refine (cO.out _ (by go_grown)).mono ?_
  rintro e w1 ⟨pa, na, ca, pb, nb, cb, rfl, ht, hb1⟩
  have hR : w1.heap[w.heap.size]? = some (.cells #[.slice none 0 0, .slice none 0 0] 25 (0, 0)) := (hb1.block w.heap.size (by simp)).trans (heap_alloc _ _)
  have HT : Hid (E = 0 → OwnT (w.heap.size + 1) (.agg #[.slice pa na ca, .slice pb nb cb]) (madeS vs) (ofRows vs []) w1) := fun h => by
    have h2 := ht h
    rwa [show (w.alloc (.cells #[.slice none 0 0, .slice none 0 0] 25)).heap.size = w.heap.size + 1 by simp] at h2
  have K1 : Below w.heap.size w w1 := by
    obtain ⟨hw1, -⟩ := bg0 (n := w.heap.size) (W0 := w) (by go_grown) (by go_size) hb1
    exact hw1
  have r0 := cell_of_heap hR 0 rfl
  have r1 := cell_of_heap hR 1 rfl
  have f0 := frozen_of_heap hR 0
  have f1 := frozen_of_heap hR 1
  have x0 : (w1.setCell ⟨w.heap.size, 0, none⟩ (.slice pa na ca)).cell? ⟨w.heap.size, 0, none⟩ = some (.slice pa na ca) := set_same r0
  have x1 : ((w1.setCell ⟨w.heap.size, 0, none⟩ (.slice pa na ca)).setCell ⟨w.heap.size, 1, none⟩ (.slice pb nb cb)).cell? ⟨w.heap.size, 1, none⟩ = some (.slice pb nb cb) := set_same ((set_other (by simp)).trans r1)
  have HSET : Hid (Below w.heap.size w ((w1.setCell ⟨w.heap.size, 0, none⟩ (.slice pa na ca)).setCell ⟨w.heap.size, 1, none⟩ (.slice pb nb cb))) := by
    have b2 := K1.grown (grownBy_setCell w1 w.heap.size 0 (.slice pa na ca)) K1.size (fun q hq => by injection hq with hq; omega)
    exact b2.grown (grownBy_setCell _ w.heap.size 1 (.slice pb nb cb)) b2.size (fun q hq => by injection hq with hq; omega)
  clear cO ht hb1 hR
  go_wp2
  (try simp only [Exit.inBlock, Exit.then])
  refine bodyPost_ret (by simp [results, Tryz.results9, go_sem, x0, x1]; try rfl) rfl ?_
  exact ⟨_, _, _, _, _, _, rfl, fun h => (((HT.out h).set (by omega)).set (by omega)).base (by omega), HSET.out⟩

def n9 : List ByteArray := [⟨#[97]⟩, ⟨#[98]⟩, ⟨#[99]⟩, ⟨#[100]⟩, ⟨#[101]⟩, ⟨#[102]⟩, ⟨#[103]⟩, ⟨#[104]⟩, ⟨#[105]⟩]
def n8 : List ByteArray := [⟨#[104]⟩, ⟨#[103]⟩, ⟨#[102]⟩, ⟨#[101]⟩, ⟨#[100]⟩, ⟨#[99]⟩, ⟨#[98]⟩, ⟨#[97]⟩]
theorem k_n9 : ofChk n9 [] = 30 := by kernel_rfl
theorem k_n8 : ofChk n8 [] = 0 ∧ madeS n8 = [⟨#[97]⟩, ⟨#[98]⟩, ⟨#[99]⟩, ⟨#[100]⟩, ⟨#[101]⟩, ⟨#[102]⟩, ⟨#[103]⟩, ⟨#[104]⟩] := ⟨by kernel_rfl, by kernel_rfl⟩
theorem cap_lit {g k : Nat} : ∀ p n c, Value.slice (some ⟨g, 0, none⟩) k k = .slice p n c → n ≤ c := by
  intro p n c e
  injection e with _ e1 e2
  omega

set_option maxRecDepth 100000 in
set_option maxHeartbeats 4000000 in
theorem tnumbers_any (w : World) : Calls Tryz.prog 3 #[] w fun e w' => e = .returned (.bool true) ∧ Below w.heap.size w w' := by
  have C1 : Hid (∀ W : World, Calls Tryz.prog 9 #[.slice (some ⟨W.heap.size, 0, none⟩) 9 9] (W.alloc (.cells #[.string ⟨#[97]⟩, .string ⟨#[98]⟩, .string ⟨#[99]⟩, .string ⟨#[100]⟩, .string ⟨#[101]⟩, .string ⟨#[102]⟩, .string ⟨#[103]⟩, .string ⟨#[104]⟩, .string ⟨#[105]⟩] 9)) fun e w' => ∃ pa na ca pb nb cb, e = .returned (.tuple #[.agg #[.slice pa na ca, .slice pb nb cb], .int .i64 30]) ∧ Below W.heap.size W w') := fun W => by
    refine (empty_any (strs_litN W n9) cap_lit (by decide)).mono ?_
    rintro e w' ⟨pa, na, ca, pb, nb, cb, rfl, -, hb⟩
    have h0 : Below W.heap.size W (W.alloc (.cells (n9.map Value.string).toArray 9)) := (Below.refl _ _).alloc (Nat.le_refl _) _
    exact ⟨pa, na, ca, pb, nb, cb, by rw [k_n9], h0.trans (hb.mono h0.size)⟩
  have C2 : Hid (∀ W : World, Calls Tryz.prog 9 #[.slice (some ⟨W.heap.size, 0, none⟩) 8 8] (W.alloc (.cells #[.string ⟨#[104]⟩, .string ⟨#[103]⟩, .string ⟨#[102]⟩, .string ⟨#[101]⟩, .string ⟨#[100]⟩, .string ⟨#[99]⟩, .string ⟨#[98]⟩, .string ⟨#[97]⟩] 9)) fun e w' => ∃ g ca pb nb cb, e = .returned (.tuple #[.agg #[.slice (some ⟨g, 0, none⟩) 8 ca, .slice pb nb cb], .int .i64 0]) ∧ g < w'.heap.size ∧ w'.cell? ⟨g, 0, none⟩ = some (.string ⟨#[97]⟩) ∧ Below W.heap.size W w') := fun W => by
    refine (empty_any (strs_litN W n8) cap_lit (by decide)).mono ?_
    rintro e w' ⟨pa, na, ca, pb, nb, cb, rfl, h1, hb⟩
    have h0 : Below W.heap.size W (W.alloc (.cells (n8.map Value.string).toArray 9)) := (Below.refl _ _).alloc (Nat.le_refl _) _
    have ht := h1 k_n8.1
    rw [k_n8.2] at ht
    obtain ⟨a, b, us, e, o1, -⟩ := ht
    injection e with e
    have e1 : #[Value.slice pa na ca, Value.slice pb nb cb].toList = #[a, b].toList := by rw [e]
    injection e1 with e2 _
    subst e2
    obtain ⟨p, c, e3, hc⟩ := own_form o1
    obtain ⟨g, rfl, -, hg, hx⟩ := hc 0 (by decide)
    injection e3 with e4 e5 e6
    subst e4 e5 e6
    exact ⟨g, _, pb, nb, cb, by rw [k_n8.1]; rfl, hg, hx, h0.trans (hb.mono h0.size)⟩
  go_enter Tryz.func3, Tryz.ntmps3
  go_wp2_with fail
  refine (C1.out _).mono ?_
  rintro e w1 ⟨pa, na, ca, pb, nb, cb, rfl, hb1⟩
  clear C1
  go_upto_region 2 with fail
  refine wp_world ?_
  intro W1 hW1
  have K1 : Below w.heap.size w W1 := by
    have h : Below w1.heap.size w1 W1 := by rw [hW1]; go_grown
    exact hb1.trans (h.mono hb1.size)
  clear hW1 hb1
  generalize w1.heap.size = g1
  go_wp2_with fail
  refine (C2.out _).mono ?_
  rintro e w2 ⟨g, cg, pd, nd, cd, rfl, hg, hx, hb2⟩
  clear C2
  go_upto_region 3 with fail
  refine wp_world ?_
  intro W2 hW2
  have V2 : Hid (Var W2 w2.heap.size (.slice (some ⟨g, 0, none⟩) 8 cg) (.slice pd nd cd)) := by rw [hW2]; exact Var.made _ _ _
  have H2 : Below w2.heap.size w2 W2 := by rw [hW2]; go_grown
  have X2 : W2.cell? ⟨g, 0, none⟩ = some (.string ⟨#[97]⟩) := (H2.cell (p := ⟨g, 0, none⟩) hg).trans hx
  have G2 : g < W2.heap.size := Nat.lt_of_lt_of_le hg H2.size
  have K2 : Below w.heap.size w W2 := by
    have h := hb2.trans (H2.mono hb2.size)
    exact K1.trans (h.mono K1.size)
  generalize w2.heap.size = g3 at V2 ⊢
  clear hW2 hb2 H2 hx hg K1
  go_wp2_with fail
  refine (tlive_any _).mono ?_
  rintro e w3 ⟨rfl, hb3⟩
  have v0 := (V2.out.below hb3).c0
  have x3 : w3.cell? ⟨g, 0, none⟩ = some (.string ⟨#[97]⟩) := (hb3.cell (p := ⟨g, 0, none⟩) G2).trans X2
  have K3 : Below w.heap.size w w3 := K2.trans (hb3.mono K2.size)
  clear V2 X2 G2 hb3 K2
  go_wp2
  go_ret
  exact ⟨rfl, K3⟩

end Go.Proofs.YteipohpfaofchaaGreat

namespace Go.Proofs.YteipohpfaofchaaGreat
open Go.RowKit Go.Shelf Go.Sort
set_option linter.unusedVariables false

theorem own_cap {w : World} {B e size m : Nat} {v : Value} {xs : List Value} (h : w.ownsRow B e size v m xs) : ∀ p n c, v = .slice p n c → n ≤ c := by
  rcases h with ⟨-, ⟨rfl, -⟩ | ⟨g, cap, cur, rfl, -, -, hn, -⟩⟩
  · intro p n c e; injection e with _ e1 e2; omega
  · intro p n c e; injection e with _ e1 e2; omega
theorem tof_told {V R : Value} {vs : List ByteArray} {us : List Value} {rs : List (List Val)} {w : World} (hV : StrsAt w V vs) (hc : ∀ p n c, V = .slice p n c → n ≤ c) (hR : ValsAt w R us) (hrs : RowsOf w us rs) (fx : ∀ r ∈ rs, ∀ v ∈ r, v.Fits) (lr : ∀ r ∈ rs, r.length ≤ 9223372036854775807) (lv : vs.length ≤ 9223372036854775807) (lu : us.length ≤ 5864062014805) :
    Calls Tryz.prog 15 #[V, R] w (TellsT w.heap.size (ofChk vs rs) (madeS vs) (ofRows vs rs) w) := by
  refine (tof_any V R vs us rs w hV hc hR hrs fx lr lv lu).mono ?_
  rintro e w' ⟨t, rfl, h1, h2, hb⟩
  refine TellsT.of (fun h => (h1 h).spec (ofChk_nodup h) fun r hr => ?_) h2 hb
  unfold ofChk at h
  by_cases hc : vs.length ≤ 8 ∧ repB [] vs = false
  · rw [if_pos hc] at h
    obtain ⟨g1, g2⟩ := rowChk_ok (rowsE_ok h r hr)
    exact fun v hv => ⟨rowE_may g2 v hv, fx r hr v hv⟩
  · rw [if_neg hc] at h; cases h
set_option maxRecDepth 100000 in
set_option maxHeartbeats 2000000 in
theorem empty_told {V : Value} {vs : List ByteArray} {w : World} (hV : StrsAt w V vs) (hc : ∀ p n c, V = .slice p n c → n ≤ c) (lv : vs.length ≤ 9223372036854775807) :
    Calls Tryz.prog 9 #[V] w (TellsT w.heap.size (ofChk vs []) (madeS vs) (ofRows vs []) w) := by
  have cO : Hid (∀ W, Below w.heap.size w W → Calls Tryz.prog 15 #[V, .slice none 0 0] W (TellsT W.heap.size (ofChk vs []) (madeS vs) (ofRows vs []) W)) := fun W hW => tof_told (hV.below hW) hc (Or.inl ⟨0, rfl, rfl⟩) ⟨rfl, fun i h => absurd h (Nat.not_lt_zero _)⟩ (by simp) (by simp) lv (by decide)
  obtain ⟨p, c, rfl⟩ := hV.form
  obtain ⟨n, en⟩ : ∃ n, Hid (vs.length = n) := ⟨_, rfl⟩
  rw [en.out] at cO lv ⊢
  generalize ofChk vs [] = E at *
  clear hV hc
  go_enter Tryz.func9, Tryz.ntmps9
  go_wp2_with fail
  refine (cO.out _ (by go_grown)).mono ?_
  rintro e w1 ⟨pa, na, ca, pb, nb, cb, rfl, ht, hb1⟩
  have hR : w1.heap[w.heap.size]? = some (.cells #[.slice none 0 0, .slice none 0 0] 25 (0, 0)) := (hb1.block w.heap.size (by simp)).trans (heap_alloc _ _)
  have HT : Hid (TabO (w.heap.size + 1) E (madeS vs) (ofRows vs []) (.agg #[.slice pa na ca, .slice pb nb cb]) w1) := by
    rwa [show (w.alloc (.cells #[.slice none 0 0, .slice none 0 0] 25)).heap.size = w.heap.size + 1 by simp] at ht
  have K1 : Below w.heap.size w w1 := by
    obtain ⟨hw1, -⟩ := bg0 (n := w.heap.size) (W0 := w) (by go_grown) (by go_size) hb1
    exact hw1
  have r0 := cell_of_heap hR 0 rfl
  have r1 := cell_of_heap hR 1 rfl
  have f0 := frozen_of_heap hR 0
  have f1 := frozen_of_heap hR 1
  have x0 : (w1.setCell ⟨w.heap.size, 0, none⟩ (.slice pa na ca)).cell? ⟨w.heap.size, 0, none⟩ = some (.slice pa na ca) := set_same r0
  have x1 : ((w1.setCell ⟨w.heap.size, 0, none⟩ (.slice pa na ca)).setCell ⟨w.heap.size, 1, none⟩ (.slice pb nb cb)).cell? ⟨w.heap.size, 1, none⟩ = some (.slice pb nb cb) := set_same ((set_other (by simp)).trans r1)
  have HSET : Hid (Below w.heap.size w ((w1.setCell ⟨w.heap.size, 0, none⟩ (.slice pa na ca)).setCell ⟨w.heap.size, 1, none⟩ (.slice pb nb cb))) := by
    have b2 := K1.grown (grownBy_setCell w1 w.heap.size 0 (.slice pa na ca)) K1.size (fun q hq => by injection hq with hq; omega)
    exact b2.grown (grownBy_setCell _ w.heap.size 1 (.slice pb nb cb)) b2.size (fun q hq => by injection hq with hq; omega)
  clear cO ht hb1 hR
  go_wp2
  (try simp only [Exit.inBlock, Exit.then])
  refine bodyPost_ret (by simp [results, Tryz.results9, go_sem, x0, x1]; try rfl) rfl ?_
  exact ⟨_, _, _, _, _, _, rfl, OwnT.base (OwnT.set (OwnT.set HT.out (by omega)) (by omega)) (by omega), HSET.out⟩

/-- What a table and an error are that were told, in plain words. -/
theorem told_bounds {vs : List ByteArray} {rs : List (List Val)} {E : Int} (he : E = ofChk vs rs) (fx : ∀ r ∈ rs, ∀ v ∈ r, v.Fits) (lu : rs.length ≤ 5864062014805) :
    (∀ r ∈ (if E = 0 then ofRows vs rs else []), ∀ v ∈ r, v.Fits) ∧ (if E = 0 then madeS vs else []).length ≤ 9223372036854775807 ∧ (if E = 0 then ofRows vs rs else []).length ≤ 9223372036854775807 ∧ ∀ r ∈ (if E = 0 then ofRows vs rs else []), r.length ≤ 9223372036854775807 := by
  by_cases h : E = 0
  · rw [if_pos h, if_pos h]
    have h8 : vs.length ≤ 8 ∧ ∀ r ∈ rs, okR r := by
      rw [he] at h
      unfold ofChk at h
      by_cases hc : vs.length ≤ 8 ∧ repB [] vs = false
      · rw [if_pos hc] at h
        exact ⟨hc.1, fun r hr => by
          obtain ⟨g1, g2⟩ := rowChk_ok (rowsE_ok h r hr)
          exact fun v hv => ⟨rowE_may g2 v hv, fx r hr v hv⟩⟩
      · rw [if_neg hc] at h; cases h
    have hm : ∀ r ∈ ofRows vs rs, ∃ x ∈ rs, r = picks x (colsAt vs (madeS vs)) := fun r hr => by
      have := (mem_madeR (fun y hy => by
        obtain ⟨z, hz, rfl⟩ := List.mem_map.1 hy
        exact (h8.2 z hz).picks _) r).1 hr
      obtain ⟨x, hx, e⟩ := List.mem_map.1 this
      exact ⟨x, hx, e.symm⟩
    refine ⟨fun r hr v hv => ?_, by rw [madeS_len]; omega, ?_, fun r hr => ?_⟩
    · obtain ⟨x, hx, rfl⟩ := hm r hr
      exact (((h8.2 x hx).picks _) v hv).2
    · have h1 := madeR_len (rs.map fun r => picks r (colsAt vs (madeS vs)))
      rw [List.length_map] at h1
      show (madeR _).length ≤ _
      omega
    · obtain ⟨x, hx, rfl⟩ := hm r hr
      have h3 : (picks x (colsAt vs (madeS vs))).length ≤ (colsAt vs (madeS vs)).length := List.length_filterMap_le _ _
      have h4 : (colsAt vs (madeS vs)).length = vs.length := by unfold colsAt; rw [List.length_map, madeS_len]
      omega
  · rw [if_neg h, if_neg h]
    simp

set_option maxRecDepth 100000 in
set_option maxHeartbeats 8000000 in
theorem tmakes_any {V R : Value} {vs : List ByteArray} {us : List Value} {xs : List (List Val)} (w : World) (hV : StrsAt w V vs) (hc : ∀ p n c, V = .slice p n c → n ≤ c) (lv : vs.length ≤ 9223372036854775807) (hR : ValsAt w R us) (hrs : RowsOf w us xs) (fx : ∀ r ∈ xs, ∀ v ∈ r, v.Fits) (sx : ∀ r ∈ xs, r.length ≤ 9223372036854775807)
    (bv : vs.length * 16 ≤ 140737488355328) (bx : xs.length * 24 ≤ 140737488355328) (bs : ∀ r ∈ xs, r.length * 40 ≤ 140737488355328) :
    Calls Tryz.prog 5 #[V, R] w fun e w' => e = .returned (.bool true) ∧ Below w.heap.size w w' := by
  have hA : TabRows w R xs := tab_of_vals hR hrs
  have lu : us.length ≤ 5864062014805 := by have := hrs.1; omega
  have lx : xs.length ≤ 5864062014805 := by omega
  obtain ⟨E, eE⟩ : ∃ E : Int, Hid (ofChk vs xs = E) := ⟨_, rfl⟩
  obtain ⟨D, eD⟩ : ∃ D : Int, Hid (ofChk vs [] = D) := ⟨_, rfl⟩
  have c1 : Hid (∀ W : World, Below w.heap.size w W → Calls Tryz.prog 11 #[.agg #[V, R]] W fun e w' => ∃ pa na ca pb nb cb, e = .returned (.agg #[.slice pa na ca, .slice pb nb cb]) ∧ OwnT W.heap.size (.agg #[.slice pa na ca, .slice pb nb cb]) vs xs w' ∧ Below W.heap.size W w') := fun W hW => copied_two (hV.below hW) (hA.below hW) bv bx bs
  have c2 : Hid (∀ W : World, Below w.heap.size w W → Calls Tryz.prog 15 #[V, R] W (TellsT W.heap.size E (madeS vs) (ofRows vs xs) W)) := fun W hW => by
    have h := tof_told (hV.below hW) hc (hR.below hW) (hrs.below hW) fx sx lv lu
    rwa [eE.out] at h
  have c3 : Hid (∀ (W : World) (U Q : Value), OwnT w.heap.size (.agg #[U, Q]) vs xs W → Calls Tryz.prog 16 #[U, Q] W (TellsT W.heap.size E (madeS vs) (ofRows vs xs) W)) := fun W U Q h1 => by
    obtain ⟨g1, g2⟩ := own_two h1
    obtain ⟨a, b, zs, e, h2, -, -⟩ := h1
    injection e with e
    injection e with e
    simp only [List.cons.injEq, and_true] at e
    obtain ⟨rfl, rfl⟩ := e
    have h := dof_told g1 (own_cap h2) g2 fx sx lv lx
    rwa [eE.out] at h
  have c4 : Hid (∀ (W : World) (B B' : Nat) (t u : Value), TabO B E (madeS vs) (ofRows vs xs) t W → TabO B' E (madeS vs) (ofRows vs xs) u W → B ≤ W.heap.size → Calls Tryz.prog 17 #[t, .int .i64 E, u, .int .i64 E] W fun e w' => e = .returned (.bool true) ∧ Below B W w') := fun W B B' t u h1 h2 hB => by
    obtain ⟨g1, g2, g3, g4⟩ := told_bounds eE.out.symm fx lx
    exact is_any h1 h2 hB g1 g2 g3 g4
  have c5 : Hid (∀ (W : World) (U Q : Value), Below w.heap.size w W → StrsAt W U vs → TabRows W Q xs → Calls Tryz.prog 14 #[.agg #[V, R], .agg #[U, Q]] W fun e w' => e = .returned (.bool true) ∧ Below W.heap.size W w') := fun W U Q hW h1 h2 => by
    have h := dsame_any (hV.below hW) h1 (hA.below hW) h2 lv lv fx fx sx (by omega) (by omega)
    rw [rowsS_refl, show decide (vs = vs) = true by simp] at h
    exact h
  have c6 : Hid (∀ W : World, Below w.heap.size w W → Calls Tryz.prog 9 #[V] W (TellsT W.heap.size D (madeS vs) (ofRows vs []) W)) := fun W hW => by
    have h := empty_told (hV.below hW) hc lv
    rwa [eD.out] at h
  have c7 : Hid (∀ (W : World) (U : Value), OwnS w.heap.size U vs W → Calls Tryz.prog 18 #[U] W (TellsT W.heap.size D (madeS vs) (ofRows vs []) W)) := fun W U h1 => by
    have h := dempty_any (OwnS.strs h1) (own_cap h1) lv
    rwa [eD.out] at h
  have c8 : Hid (∀ (W : World) (B B' : Nat) (t u : Value), TabO B D (madeS vs) (ofRows vs []) t W → TabO B' D (madeS vs) (ofRows vs []) u W → B ≤ W.heap.size → Calls Tryz.prog 17 #[t, .int .i64 D, u, .int .i64 D] W fun e w' => e = .returned (.bool true) ∧ Below B W w') := fun W B B' t u h1 h2 hB => by
    obtain ⟨g1, g2, g3, g4⟩ := told_bounds eD.out.symm (rs := []) (by simp) (by decide)
    exact is_any h1 h2 hB g1 g2 g3 g4
  obtain ⟨p1, k1, eV⟩ := hV.form
  obtain ⟨p3, k3, eR, -⟩ := hA.form
  subst eV eR
  obtain ⟨m1, em1⟩ : ∃ m1, Hid (vs.length = m1) := ⟨_, rfl⟩
  obtain ⟨m3, em3⟩ : ∃ m3, Hid (xs.length = m3) := ⟨_, rfl⟩
  rw [em1.out] at c1 c2 c5 c6 ⊢
  rw [em3.out] at c1 c2 c5 ⊢
  clear hV hA hR hrs fx sx eE eD bv bx bs lv lx lu hc
  go_enter Tryz.func5, Tryz.ntmps5
  go_wp2_with fail
  refine (c1.out _ (by go_grown)).mono ?_
  rintro e w1 ⟨pa, na, ca, pb, nb, cb, rfl, ht, K1⟩
  have HC : Hid (OwnT w.heap.size (.agg #[.slice pa na ca, .slice pb nb cb]) vs xs w1) := ht
  clear c1 ht
  go_upto_region 2 with fail
  refine wp_world ?_
  intro W1 hW1
  have H1 : Below w1.heap.size w1 W1 := by rw [hW1]; go_grown
  have VI1 : Hid (Var W1 w1.heap.size (.slice pa na ca) (.slice pb nb cb)) := by rw [hW1]; exact Var.made _ _ _
  clear hW1
  have HC1 : Hid (OwnT w.heap.size (.agg #[.slice pa na ca, .slice pb nb cb]) vs xs W1) := HC.out.grown H1
  have KK1 : Below w.heap.size w W1 := K1.trans (H1.mono K1.size)
  obtain ⟨g1, eg1⟩ : ∃ g1, Hid (w1.heap.size = g1) := ⟨_, rfl⟩
  have hg1 : g1 < W1.heap.size := by rw [← eg1.out]; exact (Array.getElem?_eq_some_iff.1 VI1.out).1
  rw [eg1.out] at VI1 ⊢
  clear HC H1 K1
  go_wp2_with fail
  refine (c2.out _ (by exact KK1)).mono ?_
  rintro e w2 ⟨qa, ja, da, qb, jb, db, rfl, ht, hb2⟩
  have HT : Hid (TabO W1.heap.size E (madeS vs) (ofRows vs xs) (.agg #[.slice qa ja da, .slice qb jb db]) w2) := ht
  clear ht c2
  go_upto_region 3 with fail
  refine wp_world ?_
  intro W2 hW2
  have H2 : Below w2.heap.size w2 W2 := by rw [hW2]; go_grown
  have VT2 : Hid (Var W2 w2.heap.size (.slice qa ja da) (.slice qb jb db)) := by rw [hW2]; exact Var.made _ _ _
  clear hW2
  have L2 : Below W1.heap.size W1 W2 := hb2.trans (H2.mono hb2.size)
  have HT2 : Hid (TabO W1.heap.size E (madeS vs) (ofRows vs xs) (.agg #[.slice qa ja da, .slice qb jb db]) W2) := HT.out.grown H2
  obtain ⟨g2, eg2⟩ : ∃ g2, Hid (w2.heap.size = g2) := ⟨_, rfl⟩
  rw [eg2.out] at VT2 ⊢
  have VI2 : Hid (Var W2 g1 (.slice pa na ca) (.slice pb nb cb)) := VI1.out.below L2
  have HC2 : Hid (OwnT w.heap.size (.agg #[.slice pa na ca, .slice pb nb cb]) vs xs W2) := HC1.out.grown L2
  clear HT H2 hb2
  have b0 := VI2.out.c0
  have b1 := VI2.out.c1
  go_wp2_with fail
  refine (c3.out _ _ _ HC2.out).mono ?_
  rintro e w3 ⟨sa, ia, fa, sb, ib, fb, rfl, ht, hb3⟩
  have HW : Hid (TabO W2.heap.size E (madeS vs) (ofRows vs xs) (.agg #[.slice sa ia fa, .slice sb ib fb]) w3) := ht
  clear ht c3 b0 b1
  go_upto_region 4 with fail
  refine wp_world ?_
  intro W3 hW3
  have H3 : Below w3.heap.size w3 W3 := by rw [hW3]; go_grown
  have VW3 : Hid (Var W3 w3.heap.size (.slice sa ia fa) (.slice sb ib fb)) := by rw [hW3]; exact Var.made _ _ _
  clear hW3
  have L3 : Below W2.heap.size W2 W3 := hb3.trans (H3.mono hb3.size)
  have HW3 : Hid (TabO W2.heap.size E (madeS vs) (ofRows vs xs) (.agg #[.slice sa ia fa, .slice sb ib fb]) W3) := HW.out.grown H3
  obtain ⟨g3, eg3⟩ : ∃ g3, Hid (w3.heap.size = g3) := ⟨_, rfl⟩
  rw [eg3.out] at VW3 ⊢
  have VT3 : Hid (Var W3 g2 (.slice qa ja da) (.slice qb jb db)) := VT2.out.below L3
  have HT3 : Hid (TabO W1.heap.size E (madeS vs) (ofRows vs xs) (.agg #[.slice qa ja da, .slice qb jb db]) W3) := HT2.out.grown L3
  have M3 : Below W1.heap.size W1 W3 := L2.trans (L3.mono L2.size)
  clear HW H3 hb3 HT2 VT2 VI2 HC2 L2 L3
  have t0 := VT3.out.c0
  have t1 := VT3.out.c1
  have u0 := VW3.out.c0
  have u1 := VW3.out.c1
  go_wp2_with fail
  refine (c4.out _ _ _ _ _ HT3.out HW3.out M3.size).mono ?_
  rintro e w4 ⟨rfl, hb4⟩
  have M4 : Below W1.heap.size W1 w4 := M3.trans hb4
  have K4 : Below w.heap.size w w4 := KK1.trans (M4.mono KK1.size)
  have VI4 : Hid (Var w4 g1 (.slice pa na ca) (.slice pb nb cb)) := VI1.out.below M4
  have HC4 : Hid (OwnT w.heap.size (.agg #[.slice pa na ca, .slice pb nb cb]) vs xs w4) := HC1.out.grown M4
  clear t0 t1 u0 u1 hb4 M3 HT3 HW3 VT3 VW3 VI1 HC1 KK1 c4 M4 hg1
  have b0 := VI4.out.c0
  have b1 := VI4.out.c1
  go_wp2_with fail
  refine (c5.out _ _ _ K4 (own_two HC4.out).1 (own_two HC4.out).2).mono ?_
  rintro e w5 ⟨rfl, hb5⟩
  have K5 : Below w.heap.size w w5 := K4.trans (hb5.mono K4.size)
  have VI5 : Hid (Var w5 g1 (.slice pa na ca) (.slice pb nb cb)) := VI4.out.below hb5
  have HC5 : Hid (OwnT w.heap.size (.agg #[.slice pa na ca, .slice pb nb cb]) vs xs w5) := HC4.out.grown hb5
  clear b0 b1 hb5 VI4 HC4 c5 K4
  go_wp2_with fail
  refine (c6.out _ (by exact K5)).mono ?_
  rintro e w6 ⟨xa, ya, za, xb, yb, zb, rfl, ht, hb6⟩
  have HE : Hid (TabO w5.heap.size D (madeS vs) (ofRows vs []) (.agg #[.slice xa ya za, .slice xb yb zb]) w6) := ht
  clear ht c6
  go_upto_region 7 with fail
  refine wp_world ?_
  intro W6 hW6
  have H6 : Below w6.heap.size w6 W6 := by rw [hW6]; go_grown
  have VE6 : Hid (Var W6 w6.heap.size (.slice xa ya za) (.slice xb yb zb)) := by rw [hW6]; exact Var.made _ _ _
  clear hW6
  have L6 : Below w5.heap.size w5 W6 := hb6.trans (H6.mono hb6.size)
  have HE6 : Hid (TabO w5.heap.size D (madeS vs) (ofRows vs []) (.agg #[.slice xa ya za, .slice xb yb zb]) W6) := HE.out.grown H6
  obtain ⟨g6, eg6⟩ : ∃ g6, Hid (w6.heap.size = g6) := ⟨_, rfl⟩
  rw [eg6.out] at VE6 ⊢
  have VI6 : Hid (Var W6 g1 (.slice pa na ca) (.slice pb nb cb)) := VI5.out.below L6
  have HC6 : Hid (OwnS w.heap.size (.slice pa na ca) vs W6) := by
    obtain ⟨a, b, zs, e, h2, -, -⟩ := HC5.out.grown L6
    injection e with e
    injection e with e
    simp only [List.cons.injEq, and_true] at e
    rw [e.1]
    exact h2
  have K6 : Below w.heap.size w W6 := K5.trans (L6.mono K5.size)
  have sz6 : w5.heap.size ≤ W6.heap.size := L6.size
  have sz5 : w.heap.size ≤ w5.heap.size := K5.size
  clear HE H6 hb6 L6 VI5 HC5 K5
  have b0 := VI6.out.c0
  go_wp2_with fail
  refine (c7.out _ _ HC6.out).mono ?_
  rintro e w7 ⟨oa, ra, la, ob, rb, lb, rfl, ht, hb7⟩
  have HN : Hid (TabO W6.heap.size D (madeS vs) (ofRows vs []) (.agg #[.slice oa ra la, .slice ob rb lb]) w7) := ht
  clear ht c7 b0
  go_upto_region 8 with fail
  refine wp_world ?_
  intro W7 hW7
  have H7 : Below w7.heap.size w7 W7 := by rw [hW7]; go_grown
  have VN7 : Hid (Var W7 w7.heap.size (.slice oa ra la) (.slice ob rb lb)) := by rw [hW7]; exact Var.made _ _ _
  clear hW7
  have L7 : Below W6.heap.size W6 W7 := hb7.trans (H7.mono hb7.size)
  have HN7 : Hid (TabO W6.heap.size D (madeS vs) (ofRows vs []) (.agg #[.slice oa ra la, .slice ob rb lb]) W7) := HN.out.grown H7
  obtain ⟨g7, eg7⟩ : ∃ g7, Hid (w7.heap.size = g7) := ⟨_, rfl⟩
  rw [eg7.out] at VN7 ⊢
  have VE7 : Hid (Var W7 g6 (.slice xa ya za) (.slice xb yb zb)) := VE6.out.below L7
  have HE7 : Hid (TabO w5.heap.size D (madeS vs) (ofRows vs []) (.agg #[.slice xa ya za, .slice xb yb zb]) W7) := HE6.out.grown L7
  have K7 : Below w.heap.size w W7 := K6.trans (L7.mono K6.size)
  have sz7 : w5.heap.size ≤ W7.heap.size := Nat.le_trans sz6 L7.size
  clear HN H7 hb7 L7 VE6 HE6 K6 VI6 HC6
  go_wp2_with fail
  refine (tlive_any _).mono ?_
  rintro e w8 ⟨rfl, hb8⟩
  have K8 : Below w.heap.size w w8 := K7.trans (hb8.mono K7.size)
  have VE8 : Hid (Var w8 g6 (.slice xa ya za) (.slice xb yb zb)) := VE7.out.below hb8
  have VN8 : Hid (Var w8 g7 (.slice oa ra la) (.slice ob rb lb)) := VN7.out.below hb8
  have HE8 : Hid (TabO w5.heap.size D (madeS vs) (ofRows vs []) (.agg #[.slice xa ya za, .slice xb yb zb]) w8) := HE7.out.grown hb8
  have HN8 : Hid (TabO W6.heap.size D (madeS vs) (ofRows vs []) (.agg #[.slice oa ra la, .slice ob rb lb]) w8) := HN7.out.grown hb8
  have sz8 : w5.heap.size ≤ w8.heap.size := Nat.le_trans sz7 hb8.size
  clear hb8 VE7 VN7 HE7 HN7 K7
  have t0 := VE8.out.c0
  have t1 := VE8.out.c1
  have u0 := VN8.out.c0
  have u1 := VN8.out.c1
  go_wp2_with fail
  refine (c8.out _ _ _ _ _ HE8.out HN8.out sz8).mono ?_
  rintro e w9 ⟨rfl, hb9⟩
  have K9 : Below w.heap.size w w9 := K8.trans (hb9.mono sz5)
  clear hb9 K8 HE8 HN8 VE8 VN8 t0 t1 u0 u1 c8
  go_wp2
  go_ret
  exact ⟨rfl, K9⟩

end Go.Proofs.YteipohpfaofchaaGreat

namespace Go.Proofs.YteipohpfaofchaaGreat
open Go.Joins Go.ChangeShapes Go.WideShapes Go.ChangeAt Go.RowKit Go.Deep
set_option linter.unusedVariables false
set_option maxRecDepth 100000

theorem wAll_mem {H : Type} {P : Program} {e : TypeId} : ∀ {l : List (DataW H)} {d : DataW H} {k : Nat}, d ∈ l → k ∈ d.weights P e → k ∈ DataW.weightsAll P e l
  | [], _, _, h, _ => by cases h
  | x :: l, d, k, h, hk => by
    rw [DataW.weightsAll]
    rcases List.mem_cons.1 h with rfl | h
    · exact List.mem_append_left _ hk
    · exact List.mem_append_right _ (wAll_mem h hk)
theorem bytesStr : Tryz.prog.bytesOf 9 = 16 := by kernel_rfl
theorem bytesRow : Tryz.prog.bytesOf 37 = 24 := by kernel_rfl
theorem bytesVal2 : Tryz.prog.bytesOf 47 = 40 := by kernel_rfl
/-- No part of it weighs more than a call may hold. -/
def Light {H : Type} (t : TypeId) (d : DataW H) : Prop := ∀ k ∈ d.weights Tryz.prog t, k ≤ 140737488355328

theorem opens_strs {H : Type} {enc : TypeId × Value → H} {w : World} {sp : Nat → Bool} {held : Bool} {n : Nat} {v : Value} {x : DataW H × List MemPlace} (h : DataW.trod enc Tryz.prog w 0 sp held n 22 [v] = some x) (hlt : ∀ y ∈ x.2, y.block < w.heap.size) :
    ∃ vs : List ByteArray, StrsAt w v vs ∧ vs.length ≤ 9223372036854775807 ∧ (∀ p n c, v = .slice p n c → n ≤ c) ∧ (Light 22 x.1 → vs.length * 16 ≤ 140737488355328) := by
  rcases open_slice1 Tryz.underlying22 (by kernel_rfl) h with ⟨hcs, hx⟩ | ⟨a, len, cap, m, n', V, D, Pl, hcs, hb, hl, hm, em, hx, he⟩
  · injection hcs with hcs
    subst hcs
    exact ⟨[], ⟨none, 0, rfl, Or.inl rfl⟩, by simp, (fun p n c e => by injection e with _ e1 e2; omega), fun _ => by simp⟩
  · injection hcs with hcs
    subst hcs hx
    have hlm : len ≤ m := by rw [em]; split <;> omega
    have each : ∀ i, i < len → ∃ s : ByteArray, w.cell? (a.add i) = some (.string s) := fun i hi => by
      obtain ⟨h1, h2⟩ := he i (by omega)
      obtain ⟨s, e3, _, _⟩ := DataW.trod_string Tryz.underlying9 h2
      injection e3 with e3
      exact ⟨s, e3 ▸ h1⟩
    obtain ⟨f, hf⟩ := choose_lt each
    refine ⟨(List.range len).map f, ⟨some a, cap, by simp, ?_⟩, by simp; unfold maxLen at hm; omega, (fun p n c e => by injection e with _ e1 e2; omega), (fun hL => by
      have h := hL ((((List.range len).map D).length + ((List.range (m - len)).map fun j => D (len + j)).length) * Tryz.prog.bytesOf 9) (by simp only [DataW.weights, Tryz.underlying22]; exact List.mem_cons_self)
      rw [bytesStr] at h
      simp only [List.length_map, List.length_range] at h ⊢
      omega)⟩
    by_cases h0 : len = 0
    · exact Or.inl (by simp [h0])
    · right
      obtain ⟨b, off, spot⟩ := a
      have hspot : spot = none := by simpa [Addr.add] using World.cell?_spot (hf 0 (by omega))
      subst hspot
      refine ⟨b, off, rfl, hlt (.cell b off) (List.mem_append_left _ (row_mem (s := none) (by omega))), ?_⟩
      intro i hi
      have hi' : i < len := by simpa using hi
      have c0 := hf i hi'
      simp only [add_plain] at c0
      simpa using c0

theorem opens_vrow {H : Type} {enc : TypeId × Value → H} {w : World} {sp : Nat → Bool} {held : Bool} {n : Nat} {v : Value} {x : DataW H × List MemPlace} (h : DataW.trod enc Tryz.prog w 0 sp held n 37 [v] = some x) (hlt : ∀ y ∈ x.2, y.block < w.heap.size) :
    ∃ xs : List Val, RowAt w v xs ∧ (∀ y ∈ xs, y.Fits) ∧ xs.length ≤ 9223372036854775807 ∧ (∀ p n c, v = .slice p n c → n ≤ c) ∧ (Light 37 x.1 → xs.length * 40 ≤ 140737488355328) := by
  rcases open_slice Tryz.underlying37 h with ⟨hcs, hx⟩ | ⟨a, len, cap, m, n', D, Pl, hcs, hb, hl, hm, em, hx, he⟩
  · injection hcs with hcs
    subst hcs
    exact ⟨[], ⟨none, 0, rfl, Or.inl rfl⟩, by simp, by simp, (fun p n c e => by injection e with _ e1 e2; omega), fun _ => by simp⟩
  · injection hcs with hcs
    subst hcs hx
    have hlm : len ≤ m := by rw [em]; split <;> omega
    have each : ∀ i, i < len → ∃ X : Val, X.Fits ∧ w.cell? ((a.add (i * 4)).add 0) = some (.int .i64 X.k) ∧ w.cell? ((a.add (i * 4)).add 1) = some (.int .i64 X.n) ∧ w.cell? ((a.add (i * 4)).add 2) = some (.int .i64 X.d) ∧ w.cell? ((a.add (i * 4)).add 3) = some (.string X.s) := fun i hi => by
      obtain ⟨cs, h1, h2⟩ := he i (by omega)
      rw [cellsVal] at h1
      exact open_val h1 h2
    obtain ⟨f, hf⟩ := choose_lt each
    refine ⟨(List.range len).map f, ⟨some a, cap, by simp, ?_⟩, ?_, by simp; unfold maxLen at hm; omega, (fun p n c e => by injection e with _ e1 e2; omega), (fun hL => by
      have h := hL ((((List.range len).map D).length + ((List.range (m - len)).map fun j => D (len + j)).length) * Tryz.prog.bytesOf 47) (by simp only [DataW.weights, Tryz.underlying37]; exact List.mem_cons_self)
      rw [bytesVal2] at h
      simp only [List.length_map, List.length_range] at h ⊢
      omega)⟩
    · by_cases h0 : len = 0
      · exact Or.inl (by simp [h0])
      · right
        obtain ⟨b, off, spot⟩ := a
        have hspot : spot = none := by simpa [Addr.add] using World.cell?_spot (hf 0 (by omega)).2.1
        subst hspot
        refine ⟨b, off, rfl, hlt (.cell b off) (List.mem_append_left _ (row_mem (s := none) (by rw [cellsVal]; omega))), ?_⟩
        intro i hi
        have hi' : i < len := by simpa using hi
        obtain ⟨_, c0, c1, c2, c3⟩ := hf i hi'
        simp only [add_plain, Nat.add_zero] at c0 c1 c2 c3
        simp only [List.getElem_map, List.getElem_range]
        exact ⟨c0, c1, c2, c3⟩
    · intro y hy
      simp at hy
      obtain ⟨i, hi, rfl⟩ := hy
      exact (hf i hi).1

theorem opens_rows {H : Type} {enc : TypeId × Value → H} {w : World} {sp : Nat → Bool} {held : Bool} {n : Nat} {v : Value} {x : DataW H × List MemPlace} (h : DataW.trod enc Tryz.prog w 0 sp held n 23 [v] = some x) (hlt : ∀ y ∈ x.2, y.block < w.heap.size) :
    ∃ rs : List (List Val), TabRows w v rs ∧ (∀ r ∈ rs, ∀ y ∈ r, y.Fits) ∧ (∀ r ∈ rs, r.length ≤ 9223372036854775807) ∧ rs.length ≤ 9223372036854775807 ∧ (∀ p n c, v = .slice p n c → n ≤ c) ∧ (Light 23 x.1 → rs.length * 24 ≤ 140737488355328 ∧ ∀ r ∈ rs, r.length * 40 ≤ 140737488355328) := by
  rcases open_slice1 Tryz.underlying23 (by kernel_rfl) h with ⟨hcs, hx⟩ | ⟨a, len, cap, m, n', V, D, Pl, hcs, hb, hl, hm, em, hx, he⟩
  · injection hcs with hcs
    subst hcs
    exact ⟨[], ⟨none, 0, rfl, Or.inl rfl⟩, by simp, by simp, by simp, (fun p n c e => by injection e with _ e1 e2; omega), fun _ => ⟨by simp, by simp⟩⟩
  · injection hcs with hcs
    subst hcs hx
    have hlm : len ≤ m := by rw [em]; split <;> omega
    have each : ∀ i, i < len → ∃ xs : List Val, w.cell? (a.add i) = some (V i) ∧ RowAt w (V i) xs ∧ (∀ y ∈ xs, y.Fits) ∧ xs.length ≤ 9223372036854775807 ∧ (Light 37 (D i) → xs.length * 40 ≤ 140737488355328) := fun i hi => by
      obtain ⟨h1, h2⟩ := he i (by omega)
      obtain ⟨xs, r1, r2, r3, _, r5⟩ := opens_vrow h2 (fun y hy => hlt y (List.mem_append_right _ (List.mem_flatMap.2 ⟨i, by simp; omega, hy⟩)))
      exact ⟨xs, h1, r1, r2, r3, r5⟩
    obtain ⟨f, hf⟩ := choose_lt each
    refine ⟨(List.range len).map f, ⟨some a, cap, by simp, ?_⟩, ?_, ?_, by simp; unfold maxLen at hm; omega, (fun p n c e => by injection e with _ e1 e2; omega), (fun hL => ⟨by
      have h := hL ((((List.range len).map D).length + ((List.range (m - len)).map fun j => D (len + j)).length) * Tryz.prog.bytesOf 37) (by simp only [DataW.weights, Tryz.underlying23]; exact List.mem_cons_self)
      rw [bytesRow] at h
      simp only [List.length_map, List.length_range] at h ⊢
      omega, fun r hr => by
      simp at hr
      obtain ⟨i, hi, rfl⟩ := hr
      refine (hf i hi).2.2.2.2 (fun k hk => hL k ?_)
      simp only [DataW.weights, Tryz.underlying23]
      exact List.mem_cons_of_mem _ (List.mem_append_left _ (wAll_mem (List.mem_map.2 ⟨i, by simpa using hi, rfl⟩) hk))⟩)⟩
    · by_cases h0 : len = 0
      · exact Or.inl (by simp [h0])
      · right
        obtain ⟨b, off, spot⟩ := a
        have hspot : spot = none := by simpa [Addr.add] using World.cell?_spot (hf 0 (by omega)).1
        subst hspot
        refine ⟨b, off, rfl, hlt (.cell b off) (List.mem_append_left _ (row_mem (s := none) (by omega))), ?_⟩
        intro i hi
        have hi' : i < len := by simpa using hi
        obtain ⟨c0, c1, _⟩ := hf i hi'
        simp only [add_plain] at c0
        refine ⟨_, c0, ?_⟩
        simpa using c1
    · intro r hr
      simp at hr
      obtain ⟨i, hi, rfl⟩ := hr
      exact (hf i hi).2.2.1
    · intro r hr
      simp at hr
      obtain ⟨i, hi, rfl⟩ := hr
      exact (hf i hi).2.2.2.1

theorem opens_tab {H : Type} {enc : TypeId × Value → H} {W : World} {r : Reach} {b0 : Nat} {v : Value} {d : DataW H} {p : List MemPlace} (hv : Value.okWide Tryz.prog W r b0 25 v) (h : DataW.Trod enc Tryz.prog W 0 (fun _ => true) true 25 v d p) (hlt : ∀ y ∈ p, y.block < W.heap.size) :
    ∃ V R vs rs, v = .agg #[V, R] ∧ StrsAt W V vs ∧ vs.length ≤ 9223372036854775807 ∧ (∀ p n c, V = .slice p n c → n ≤ c) ∧ TabRows W R rs ∧ (∀ r ∈ rs, ∀ y ∈ r, y.Fits) ∧ (∀ r ∈ rs, r.length ≤ 9223372036854775807) ∧ rs.length ≤ 9223372036854775807 ∧ (∀ p n c, R = .slice p n c → n ≤ c) ∧ (Light 25 d → vs.length * 16 ≤ 140737488355328 ∧ rs.length * 24 ≤ 140737488355328 ∧ ∀ r ∈ rs, r.length * 40 ≤ 140737488355328) := by
  obtain ⟨V, R, y0, y1, n, rfl, ed, rfl, h0, h1⟩ := open_agg2 Tryz.underlying25 (by kernel_rfl) (by kernel_rfl) hv h
  obtain ⟨vs, a1, a2, a3, a4⟩ := opens_strs h0 (fun y hy => hlt y (List.mem_append_left _ hy))
  obtain ⟨rs, c1, c2, c3, c4, c5, c6⟩ := opens_rows h1 (fun y hy => hlt y (List.mem_append_right _ hy))
  refine ⟨V, R, vs, rs, rfl, a1, a2, a3, c1, c2, c3, c4, c5, fun hL => ?_⟩
  rw [ed] at hL
  have e : DataW.weights Tryz.prog 25 (.agg [y0.1, y1.1]) = y0.1.weights Tryz.prog 22 ++ (y1.1.weights Tryz.prog 23 ++ []) := by
    simp only [DataW.weights, Tryz.underlying25]
    rfl
  have h1' := c6 (fun k hk => hL k (by rw [e]; exact List.mem_append_right _ (List.mem_append_left _ hk)))
  exact ⟨a4 (fun k hk => hL k (by rw [e]; exact List.mem_append_left _ hk)), h1'⟩

end Go.Proofs.YteipohpfaofchaaGreat
