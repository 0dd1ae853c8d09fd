/- Every text is cut into just the document's tokens: the walk of LexTokens. -/
import Derived.Test.YtmegombglkcccaaGreatDoorZ05
import Derived.OwnWalk
import Derived.Laws.OwnMore
import Derived.Deep.RegionLaw
import Derived.KernelRfl
import Derived.Test.YtmegombglkcccaaGreatDoorZ07
import Derived.Deep.RegionHeld3

namespace Go.Proofs.YtmegombglkcccaaGreatDoor
open Go.RowKit Go.Shelf LX
set_option linter.unusedVariables false

theorem own_bel7 {w w' : World} {B e size n : Nat} {v : Value} {xs : List Value} (h : w.ownsRow B e size v n xs) (hb : Below w.heap.size w w') : w'.ownsRow B e size v n xs :=
  World.ownsRow.kept h (row := none) ⟨hb.os, hb.tape, hb.output, hb.size, fun k hk _ => hb.block k hk⟩ (by cases hv : v.ownBlock with | none => exact Or.inl rfl | some k => exact Or.inr (by intro h; cases h))
theorem grownBy_setCell (w : World) (b i : Nat) (v : Value) : w.grownBy (w.setCell ⟨b, i, none⟩ v) (some b) :=
  ⟨rfl, rfl, rfl, by simp [World.setCell], fun k _ hk => Below.heap_setCell _ _ _ _ (fun e => hk (by simp [e]))⟩
theorem own_set {w : World} {B e size n T j : Nat} {v u : Value} {xs : List Value} (h : w.ownsRow B e size v n xs) (hT : T < B) : (w.setCell ⟨T, j, none⟩ u).ownsRow B e size v n xs := by
  refine World.ownsRow.kept h (grownBy_setCell w T j u) ?_
  by_cases hv : v.ownBlock = none
  · exact Or.inl hv
  · refine Or.inr fun e => ?_
    have := (World.ownsRow.lt h T e).1
    omega
/-- The cells of a token. -/
def tcells (t : Tok Val) : List Value := [.int .i64 t.k, .int .i64 t.at_, .string ⟨t.x.toArray⟩, .int .i64 t.v.k, .int .i64 t.v.n, .int .i64 t.v.d, .string t.v.s]
def flatT (L : List (Tok Val)) : List Value := L.flatMap tcells
theorem flatT_len (L : List (Tok Val)) : (flatT L).length = L.length * 7 := by
  induction L with
  | nil => rfl
  | cons t L ih => simp only [flatT, List.flatMap_cons, List.length_append] at ih ⊢; rw [ih]; simp [tcells]; omega
theorem flatT_more (L : List (Tok Val)) (t : Tok Val) : flatT L ++ tcells t = flatT (L ++ [t]) := by simp [flatT]
/-- A slice of tokens of the call's own. -/
def OwnT7 (B : Nat) (v : Value) (L : List (Tok Val)) (w : World) : Prop := w.ownsRow B 33 7 v L.length (flatT L)
theorem inT : (Tryz.prog.info? 33).map (fun i => (i.zero, i.size, i.bytes)) = some (some (.agg #[.int .i64 0, .int .i64 0, .string ⟨#[]⟩, .int .i64 0, .int .i64 0, .int .i64 0, .string ⟨#[]⟩]), 7, 72) := by kernel_rfl
/-- A frame of Tokens. -/
structure FrK (a : Act) (s : ByteArray) (v : Value) (B p : Nat) : Prop where
  d : a.defers = []
  n : a.tmps.size = 47
  x0 : a.tmps[0]? = some (.string s)
  x5 : a.tmps[5]? = some v
  x6 : a.tmps[6]? = some (.pointer (some ⟨B, 0, none⟩))
  x8 : a.tmps[8]? = some (.int .i64 p)
theorem FrK.lit {a : Act} {s : ByteArray} {v : Value} {B p : Nat} (h : FrK a s v B p) : ∃ u : Nat → Value, a = { tmps := #[.string s, u 1, u 2, u 3, u 4, v, .pointer (some ⟨B, 0, none⟩), u 7, .int .i64 (p : Nat), u 9, u 10, u 11, u 12, u 13, u 14, u 15, u 16, u 17, u 18, u 19, u 20, u 21, u 22, u 23, u 24, u 25, u 26, u 27, u 28, u 29, u 30, u 31, u 32, u 33, u 34, u 35, u 36, u 37, u 38, u 39, u 40, u 41, u 42, u 43, u 44, u 45, u 46], defers := [] } := by
  obtain ⟨t, d⟩ := a
  obtain ⟨h1, h2, h3, h4, h5, h6⟩ := h
  dsimp only at h1 h2 h3 h4 h5 h6
  subst h1
  obtain ⟨l⟩ := t
  have h2' : l.length = 47 := by simpa using h2
  have hl := list_of 47 l h2'
  have get : ∀ (j : Nat) (y : Value), (Array.mk l)[j]? = some y → l.getD j undef = y := by
    intro j y hy
    have : l[j]? = some y := by simpa using hy
    simp [List.getD, this]
  have e0 := get _ _ h3
  have e5 := get _ _ h4
  have e6 := get _ _ h5
  have e8 := get _ _ h6
  refine ⟨fun i => l.getD i undef, ?_⟩
  rw [← e0, ← e5, ← e6, ← e8]
  congr 1
  exact congrArg Array.mk hl
theorem at_is (s : ByteArray) (p : Nat) (h : p < s.size) : hd (s.data.toList.drop p) = s[p].toNat := hd_drop s p h
/-- What has been cut so far, and what is left. -/
def Left (l : List UInt8) (L : List (Tok Val)) (p : Nat) : Prop := T sdB l 0 = (L ++ (T sdB (l.drop p) p).1, (T sdB (l.drop p) p).2)

set_option maxRecDepth 100000 in
set_option maxHeartbeats 8000000 in
theorem tokens_run (s : ByteArray) (w : World) (hs : s.size ≤ 16384) (ht : Pow w) (he : Errs w) (h8 : 6 ≤ w.heap.size) :
    Calls Tryz.prog 4 #[.string s] w fun e w' => Below w.heap.size w w' ∧ ((∃ p : Nat, (T sdB s.data.toList 0).2 = some p ∧ e = .returned (.tuple #[.slice none 0 0, .int .i64 50, .int .i64 p])) ∨ ((T sdB s.data.toList 0).2 = none ∧ ∃ v, e = .returned (.tuple #[v, .int .i64 0, .int .i64 0]) ∧ OwnT7 (w.heap.size + 1) v (T sdB s.data.toList 0).1 w')) := by
  obtain ⟨i0, hi, hz0, hz1, hz2⟩ := info_parts inT
  have hl : s.data.toList.length = s.size := by simp
  have hsz : ¬ (16384 : Int) < s.size := by omega
  have HE : Hid (Errs w) := he
  have HP : Hid (Pow w) := ht
  clear he ht
  have TK : Hid (∀ (i : Nat) (W : World), i < s.size → Pow W → Errs W → 6 ≤ W.heap.size → Calls Tryz.prog 8 #[.string s, .int .i64 i] W fun e w' => ∃ (K at_ k n d : Int) (x S : ByteArray) (ok : Bool), e = .returned (.tuple #[.agg #[.int .i64 K, .int .i64 at_, .string x, .int .i64 k, .int .i64 n, .int .i64 d, .string S], .bool ok]) ∧ Below W.heap.size W w' ∧ Hid ((ok = true ↔ fine sdB (s.data.toList.drop i)) ∧ (ok = true → tokAt sdB (s.data.toList.drop i) i = ⟨K.toNat, at_.toNat, x.data.toList, ⟨k, n, d, S⟩⟩ ∧ K = K.toNat ∧ at_ = i ∧ 1 ≤ x.size ∧ i + x.size ≤ s.size))) := fun i W q1 q2 q3 q4 => token_any s i W hs q1 q2 q3 q4
  go_enter Tryz.func4, Tryz.ntmps4
  go_wp2
  refine wp_scope_gotos (fun l a W => l = 0 ∧ ∃ (p : Nat) (v : Value) (L : List (Tok Val)), FrK a s v w.heap.size p ∧ p ≤ s.size ∧ L.length ≤ p ∧ Below w.heap.size w W ∧ w.heap.size < W.heap.size ∧ Hid (∃ (K at_ k n d : Int) (x S : ByteArray), BlkT W w.heap.size K at_ x k n d S) ∧ Hid (OwnT7 (w.heap.size + 1) v L W) ∧ Hid (Left s.data.toList L p)) (fun _ a _ => (s.size - intAt a 8).toNat) ?_ ?_
  · rintro l a W ⟨rfl, p, v, L, hF, hp, hLp, hB, hz, hT, hO, hR⟩
    obtain ⟨u, rfl⟩ := hF.lit
    clear hF
    refine ⟨_, rfl, ?_⟩
    by_cases hn : p = s.size
    · have hn' : (p : Int) = s.size := by omega
      go_wp2
      simp only [Exit.jumps]
      refine bodyPost_ret (by simp [results, Tryz.results4, go_sem]; try rfl) rfl ?_
      have hR' := hR.out
      unfold Left at hR'
      rw [List.drop_eq_nil_of_le (by omega), T_nil] at hR'
      refine ⟨hB, .inr ⟨by rw [hR'], v, rfl, ?_⟩⟩
      rw [hR']
      simpa using hO.out
    · have hlt : p < s.size := by omega
      have hn' : ¬ (p : Int) = s.size := by omega
      have hdr := drop_at s p hlt
      have hR' : Hid (T sdB s.data.toList 0 = (L ++ (T sdB (s[p] :: s.data.toList.drop (p + 1)) p).1, (T sdB (s[p] :: s.data.toList.drop (p + 1)) p).2)) := by
        have := hR.out
        unfold Left at this
        rw [hdr] at this
        exact this
      clear hR
      by_cases h32 : s[p].toNat = 32
      · have h32' : ((s[p].toNat : Nat) : Int) = 32 := by omega
        have hbk : blk s[p] = true := by simp [blk, h32]
        have hb32 : ((s[p].toNat : Int) == 32) = true := by simpa using h32'
        have hR2 : Hid (Left s.data.toList L (p + 1)) := by
          have := hR'.out
          rw [T_blank sdB _ p hbk] at this
          exact this
        clear hR' hdr
        go_wp2
        go_step3
        refine ⟨⟨rfl, p + 1, v, L, ⟨rfl, rfl, rfl, rfl, rfl, rfl⟩, by omega, by omega, hB, hz, hT, hO, hR2⟩, ?_⟩
        simp [intAt]
        omega
      · have h32' : ¬ ((s[p].toNat : Nat) : Int) = 32 := by omega
        by_cases h10 : s[p].toNat = 10
        · have h10' : ((s[p].toNat : Nat) : Int) = 10 := by omega
          have hbk : blk s[p] = true := by simp [blk, h10]
          have hb10 : ((s[p].toNat : Int) == 10) = true := by simpa using h10'
          have hR2 : Hid (Left s.data.toList L (p + 1)) := by
            have := hR'.out
            rw [T_blank sdB _ p hbk] at this
            exact this
          clear hR' hdr
          go_wp2
          go_step3
          refine ⟨⟨rfl, p + 1, v, L, ⟨rfl, rfl, rfl, rfl, rfl, rfl⟩, by omega, by omega, hB, hz, hT, hO, hR2⟩, ?_⟩
          simp [intAt]
          omega
        · have h10' : ¬ ((s[p].toNat : Nat) : Int) = 10 := by omega
          have hbk : blk s[p] = false := by simp [blk, h10, h32]
          have hb32 : ((s[p].toNat : Int) == 32) = false := by simpa using h32'
          have hb10 : ((s[p].toNat : Int) == 10) = false := by simpa using h10'
          go_wp2_with fail
          refine (TK.out p W hlt (HP.out.below hB) (HE.out.below hB h8) (by omega)).mono ?_
          rintro e w1 ⟨K, at_, k, n, d, x, S, ok, rfl, hb1, hk⟩
          obtain ⟨K0, at0, k0, n0, d0, x0, S0, hT0⟩ := hT.out
          have R1 : Hid (BlkT w1 w.heap.size K0 at0 x0 k0 n0 d0 S0) := hT0.below hb1 hz
          have B1 : Below w.heap.size w w1 := hB.trans (hb1.mono hB.size)
          have O1 : Hid (OwnT7 (w.heap.size + 1) v L w1) := own_bel7 hO.out hb1
          have z1 : w.heap.size < w1.heap.size := by have := hb1.size; omega
          clear hT hT0 hO hb1 hB hz
          obtain ⟨r0, r1, r2, r3, r4, r5, r6, q0, q1, q2, q3, q4, q5, q6⟩ := R1.out
          go_upto_region 12 with fail
          refine wp_world ?_
          intro W2 hW2
          have R2 : Hid (BlkT W2 w.heap.size K at_ x k n d S) := by rw [hW2]; exact R1.out.seven
          have B2 : Below w.heap.size w W2 := by rw [hW2]; exact below7 B1 (Nat.le_refl _) _ _ _ _ _ _ _
          have O2 : Hid (OwnT7 (w.heap.size + 1) v L W2) := by rw [hW2]; exact own_set (own_set (own_set (own_set (own_set (own_set (own_set O1.out (by omega)) (by omega)) (by omega)) (by omega)) (by omega)) (by omega)) (by omega)
          have z2 : w.heap.size < W2.heap.size := by rw [hW2]; simpa using z1
          clear hW2 R1 B1 O1 z1 r0 r1 r2 r3 r4 r5 r6 q0 q1 q2 q3 q4 q5 q6
          cases ok
          · have hnf : ¬ fine sdB (s[p] :: s.data.toList.drop (p + 1)) := by
              rw [← hdr]; intro h; have := hk.out.1.2 h; cases this
            have hR2 := hR'.out
            rw [T_none sdB p hbk hnf] at hR2
            go_wp2
            simp only [Exit.jumps]
            refine bodyPost_ret (by simp [results, Tryz.results4, go_sem]; try rfl) rfl ?_
            exact ⟨B2, .inl ⟨p, by rw [hR2], rfl⟩⟩
          · obtain ⟨k1, k2, k3, k4, k5⟩ := hk.out.2 rfl
            have hf : fine sdB (s[p] :: s.data.toList.drop (p + 1)) := by rw [← hdr]; exact hk.out.1.1 rfl
            have hxl : x.data.toList.length = x.size := by simp
            have hbn : (beh (s.data.toList.drop p)).2 = x.size := by
              have h1 : (tokAt sdB (s.data.toList.drop p) p).x.length = (beh (s.data.toList.drop p)).2 := by
                have := beh_le (s.data.toList.drop p) (by rw [hdr]; exact hf.1)
                show ((s.data.toList.drop p).take _).length = _
                simp at this ⊢
                omega
              rw [k1] at h1
              rw [← h1]; exact hxl
            have hR2 : Hid (Left s.data.toList (L ++ [⟨K.toNat, at_.toNat, x.data.toList, ⟨k, n, d, S⟩⟩]) (p + x.size)) := by
              have h := hR'.out
              rw [T_tok sdB p hbk hf, ← hdr, k1, hbn, List.drop_drop] at h
              show T sdB _ 0 = _
              rw [h]
              simp
            have hnews : Hid ([.int .i64 K, .int .i64 at_, .string x, .int .i64 k, .int .i64 n, .int .i64 d, .string S] = tcells ⟨K.toNat, at_.toNat, x.data.toList, ⟨k, n, d, S⟩⟩) := by
              show _ = [Value.int .i64 (K.toNat : Int), .int .i64 (at_.toNat : Int), .string ⟨x.data.toList.toArray⟩, .int .i64 k, .int .i64 n, .int .i64 d, .string S]
              rw [← k2, ← show at_ = at_.toNat by omega]
            clear hk hR' hf hdr hbn k1 k2 k3
            obtain ⟨r0, r1, r2, r3, r4, r5, r6, q0, q1, q2, q3, q4, q5, q6⟩ := R2.out
            have HK : Hid (∀ q, v.ownBlock = some q → w.heap.size + 1 ≤ q) := fun q hq => (World.ownsRow.lt O2.out q hq).1
            go_wp2_with (at_builtin; refine wpList_append_own _ rfl (.tmp 38) (.tmp 40) 22 rfl (w.heap.size + 1) 33 i0 (.agg #[.int .i64 0, .int .i64 0, .string ⟨#[]⟩, .int .i64 0, .int .i64 0, .int .i64 0, .string ⟨#[]⟩]) 7 72 Tryz.underlying22 hi hz0 hz1 hz2 rfl (by decide) _ _ _ rfl (World.ownsRow.alloc O2.out _) ⟨W2.heap.size, 0, none⟩ 1 1 [.int .i64 K, .int .i64 at_, .string x, .int .i64 k, .int .i64 n, .int .i64 d, .string S] rfl rfl ?c1 ?c2 (by unfold maxLen; omega) (by omega) (by simp; omega) ?grow)
            case c1 => (intro j u hj; rw [Addr.add_lit]; (rcases j with _ | _ | _ | _ | _ | _ | _ | j) <;> simp at hj <;> subst hj <;> simp (maxDischargeDepth := 12) [go_sem])
            case c2 => (intro u hu; simp at hu; rcases hu with rfl | rfl | rfl | rfl | rfl | rfl | rfl <;> rfl)
            case grow =>
              intro v' w3 h2 h3 _
              have O3 : Hid (OwnT7 (w.heap.size + 1) v' (L ++ [⟨K.toNat, at_.toNat, x.data.toList, ⟨k, n, d, S⟩⟩]) w3) := by
                show w3.ownsRow _ _ _ _ _ _
                rw [← flatT_more, ← hnews.out, List.length_append]
                exact h2
              have G3 : Below (w.heap.size + 1) W2 w3 := Below.grown ((Below.refl _ W2).alloc (by omega) _) h3 (by simp; omega) HK.out
              have R3 : Hid (BlkT w3 w.heap.size K at_ x k n d S) := R2.out.below G3 (by omega)
              have B3 : Below w.heap.size w w3 := B2.trans (G3.mono (by omega))
              have z3 : w.heap.size < w3.heap.size := by have := G3.size; omega
              clear h2 h3 G3 HK O2 R2 B2 r0 r1 r2 r3 r4 r5 r6 q0 q1 q2 q3 q4 q5 q6 hnews
              obtain ⟨r0, r1, r2, r3, r4, r5, r6, q0, q1, q2, q3, q4, q5, q6⟩ := R3.out
              have hxs : (x.size : Int) ≤ 16384 := by omega
              go_wp2
              go_step3
              refine ⟨⟨rfl, p + x.size, v', _, ⟨rfl, rfl, rfl, rfl, rfl, rfl⟩, by omega, by simp; omega, B3, z3, ⟨_, _, _, _, _, _, _, R3.out⟩, O3, hR2⟩, ?_⟩
              simp [intAt]
              omega
  · intro PS
    go_wp2
    rename_i hK
    refine wp_label (hK _ _ (PS 0 _ _ _ ⟨rfl, 0, .slice none 0 0, [], ⟨rfl, rfl, rfl, rfl, rfl, rfl⟩, Nat.zero_le _, Nat.le_refl _, (Below.refl _ w).alloc (Nat.le_refl _) _, by simp, ⟨0, 0, 0, 0, 0, ⟨#[]⟩, ⟨#[]⟩, ?_⟩, ⟨rfl, .inl ⟨rfl, rfl⟩⟩, ?_⟩ rfl))
    · constructor <;> simp (maxDischargeDepth := 16) [go_sem]
    · show T sdB _ 0 = _
      simp

theorem tokens_long (s : ByteArray) (w : World) (hs : 16384 < s.size) :
    Calls Tryz.prog 4 #[.string s] w fun e w' => e = .returned (.tuple #[.slice none 0 0, .int .i64 2, .int .i64 0]) ∧ Below w.heap.size w w' := by
  have hs' : (16384 : Int) < s.size := by omega
  go_enter Tryz.func4, Tryz.ntmps4
  go_wp2
  refine wp_scope_gotos (fun _ _ _ => False) (fun _ _ _ => 0) ?_ ?_
  · intro l a w h; exact h.elim
  · intro _
    go_wp2
    simp only [Exit.jumps]
    refine bodyPost_ret (by simp [results, Tryz.results4, go_sem]; try rfl) rfl ?_
    exact ⟨rfl, (Below.refl _ w).alloc (Nat.le_refl _) _⟩
end Go.Proofs.YtmegombglkcccaaGreatDoor

namespace Go.Proofs.YtmegombglkcccaaGreatDoor
open Go.RowKit Go.Shelf LX
set_option linter.unusedVariables false

def live1L : List (Tok Val) := [⟨4, 0, [60, 61], zeroV⟩, ⟨4, 2, [61], zeroV⟩, ⟨6, 3, [45, 53], ⟨1, -5, 0, ⟨#[]⟩⟩⟩, ⟨4, 5, [45], zeroV⟩, ⟨6, 6, [45, 53], ⟨1, -5, 0, ⟨#[]⟩⟩⟩, ⟨5, 9, [91, 48, 44, 53, 93], zeroV⟩, ⟨7, 15, [64, 55], ⟨1, 7, 0, ⟨#[]⟩⟩⟩, ⟨1, 17, [40], zeroV⟩]
theorem live1 : T sdB [60, 61, 61, 45, 53, 45, 45, 53, 32, 91, 48, 44, 53, 93, 10, 64, 55, 40] 0 = (live1L, none) := by kernel_rfl
theorem live2 : (T sdB [97, 32, 49, 47, 50, 32, 48, 53] 0).2 = some 6 := by kernel_rfl
theorem toks_1 (w : World) (ht : Pow w) (he : Errs w) (h8 : 6 ≤ w.heap.size) :
    Calls Tryz.prog 4 #[.string ⟨#[60, 61, 61, 45, 53, 45, 45, 53, 32, 91, 48, 44, 53, 93, 10, 64, 55, 40]⟩] w fun e w' => ∃ g cap, e = .returned (.tuple #[.slice (some ⟨g, 0, none⟩) 8 cap, .int .i64 0, .int .i64 0]) ∧ Below w.heap.size w w' ∧ g < w'.heap.size ∧ w'.cell? ⟨g, 0, none⟩ = some (.int .i64 4) ∧ w'.cell? ⟨g, 2, none⟩ = some (.string ⟨#[60, 61]⟩) ∧ w'.cell? ⟨g, 14, none⟩ = some (.int .i64 6) ∧ w'.cell? ⟨g, 18, none⟩ = some (.int .i64 (-5)) ∧ w'.cell? ⟨g, 35, none⟩ = some (.int .i64 5) ∧ w'.cell? ⟨g, 42, none⟩ = some (.int .i64 7) ∧ w'.cell? ⟨g, 46, none⟩ = some (.int .i64 7) ∧ w'.cell? ⟨g, 49, none⟩ = some (.int .i64 1) := by
  have hq : T sdB (⟨#[60, 61, 61, 45, 53, 45, 45, 53, 32, 91, 48, 44, 53, 93, 10, 64, 55, 40]⟩ : ByteArray).data.toList 0 = (live1L, none) := live1
  refine (tokens_run _ w (by decide) ht he h8).mono ?_
  rintro e w' ⟨hB, ⟨p, h1, -⟩ | ⟨-, v, rfl, hO⟩⟩
  · rw [hq] at h1; cases h1
  · rw [hq] at hO
    have hO' : w'.ownsRow (w.heap.size + 1) 33 7 v 8 (flatT live1L) := hO
    rcases hO'.2 with ⟨-, h⟩ | ⟨g, cap, cur, rfl, hb, hg, -⟩
    · cases h
    · refine ⟨g, cap, rfl, hB, (Array.getElem?_eq_some_iff.1 hg).1, ?_, ?_, ?_, ?_, ?_, ?_, ?_, ?_⟩ <;> (rw [hO'.cellAt _ (by decide)]; rfl)
theorem toks_2 (w : World) (ht : Pow w) (he : Errs w) (h8 : 6 ≤ w.heap.size) :
    Calls Tryz.prog 4 #[.string ⟨#[97, 32, 49, 47, 50, 32, 48, 53]⟩] w fun e w' => e = .returned (.tuple #[.slice none 0 0, .int .i64 50, .int .i64 6]) ∧ Below w.heap.size w w' := by
  have hq : (T sdB (⟨#[97, 32, 49, 47, 50, 32, 48, 53]⟩ : ByteArray).data.toList 0).2 = some 6 := live2
  refine (tokens_run _ w (by decide) ht he h8).mono ?_
  rintro e w' ⟨hB, ⟨p, h1, rfl⟩ | ⟨h1, -⟩⟩
  · rw [hq] at h1
    cases h1
    exact ⟨rfl, hB⟩
  · rw [hq] at h1; cases h1
set_option maxRecDepth 100000 in
set_option maxHeartbeats 8000000 in
theorem lexlive_any (w : World) (ht : Pow w) (he : Errs w) (h8 : 6 ≤ w.heap.size) :
    Calls Tryz.prog 7 #[] w fun e w' => e = .returned (.bool true) ∧ Below w.heap.size w w' := by
  have HE : Hid (Errs w) := he
  have HP : Hid (Pow w) := ht
  clear he ht
  have T1 : Hid (∀ W : World, _) := fun W a b c => toks_1 W a b c
  have T2 : Hid (∀ W : World, _) := fun W a b c => toks_2 W a b c
  go_enter Tryz.func7, Tryz.ntmps7
  go_wp2_with fail
  refine (T1.out _ HP.out HE.out h8).mono ?_
  rintro e w1 ⟨g, cap, rfl, hB1, hg, c0, c2, c14, c18, c35, c42, c46, c49⟩
  go_wp2_with fail
  refine (T2.out _ (HP.out.below hB1) (HE.out.below hB1 h8) (by have := hB1.size; omega)).mono ?_
  rintro e w2 ⟨rfl, hB2⟩
  have d0 := (hB2.cell (p := ⟨g, 0, none⟩) hg).trans c0
  have d2 := (hB2.cell (p := ⟨g, 2, none⟩) hg).trans c2
  have d14 := (hB2.cell (p := ⟨g, 14, none⟩) hg).trans c14
  have d18 := (hB2.cell (p := ⟨g, 18, none⟩) hg).trans c18
  have d35 := (hB2.cell (p := ⟨g, 35, none⟩) hg).trans c35
  have d42 := (hB2.cell (p := ⟨g, 42, none⟩) hg).trans c42
  have d46 := (hB2.cell (p := ⟨g, 46, none⟩) hg).trans c46
  have d49 := (hB2.cell (p := ⟨g, 49, none⟩) hg).trans c49
  have B2 : Below w.heap.size w w2 := hB1.trans (hB2.mono hB1.size)
  clear hB1 hB2 c0 c2 c14 c18 c35 c42 c46 c49 hg T1 T2
  go_wp2
  go_ret
  exact ⟨rfl, B2⟩
end Go.Proofs.YtmegombglkcccaaGreatDoor

namespace Go.Proofs.YtmegombglkcccaaGreatDoor
open Go.RowKit Go.Shelf LX
set_option linter.unusedVariables false

/-- A slice of the document's tokens of the call's own. -/
def OwnR7 (B : Nat) (v : Value) (L : List (Tok Val)) (w : World) : Prop := w.ownsRow B 38 7 v L.length (flatT L)
theorem inR : (Tryz.prog.info? 38).map (fun i => (i.zero, i.size, i.bytes)) = some (some (.agg #[.int .i64 0, .int .i64 0, .string ⟨#[]⟩, .int .i64 0, .int .i64 0, .int .i64 0, .string ⟨#[]⟩]), 7, 72) := by kernel_rfl
theorem cell_same {w w' : World} {b : Nat} (h : w'.heap[b]? = w.heap[b]?) (o : Nat) : w'.cell? ⟨b, o, none⟩ = w.cell? ⟨b, o, none⟩ := by
  unfold World.cell?
  simp [h]
set_option maxRecDepth 100000 in
set_option maxHeartbeats 8000000 in
theorem rtokens_run (s : ByteArray) (w : World) (hs : s.size ≤ 16384) :
    Calls Tryz.prog 5 #[.string s] w fun e w' => Below w.heap.size w w' ∧ ((∃ p : Nat, (T sdB s.data.toList 0).2 = some p ∧ e = .returned (.tuple #[.slice none 0 0, .int .i64 50, .int .i64 p])) ∨ ((T sdB s.data.toList 0).2 = none ∧ ∃ v, e = .returned (.tuple #[v, .int .i64 0, .int .i64 0]) ∧ OwnR7 w.heap.size v (T sdB s.data.toList 0).1 w')) := by
  obtain ⟨i0, hi, hz0, hz1, hz2⟩ := info_parts inR
  have hl : s.data.toList.length = s.size := by simp
  have hsz : ¬ (16384 : Int) < s.size := by omega
  have TK : Hid (∀ (i : Nat) (W : World), i < s.size → Calls Tryz.prog 9 #[.string s, .int .i64 i] W fun e w' => ∃ (K at_ k n d : Int) (x S : ByteArray) (ok : Bool), e = .returned (.tuple #[.agg #[.int .i64 K, .int .i64 at_, .string x, .int .i64 k, .int .i64 n, .int .i64 d, .string S], .bool ok]) ∧ Below W.heap.size W w' ∧ Hid (OneIs s i K at_ k n d x S ok)) := fun i W q1 => one_any s i W hs q1
  go_enter Tryz.func5, Tryz.ntmps5
  go_wp2
  go_loopw [5, 6] (fun v5 v6 wr => ∃ (p : Nat) (L : List (Tok Val)), v6 = .int .i64 p ∧ p ≤ s.size ∧ L.length ≤ p ∧ Below w.heap.size w wr ∧ Hid (OwnR7 w.heap.size v5 L wr) ∧ Hid (Left s.data.toList L p)) (fun _ v6 _ => s.size - (ivR v6).toNat)
  case atStart => exact ⟨0, [], rfl, Nat.zero_le _, Nat.le_refl _, Below.refl _ _, (⟨rfl, .inl ⟨rfl, rfl⟩⟩ : OwnR7 _ _ _ _), (show T sdB _ 0 = _ by simp)⟩
  case round =>
    obtain ⟨p, L, rfl, hp, hLp, hB, hO, hR⟩ := hrel
    by_cases hlt : p < s.size
    · have c1 : (p : Int) < s.size := by omega
      have hdr := drop_at s p hlt
      have hR' : Hid (T sdB s.data.toList 0 = (L ++ (T sdB (s[p] :: s.data.toList.drop (p + 1)) p).1, (T sdB (s[p] :: s.data.toList.drop (p + 1)) p).2)) := by
        have := hR.out
        unfold Left at this
        rw [hdr] at this
        exact this
      clear hR
      by_cases h32 : s[p].toNat = 32
      · have h32' : ((s[p].toNat : Nat) : Int) = 32 := by omega
        have hbk : blk s[p] = true := by simp [blk, h32]
        have hR2 : Hid (Left s.data.toList L (p + 1)) := by
          have := hR'.out
          rw [T_blank sdB _ p hbk] at this
          exact this
        clear hR' hdr
        go_wp2
        exact ⟨⟨p + 1, L, by go_num, by omega, by omega, hB, hO, hR2⟩, by simp [ivR]; omega⟩
      · have h32' : ¬ ((s[p].toNat : Nat) : Int) = 32 := by omega
        have hb32 : ((s[p].toNat : Int) == 32) = false := by simpa using h32'
        by_cases h10 : s[p].toNat = 10
        · have h10' : ((s[p].toNat : Nat) : Int) = 10 := by omega
          have hbk : blk s[p] = true := by simp [blk, h10]
          have hR2 : Hid (Left s.data.toList L (p + 1)) := by
            have := hR'.out
            rw [T_blank sdB _ p hbk] at this
            exact this
          clear hR' hdr
          go_wp2
          exact ⟨⟨p + 1, L, by go_num, by omega, by omega, hB, hO, hR2⟩, by simp [ivR]; omega⟩
        · have h10' : ¬ ((s[p].toNat : Nat) : Int) = 10 := by omega
          have hb10 : ((s[p].toNat : Int) == 10) = false := by simpa using h10'
          have hbk : blk s[p] = false := by simp [blk, h10, h32]
          go_wp2_with fail
          refine (TK.out p wr hlt).mono ?_
          rintro e w1 ⟨K, at_, k, n, d, x, S, ok, rfl, hb1, hk⟩
          have B1 : Below w.heap.size w w1 := hB.trans (hb1.mono hB.size)
          have O1 : Hid (OwnR7 w.heap.size u5 L w1) := own_bel7 hO.out hb1
          have HK2 : Hid (∀ q, u5.ownBlock = some q → q < w1.heap.size) := fun q hq => (World.ownsRow.lt O1.out q hq).2
          clear hO hb1 hB
          go_upto_region 9 with fail
          refine wp_world ?_
          intro W2 hW2
          have R2 : Hid (BlkT W2 w1.heap.size K at_ x k n d S) := by rw [hW2]; constructor <;> simp (maxDischargeDepth := 16) [go_sem]
          have B2 : Below w.heap.size w W2 := by rw [hW2]; exact B1.alloc B1.size _
          have O2 : Hid (OwnR7 w.heap.size u5 L W2) := by rw [hW2]; exact World.ownsRow.alloc O1.out _
          have zz : w1.heap.size < W2.heap.size := by rw [hW2]; simp
          clear hW2 B1 O1
          cases ok
          · have hnf : ¬ fine sdB (s[p] :: s.data.toList.drop (p + 1)) := by
              rw [← hdr]; intro h; have := hk.out.1.2 h; cases this
            have hR2 : Hid ((T sdB s.data.toList 0).2 = some p) := by
              have h := hR'.out
              rw [T_none sdB p hbk hnf] at h
              show _ = _
              rw [h]
            go_wp2
            refine bodyPost_ret (by simp [results, Tryz.results5, go_sem]; try rfl) rfl ?_
            exact ⟨B2, .inl ⟨p, hR2.out, rfl⟩⟩
          · obtain ⟨k1, k2, k3, k4, k5⟩ := hk.out.2 rfl
            have hf : fine sdB (s[p] :: s.data.toList.drop (p + 1)) := by rw [← hdr]; exact hk.out.1.1 rfl
            have hxl : x.data.toList.length = x.size := by simp
            have hbn : (beh (s.data.toList.drop p)).2 = x.size := by
              have h1 : (tokAt sdB (s.data.toList.drop p) p).x.length = (beh (s.data.toList.drop p)).2 := by
                have := beh_le (s.data.toList.drop p) (by rw [hdr]; exact hf.1)
                show ((s.data.toList.drop p).take _).length = _
                simp at this ⊢
                omega
              rw [k1] at h1
              rw [← h1]; exact hxl
            have hR2 : Hid (Left s.data.toList (L ++ [⟨K.toNat, at_.toNat, x.data.toList, ⟨k, n, d, S⟩⟩]) (p + x.size)) := by
              have h := hR'.out
              rw [T_tok sdB p hbk hf, ← hdr, k1, hbn, List.drop_drop] at h
              show T sdB _ 0 = _
              rw [h]
              simp
            have hnews : Hid ([.int .i64 K, .int .i64 at_, .string x, .int .i64 k, .int .i64 n, .int .i64 d, .string S] = tcells ⟨K.toNat, at_.toNat, x.data.toList, ⟨k, n, d, S⟩⟩) := by
              show _ = [Value.int .i64 (K.toNat : Int), .int .i64 (at_.toNat : Int), .string ⟨x.data.toList.toArray⟩, .int .i64 k, .int .i64 n, .int .i64 d, .string S]
              rw [← k2, ← show at_ = at_.toNat by omega]
            clear hk hR' hf hdr hbn k1 k2 k3
            obtain ⟨r0, r1, r2, r3, r4, r5, r6, q0, q1, q2, q3, q4, q5, q6⟩ := R2.out
            have hsz2 := B2.size
            have HK : Hid (∀ q, u5.ownBlock = some q → w.heap.size ≤ q) := fun q hq => (World.ownsRow.lt O2.out q hq).1
            go_wp2_with (at_builtin; refine wpList_append_own _ rfl (.tmp 37) (.tmp 39) 26 rfl w.heap.size 38 i0 (.agg #[.int .i64 0, .int .i64 0, .string ⟨#[]⟩, .int .i64 0, .int .i64 0, .int .i64 0, .string ⟨#[]⟩]) 7 72 Tryz.underlying26 hi hz0 hz1 hz2 rfl (by decide) _ _ _ rfl (World.ownsRow.alloc O2.out _) ⟨W2.heap.size, 0, none⟩ 1 1 [.int .i64 K, .int .i64 at_, .string x, .int .i64 k, .int .i64 n, .int .i64 d, .string S] rfl rfl ?hh1 ?hh2 (by unfold maxLen; omega) (by omega) (by simp; omega) ?grw)
            case hh1 => (intro j u hj; rw [Addr.add_lit]; (rcases j with _ | _ | _ | _ | _ | _ | _ | j) <;> simp at hj <;> subst hj <;> simp (maxDischargeDepth := 12) [go_sem])
            case hh2 => (intro u hu; simp at hu; rcases hu with rfl | rfl | rfl | rfl | rfl | rfl | rfl <;> rfl)
            case grw =>
              intro v' w3 h2 h3 _
              have O3 : Hid (OwnR7 w.heap.size v' (L ++ [⟨K.toNat, at_.toNat, x.data.toList, ⟨k, n, d, S⟩⟩]) w3) := by
                show w3.ownsRow _ _ _ _ _ _
                rw [← flatT_more, ← hnews.out, List.length_append]
                exact h2
              have r2' : w3.cell? ⟨w1.heap.size, 2, none⟩ = some (.string x) := by
                refine (cell_same (h3.block w1.heap.size (by simp; omega) (fun e => ?_)) 2).trans ?_
                · have := HK2.out w1.heap.size e.symm
                  omega
                · exact (((Below.refl W2.heap.size W2).alloc (Nat.le_refl _) _).cell (p := ⟨w1.heap.size, 2, none⟩) zz).trans r2
              have B3 : Below w.heap.size w w3 := Below.grown (B2.alloc hsz2 _) h3 (by simp; omega) HK.out
              clear h2 h3 HK O2 R2 B2 r0 r1 r2 r3 r4 r5 r6 q0 q1 q2 q3 q4 q5 q6 hnews
              have hxs : (x.size : Int) ≤ 16384 := by omega
              go_wp2
              exact ⟨⟨p + x.size, _, by go_num, by omega, by simp; omega, B3, O3, hR2⟩, by simp [ivR]; omega⟩
    · have c1 : ¬ (p : Int) < s.size := by omega
      go_wp2
      refine bodyPost_ret (by simp [results, Tryz.results5, go_sem]; try rfl) rfl ?_
      have hR' := hR.out
      unfold Left at hR'
      rw [List.drop_eq_nil_of_le (by omega), T_nil] at hR'
      refine ⟨hB, .inr ⟨by rw [hR'], _, rfl, ?_⟩⟩
      rw [hR']
      simpa using hO.out
theorem rtokens_long (s : ByteArray) (w : World) (hs : 16384 < s.size) :
    Calls Tryz.prog 5 #[.string s] w fun e w' => e = .returned (.tuple #[.slice none 0 0, .int .i64 2, .int .i64 0]) ∧ Below w.heap.size w w' := by
  have hs' : (16384 : Int) < s.size := by omega
  go_enter Tryz.func5, Tryz.ntmps5
  go_wp2
  refine bodyPost_ret (by simp [results, Tryz.results5, go_sem]; try rfl) rfl ?_
  exact ⟨rfl, Below.refl _ _⟩
end Go.Proofs.YtmegombglkcccaaGreatDoor

namespace Go.Proofs.YtmegombglkcccaaGreatDoor
open Go.RowKit Go.Shelf LX
set_option linter.unusedVariables false

theorem bclT {n : Nat} {W0 wx : World} (h : Below n W0 wx) {a : Addr} {v : Value} (hv : W0.cell? a = some v) (ha : a.block < n) : wx.cell? a = some v := (h.cell ha).trans hv
set_option maxRecDepth 100000 in
set_option maxHeartbeats 4000000 in
theorem same_yesT (K A k n d : Int) (X S : ByteArray) (w : World) :
    Calls Tryz.prog 10 #[.agg #[.int .i64 K, .int .i64 A, .string X, .int .i64 k, .int .i64 n, .int .i64 d, .string S], .agg #[.int .i64 K, .int .i64 A, .string X, .int .i64 k, .int .i64 n, .int .i64 d, .string S]] w fun e w' => e = .returned (.bool true) ∧ Below w.heap.size w w' := by
  go_enter Tryz.func10, Tryz.ntmps10
  go_wp2
  go_ret
  exact ⟨rfl, by go_grown⟩
/-- Tokens lie in a row. -/
def RowT (w : World) (p : Option Addr) (L : List (Tok Val)) : Prop := ∀ i (hi : i < L.length), ∃ g, p = some ⟨g, 0, none⟩ ∧ g < w.heap.size ∧ ∀ j, j < 7 → w.cell? ⟨g, i * 7 + j, none⟩ = (tcells L[i])[j]?
theorem flatT_get (L : List (Tok Val)) (i j : Nat) (hi : i < L.length) (hj : j < 7) : (flatT L)[i * 7 + j]? = (tcells L[i])[j]? := by
  induction L generalizing i with
  | nil => simp at hi
  | cons t L ih =>
    have e : flatT (t :: L) = tcells t ++ flatT L := rfl
    have hl : (tcells t).length = 7 := rfl
    rw [e]
    cases i with
    | zero => rw [List.getElem?_append_left (by omega)]; simp
    | succ i =>
      rw [List.getElem?_append_right (by omega), hl, show (i + 1) * 7 + j - 7 = i * 7 + j by omega, ih i (by simpa using hi)]
      simp
theorem rowT_of {w : World} {B e : Nat} {v : Value} {L : List (Tok Val)} (h : w.ownsRow B e 7 v L.length (flatT L)) : ∃ p c, v = .slice p L.length c ∧ RowT w p L := by
  rcases h.2 with ⟨rfl, hn⟩ | ⟨g, cap, cur, rfl, hb, hg, -⟩
  · exact ⟨none, 0, by rw [hn], fun i hi => absurd hi (by omega)⟩
  · refine ⟨_, cap, rfl, fun i hi => ⟨g, rfl, (Array.getElem?_eq_some_iff.1 hg).1, fun j hj => ?_⟩⟩
    rw [h.cellAt _ (by omega)]
    exact flatT_get L i j hi hj
set_option maxRecDepth 100000 in
set_option maxHeartbeats 8000000 in
theorem all_yes (pa pb : Option Addr) (ca cb : Nat) (L : List (Tok Val)) (w : World) (ha : RowT w pa L) (hb : RowT w pb L) (hL : L.length ≤ 16384) :
    Calls Tryz.prog 6 #[.slice pa L.length ca, .slice pb L.length cb] w fun e w' => e = .returned (.bool true) ∧ Below w.heap.size w w' := by
  have HA : Hid (RowT w pa L) := ha
  have HB : Hid (RowT w pb L) := hb
  clear ha hb
  obtain ⟨n, en⟩ : ∃ n : Nat, Hid (L.length = n) := ⟨_, rfl⟩
  rw [en.out] at hL ⊢
  go_enter Tryz.func6, Tryz.ntmps6
  go_wp2
  go_loopw [5] (fun v wr => ∃ j : Nat, v = .int .i64 j ∧ j ≤ n ∧ Below w.heap.size w wr) (fun v _ => n - (ivR v).toNat)
  case atStart => exact ⟨0, rfl, Nat.zero_le _, Below.refl _ _⟩
  case round =>
    obtain ⟨j, rfl, hjn, hB3⟩ := hrel
    by_cases hjlt : j < n
    · have c5 : (j : Int) < n := by omega
      have hjL : j < L.length := by have := en.out; omega
      obtain ⟨g, eg, hg, hcell⟩ := HA.out j hjL
      subst eg
      obtain ⟨g2, eg2, hg2, hcell2⟩ := HB.out j hjL
      subst eg2
      generalize L[j] = t at hcell hcell2
      obtain ⟨K, A, x, vv⟩ := t
      obtain ⟨k, nn, d, S⟩ := vv
      have d0 : wr.cell? ⟨g, j * 7, none⟩ = some (.int .i64 K) := (hB3.cell (p := ⟨g, _, none⟩) hg).trans (hcell 0 (by omega))
      have d1 : wr.cell? ⟨g, j * 7 + 1, none⟩ = some (.int .i64 A) := (hB3.cell (p := ⟨g, _, none⟩) hg).trans (hcell 1 (by omega))
      have d2 : wr.cell? ⟨g, j * 7 + 2, none⟩ = some (.string ⟨x.toArray⟩) := (hB3.cell (p := ⟨g, _, none⟩) hg).trans (hcell 2 (by omega))
      have d3 : wr.cell? ⟨g, j * 7 + 3, none⟩ = some (.int .i64 k) := (hB3.cell (p := ⟨g, _, none⟩) hg).trans (hcell 3 (by omega))
      have d4 : wr.cell? ⟨g, j * 7 + 4, none⟩ = some (.int .i64 nn) := (hB3.cell (p := ⟨g, _, none⟩) hg).trans (hcell 4 (by omega))
      have d5 : wr.cell? ⟨g, j * 7 + 5, none⟩ = some (.int .i64 d) := (hB3.cell (p := ⟨g, _, none⟩) hg).trans (hcell 5 (by omega))
      have d6 : wr.cell? ⟨g, j * 7 + 6, none⟩ = some (.string S) := (hB3.cell (p := ⟨g, _, none⟩) hg).trans (hcell 6 (by omega))
      have f0 : wr.cell? ⟨g2, j * 7, none⟩ = some (.int .i64 K) := (hB3.cell (p := ⟨g2, _, none⟩) hg2).trans (hcell2 0 (by omega))
      have f1 : wr.cell? ⟨g2, j * 7 + 1, none⟩ = some (.int .i64 A) := (hB3.cell (p := ⟨g2, _, none⟩) hg2).trans (hcell2 1 (by omega))
      have f2 : wr.cell? ⟨g2, j * 7 + 2, none⟩ = some (.string ⟨x.toArray⟩) := (hB3.cell (p := ⟨g2, _, none⟩) hg2).trans (hcell2 2 (by omega))
      have f3 : wr.cell? ⟨g2, j * 7 + 3, none⟩ = some (.int .i64 k) := (hB3.cell (p := ⟨g2, _, none⟩) hg2).trans (hcell2 3 (by omega))
      have f4 : wr.cell? ⟨g2, j * 7 + 4, none⟩ = some (.int .i64 nn) := (hB3.cell (p := ⟨g2, _, none⟩) hg2).trans (hcell2 4 (by omega))
      have f5 : wr.cell? ⟨g2, j * 7 + 5, none⟩ = some (.int .i64 d) := (hB3.cell (p := ⟨g2, _, none⟩) hg2).trans (hcell2 5 (by omega))
      have f6 : wr.cell? ⟨g2, j * 7 + 6, none⟩ = some (.string S) := (hB3.cell (p := ⟨g2, _, none⟩) hg2).trans (hcell2 6 (by omega))
      generalize (⟨x.toArray⟩ : ByteArray) = X at d2 f2
      have hgw : g < wr.heap.size := Nat.lt_of_lt_of_le hg hB3.size
      have hg2w : g2 < wr.heap.size := Nat.lt_of_lt_of_le hg2 hB3.size
      clear hcell hcell2
      have SM : Hid (∀ W : World, Calls Tryz.prog 10 #[.agg #[.int .i64 K, .int .i64 A, .string X, .int .i64 k, .int .i64 nn, .int .i64 d, .string S], .agg #[.int .i64 K, .int .i64 A, .string X, .int .i64 k, .int .i64 nn, .int .i64 d, .string S]] W fun e w' => e = .returned (.bool true) ∧ Below W.heap.size W w') := fun W => same_yesT _ _ _ _ _ _ _ W
      go_upto_region 6 with fail
      go_region_held3 (fun w' => w'.cell? ⟨g, j * 7, none⟩ = some (.int .i64 K) ∧ w'.cell? ⟨g, j * 7 + 1, none⟩ = some (.int .i64 A) ∧ w'.cell? ⟨g, j * 7 + 2, none⟩ = some (.string X) ∧ w'.cell? ⟨g, j * 7 + 3, none⟩ = some (.int .i64 k) ∧ w'.cell? ⟨g, j * 7 + 4, none⟩ = some (.int .i64 nn) ∧ w'.cell? ⟨g, j * 7 + 5, none⟩ = some (.int .i64 d) ∧ w'.cell? ⟨g, j * 7 + 6, none⟩ = some (.string S) ∧ w'.cell? ⟨g2, j * 7, none⟩ = some (.int .i64 K) ∧ w'.cell? ⟨g2, j * 7 + 1, none⟩ = some (.int .i64 A) ∧ w'.cell? ⟨g2, j * 7 + 2, none⟩ = some (.string X) ∧ w'.cell? ⟨g2, j * 7 + 3, none⟩ = some (.int .i64 k) ∧ w'.cell? ⟨g2, j * 7 + 4, none⟩ = some (.int .i64 nn) ∧ w'.cell? ⟨g2, j * 7 + 5, none⟩ = some (.int .i64 d) ∧ w'.cell? ⟨g2, j * 7 + 6, none⟩ = some (.string S))
        (exact ⟨bclT (n := wr.heap.size) (by go_grown) d0 hgw, bclT (n := wr.heap.size) (by go_grown) d1 hgw, bclT (n := wr.heap.size) (by go_grown) d2 hgw, bclT (n := wr.heap.size) (by go_grown) d3 hgw, bclT (n := wr.heap.size) (by go_grown) d4 hgw, bclT (n := wr.heap.size) (by go_grown) d5 hgw, bclT (n := wr.heap.size) (by go_grown) d6 hgw, bclT (n := wr.heap.size) (by go_grown) f0 hg2w, bclT (n := wr.heap.size) (by go_grown) f1 hg2w, bclT (n := wr.heap.size) (by go_grown) f2 hg2w, bclT (n := wr.heap.size) (by go_grown) f3 hg2w, bclT (n := wr.heap.size) (by go_grown) f4 hg2w, bclT (n := wr.heap.size) (by go_grown) f5 hg2w, bclT (n := wr.heap.size) (by go_grown) f6 hg2w⟩)
        (first
          | (go_at_call 10; refine (SM.out _).mono ?_; rintro e v1 ⟨rfl, hv1⟩; obtain ⟨hw1, hn1⟩ := bg0 (n := wr.heap.size) (W0 := wr) (by go_grown) (by go_size) hv1; clear hv1))
      have B5 : Below w.heap.size w v1 := hB3.trans (hw1.mono hB3.size)
      clear d0 d1 d2 d3 d4 d5 d6 f0 f1 f2 f3 f4 f5 f6 hw1 hB3
      go_wp2
      exact ⟨⟨j + 1, by go_num, by omega, B5⟩, by simp [ivR]; omega⟩
    · have c5 : ¬ (j : Int) < n := by omega
      go_wp2
      go_ret
      exact ⟨rfl, hB3⟩
theorem rowT_below {w w' : World} {p : Option Addr} {L : List (Tok Val)} (h : RowT w p L) (hb : Below w.heap.size w w') : RowT w' p L := by
  intro i hi
  obtain ⟨g, e, hg, hc⟩ := h i hi
  exact ⟨g, e, Nat.lt_of_lt_of_le hg hb.size, fun j hj => (hb.cell (p := ⟨g, _, none⟩) hg).trans (hc j hj)⟩
theorem rowT_set {w : World} {p : Option Addr} {L : List (Tok Val)} {g o : Nat} {u : Value} (h : RowT w p L) (hne : ∀ b, p = some ⟨b, 0, none⟩ → b ≠ g) : RowT (w.setCell ⟨g, o, none⟩ u) p L := by
  intro i hi
  obtain ⟨b, e, hb, hc⟩ := h i hi
  refine ⟨b, e, by simpa using hb, fun j hj => ?_⟩
  refine (cell_same ((grownBy_setCell w g o u).block b hb (fun x => ?_)) _).trans (hc j hj)
  injection x with x
  exact hne b e x
set_option maxRecDepth 100000 in
set_option maxHeartbeats 8000000 in
theorem tokens_law (s : ByteArray) (w : World) (E PL : Int) (L : List (Tok Val)) (hLn : L.length ≤ 16384)
    (TK : Hid (∀ W : World, Pow W → Errs W → 6 ≤ W.heap.size → Calls Tryz.prog 4 #[.string s] W fun e w' => Below W.heap.size W w' ∧ ∃ v, e = .returned (.tuple #[v, .int .i64 E, .int .i64 PL]) ∧ OwnT7 (W.heap.size + 1) v L w'))
    (RK : Hid (∀ W : World, Calls Tryz.prog 5 #[.string s] W fun e w' => Below W.heap.size W w' ∧ ∃ v, e = .returned (.tuple #[v, .int .i64 E, .int .i64 PL]) ∧ OwnR7 W.heap.size v L w'))
    (ht : Pow w) (he : Errs w) (h8 : 6 ≤ w.heap.size) :
    Calls Tryz.prog 3 #[.string s] w fun e w' => e = .returned (.bool true) ∧ Below w.heap.size w w' := by
  have HE : Hid (Errs w) := he
  have HP : Hid (Pow w) := ht
  clear he ht
  have LV : Hid (∀ W : World, Pow W → Errs W → 6 ≤ W.heap.size → Calls Tryz.prog 7 #[] W fun e w' => e = .returned (.bool true) ∧ Below W.heap.size W w') := fun W a b c => lexlive_any W a b c
  have AL : Hid (∀ (pa pb : Option Addr) (ca cb : Nat) (W : World), RowT W pa L → RowT W pb L → Calls Tryz.prog 6 #[.slice pa L.length ca, .slice pb L.length cb] W fun e w' => e = .returned (.bool true) ∧ Below W.heap.size W w') := fun pa pb ca cb W a b => all_yes pa pb ca cb L W a b hLn
  obtain ⟨n, en⟩ : ∃ n : Nat, Hid (L.length = n) := ⟨_, rfl⟩
  rw [en.out] at AL hLn
  go_enter Tryz.func3, Tryz.ntmps3
  go_wp2_with fail
  refine (TK.out _ HP.out HE.out h8).mono ?_
  rintro e w1 ⟨hB1, v, rfl, hO1⟩
  obtain ⟨p1, c1, rfl, R1⟩ := rowT_of hO1
  have HO1 : Hid (w1.ownsRow (w.heap.size + 1) 33 7 (.slice p1 L.length c1) L.length (flatT L)) := hO1
  have HG1 : Hid (∀ g, p1 = some ⟨g, 0, none⟩ → g < w1.heap.size) := fun g e => (World.ownsRow.lt hO1 g (by rw [e]; rfl)).2
  have HR1 : Hid (RowT w1 p1 L) := R1
  clear hO1 R1
  rw [en.out] at HO1 ⊢
  go_wp2_with fail
  refine (RK.out _).mono ?_
  rintro e w2 ⟨hB2, v, rfl, hO2⟩
  obtain ⟨p2, c2, rfl, R2⟩ := rowT_of hO2
  have HG2 : Hid (∀ g, p2 = some ⟨g, 0, none⟩ → w1.heap.size ≤ g) := fun g e => (World.ownsRow.lt hO2 g (by rw [e]; rfl)).1
  have HR2 : Hid (RowT w2 p2 L) := R2
  clear hO2 R2
  rw [en.out]
  have B2 : Below w.heap.size w w2 := hB1.trans (hB2.mono hB1.size)
  go_wp2_with fail
  refine (AL.out _ _ _ _ _ (rowT_below HR1.out hB2) HR2.out).mono ?_
  rintro e w3 ⟨rfl, hB3⟩
  have B3 : Below w.heap.size w w3 := B2.trans (hB3.mono B2.size)
  have HO3 : Hid (w3.ownsRow (w.heap.size + 1) 33 7 (.slice p1 n c1) n (flatT L)) := own_bel7 (own_bel7 HO1.out hB2) hB3
  have HR3 : Hid (RowT w3 p2 L) := rowT_below HR2.out hB3
  clear HO1 HR1 HR2 hB1 hB2 hB3 B2
  go_wp2
  go_loopw [10] (fun v wr => ∃ i : Nat, v = .int .i64 i ∧ i ≤ n ∧ Hid (∃ xs : List Value, wr.ownsRow (w.heap.size + 1) 33 7 (.slice p1 n c1) n xs) ∧ Hid (RowT wr p2 L) ∧ Below w.heap.size w wr) (fun v _ => n - (ivR v).toNat)
  case atStart => exact ⟨0, rfl, Nat.zero_le _, (⟨_, HO3.out⟩ : ∃ xs : List Value, _), HR3, B3⟩
  case round =>
    obtain ⟨i, rfl, hin, hI, hR, hB⟩ := hrel
    by_cases hlt : i < n
    · have d1 : (i : Int) < n := by omega
      obtain ⟨xs, ho⟩ := hI.out
      have hp1 : ∃ g, p1 = some ⟨g, 0, none⟩ := by
        rcases ho.2 with ⟨-, h⟩ | ⟨g, cap, cur, h, -⟩
        · omega
        · injection h with h; exact ⟨g, h⟩
      obtain ⟨g, rfl⟩ := hp1
      have hne : ∀ b, p2 = some ⟨b, 0, none⟩ → b ≠ g := fun b e => by
        have a1 := HG2.out b e
        have a2 := HG1.out g rfl
        omega
      have hgB := (World.ownsRow.lt ho g rfl).1
      have xk : i * 7 + 6 < xs.length := by rw [ho.1]; omega
      have q50 : wr.cell? ⟨g, i * 7, none⟩ = xs[i * 7]? := ho.cellAt _ (by omega)
      have q5 : ∀ t, t < 7 → wr.cell? ⟨g, i * 7 + t, none⟩ = xs[i * 7 + t]? := fun t ht => ho.cellAt _ (by omega)
      have q51 := q5 1 (by omega)
      have q52 := q5 2 (by omega)
      have q53 := q5 3 (by omega)
      have q54 := q5 4 (by omega)
      have q55 := q5 5 (by omega)
      have q56 := q5 6 (by omega)
      rw [List.getElem?_eq_getElem (by omega)] at q50 q51 q52 q53 q54 q55 q56
      have q60 : wr.frozen? ⟨g, i * 7, none⟩ = false := ho.frozenAt _
      have q61 : wr.frozen? ⟨g, i * 7 + 1, none⟩ = false := ho.frozenAt _
      have q62 : wr.frozen? ⟨g, i * 7 + 2, none⟩ = false := ho.frozenAt _
      have q63 : wr.frozen? ⟨g, i * 7 + 3, none⟩ = false := ho.frozenAt _
      have q64 : wr.frozen? ⟨g, i * 7 + 4, none⟩ = false := ho.frozenAt _
      have q65 : wr.frozen? ⟨g, i * 7 + 5, none⟩ = false := ho.frozenAt _
      have q66 : wr.frozen? ⟨g, i * 7 + 6, none⟩ = false := ho.frozenAt _
      obtain ⟨s0, g0⟩ := ho.stored (i * 7) (.int .i64 (-77))
      obtain ⟨s1, g1⟩ := s0.stored (i * 7 + 1) (.int .i64 0)
      obtain ⟨s2, g2⟩ := s1.stored (i * 7 + 2) (.string ⟨#[]⟩)
      obtain ⟨s3, g3⟩ := s2.stored (i * 7 + 3) (.int .i64 0)
      obtain ⟨s4, g4⟩ := s3.stored (i * 7 + 4) (.int .i64 0)
      obtain ⟨s5, g5⟩ := s4.stored (i * 7 + 5) (.int .i64 0)
      obtain ⟨s6, g6⟩ := s5.stored (i * 7 + 6) (.string ⟨#[]⟩)
      have hq : ∀ q, (some g : Option Nat) = some q → w.heap.size ≤ q := fun q hq => by injection hq with hq; omega
      have K0 := hB.grown g0 hB.size hq
      have K1 := K0.grown g1 K0.size hq
      have K2 := K1.grown g2 K1.size hq
      have K3 := K2.grown g3 K2.size hq
      have K4 := K3.grown g4 K3.size hq
      have K5 := K4.grown g5 K4.size hq
      have K6 := K5.grown g6 K5.size hq
      have R6 := rowT_set (g := g) (o := i * 7 + 6) (u := .string ⟨#[]⟩) (rowT_set (g := g) (o := i * 7 + 5) (u := .int .i64 0) (rowT_set (g := g) (o := i * 7 + 4) (u := .int .i64 0) (rowT_set (g := g) (o := i * 7 + 3) (u := .int .i64 0) (rowT_set (g := g) (o := i * 7 + 2) (u := .string ⟨#[]⟩) (rowT_set (g := g) (o := i * 7 + 1) (u := .int .i64 0) (rowT_set (g := g) (o := i * 7) (u := .int .i64 (-77)) hR.out hne) hne) hne) hne) hne) hne) hne
      have HI6 : Hid (∃ xs : List Value, (((((((wr.setCell ⟨g, i * 7, none⟩ (.int .i64 (-77))).setCell ⟨g, i * 7 + 1, none⟩ (.int .i64 0)).setCell ⟨g, i * 7 + 2, none⟩ (.string ⟨#[]⟩)).setCell ⟨g, i * 7 + 3, none⟩ (.int .i64 0)).setCell ⟨g, i * 7 + 4, none⟩ (.int .i64 0)).setCell ⟨g, i * 7 + 5, none⟩ (.int .i64 0)).setCell ⟨g, i * 7 + 6, none⟩ (.string ⟨#[]⟩)).ownsRow (w.heap.size + 1) 33 7 (.slice (some ⟨g, 0, none⟩) n c1) n xs) := ⟨_, s6⟩
      have HR6 : Hid (RowT (((((((wr.setCell ⟨g, i * 7, none⟩ (.int .i64 (-77))).setCell ⟨g, i * 7 + 1, none⟩ (.int .i64 0)).setCell ⟨g, i * 7 + 2, none⟩ (.string ⟨#[]⟩)).setCell ⟨g, i * 7 + 3, none⟩ (.int .i64 0)).setCell ⟨g, i * 7 + 4, none⟩ (.int .i64 0)).setCell ⟨g, i * 7 + 5, none⟩ (.int .i64 0)).setCell ⟨g, i * 7 + 6, none⟩ (.string ⟨#[]⟩)) p2 L) := R6
      clear K0 K1 K2 K3 K4 K5 g0 g1 g2 g3 g4 g5 g6 s0 s1 s2 s3 s4 s5 s6 hq R6 hI hR ho q5 hB
      generalize xs[i * 7] = Y0 at q50
      generalize xs[i * 7 + 1] = Y1 at q51
      generalize xs[i * 7 + 2] = Y2 at q52
      generalize xs[i * 7 + 3] = Y3 at q53
      generalize xs[i * 7 + 4] = Y4 at q54
      generalize xs[i * 7 + 5] = Y5 at q55
      generalize xs[i * 7 + 6] = Y6 at q56
      go_wp2
      exact ⟨⟨i + 1, by go_num, by omega, HI6, HR6, K6⟩, by simp [ivR]; omega⟩
    · have d1 : ¬ (i : Int) < n := by omega
      clear hI
      go_wp2_with fail
      refine (TK.out _ (HP.out.below hB) (HE.out.below hB h8) (by have := hB.size; omega)).mono ?_
      rintro e w4 ⟨hB4, v, rfl, hO4⟩
      obtain ⟨p3, c3, rfl, R4⟩ := rowT_of hO4
      have HR4 : Hid (RowT w4 p3 L) := R4
      have HR5 : Hid (RowT w4 p2 L) := rowT_below hR.out hB4
      have B4 : Below w.heap.size w w4 := hB.trans (hB4.mono hB.size)
      clear hO4 R4 hR hB4
      rw [en.out]
      go_wp2_with fail
      refine (LV.out _ (HP.out.below B4) (HE.out.below B4 h8) (by have := B4.size; omega)).mono ?_
      rintro e w5 ⟨rfl, hB5⟩
      have B5 : Below w.heap.size w w5 := B4.trans (hB5.mono B4.size)
      go_wp2_with fail
      refine (AL.out _ _ _ _ _ (rowT_below HR4.out hB5) (rowT_below HR5.out hB5)).mono ?_
      rintro e w6 ⟨rfl, hB6⟩
      have B6 : Below w.heap.size w w6 := B5.trans (hB6.mono B5.size)
      clear hB5 hB6 B5 B4
      go_wp2
      go_ret
      exact ⟨rfl, B6⟩
theorem T_lenT (n : Nat) (l : List UInt8) (hn : l.length ≤ n) (p : Nat) : (T sdB l p).1.length ≤ l.length := by
  induction n generalizing l p with
  | zero =>
    have : l = [] := List.length_eq_zero_iff.mp (by omega)
    subst this
    simp [T_nil]
  | succ n ih =>
    rcases T_cases sdB l p with ⟨h1, h2⟩ | ⟨b, h1, h2, h2a, h2b, h3, h4⟩ | ⟨b, h1, h2, h2a, h2b, h3, h4⟩
    · rw [h2]; simp
    · rw [h4]
      have hle := beh_le _ h3.1
      simp only [List.length_drop] at hle
      have := ih (l.drop (b + (beh (l.drop b)).2)) (by simp; omega) (p + b + (beh (l.drop b)).2)
      simp only [List.length_drop] at this
      simp
      omega
    · rw [h4]; simp
theorem own_none {w : World} {B e : Nat} : w.ownsRow B e 7 (.slice none 0 0) ([] : List (Tok Val)).length (flatT []) := ⟨rfl, .inl ⟨rfl, rfl⟩⟩
theorem tokens_walk (s : ByteArray) (w : World) (ht : Pow w) (he : Errs w) (h8 : 6 ≤ w.heap.size) :
    Calls Tryz.prog 3 #[.string s] w fun e w' => e = .returned (.bool true) ∧ Below w.heap.size w w' := by
  by_cases hs : s.size ≤ 16384
  · have hl : s.data.toList.length = s.size := by simp
    cases hr : (T sdB s.data.toList 0).2 with
    | none =>
      have hT := T_lenT _ s.data.toList (Nat.le_refl _) 0
      refine tokens_law s w 0 0 (T sdB s.data.toList 0).1 (by omega) (fun W a b c => (tokens_run s W hs a b c).mono ?_) (fun W => (rtokens_run s W hs).mono ?_) ht he h8
      · rintro e w' ⟨hB, ⟨p, h1, -⟩ | ⟨-, v, rfl, hO⟩⟩
        · rw [hr] at h1; cases h1
        · exact ⟨hB, v, rfl, hO⟩
      · rintro e w' ⟨hB, ⟨p, h1, -⟩ | ⟨-, v, rfl, hO⟩⟩
        · rw [hr] at h1; cases h1
        · exact ⟨hB, v, rfl, hO⟩
    | some p =>
      refine tokens_law s w 50 p [] (by simp) (fun W a b c => (tokens_run s W hs a b c).mono ?_) (fun W => (rtokens_run s W hs).mono ?_) ht he h8
      · rintro e w' ⟨hB, ⟨q, h1, rfl⟩ | ⟨h1, -⟩⟩
        · rw [hr] at h1; cases h1; exact ⟨hB, _, rfl, own_none⟩
        · rw [hr] at h1; cases h1
      · rintro e w' ⟨hB, ⟨q, h1, rfl⟩ | ⟨h1, -⟩⟩
        · rw [hr] at h1; cases h1; exact ⟨hB, _, rfl, own_none⟩
        · rw [hr] at h1; cases h1
  · exact tokens_law s w 2 0 [] (by simp) (fun W a b c => (tokens_long s W (by omega)).mono (fun e w' h => ⟨h.2, _, h.1, own_none⟩)) (fun W => (rtokens_long s W (by omega)).mono (fun e w' h => ⟨h.2, _, h.1, own_none⟩)) ht he h8
end Go.Proofs.YtmegombglkcccaaGreatDoor
