/- Tokens laid down with blanks between are cut into the same tokens again: the walk of LexAgain. -/
import Derived.Test.YtmegombglkcccaaDoorZ04
import Derived.Lib.AppendStr
import Derived.Lib.ConvBytes

namespace Go.Proofs.YtmegombglkcccaaDoor
open Go.RowKit Go.Shelf LX
set_option linter.unusedVariables false

set_option maxRecDepth 100000 in
set_option maxHeartbeats 4000000 in
theorem same_yes (K A k n d : Int) (X S : ByteArray) (w : World) :
    Calls Tryd.prog 10 #[.agg #[.int .i64 K, .int .i64 A, .string X, .int .i64 k, .int .i64 n, .int .i64 d, .string S], .agg #[.int .i64 K, .int .i64 A, .string X, .int .i64 k, .int .i64 n, .int .i64 d, .string S]] w fun e w' => e = .returned (.bool true) ∧ Below w.heap.size w w' := by
  go_enter Tryd.func10, Tryd.ntmps10
  go_wp2
  go_ret
  exact ⟨rfl, by go_grown⟩
theorem bclL {n : Nat} {W0 wx : World} (h : Below n W0 wx) {a : Addr} {v : Value} (hv : W0.cell? a = some v) (ha : a.block < n) : wx.cell? a = some v := (h.cell ha).trans hv
/-- Blanks, as the statement lays them down. -/
def gapL (n : Nat) : List UInt8 := (List.range n).map fun j => if j % 2 = 0 then 32 else 10
theorem gapL_succ (n : Nat) : gapL (n + 1) = gapL n ++ [if n % 2 = 0 then 32 else 10] := by simp [gapL, List.range_succ]
theorem gapL_len (n : Nat) : (gapL n).length = n := by simp [gapL]
theorem gapL_blk (n : Nat) : ∀ c ∈ gapL n, blk c = true := by
  intro c hc
  simp only [gapL, List.mem_map] at hc
  obtain ⟨j, -, rfl⟩ := hc
  split <;> rfl
theorem lay_app (ys : List (List UInt8 × Tok Val)) (g : List UInt8) (t : Tok Val) : lay (ys ++ [(g, t)]) = lay ys ++ g ++ t.x := by
  induction ys with
  | nil => simp [lay]
  | cons y ys ih =>
    obtain ⟨g', t'⟩ := y
    simp only [List.cons_append, lay, ih]
    simp
theorem moved_len (ys : List (List UInt8 × Tok Val)) (p : Nat) : (moved ys p).length = ys.length := by
  induction ys generalizing p with
  | nil => rfl
  | cons y ys ih => obtain ⟨g, t⟩ := y; simp [moved, ih]
/-- The tokens that are found anew, but for their places. -/
theorem moved_get (ys : List (List UInt8 × Tok Val)) (p i : Nat) (hi : i < ys.length) : ∃ q, (moved ys p)[i]'(by rw [moved_len]; exact hi) = ⟨ys[i].2.k, q, ys[i].2.x, ys[i].2.v⟩ := by
  induction ys generalizing p i with
  | nil => simp at hi
  | cons y ys ih =>
    obtain ⟨g, t⟩ := y
    cases i with
    | zero => exact ⟨_, rfl⟩
    | succ i => exact ih _ i (by simpa using hi)
theorem T_xlen (n : Nat) (l : List UInt8) (hn : l.length ≤ n) (p : Nat) : ∀ t ∈ (T sdB l p).1, t.x.length ≤ l.length := by
  induction n generalizing l p with
  | zero =>
    have : l = [] := List.length_eq_zero_iff.mp (by omega)
    subst this
    simp [T_nil]
  | succ n ih =>
    rcases T_cases sdB l p with ⟨h1, h2⟩ | ⟨b, h1, h2, h2a, h2b, h3, h4⟩ | ⟨b, h1, h2, h2a, h2b, h3, h4⟩
    · rw [h2]; simp
    · rw [h4]
      have hle := beh_le _ h3.1
      simp only [List.length_drop] at hle
      intro t ht
      cases ht with
      | head => show ((l.drop b).take _).length ≤ _; simp; omega
      | tail _ ht =>
        have := ih _ (by simp; omega) _ t ht
        simp only [List.length_drop] at this
        omega
    · rw [h4]; simp
/-- A row of bytes of the call's own. -/
def OwnBy (B : Nat) (v : Value) (acc : List UInt8) (w : World) : Prop := w.ownsRow B 5 1 v acc.length (Lib.byteCells acc)
theorem inB9 : (Tryd.prog.info? 5).map (fun i => (i.zero, i.size, i.bytes)) = some (some (.int .u8 0), 1, 1) := by kernel_rfl
theorem ownBy_more {B : Nat} {v' : Value} {acc : List UInt8} {c : UInt8} {w' : World} (h : w'.ownsRow B 5 1 v' (acc.length + 1) (Lib.byteCells acc ++ [.int .u8 c.toNat])) : OwnBy B v' (acc ++ [c]) w' := by
  unfold OwnBy
  rw [List.length_append]
  simpa [Lib.byteCells] using h
theorem ownBy_str {B : Nat} {v' : Value} {acc x : List UInt8} {w' : World} (h : w'.ownsRow B 5 1 v' (acc.length + (⟨x.toArray⟩ : ByteArray).size) (Lib.byteCells acc ++ Lib.strCells ⟨x.toArray⟩)) : OwnBy B v' (acc ++ x) w' := by
  have e1 : (⟨x.toArray⟩ : ByteArray).size = x.length := by show x.toArray.size = _; simp
  have e2 : Lib.byteCells acc ++ Lib.strCells ⟨x.toArray⟩ = Lib.byteCells (acc ++ x) := by simp [Lib.byteCells, Lib.strCells]
  unfold OwnBy
  rw [List.length_append, ← e1, ← e2]
  exact h
theorem cvBy (W : World) (B : Nat) (v : Value) (acc : List UInt8) (h : OwnBy B v acc W) : (convert 22 9 v).run Tryd.prog W = .ok (.string ⟨acc.toArray⟩) W := by
  obtain ⟨hl, hv | ⟨g, cap, cur, hv, hg1, hg2, hg3, hg4, hg5, hg6⟩⟩ := h
  · obtain ⟨rfl, hn⟩ := hv
    obtain rfl : acc = [] := List.eq_nil_of_length_eq_zero hn
    exact run_convert_bytes_nil W 22 5 Tryd.underlying22 Tryd.underlying5 0 0 9 Tryd.underlying9
  · subst hv
    have hown : W.ownsRow B 5 1 (.slice (some ⟨g, 0, none⟩) acc.length cap) acc.length (Lib.byteCells acc) := ⟨hl, .inr ⟨g, cap, cur, rfl, hg1, hg2, hg3, hg4, hg5, hg6⟩⟩
    exact run_convert_bytes_back W 22 9 5 ⟨g, 0, none⟩ cap acc Tryd.underlying22 Tryd.underlying5 Tryd.underlying9 (fun j hj => by
      rw [Addr.add_lit, Nat.zero_add, hown.cellAt j (by omega)]
      simp [Lib.byteCells, List.getElem?_eq_getElem hj])
/-- A slice of numbers that came in. -/
def GapsAt (w : World) (p : Option Addr) (m : Nat) : Prop := ∀ j, j < m → ∃ b off q, p = some ⟨b, off, none⟩ ∧ b < w.heap.size ∧ w.cell? ⟨b, off + j, none⟩ = some (.int .i64 q) ∧ -9223372036854775808 ≤ q ∧ q ≤ 9223372036854775807
set_option maxRecDepth 100000 in
set_option maxHeartbeats 8000000 in
theorem again_1 (s : ByteArray) (G : Value) (w : World) (E p : Int) (hE : ¬ E = 0) (ht : Pow w) (he : Errs w) (h8 : 6 ≤ w.heap.size)
    (TK : Hid (∀ W : World, Pow W → Errs W → 6 ≤ W.heap.size → Calls Tryd.prog 7 #[.string s] W fun e w' => e = .returned (.tuple #[.slice none 0 0, .int .i64 E, .int .i64 p]) ∧ Below W.heap.size W w')) :
    Calls Tryd.prog 5 #[.string s, G] w fun e w' => e = .returned (.bool true) ∧ Below w.heap.size w w' := by
  have HE : Hid (Errs w) := he
  have HP : Hid (Pow w) := ht
  clear he ht
  have LV : Hid (∀ W : World, Pow W → Errs W → 6 ≤ W.heap.size → Calls Tryd.prog 8 #[] W fun e w' => e = .returned (.bool true) ∧ Below W.heap.size W w') := fun W a b c => live_any W a b c
  go_enter Tryd.func5, Tryd.ntmps5
  go_wp2_with fail
  refine (TK.out _ HP.out HE.out h8).mono ?_
  rintro e w1 ⟨rfl, hB1⟩
  go_wp2_with fail
  refine (LV.out _ (HP.out.below hB1) (HE.out.below hB1 h8) (by have := hB1.size; omega)).mono ?_
  rintro e w2 ⟨rfl, hB2⟩
  have B2 : Below w.heap.size w w2 := hB1.trans (hB2.mono hB1.size)
  clear hB1 hB2
  go_wp2
  go_ret
  exact ⟨rfl, B2⟩
theorem rem_in (q : Int) : ∃ n : Nat, wrap64 (1 + (wrap64 (q.tmod 3 + 3)).tmod 3) = (n : Int) ∧ 1 ≤ n ∧ n ≤ 3 := by
  have hq : -2 ≤ q.tmod 3 ∧ q.tmod 3 ≤ 2 := by
    have := Int.tmod_lt_of_pos q (b := 3) (by decide)
    have h2 := Int.lt_tmod_of_pos q (b := 3) (by decide)
    omega
  have e1 : wrap64 (q.tmod 3 + 3) = q.tmod 3 + 3 := by unfold wrap64; omega
  rw [e1]
  have h3 : 0 ≤ (q.tmod 3 + 3).tmod 3 ∧ (q.tmod 3 + 3).tmod 3 ≤ 2 := by
    have := Int.tmod_lt_of_pos (q.tmod 3 + 3) (b := 3) (by decide)
    have h2 := Int.tmod_nonneg (a := q.tmod 3 + 3) 3 (by omega)
    omega
  refine ⟨(1 + (q.tmod 3 + 3).tmod 3).toNat, ?_, by omega, by omega⟩
  unfold wrap64
  omega
theorem tmod2 (k : Nat) : (k : Int).tmod 2 = ((k % 2 : Nat) : Int) := by
  rw [Int.tmod_eq_emod_of_nonneg (by omega)]; omega
set_option maxRecDepth 100000 in
set_option maxHeartbeats 16000000 in
theorem again_2 (s : ByteArray) (GP : Option Addr) (GM GC : Nat) (w : World) (hs : s.size ≤ 16384) (hr : (T sdB s.data.toList 0).2 = none) (hG : GapsAt w GP GM) (ht : Pow w) (he : Errs w) (h8 : 6 ≤ w.heap.size) :
    Calls Tryd.prog 5 #[.string s, .slice GP GM GC] w fun e w' => e = .returned (.bool true) ∧ Below w.heap.size w w' := by
  have hl : s.data.toList.length = s.size := by simp
  obtain ⟨i0, hi, hz0, hz1, hz2⟩ := info_parts inB9
  obtain ⟨L, hL⟩ : ∃ L, Hid (T sdB s.data.toList 0 = (L, none)) := ⟨_, Prod.ext rfl hr⟩
  have HG : Hid (GapsAt w GP GM) := hG
  have GD : Hid (∀ t ∈ L, LX.Good sdB t ∧ t.x.length ≤ 16384) := fun t htL => by
    have a1 := T_good sdB _ _ (Nat.le_refl _) 0 t (by rw [hL.out]; exact htL)
    have a2 := T_xlen _ s.data.toList (Nat.le_refl _) 0 t (by rw [hL.out]; exact htL)
    exact ⟨a1, by omega⟩
  have TK : Hid (∀ W : World, Pow W → Errs W → 6 ≤ W.heap.size → Calls Tryd.prog 7 #[.string s] W fun e w' => ∃ p c, e = .returned (.tuple #[.slice p L.length c, .int .i64 0, .int .i64 0]) ∧ Below W.heap.size W w' ∧ Hid (∀ i (hi : i < L.length), ∃ g, p = some ⟨g, 0, none⟩ ∧ g < w'.heap.size ∧ ∀ j, j < 7 → w'.cell? ⟨g, i * 7 + j, none⟩ = (tcells L[i])[j]?)) := fun W a b c => toks_at s L W hs hL.out a b c
  have LV : Hid (∀ W : World, Pow W → Errs W → 6 ≤ W.heap.size → Calls Tryd.prog 8 #[] W fun e w' => e = .returned (.bool true) ∧ Below W.heap.size W w') := fun W a b c => live_any W a b c
  have HE : Hid (Errs w) := he
  have HP : Hid (Pow w) := ht
  have hLn : L.length ≤ 16384 := by
    have := T_len s.data.toList.length s.data.toList (Nat.le_refl _) 0
    rw [hL.out] at this
    dsimp only at this
    omega
  clear he ht hr hG
  go_enter Tryd.func5, Tryd.ntmps5
  go_wp2_with fail
  refine (TK.out _ HP.out HE.out h8).mono ?_
  rintro e w1 ⟨P, C, rfl, hB1, hC⟩
  have z1 := hB1.size
  obtain ⟨n, en⟩ : ∃ n : Nat, Hid (L.length = n) := ⟨_, rfl⟩
  rw [en.out] at hLn ⊢
  go_wp2
  go_loopw [8, 9] (fun v8 v9 wr => ∃ (i : Nat), v9 = .int .i64 i ∧ i ≤ n ∧ Hid (∃ ys : List (List UInt8 × Tok Val), ys.length = i ∧ ys.map Prod.snd = L.take i ∧ (∀ y ∈ ys, y.1 ≠ [] ∧ ∀ c ∈ y.1, blk c = true) ∧ (lay ys).length ≤ i * 16387 ∧ OwnBy w1.heap.size v8 (lay ys) wr) ∧ Below w1.heap.size w1 wr) (fun _ v9 _ => n - (ivOf v9).toNat)
  case atStart => exact ⟨0, rfl, Nat.zero_le _, (⟨[], rfl, rfl, by simp, by simp [lay], ⟨rfl, .inl ⟨rfl, rfl⟩⟩⟩ : ∃ ys : List (List UInt8 × Tok Val), _), Below.refl _ _⟩
  case round =>
    obtain ⟨i, rfl, hin, hY, hB⟩ := hrel
    have hBw : Below w.heap.size w wr := hB1.trans (hB.mono hB1.size)
    obtain ⟨ys, y1, y2, y3, y4, y5⟩ := hY.out
    by_cases hlt : i < n
    · have c1 : (i : Int) < n := by omega
      have hiL : i < L.length := by have := en.out; omega
      obtain ⟨g, rfl, hg, hcell⟩ := hC.out i hiL
      obtain ⟨tg, tx⟩ := GD.out L[i] (List.getElem_mem hiL)
      have hsz := hB.size
      by_cases hgm : i < GM
      · have c3 : (i : Int) < GM := by omega
        obtain ⟨b, off, q, rfl, hb, hq, hq1, hq2⟩ := HG.out i hgm
        have hq' : wr.cell? ⟨b, off + i, none⟩ = some (.int .i64 q) := (hBw.cell (p := ⟨b, _, none⟩) hb).trans hq
        obtain ⟨nn, hnn, hnn1, hnn3⟩ := rem_in q
        go_upto_region 11 with fail
        rw [hnn]
        clear hnn hq'
        go_wp2
        go_loopw [8, 11] (fun v8 v11 wr' => ∃ (k : Nat), v11 = .int .i64 k ∧ k ≤ nn ∧ Hid (OwnBy w1.heap.size v8 (lay ys ++ gapL k) wr') ∧ Below w1.heap.size w1 wr') (fun _ v11 _ => nn - (ivOf v11).toNat)
        case atStart => exact ⟨0, rfl, Nat.zero_le _, (show OwnBy w1.heap.size _ (lay ys ++ []) wr by rw [List.append_nil]; exact y5), hB⟩
        case round =>
          obtain ⟨k, rfl, hk, hO, hB'⟩ := hrel
          have hsz' := hB'.size
          have hln : (lay ys ++ gapL k).length ≤ 300000000 := by rw [List.length_append, gapL_len]; omega
          obtain ⟨acc, eacc⟩ : ∃ acc, Hid (lay ys ++ gapL k = acc) := ⟨_, rfl⟩
          rw [eacc.out] at hO hln
          by_cases hkn : k < nn
          · have c4 : (k : Int) < nn := by omega
            have km := tmod2 k
            have HK : Hid (∀ q, u8.ownBlock = some q → w1.heap.size ≤ q) := fun q hq => (World.ownsRow.lt hO.out q hq).1
            by_cases hk2 : k % 2 = 0
            · have hk2' : (k : Int).tmod 2 = 0 := by omega
              clear km
              go_wp2_with (at_builtin; refine wpList_append_own _ rfl (.tmp 52) (.tmp 53) 22 rfl w1.heap.size 5 i0 (.int .u8 0) 1 1 Tryd.underlying22 hi hz0 hz1 hz2 rfl (by decide) _ _ _ rfl (World.ownsRow.alloc hO.out _) ⟨wr.heap.size, 0, none⟩ 1 1 [.int .u8 32] rfl rfl ?c1pe ?c2pe (by unfold maxLen; omega) (by omega) (by simp; omega) ?growpe)
              case c1pe => (intro j u hj; rw [Addr.add_lit]; (rcases j with _ | j) <;> simp at hj; subst hj; simp (maxDischargeDepth := 12) [go_sem])
              case c2pe => (intro u hu; simp at hu; subst hu; rfl)
              case growpe =>
                intro v' w2 h2 h3 _
                have o2 : Hid (OwnBy w1.heap.size v' (lay ys ++ gapL (k + 1)) w2) := by
                  rw [gapL_succ, ← List.append_assoc, eacc.out, if_pos hk2]
                  exact ownBy_more h2
                have K2 : Below w1.heap.size w1 w2 := Below.grown (hB'.alloc hsz' _) h3 (by simp; omega) HK.out
                clear h2 h3 hO HK
                go_wp2
                exact ⟨⟨k + 1, by go_num, by omega, o2, K2⟩, by simp [ivOf]; omega⟩
            · have hk2' : ¬ (k : Int).tmod 2 = 0 := by omega
              clear km
              go_wp2_with (at_builtin; refine wpList_append_own _ rfl (.tmp 55) (.tmp 56) 22 rfl w1.heap.size 5 i0 (.int .u8 0) 1 1 Tryd.underlying22 hi hz0 hz1 hz2 rfl (by decide) _ _ _ rfl (World.ownsRow.alloc hO.out _) ⟨wr.heap.size, 0, none⟩ 1 1 [.int .u8 10] rfl rfl ?c1po ?c2po (by unfold maxLen; omega) (by omega) (by simp; omega) ?growpo)
              case c1po => (intro j u hj; rw [Addr.add_lit]; (rcases j with _ | j) <;> simp at hj; subst hj; simp (maxDischargeDepth := 12) [go_sem])
              case c2po => (intro u hu; simp at hu; subst hu; rfl)
              case growpo =>
                intro v' w2 h2 h3 _
                have o2 : Hid (OwnBy w1.heap.size v' (lay ys ++ gapL (k + 1)) w2) := by
                  rw [gapL_succ, ← List.append_assoc, eacc.out, if_neg hk2]
                  exact ownBy_more h2
                have K2 : Below w1.heap.size w1 w2 := Below.grown (hB'.alloc hsz' _) h3 (by simp; omega) HK.out
                clear h2 h3 hO HK
                go_wp2
                exact ⟨⟨k + 1, by go_num, by omega, o2, K2⟩, by simp [ivOf]; omega⟩
          · have c4 : ¬ (k : Int) < nn := by omega
            have hkN : k = nn := by omega
            rw [hkN] at eacc
            have d2 : wr.cell? ⟨g, i * 7 + 2, none⟩ = some (.string ⟨L[i].x.toArray⟩) := (hB'.cell (p := ⟨g, _, none⟩) hg).trans (hcell 2 (by omega))
            have hX : (⟨L[i].x.toArray⟩ : ByteArray).size = L[i].x.length := by show L[i].x.toArray.size = _; simp
            have HK : Hid (∀ q, u8.ownBlock = some q → w1.heap.size ≤ q) := fun q hq => (World.ownsRow.lt hO.out q hq).1
            have hnew : Hid (∀ (v' : Value) (w2 : World), w2.ownsRow w1.heap.size 5 1 v' (acc.length + (⟨L[i].x.toArray⟩ : ByteArray).size) (Lib.byteCells acc ++ Lib.strCells ⟨L[i].x.toArray⟩) → ∃ ys' : List (List UInt8 × Tok Val), ys'.length = i + 1 ∧ ys'.map Prod.snd = L.take (i + 1) ∧ (∀ y ∈ ys', y.1 ≠ [] ∧ ∀ c ∈ y.1, blk c = true) ∧ (lay ys').length ≤ (i + 1) * 16387 ∧ OwnBy w1.heap.size v' (lay ys') w2) := fun v' w2 h2 => by
              refine ⟨ys ++ [(gapL nn, L[i])], by simp [y1], ?_, ?_, ?_, ?_⟩
              · rw [List.map_append, y2, List.take_add_one, List.getElem?_eq_getElem hiL]; rfl
              · intro y hy
                rcases List.mem_append.1 hy with hy | hy
                · exact y3 y hy
                · obtain rfl := List.mem_singleton.1 hy
                  refine ⟨fun h => ?_, gapL_blk _⟩
                  have h0 := congrArg List.length h
                  dsimp only at h0
                  rw [gapL_len] at h0
                  change _ = 0 at h0
                  omega
              · rw [lay_app, List.length_append, List.length_append, gapL_len]; omega
              · rw [lay_app, eacc.out]; exact ownBy_str h2
            generalize (⟨L[i].x.toArray⟩ : ByteArray) = X at d2 hX hnew
            have hXb : X.size ≤ 16384 := by rw [hX]; exact tx
            clear hX
            go_wp2_with (at_builtin; refine Lib.wpList_append_own_string _ rfl (.tmp 58) (.tmp 63) 22 9 rfl w1.heap.size 5 i0 Tryd.underlying22 Tryd.underlying9 hi hz0 hz1 hz2 _ _ _ rfl hO.out X rfl (by unfold maxLen; omega) (by omega) (by omega) ?growSp)
            case growSp =>
              intro v' w2 h2 h3 _
              have o2 := hnew.out v' w2 h2
              have K2 : Below w1.heap.size w1 w2 := Below.grown hB' h3 hsz' HK.out
              clear h2 h3 hO HK hnew d2
              go_wp2
              exact ⟨⟨i + 1, by go_num, by omega, o2, K2⟩, by simp [ivOf]; omega⟩
      · have c3 : ¬ (i : Int) < GM := by omega
        go_upto_region 11 with fail
        go_wp2
        go_loopw [8, 11] (fun v8 v11 wr' => ∃ (k : Nat), v11 = .int .i64 k ∧ k ≤ 1 ∧ Hid (OwnBy w1.heap.size v8 (lay ys ++ gapL k) wr') ∧ Below w1.heap.size w1 wr') (fun _ v11 _ => 1 - (ivOf v11).toNat)
        case atStart => exact ⟨0, rfl, Nat.zero_le _, (show OwnBy w1.heap.size _ (lay ys ++ []) wr by rw [List.append_nil]; exact y5), hB⟩
        case round =>
          obtain ⟨k, rfl, hk, hO, hB'⟩ := hrel
          have hsz' := hB'.size
          have hln : (lay ys ++ gapL k).length ≤ 300000000 := by rw [List.length_append, gapL_len]; omega
          obtain ⟨acc, eacc⟩ : ∃ acc, Hid (lay ys ++ gapL k = acc) := ⟨_, rfl⟩
          rw [eacc.out] at hO hln
          by_cases hkn : k < 1
          · have c4 : (k : Int) < 1 := by omega
            have km := tmod2 k
            have HK : Hid (∀ q, u8.ownBlock = some q → w1.heap.size ≤ q) := fun q hq => (World.ownsRow.lt hO.out q hq).1
            by_cases hk2 : k % 2 = 0
            · have hk2' : (k : Int).tmod 2 = 0 := by omega
              clear km
              go_wp2_with (at_builtin; refine wpList_append_own _ rfl (.tmp 52) (.tmp 53) 22 rfl w1.heap.size 5 i0 (.int .u8 0) 1 1 Tryd.underlying22 hi hz0 hz1 hz2 rfl (by decide) _ _ _ rfl (World.ownsRow.alloc hO.out _) ⟨wr.heap.size, 0, none⟩ 1 1 [.int .u8 32] rfl rfl ?c1qe ?c2qe (by unfold maxLen; omega) (by omega) (by simp; omega) ?growqe)
              case c1qe => (intro j u hj; rw [Addr.add_lit]; (rcases j with _ | j) <;> simp at hj; subst hj; simp (maxDischargeDepth := 12) [go_sem])
              case c2qe => (intro u hu; simp at hu; subst hu; rfl)
              case growqe =>
                intro v' w2 h2 h3 _
                have o2 : Hid (OwnBy w1.heap.size v' (lay ys ++ gapL (k + 1)) w2) := by
                  rw [gapL_succ, ← List.append_assoc, eacc.out, if_pos hk2]
                  exact ownBy_more h2
                have K2 : Below w1.heap.size w1 w2 := Below.grown (hB'.alloc hsz' _) h3 (by simp; omega) HK.out
                clear h2 h3 hO HK
                go_wp2
                exact ⟨⟨k + 1, by go_num, by omega, o2, K2⟩, by simp [ivOf]; omega⟩
            · exact absurd hk2 (by omega)
          · have c4 : ¬ (k : Int) < 1 := by omega
            have hkN : k = 1 := by omega
            rw [hkN] at eacc
            have d2 : wr.cell? ⟨g, i * 7 + 2, none⟩ = some (.string ⟨L[i].x.toArray⟩) := (hB'.cell (p := ⟨g, _, none⟩) hg).trans (hcell 2 (by omega))
            have hX : (⟨L[i].x.toArray⟩ : ByteArray).size = L[i].x.length := by show L[i].x.toArray.size = _; simp
            have HK : Hid (∀ q, u8.ownBlock = some q → w1.heap.size ≤ q) := fun q hq => (World.ownsRow.lt hO.out q hq).1
            have hnew : Hid (∀ (v' : Value) (w2 : World), w2.ownsRow w1.heap.size 5 1 v' (acc.length + (⟨L[i].x.toArray⟩ : ByteArray).size) (Lib.byteCells acc ++ Lib.strCells ⟨L[i].x.toArray⟩) → ∃ ys' : List (List UInt8 × Tok Val), ys'.length = i + 1 ∧ ys'.map Prod.snd = L.take (i + 1) ∧ (∀ y ∈ ys', y.1 ≠ [] ∧ ∀ c ∈ y.1, blk c = true) ∧ (lay ys').length ≤ (i + 1) * 16387 ∧ OwnBy w1.heap.size v' (lay ys') w2) := fun v' w2 h2 => by
              refine ⟨ys ++ [(gapL 1, L[i])], by simp [y1], ?_, ?_, ?_, ?_⟩
              · rw [List.map_append, y2, List.take_add_one, List.getElem?_eq_getElem hiL]; rfl
              · intro y hy
                rcases List.mem_append.1 hy with hy | hy
                · exact y3 y hy
                · obtain rfl := List.mem_singleton.1 hy
                  refine ⟨fun h => ?_, gapL_blk _⟩
                  have h0 := congrArg List.length h
                  dsimp only at h0
                  rw [gapL_len] at h0
                  change _ = 0 at h0
                  omega
              · rw [lay_app, List.length_append, List.length_append, gapL_len]; omega
              · rw [lay_app, eacc.out]; exact ownBy_str h2
            generalize (⟨L[i].x.toArray⟩ : ByteArray) = X at d2 hX hnew
            have hXb : X.size ≤ 16384 := by rw [hX]; exact tx
            clear hX
            go_wp2_with (at_builtin; refine Lib.wpList_append_own_string _ rfl (.tmp 58) (.tmp 63) 22 9 rfl w1.heap.size 5 i0 Tryd.underlying22 Tryd.underlying9 hi hz0 hz1 hz2 _ _ _ rfl hO.out X rfl (by unfold maxLen; omega) (by omega) (by omega) ?growSq)
            case growSq =>
              intro v' w2 h2 h3 _
              have o2 := hnew.out v' w2 h2
              have K2 : Below w1.heap.size w1 w2 := Below.grown hB' h3 hsz' HK.out
              clear h2 h3 hO HK hnew d2
              go_wp2
              exact ⟨⟨i + 1, by go_num, by omega, o2, K2⟩, by simp [ivOf]; omega⟩
    · have c2 : ¬ (i : Int) < n := by omega
      have hiE : i = n := by omega
      have hLn' : L.take i = L := List.take_of_length_le (by have := en.out; omega)
      rw [hLn'] at y2
      have hmap : Hid (∀ j (hj : j < L.length), ∃ hy : j < ys.length, ys[j].2 = L[j]) := fun j hj => by
        have h1 : ys.length = L.length := by have := congrArg List.length y2; simpa using this
        refine ⟨by omega, ?_⟩
        have := congrArg (fun l : List (Tok Val) => l[j]?) y2
        simp only [List.getElem?_map, List.getElem?_eq_getElem hj, List.getElem?_eq_getElem (show j < ys.length by omega), Option.map_some, Option.some.injEq] at this
        exact this
      have hgood : ∀ y ∈ ys, (y.1 ≠ [] ∧ ∀ c ∈ y.1, blk c = true) ∧ LX.Good sdB y.2 := fun y hy => ⟨y3 y hy, (GD.out y.2 (by rw [← y2]; exact List.mem_map_of_mem hy)).1⟩
      have hTa : Hid (T sdB (lay ys) 0 = (moved ys 0, none)) := T_again sdB ys 0 hgood
      have cv := cvBy wr w1.heap.size u8 (lay ys) y5
      obtain ⟨ul, hul⟩ : ∃ p c, u8 = .slice p (lay ys).length c := by
        rcases y5.2 with ⟨h, h'⟩ | ⟨g, cap, cur, h, -⟩
        · exact ⟨_, _, by rw [h, h']⟩
        · exact ⟨_, _, h⟩
      obtain ⟨uc, rfl⟩ := hul
      have hyl : ys.length = n := by have h1 := congrArg List.length y2; have := en.out; simp at h1; omega
      have hbl : (⟨(lay ys).toArray⟩ : ByteArray).size = (lay ys).length := by show (lay ys).toArray.size = _; simp
      have hdl : (⟨(lay ys).toArray⟩ : ByteArray).data.toList = lay ys := rfl
      by_cases hlong : 16384 < (lay ys).length
      · have c4 : (16384 : Int) < ((lay ys).length : Nat) := by omega
        have TB : Hid (∀ W : World, Calls Tryd.prog 7 #[.string ⟨(lay ys).toArray⟩] W fun e w' => e = .returned (.tuple #[.slice none 0 0, .int .i64 2, .int .i64 0]) ∧ Below W.heap.size W w') := fun W => tokens_long _ W (by rw [hbl]; exact hlong)
        have hle : (lay ys).length ≤ 300000000 := by omega
        generalize (⟨(lay ys).toArray⟩ : ByteArray) = BB at cv TB
        generalize (lay ys).length = LL at cv c4 hle
        clear hY y5 hTa hgood hbl hdl
        go_wp2_with fail
        refine (TB.out _).mono ?_
        rintro e w2 ⟨rfl, hB2⟩
        have B2 : Below w.heap.size w w2 := hBw.trans (hB2.mono hBw.size)
        clear cv hB2
        go_wp2_with fail
        refine (LV.out _ (HP.out.below B2) (HE.out.below B2 h8) (by have := B2.size; omega)).mono ?_
        rintro e w3 ⟨rfl, hB3⟩
        have B3 : Below w.heap.size w w3 := B2.trans (hB3.mono B2.size)
        clear hB3
        go_wp2
        go_ret
        exact ⟨rfl, B3⟩
      · have c4 : ¬ (16384 : Int) < ((lay ys).length : Nat) := by omega
        have hml : (moved ys 0).length = n := by rw [moved_len]; exact hyl
        have TB : Hid (∀ W : World, Pow W → Errs W → 6 ≤ W.heap.size → Calls Tryd.prog 7 #[.string ⟨(lay ys).toArray⟩] W fun e w' => ∃ p c, e = .returned (.tuple #[.slice p n c, .int .i64 0, .int .i64 0]) ∧ Below W.heap.size W w' ∧ Hid (∀ j (hj : j < L.length), ∃ (g q : Nat), p = some ⟨g, 0, none⟩ ∧ g < w'.heap.size ∧ ∀ m, m < 7 → w'.cell? ⟨g, j * 7 + m, none⟩ = (tcells ⟨L[j].k, q, L[j].x, L[j].v⟩)[m]?)) := fun W a b c => by
          refine (toks_at _ (moved ys 0) W (by rw [hbl]; omega) (by rw [hdl]; exact hTa.out) a b c).mono ?_
          rintro e w' ⟨p, c, rfl, hB, hcl⟩
          refine ⟨p, c, by rw [hml], hB, fun j hj => ?_⟩
          obtain ⟨hy, hyj⟩ := hmap.out j hj
          obtain ⟨g, e1, e2, e3⟩ := hcl.out j (by rw [moved_len]; exact hy)
          obtain ⟨q, hq⟩ := moved_get ys 0 j hy
          rw [hq, hyj] at e3
          exact ⟨g, q, e1, e2, e3⟩
        generalize (⟨(lay ys).toArray⟩ : ByteArray) = BB at cv TB
        have hle : (lay ys).length ≤ 300000000 := by omega
        generalize (lay ys).length = LL at cv c4 hle
        clear hY y5 hTa hgood hmap hbl hdl y1 y2 y3 y4 hyl hml
        have HBw : Hid (Below w.heap.size w wr) := hBw
        go_wp2_with fail
        refine (TB.out _ (HP.out.below hBw) (HE.out.below hBw h8) (by have := hBw.size; omega)).mono ?_
        rintro e w2 ⟨P2, C2, rfl, hB2, hC2⟩
        have B2 : Below w.heap.size w w2 := hBw.trans (hB2.mono hBw.size)
        have B12 : Below w1.heap.size w1 w2 := hB.trans (hB2.mono hB.size)
        clear cv hB2
        go_wp2
        go_loopw [15] (fun v15 wr' => ∃ (j : Nat), v15 = .int .i64 j ∧ j ≤ n ∧ Below w2.heap.size w2 wr') (fun v15 _ => n - (ivOf v15).toNat)
        case atStart => exact ⟨0, rfl, Nat.zero_le _, Below.refl _ _⟩
        case round =>
          obtain ⟨j, rfl, hjn, hB3⟩ := hrel
          have B3 : Below w.heap.size w wr := B2.trans (hB3.mono B2.size)
          by_cases hjlt : j < n
          · have c5 : (j : Int) < n := by omega
            have hjL : j < L.length := by have := en.out; omega
            obtain ⟨g, eg, hg, hcell⟩ := hC.out j hjL
            subst eg
            obtain ⟨g2, q, eg2, hg2, hcell2⟩ := hC2.out j hjL
            subst eg2
            have B13 : Below w1.heap.size w1 wr := B12.trans (hB3.mono B12.size)
            generalize L[j] = t at hcell hcell2
            obtain ⟨K, A, x, vv⟩ := t
            obtain ⟨k, nn, d, S⟩ := vv
            have d0 : wr.cell? ⟨g, j * 7, none⟩ = some (.int .i64 K) := (B13.cell (p := ⟨g, _, none⟩) hg).trans (hcell 0 (by omega))
            have d2 : wr.cell? ⟨g, j * 7 + 2, none⟩ = some (.string ⟨x.toArray⟩) := (B13.cell (p := ⟨g, _, none⟩) hg).trans (hcell 2 (by omega))
            have d3 : wr.cell? ⟨g, j * 7 + 3, none⟩ = some (.int .i64 k) := (B13.cell (p := ⟨g, _, none⟩) hg).trans (hcell 3 (by omega))
            have d4 : wr.cell? ⟨g, j * 7 + 4, none⟩ = some (.int .i64 nn) := (B13.cell (p := ⟨g, _, none⟩) hg).trans (hcell 4 (by omega))
            have d5 : wr.cell? ⟨g, j * 7 + 5, none⟩ = some (.int .i64 d) := (B13.cell (p := ⟨g, _, none⟩) hg).trans (hcell 5 (by omega))
            have d6 : wr.cell? ⟨g, j * 7 + 6, none⟩ = some (.string S) := (B13.cell (p := ⟨g, _, none⟩) hg).trans (hcell 6 (by omega))
            have f0 : wr.cell? ⟨g2, j * 7, none⟩ = some (.int .i64 K) := (hB3.cell (p := ⟨g2, _, none⟩) hg2).trans (hcell2 0 (by omega))
            have f1 : wr.cell? ⟨g2, j * 7 + 1, none⟩ = some (.int .i64 q) := (hB3.cell (p := ⟨g2, _, none⟩) hg2).trans (hcell2 1 (by omega))
            have f2 : wr.cell? ⟨g2, j * 7 + 2, none⟩ = some (.string ⟨x.toArray⟩) := (hB3.cell (p := ⟨g2, _, none⟩) hg2).trans (hcell2 2 (by omega))
            have f3 : wr.cell? ⟨g2, j * 7 + 3, none⟩ = some (.int .i64 k) := (hB3.cell (p := ⟨g2, _, none⟩) hg2).trans (hcell2 3 (by omega))
            have f4 : wr.cell? ⟨g2, j * 7 + 4, none⟩ = some (.int .i64 nn) := (hB3.cell (p := ⟨g2, _, none⟩) hg2).trans (hcell2 4 (by omega))
            have f5 : wr.cell? ⟨g2, j * 7 + 5, none⟩ = some (.int .i64 d) := (hB3.cell (p := ⟨g2, _, none⟩) hg2).trans (hcell2 5 (by omega))
            have f6 : wr.cell? ⟨g2, j * 7 + 6, none⟩ = some (.string S) := (hB3.cell (p := ⟨g2, _, none⟩) hg2).trans (hcell2 6 (by omega))
            generalize (⟨x.toArray⟩ : ByteArray) = X at d2 f2
            have hgw : g < wr.heap.size := Nat.lt_of_lt_of_le hg B13.size
            have hg2w : g2 < wr.heap.size := Nat.lt_of_lt_of_le hg2 hB3.size
            clear hcell hcell2
            go_upto_region 26 with fail
            go_region_held3 (fun w' => w'.cell? ⟨g, j * 7, none⟩ = some (.int .i64 K) ∧ w'.cell? ⟨g, j * 7 + 2, none⟩ = some (.string X) ∧ w'.cell? ⟨g, j * 7 + 3, none⟩ = some (.int .i64 k) ∧ w'.cell? ⟨g, j * 7 + 4, none⟩ = some (.int .i64 nn) ∧ w'.cell? ⟨g, j * 7 + 5, none⟩ = some (.int .i64 d) ∧ w'.cell? ⟨g, j * 7 + 6, none⟩ = some (.string S) ∧ w'.cell? ⟨g2, j * 7 + 1, none⟩ = some (.int .i64 q)) (exact ⟨bclL (n := wr.heap.size) (by go_grown) d0 hgw, bclL (n := wr.heap.size) (by go_grown) d2 hgw, bclL (n := wr.heap.size) (by go_grown) d3 hgw, bclL (n := wr.heap.size) (by go_grown) d4 hgw, bclL (n := wr.heap.size) (by go_grown) d5 hgw, bclL (n := wr.heap.size) (by go_grown) d6 hgw, bclL (n := wr.heap.size) (by go_grown) f1 hg2w⟩) (first | fail)
            generalize hW4 : World.drew _ = W4
            have G4 : Below wr.heap.size wr W4 := by rw [← hW4]; exact ((Below.refl _ wr).alloc (Nat.le_refl _) _).drew
            have R4 : Hid (BlkT W4 wr.heap.size K q X k nn d S) := by rw [← hW4]; constructor <;> simp (maxDischargeDepth := 16) [go_sem]
            have zW : wr.heap.size < W4.heap.size := by rw [← hW4]; simp
            clear hW4
            have hg2W : g2 < W4.heap.size := Nat.lt_trans hg2w zW
            have e0 := (G4.cell (p := ⟨g2, j * 7, none⟩) hg2w).trans f0
            have e1 := (G4.cell (p := ⟨g2, j * 7 + 1, none⟩) hg2w).trans f1
            have e2 := (G4.cell (p := ⟨g2, j * 7 + 2, none⟩) hg2w).trans f2
            have e3 := (G4.cell (p := ⟨g2, j * 7 + 3, none⟩) hg2w).trans f3
            have e4 := (G4.cell (p := ⟨g2, j * 7 + 4, none⟩) hg2w).trans f4
            have e5 := (G4.cell (p := ⟨g2, j * 7 + 5, none⟩) hg2w).trans f5
            have e6 := (G4.cell (p := ⟨g2, j * 7 + 6, none⟩) hg2w).trans f6
            obtain ⟨r0, r1, r2, r3, r4, r5, r6, -, -, -, -, -, -, -⟩ := R4.out
            have B4 : Below w2.heap.size w2 W4 := hB3.trans (G4.mono hB3.size)
            have SM : Hid (∀ W : World, Calls Tryd.prog 10 #[.agg #[.int .i64 K, .int .i64 q, .string X, .int .i64 k, .int .i64 nn, .int .i64 d, .string S], .agg #[.int .i64 K, .int .i64 q, .string X, .int .i64 k, .int .i64 nn, .int .i64 d, .string S]] W fun e w' => e = .returned (.bool true) ∧ Below W.heap.size W w') := fun W => same_yes _ _ _ _ _ _ _ W
            clear d0 d2 d3 d4 d5 d6 f0 f1 f2 f3 f4 f5 f6 G4 R4
            go_upto_region 27 with fail
            go_region_held3 (fun w' => w'.cell? ⟨g2, j * 7, none⟩ = some (.int .i64 K) ∧ w'.cell? ⟨g2, j * 7 + 1, none⟩ = some (.int .i64 q) ∧ w'.cell? ⟨g2, j * 7 + 2, none⟩ = some (.string X) ∧ w'.cell? ⟨g2, j * 7 + 3, none⟩ = some (.int .i64 k) ∧ w'.cell? ⟨g2, j * 7 + 4, none⟩ = some (.int .i64 nn) ∧ w'.cell? ⟨g2, j * 7 + 5, none⟩ = some (.int .i64 d) ∧ w'.cell? ⟨g2, j * 7 + 6, none⟩ = some (.string S) ∧ w'.cell? ⟨wr.heap.size, 0, none⟩ = some (.int .i64 K) ∧ w'.cell? ⟨wr.heap.size, 1, none⟩ = some (.int .i64 q) ∧ w'.cell? ⟨wr.heap.size, 2, none⟩ = some (.string X) ∧ w'.cell? ⟨wr.heap.size, 3, none⟩ = some (.int .i64 k) ∧ w'.cell? ⟨wr.heap.size, 4, none⟩ = some (.int .i64 nn) ∧ w'.cell? ⟨wr.heap.size, 5, none⟩ = some (.int .i64 d) ∧ w'.cell? ⟨wr.heap.size, 6, none⟩ = some (.string S)) (exact ⟨bclL (n := W4.heap.size) (by go_grown) e0 hg2W, bclL (n := W4.heap.size) (by go_grown) e1 hg2W, bclL (n := W4.heap.size) (by go_grown) e2 hg2W, bclL (n := W4.heap.size) (by go_grown) e3 hg2W, bclL (n := W4.heap.size) (by go_grown) e4 hg2W, bclL (n := W4.heap.size) (by go_grown) e5 hg2W, bclL (n := W4.heap.size) (by go_grown) e6 hg2W, bclL (n := W4.heap.size) (by go_grown) r0 zW, bclL (n := W4.heap.size) (by go_grown) r1 zW, bclL (n := W4.heap.size) (by go_grown) r2 zW, bclL (n := W4.heap.size) (by go_grown) r3 zW, bclL (n := W4.heap.size) (by go_grown) r4 zW, bclL (n := W4.heap.size) (by go_grown) r5 zW, bclL (n := W4.heap.size) (by go_grown) r6 zW⟩)
              (first
                | (go_at_call 10; refine (SM.out _).mono ?_; rintro e v1 ⟨rfl, hv1⟩; obtain ⟨hw1, hn1⟩ := bg0 (n := W4.heap.size) (W0 := W4) (by go_grown) (by go_size) hv1; clear hv1))
            have B5 : Below w2.heap.size w2 v1 := B4.trans (hw1.mono B4.size)
            clear e0 e1 e2 e3 e4 e5 e6 r0 r1 r2 r3 r4 r5 r6 hw1 B4
            go_wp2
            exact ⟨⟨j + 1, by go_num, by omega, B5⟩, by simp [ivOf]; omega⟩
          · have c5 : ¬ (j : Int) < n := by omega
            go_wp2_with fail
            refine (LV.out _ (HP.out.below B3) (HE.out.below B3 h8) (by have := B3.size; omega)).mono ?_
            rintro e w4 ⟨rfl, hB4⟩
            have B4 : Below w.heap.size w w4 := B3.trans (hB4.mono B3.size)
            clear hB4
            go_wp2
            go_ret
            exact ⟨rfl, B4⟩
theorem again_walk (s : ByteArray) (GP : Option Addr) (GM GC : Nat) (w : World) (hG : GapsAt w GP GM) (ht : Pow w) (he : Errs w) (h8 : 6 ≤ w.heap.size) :
    Calls Tryd.prog 5 #[.string s, .slice GP GM GC] w fun e w' => e = .returned (.bool true) ∧ Below w.heap.size w w' := by
  by_cases hs : s.size ≤ 16384
  · cases hr : (T sdB s.data.toList 0).2 with
    | none => exact again_2 s GP GM GC w hs hr hG ht he h8
    | some p =>
      refine again_1 s _ w 50 p (by decide) ht he h8 (fun W a b c => (tokens_run s W hs a b c).mono ?_)
      rintro e w' ⟨hB, ⟨q, h1, rfl⟩ | ⟨h1, -⟩⟩
      · rw [hr] at h1; cases h1; exact ⟨rfl, hB⟩
      · rw [hr] at h1; cases h1
  · exact again_1 s _ w 2 0 (by decide) ht he h8 (fun W a b c => tokens_long s W (by omega))
end Go.Proofs.YtmegombglkcccaaDoor
