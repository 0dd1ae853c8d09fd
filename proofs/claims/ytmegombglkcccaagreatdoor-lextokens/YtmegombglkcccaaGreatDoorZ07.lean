/- The document's own token at every place. -/
import Derived.Test.YtmegombglkcccaaGreatDoorZ06
import Derived.OwnWalk
import Derived.Laws.OwnMore
import Derived.Laws.IdiomStrings
import Derived.Deep.RegionLaw
import Derived.Test.YtmegombglkcccaaGreatDoorZ04
import Derived.Test.YtmegombglkcccaaGreatDoorZ03
import Derived.Test.YtmegombglkcccaaGreatDoorZ05

namespace Go.Proofs.YtmegombglkcccaaGreatDoor
open Go.RowKit Go.Shelf
set_option linter.unusedVariables false

theorem step_append_own {P : Program} {ops : Array Oper} {o : Oper} {a : Act} {w : World} {K : Act → World → Prop} {Q : Exit → Act → World → Prop} {E : Prop}
    (hg : o.guard = none) (s x : Operand) (t : TypeId) (ho : o.op = Op.call { callee := Callee.builtin Builtin.append, args := #[s, x], argTypes := #[t, t] })
    (base : Nat) (e : TypeId) (i : TypeInfo) (z : Value) (size bytes : Nat) (ht : P.underlying t = some (.slice e)) (hi : P.info? e = some i) (hz : i.zero = some z) (hsize : i.size = size) (hby : i.bytes = bytes) (hzs : z.cells.size = size) (hsz : 0 < size)
    (v : Value) (n : Nat) (xs : List Value) (hs : a.eval s = v) (hown : w.ownsRow base e size v n xs)
    (ad : Addr) (m c : Nat) (news : List Value) (hx : a.eval x = .slice (some ad) m c) (hl : news.length = m * size) (hnews : ∀ j u, news[j]? = some u → w.cell? (ad.add j) = some u) (h1 : ∀ u ∈ news, u.oneCell' = true)
    (h63 : n + m ≤ maxLen) (hbytes : (n + m) * bytes ≤ 140737488355328) (hbase : base ≤ w.heap.size)
    (h : ∀ v' w', w'.ownsRow base e size v' (n + m) (xs ++ news) → w.grownBy w' v.ownBlock → K (a.put o.dst v') w') :
    if Region.wanted o (yielded ops a.tmps) = true then Oper.wp P o a w K Q else E := by
  have hw : Region.wanted o (yielded ops a.tmps) = true := by simp [Region.wanted, hg]
  rw [if_pos hw]
  exact wp_append_own w s x t ho base e i z size bytes ht hi hz hsize hby hzs hsz v n xs hs hown ad m c news hx hl hnews h1 h63 hbytes hbase fun v' w' h2 h3 _ => h v' w' h2 h3

/-- The bytes that a slice of the call's own holds. -/
def Own (B : Nat) (v : Value) (L : List UInt8) (w : World) : Prop := w.ownsRow B 5 1 v L.length (Lib.byteCells L)
theorem own_more {B : Nat} {v' : Value} {L M : List UInt8} {w' : World} {m : Nat} (h : w'.ownsRow B 5 1 v' (L.length + m) (Lib.byteCells L ++ Lib.byteCells M)) (hm : m = M.length) : Own B v' (L ++ M) w' := by
  unfold Own
  subst hm
  have e1 : Lib.byteCells (L ++ M) = Lib.byteCells L ++ Lib.byteCells M := by simp [Lib.byteCells]
  rw [e1, List.length_append]
  exact h
theorem one_cells (L : List UInt8) : ∀ u ∈ Lib.byteCells L, u.oneCell' = true := by
  intro u hu
  simp [Lib.byteCells] at hu
  obtain ⟨c, _, rfl⟩ := hu
  rfl

set_option maxHeartbeats 4000000 in
set_option maxRecDepth 100000 in
theorem dquote_any (s : ByteArray) (w : World) (hs : s.size ≤ 35184372088830) :
    Calls Tryz.prog 41 #[.string s] w fun e w' => e = .returned (.string ⟨(quoted s.data.toList).toArray⟩) ∧ Below w.heap.size w w' := by
  obtain ⟨i0, hi, hz0, hz1, hz2⟩ := info_parts inB
  go_enter Tryz.func41, Tryz.ntmps41
  go_wp2
  go_loopw [3, 4] (fun b i wr => ∃ k : Nat, k ≤ s.size ∧ i = .int .i64 k ∧ Hid (Own w.heap.size b (34 :: inside (s.data.toList.take k)) wr) ∧ Below w.heap.size w wr) (fun _ i _ => s.size - (intOf i).toNat)
  case atStart => exact ⟨0, by omega, rfl, World.ownsRow_lit w #[.int .u8 34] 1 (Nat.le_refl _) (by decide) rfl, by go_grown⟩
  case round =>
    obtain ⟨k, hk, rfl, hI, hB⟩ := hrel
    have hsz := hB.size
    have hbk : ∀ q, u3.ownBlock = some q → w.heap.size ≤ q := fun q hq => (World.ownsRow.lt hI.out q hq).1
    have HK : Hid (∀ q, u3.ownBlock = some q → w.heap.size ≤ q) := hbk
    clear hbk
    by_cases hke : k = s.size
    · subst hke
      have e0 : s.data.toList.take s.size = s.data.toList := List.take_of_length_le (by simp)
      rw [e0] at hI
      have hl := inside_len s.data.toList
      have hl2 : s.data.toList.length = s.size := by simp
      have hbd : (34 :: inside s.data.toList).length + 1 ≤ 140737488355328 := by simp; omega
      clear hl hl2
      go_wp2_with (at_builtin; refine wpList_append_own _ rfl (.tmp 47) (.tmp 48) 59 rfl w.heap.size 5 i0 (.int .u8 0) 1 1 Tryz.underlying59 hi hz0 hz1 hz2 rfl (by decide) _ _ _ rfl (World.ownsRow.alloc hI.out _) ⟨wr.heap.size, 0, none⟩ 1 1 [.int .u8 34] rfl rfl ?c1 ?c2 (by unfold maxLen; omega) (by omega) (by simp; omega) ?grow)
      case c1 => (intro j u hj; rw [Addr.add_lit]; (rcases j with _ | _ | _ | _ | j) <;> simp at hj <;> subst hj <;> simp (maxDischargeDepth := 12) [go_sem])
      case c2 => (intro u hu; simp at hu; (first | (rcases hu with rfl | rfl) | subst hu) <;> rfl)
      case grow =>
        intro v' w2 h2 h3 _
        have o2 : Own w.heap.size v' (quoted s.data.toList) w2 := own_more (M := [34]) h2 rfl
        have K2 : Below w.heap.size w w2 := Below.grown (hB.alloc hsz _) h3 (by simp; omega) HK.out
        clear h2 h3 hI
        obtain ⟨hl, hv | ⟨g, cap, cur, rfl, hg1, hg2, hg3, hg4, hg5, hg6⟩⟩ := o2
        · exfalso; have := hv.2; simp [quoted] at this
        have hown : w2.ownsRow w.heap.size 5 1 (.slice (some ⟨g, 0, none⟩) (quoted s.data.toList).length cap) (quoted s.data.toList).length (Lib.byteCells (quoted s.data.toList)) := ⟨hl, Or.inr ⟨g, cap, cur, rfl, hg1, hg2, hg3, hg4, hg5, hg6⟩⟩
        have cv : (convert 59 9 (.slice (some ⟨g, 0, none⟩) (quoted s.data.toList).length cap)).run Tryz.prog w2 = .ok (.string ⟨(quoted s.data.toList).toArray⟩) w2 := run_convert_bytes_back w2 59 9 5 ⟨g, 0, none⟩ cap (quoted s.data.toList) Tryz.underlying59 Tryz.underlying5 Tryz.underlying9 (fun j hj => by
          rw [Addr.add_lit, Nat.zero_add, hown.cellAt j (by omega)]
          simp [Lib.byteCells, List.getElem?_eq_getElem hj])
        clear hg1 hg2 hg3 hg4 hg5 hg6 hown hl
        go_wp2
        go_ret
        exact ⟨rfl, K2⟩
    · have hk' : (k : Int) < s.size := by omega
      have hkk : k < s.size := by omega
      have hstep := inside_take s k hkk
      have hl := inside_len (s.data.toList.take k)
      have hl2 : (s.data.toList.take k).length ≤ k := by simp; omega
      have hbd : (34 :: inside (s.data.toList.take k)).length + 4 ≤ 140737488355328 := by simp; omega
      have HS : Hid (inside (s.data.toList.take (k + 1)) = inside (s.data.toList.take k) ++ esc s[k]) := hstep
      clear hstep hl hl2
      have hu : s[k].toNat < 256 := s[k].toNat_lt
      obtain ⟨c, hc⟩ : ∃ c : UInt8, s[k] = c := ⟨_, rfl⟩
      rw [hc] at hu
      rw [hc] at HS
      by_cases a1 : (c.toNat : Int) = 34 ∨ (c.toNat : Int) = 92
      · have he : Hid (esc c = [92, c]) := by unfold Hid esc; rw [if_pos (by omega)]
        have a1' : c.toNat = 34 ∨ c.toNat = 92 := by omega
        clear a1
        have a2 : ((c.toNat : Int) == 34) = true ∨ (((c.toNat : Int) == 34) = false ∧ ((c.toNat : Int) == 92) = true) := by rcases a1' with h | h <;> simp [h]
        clear a1'
        rcases a2 with a2 | ⟨a2, a3⟩
        · go_wp2_with (at_builtin; refine wpList_append_own _ rfl (.tmp 32) (.tmp 34) 59 rfl w.heap.size 5 i0 (.int .u8 0) 1 1 Tryz.underlying59 hi hz0 hz1 hz2 rfl (by decide) _ _ _ rfl (World.ownsRow.alloc hI.out _) ⟨wr.heap.size, 0, none⟩ 2 2 [.int .u8 92, .int .u8 c.toNat] rfl rfl ?c1 ?c2 (by unfold maxLen; omega) (by omega) (by simp; omega) ?grow)
          case c1 => (intro j u hj; rw [Addr.add_lit]; (rcases j with _ | _ | _ | _ | j) <;> simp at hj <;> subst hj <;> simp (maxDischargeDepth := 12) [go_sem])
          case c2 => (intro u hu; simp at hu; (first | (rcases hu with rfl | rfl) | subst hu) <;> rfl)
          case grow =>
            intro v' w2 h2 h3 _
            have o2 : Hid (Own w.heap.size v' (34 :: inside (s.data.toList.take (k + 1))) w2) := by
              rw [HS.out, he.out, ← List.cons_append]
              exact own_more (M := [92, c]) h2 rfl
            have K2 : Below w.heap.size w w2 := Below.grown (hB.alloc hsz _) h3 (by simp; omega) HK.out
            clear h2 h3 hI HK he HS
            go_wp2
            exact ⟨⟨k + 1, by omega, by simp, o2, K2⟩, by simp [intOf]; omega⟩
        · go_wp2_with (at_builtin; refine wpList_append_own _ rfl (.tmp 32) (.tmp 34) 59 rfl w.heap.size 5 i0 (.int .u8 0) 1 1 Tryz.underlying59 hi hz0 hz1 hz2 rfl (by decide) _ _ _ rfl (World.ownsRow.alloc hI.out _) ⟨wr.heap.size, 0, none⟩ 2 2 [.int .u8 92, .int .u8 c.toNat] rfl rfl ?c1 ?c2 (by unfold maxLen; omega) (by omega) (by simp; omega) ?grow)
          case c1 => (intro j u hj; rw [Addr.add_lit]; (rcases j with _ | _ | _ | _ | j) <;> simp at hj <;> subst hj <;> simp (maxDischargeDepth := 12) [go_sem])
          case c2 => (intro u hu; simp at hu; (first | (rcases hu with rfl | rfl) | subst hu) <;> rfl)
          case grow =>
            intro v' w2 h2 h3 _
            have o2 : Hid (Own w.heap.size v' (34 :: inside (s.data.toList.take (k + 1))) w2) := by
              rw [HS.out, he.out, ← List.cons_append]
              exact own_more (M := [92, c]) h2 rfl
            have K2 : Below w.heap.size w w2 := Below.grown (hB.alloc hsz _) h3 (by simp; omega) HK.out
            clear h2 h3 hI HK he HS
            go_wp2
            exact ⟨⟨k + 1, by omega, by simp, o2, K2⟩, by simp [intOf]; omega⟩
      · have a2 : ((c.toNat : Int) == 34) = false := by simp; omega
        have a3 : ((c.toNat : Int) == 92) = false := by simp; omega
        by_cases a4 : 32 ≤ (c.toNat : Int) ∧ (c.toNat : Int) ≤ 126
        · have he : Hid (esc c = [c]) := by unfold Hid esc; rw [if_neg (by omega), if_pos (by omega)]
          obtain ⟨a5, a6⟩ := a4
          clear a1
          go_wp2_with (at_builtin; refine wpList_append_own _ rfl (.tmp 43) (.tmp 45) 59 rfl w.heap.size 5 i0 (.int .u8 0) 1 1 Tryz.underlying59 hi hz0 hz1 hz2 rfl (by decide) _ _ _ rfl (World.ownsRow.alloc hI.out _) ⟨wr.heap.size, 0, none⟩ 1 1 [.int .u8 c.toNat] rfl rfl ?c1 ?c2 (by unfold maxLen; omega) (by omega) (by simp; omega) ?grow)
          case c1 => (intro j u hj; rw [Addr.add_lit]; (rcases j with _ | _ | _ | _ | j) <;> simp at hj <;> subst hj <;> simp (maxDischargeDepth := 12) [go_sem])
          case c2 => (intro u hu; simp at hu; (first | (rcases hu with rfl | rfl) | subst hu) <;> rfl)
          case grow =>
            intro v' w2 h2 h3 _
            have o2 : Hid (Own w.heap.size v' (34 :: inside (s.data.toList.take (k + 1))) w2) := by
              rw [HS.out, he.out, ← List.cons_append]
              exact own_more (M := [c]) h2 rfl
            have K2 : Below w.heap.size w w2 := Below.grown (hB.alloc hsz _) h3 (by simp; omega) HK.out
            clear h2 h3 hI HK he HS
            go_wp2
            exact ⟨⟨k + 1, by omega, by simp, o2, K2⟩, by simp [intOf]; omega⟩
        · have he : Hid (esc c = [92, 120, hexd (c.toNat / 16), hexd (c.toNat % 16)]) := by unfold Hid esc; rw [if_neg (by omega), if_neg (by omega)]
          have a5 : (32 ≤ (c.toNat : Int)) = False ∨ ((32 ≤ (c.toNat : Int)) = True ∧ ((c.toNat : Int) ≤ 126) = False) := by
            by_cases h : 32 ≤ (c.toNat : Int)
            · right; refine ⟨by simp; omega, by simp; omega⟩
            · left; simp; omega
          clear a1 a4
          obtain ⟨p, ep⟩ : ∃ p : Nat, Hid (c.toNat / 16 = p) := ⟨_, rfl⟩
          obtain ⟨q, eq⟩ : ∃ q : Nat, Hid (c.toNat % 16 = q) := ⟨_, rfl⟩
          have hp : p < 16 := by have := ep.out; omega
          have hq : q < 16 := by have := eq.out; omega
          have xp : (c.toNat : Int) / 16 = (p : Int) := by have := ep.out; omega
          have xq : (c.toNat : Int) % 16 = (q : Int) := by have := eq.out; omega
          rw [ep.out, eq.out] at he
          rcases a5 with a5 | ⟨a5, a6⟩
          · skip
            have yp : IntKind.u8.wrap (p : Int) = (p : Int) := by simp [IntKind.wrap, IntKind.bits, IntKind.signed]; omega
            have yq : (c.toNat : Int).tmod 16 = (q : Int) := by rw [Int.tmod_eq_emod_of_nonneg (by omega)]; exact xq
            have hp2 : (p : Int) < 16 := by omega
            have hq2 : (q : Int) < 16 := by omega
            have tp := hex_tab p hp
            have tq := hex_tab q hq
            go_upto_region 6 with fail
            refine wp_region_held_drew (S := fun _ => True) (by kernel_rfl) trivial (fun hHeld => ?_)
            refine wpAnyH_take (i := 0) (oi := ({ dst := some 16, op := Op.move (Operand.tmp 3), type := 59, pos := "ref.go:191", after := #[], guard := none } : Oper)) (v := ?yvq0A) rfl (by kernel_rfl) (by kernel_rfl) (by kernel_rfl) (fun _ _ _ h => h) (Or.inl ⟨by rfl, ?yhq0A⟩) (by assumption) ?yrq0A
            case yhq0A => (intro wq hSw; (try dsimp only at hSw); go_simp; first | done | with_reducible rfl)
            try simp only [Act.put, List.setIfInBounds_toArray, List.set_cons_zero, List.set_cons_succ]
            refine wpAnyH_take (i := 1) (oi := ({ dst := some 17, op := Op.move (Operand.tmp 5), type := 5, pos := "ref.go:191", after := #[], guard := none } : Oper)) (v := ?yvq1A) rfl (by kernel_rfl) (by kernel_rfl) (by kernel_rfl) (fun _ _ _ h => h) (Or.inl ⟨by rfl, ?yhq1A⟩) (by assumption) ?yrq1A
            case yhq1A => (intro wq hSw; (try dsimp only at hSw); go_simp; first | done | with_reducible rfl)
            try simp only [Act.put, List.setIfInBounds_toArray, List.set_cons_zero, List.set_cons_succ]
            refine wpAnyH_take (i := 2) (oi := ({ dst := some 18, op := Op.binOp BinOp.quo 5 (Operand.tmp 17) (Operand.const (Value.int IntKind.u8 16)) 5, type := 5, pos := "ref.go:191", after := #[{ on := 1, ground := Ground.data }], guard := none } : Oper)) (v := ?yvq2A) rfl (by kernel_rfl) (by kernel_rfl) (by kernel_rfl) (fun _ _ _ h => h) (Or.inl ⟨by rfl, ?yhq2A⟩) (by assumption) ?yrq2A
            case yhq2A => (intro wq hSw; (try dsimp only at hSw); go_simp; first | done | with_reducible rfl)
            try simp only [Act.put, List.setIfInBounds_toArray, List.set_cons_zero, List.set_cons_succ]
            refine wpAnyH_take (i := 3) (oi := ({ dst := some 19, op := Op.index 9 (Operand.const (Value.string { data := #[48, 49, 50, 51, 52, 53, 54, 55, 56, 57, 97, 98, 99, 100, 101, 102] })) (Operand.tmp 18), type := 5, pos := "ref.go:191", after := #[{ on := 2, ground := Ground.data }], guard := none } : Oper)) (v := ?yvq3A) rfl (by kernel_rfl) (by kernel_rfl) (by kernel_rfl) (fun _ _ _ h => h) (Or.inl ⟨by rfl, ?yhq3A⟩) (by assumption) ?yrq3A
            case yhq3A => (intro wq hSw; (try dsimp only at hSw); go_simp; first | done | with_reducible rfl)
            try simp only [Act.put, List.setIfInBounds_toArray, List.set_cons_zero, List.set_cons_succ]
            refine wpAnyH_take (i := 4) (oi := ({ dst := some 20, op := Op.move (Operand.tmp 5), type := 5, pos := "ref.go:191", after := #[], guard := none } : Oper)) (v := ?yvq4A) rfl (by kernel_rfl) (by kernel_rfl) (by kernel_rfl) (fun _ _ _ h => h) (Or.inl ⟨by rfl, ?yhq4A⟩) (by assumption) ?yrq4A
            case yhq4A => (intro wq hSw; (try dsimp only at hSw); go_simp; first | done | with_reducible rfl)
            try simp only [Act.put, List.setIfInBounds_toArray, List.set_cons_zero, List.set_cons_succ]
            refine wpAnyH_take (i := 5) (oi := ({ dst := some 21, op := Op.binOp BinOp.rem 5 (Operand.tmp 20) (Operand.const (Value.int IntKind.u8 16)) 5, type := 5, pos := "ref.go:191", after := #[{ on := 4, ground := Ground.data }], guard := none } : Oper)) (v := ?yvq5A) rfl (by kernel_rfl) (by kernel_rfl) (by kernel_rfl) (fun _ _ _ h => h) (Or.inl ⟨by rfl, ?yhq5A⟩) (by assumption) ?yrq5A
            case yhq5A => (intro wq hSw; (try dsimp only at hSw); go_simp; first | done | with_reducible rfl)
            try simp only [Act.put, List.setIfInBounds_toArray, List.set_cons_zero, List.set_cons_succ]
            refine wpAnyH_take (i := 6) (oi := ({ dst := some 22, op := Op.index 9 (Operand.const (Value.string { data := #[48, 49, 50, 51, 52, 53, 54, 55, 56, 57, 97, 98, 99, 100, 101, 102] })) (Operand.tmp 21), type := 5, pos := "ref.go:191", after := #[{ on := 5, ground := Ground.data }], guard := none } : Oper)) (v := ?yvq6A) rfl (by kernel_rfl) (by kernel_rfl) (by kernel_rfl) (fun _ _ _ h => h) (Or.inl ⟨by rfl, ?yhq6A⟩) (by assumption) ?yrq6A
            case yhq6A => (intro wq hSw; (try dsimp only at hSw); go_simp; first | done | with_reducible rfl)
            try simp only [Act.put, List.setIfInBounds_toArray, List.set_cons_zero, List.set_cons_succ]
            refine wpAnyH_ready (rs := [7]) (by kernel_rfl) (by simp) ?_
            refine AllReadyH.cons (o := ({ dst := some 23, op := Op.buildSlice 59 4 #[(0, Operand.const (Value.int IntKind.u8 92)), (1, Operand.const (Value.int IntKind.u8 120)), (2, Operand.tmp 19), (3, Operand.tmp 22)], type := 59, pos := "ref.go:191", after := #[{ on := 3, ground := Ground.data }, { on := 6, ground := Ground.data }], guard := none } : Oper)) rfl (fun K hK => ?_) AllReadyH.nil
            go_simp
            refine hK.out _ _ trivial (fun hHeld => ?_)
            clear hK K
            try simp only [Act.put, List.setIfInBounds_toArray, List.set_cons_zero, List.set_cons_succ]
            refine wpAnyH_ready (rs := [8]) (by kernel_rfl) (by simp) ?_
            refine AllReadyH.cons (o := ({ dst := some 24, op := Op.call { callee := Callee.builtin Builtin.append, args := #[Operand.tmp 16, Operand.tmp 23], argTypes := #[59, 59] }, type := 59, pos := "ref.go:191", after := #[{ on := 0, ground := Ground.data }, { on := 7, ground := Ground.data }], guard := none } : Oper)) rfl (fun K hK => ?_) AllReadyH.nil
            refine step_append_own rfl (.tmp 16) (.tmp 23) 59 rfl w.heap.size 5 i0 (.int .u8 0) 1 1 Tryz.underlying59 hi hz0 hz1 hz2 rfl (by decide) u3 _ _ (by simp [Act.eval]) (World.ownsRow.alloc (World.ownsRow.drew hI.out) _) ⟨wr.heap.size, 0, none⟩ 4 4 [.int .u8 92, .int .u8 120, .int .u8 (hexd p).toNat, .int .u8 (hexd q).toNat] (by simp [Act.eval]) rfl ?c1A ?c2A (by unfold maxLen; omega) (by omega) (by simp; omega) (fun v' w2 h2 h3 => ?_)
            case c1A => (intro j u hj; rw [Addr.add_lit]; (rcases j with _ | _ | _ | _ | j) <;> simp at hj <;> subst hj <;> simp (maxDischargeDepth := 12) [go_sem])
            case c2A => (intro u hu; simp at hu; (rcases hu with rfl | rfl | rfl | rfl) <;> rfl)
            refine hK.out _ _ trivial (fun hHeld => ?_)
            clear hK K
            try simp only [Act.put, List.setIfInBounds_toArray, List.set_cons_zero, List.set_cons_succ]
            refine wpAnyH_take (i := 9) (oi := ({ dst := some 3, op := Op.assign (Operand.tmp 24), type := 59, pos := "ref.go:191", after := #[{ on := 8, ground := Ground.data }, { on := 8, ground := Ground.chain }, { on := 0, ground := Ground.phase }, { on := 1, ground := Ground.phase }, { on := 2, ground := Ground.phase }, { on := 3, ground := Ground.phase }, { on := 4, ground := Ground.phase }, { on := 5, ground := Ground.phase }, { on := 6, ground := Ground.phase }, { on := 7, ground := Ground.phase }, { on := 8, ground := Ground.phase }], guard := none } : Oper)) (v := ?yvq9A) rfl (by kernel_rfl) (by kernel_rfl) (by kernel_rfl) (fun _ _ _ h => h) (Or.inl ⟨by rfl, ?yhq9A⟩) (by assumption) ?yrq9A
            case yhq9A => (intro wq hSw; (try dsimp only at hSw); go_simp; first | done | with_reducible rfl)
            try simp only [Act.put, List.setIfInBounds_toArray, List.set_cons_zero, List.set_cons_succ]
            refine wpAnyH_done (by kernel_rfl) ?_ _
            have o2 : Hid (Own w.heap.size v' (34 :: inside (s.data.toList.take (k + 1))) w2) := by
              rw [HS.out, he.out, ← List.cons_append]
              exact own_more (M := [92, 120, hexd p, hexd q]) h2 rfl
            have K2 : Below w.heap.size w w2 := Below.grown (hB.drew.alloc (by simpa using hsz) _) h3 (by simp; omega) HK.out
            clear h2 h3 hI HK he HS
            (try go_wp2)
            exact ⟨⟨k + 1, by omega, by simp, o2, K2⟩, by simp [intOf]; omega⟩
          · skip
            have yp : IntKind.u8.wrap (p : Int) = (p : Int) := by simp [IntKind.wrap, IntKind.bits, IntKind.signed]; omega
            have yq : (c.toNat : Int).tmod 16 = (q : Int) := by rw [Int.tmod_eq_emod_of_nonneg (by omega)]; exact xq
            have hp2 : (p : Int) < 16 := by omega
            have hq2 : (q : Int) < 16 := by omega
            have tp := hex_tab p hp
            have tq := hex_tab q hq
            go_upto_region 6 with fail
            refine wp_region_held_drew (S := fun _ => True) (by kernel_rfl) trivial (fun hHeld => ?_)
            refine wpAnyH_take (i := 0) (oi := ({ dst := some 16, op := Op.move (Operand.tmp 3), type := 59, pos := "ref.go:191", after := #[], guard := none } : Oper)) (v := ?yvq0B) rfl (by kernel_rfl) (by kernel_rfl) (by kernel_rfl) (fun _ _ _ h => h) (Or.inl ⟨by rfl, ?yhq0B⟩) (by assumption) ?yrq0B
            case yhq0B => (intro wq hSw; (try dsimp only at hSw); go_simp; first | done | with_reducible rfl)
            try simp only [Act.put, List.setIfInBounds_toArray, List.set_cons_zero, List.set_cons_succ]
            refine wpAnyH_take (i := 1) (oi := ({ dst := some 17, op := Op.move (Operand.tmp 5), type := 5, pos := "ref.go:191", after := #[], guard := none } : Oper)) (v := ?yvq1B) rfl (by kernel_rfl) (by kernel_rfl) (by kernel_rfl) (fun _ _ _ h => h) (Or.inl ⟨by rfl, ?yhq1B⟩) (by assumption) ?yrq1B
            case yhq1B => (intro wq hSw; (try dsimp only at hSw); go_simp; first | done | with_reducible rfl)
            try simp only [Act.put, List.setIfInBounds_toArray, List.set_cons_zero, List.set_cons_succ]
            refine wpAnyH_take (i := 2) (oi := ({ dst := some 18, op := Op.binOp BinOp.quo 5 (Operand.tmp 17) (Operand.const (Value.int IntKind.u8 16)) 5, type := 5, pos := "ref.go:191", after := #[{ on := 1, ground := Ground.data }], guard := none } : Oper)) (v := ?yvq2B) rfl (by kernel_rfl) (by kernel_rfl) (by kernel_rfl) (fun _ _ _ h => h) (Or.inl ⟨by rfl, ?yhq2B⟩) (by assumption) ?yrq2B
            case yhq2B => (intro wq hSw; (try dsimp only at hSw); go_simp; first | done | with_reducible rfl)
            try simp only [Act.put, List.setIfInBounds_toArray, List.set_cons_zero, List.set_cons_succ]
            refine wpAnyH_take (i := 3) (oi := ({ dst := some 19, op := Op.index 9 (Operand.const (Value.string { data := #[48, 49, 50, 51, 52, 53, 54, 55, 56, 57, 97, 98, 99, 100, 101, 102] })) (Operand.tmp 18), type := 5, pos := "ref.go:191", after := #[{ on := 2, ground := Ground.data }], guard := none } : Oper)) (v := ?yvq3B) rfl (by kernel_rfl) (by kernel_rfl) (by kernel_rfl) (fun _ _ _ h => h) (Or.inl ⟨by rfl, ?yhq3B⟩) (by assumption) ?yrq3B
            case yhq3B => (intro wq hSw; (try dsimp only at hSw); go_simp; first | done | with_reducible rfl)
            try simp only [Act.put, List.setIfInBounds_toArray, List.set_cons_zero, List.set_cons_succ]
            refine wpAnyH_take (i := 4) (oi := ({ dst := some 20, op := Op.move (Operand.tmp 5), type := 5, pos := "ref.go:191", after := #[], guard := none } : Oper)) (v := ?yvq4B) rfl (by kernel_rfl) (by kernel_rfl) (by kernel_rfl) (fun _ _ _ h => h) (Or.inl ⟨by rfl, ?yhq4B⟩) (by assumption) ?yrq4B
            case yhq4B => (intro wq hSw; (try dsimp only at hSw); go_simp; first | done | with_reducible rfl)
            try simp only [Act.put, List.setIfInBounds_toArray, List.set_cons_zero, List.set_cons_succ]
            refine wpAnyH_take (i := 5) (oi := ({ dst := some 21, op := Op.binOp BinOp.rem 5 (Operand.tmp 20) (Operand.const (Value.int IntKind.u8 16)) 5, type := 5, pos := "ref.go:191", after := #[{ on := 4, ground := Ground.data }], guard := none } : Oper)) (v := ?yvq5B) rfl (by kernel_rfl) (by kernel_rfl) (by kernel_rfl) (fun _ _ _ h => h) (Or.inl ⟨by rfl, ?yhq5B⟩) (by assumption) ?yrq5B
            case yhq5B => (intro wq hSw; (try dsimp only at hSw); go_simp; first | done | with_reducible rfl)
            try simp only [Act.put, List.setIfInBounds_toArray, List.set_cons_zero, List.set_cons_succ]
            refine wpAnyH_take (i := 6) (oi := ({ dst := some 22, op := Op.index 9 (Operand.const (Value.string { data := #[48, 49, 50, 51, 52, 53, 54, 55, 56, 57, 97, 98, 99, 100, 101, 102] })) (Operand.tmp 21), type := 5, pos := "ref.go:191", after := #[{ on := 5, ground := Ground.data }], guard := none } : Oper)) (v := ?yvq6B) rfl (by kernel_rfl) (by kernel_rfl) (by kernel_rfl) (fun _ _ _ h => h) (Or.inl ⟨by rfl, ?yhq6B⟩) (by assumption) ?yrq6B
            case yhq6B => (intro wq hSw; (try dsimp only at hSw); go_simp; first | done | with_reducible rfl)
            try simp only [Act.put, List.setIfInBounds_toArray, List.set_cons_zero, List.set_cons_succ]
            refine wpAnyH_ready (rs := [7]) (by kernel_rfl) (by simp) ?_
            refine AllReadyH.cons (o := ({ dst := some 23, op := Op.buildSlice 59 4 #[(0, Operand.const (Value.int IntKind.u8 92)), (1, Operand.const (Value.int IntKind.u8 120)), (2, Operand.tmp 19), (3, Operand.tmp 22)], type := 59, pos := "ref.go:191", after := #[{ on := 3, ground := Ground.data }, { on := 6, ground := Ground.data }], guard := none } : Oper)) rfl (fun K hK => ?_) AllReadyH.nil
            go_simp
            refine hK.out _ _ trivial (fun hHeld => ?_)
            clear hK K
            try simp only [Act.put, List.setIfInBounds_toArray, List.set_cons_zero, List.set_cons_succ]
            refine wpAnyH_ready (rs := [8]) (by kernel_rfl) (by simp) ?_
            refine AllReadyH.cons (o := ({ dst := some 24, op := Op.call { callee := Callee.builtin Builtin.append, args := #[Operand.tmp 16, Operand.tmp 23], argTypes := #[59, 59] }, type := 59, pos := "ref.go:191", after := #[{ on := 0, ground := Ground.data }, { on := 7, ground := Ground.data }], guard := none } : Oper)) rfl (fun K hK => ?_) AllReadyH.nil
            refine step_append_own rfl (.tmp 16) (.tmp 23) 59 rfl w.heap.size 5 i0 (.int .u8 0) 1 1 Tryz.underlying59 hi hz0 hz1 hz2 rfl (by decide) u3 _ _ (by simp [Act.eval]) (World.ownsRow.alloc (World.ownsRow.drew hI.out) _) ⟨wr.heap.size, 0, none⟩ 4 4 [.int .u8 92, .int .u8 120, .int .u8 (hexd p).toNat, .int .u8 (hexd q).toNat] (by simp [Act.eval]) rfl ?c1B ?c2B (by unfold maxLen; omega) (by omega) (by simp; omega) (fun v' w2 h2 h3 => ?_)
            case c1B => (intro j u hj; rw [Addr.add_lit]; (rcases j with _ | _ | _ | _ | j) <;> simp at hj <;> subst hj <;> simp (maxDischargeDepth := 12) [go_sem])
            case c2B => (intro u hu; simp at hu; (rcases hu with rfl | rfl | rfl | rfl) <;> rfl)
            refine hK.out _ _ trivial (fun hHeld => ?_)
            clear hK K
            try simp only [Act.put, List.setIfInBounds_toArray, List.set_cons_zero, List.set_cons_succ]
            refine wpAnyH_take (i := 9) (oi := ({ dst := some 3, op := Op.assign (Operand.tmp 24), type := 59, pos := "ref.go:191", after := #[{ on := 8, ground := Ground.data }, { on := 8, ground := Ground.chain }, { on := 0, ground := Ground.phase }, { on := 1, ground := Ground.phase }, { on := 2, ground := Ground.phase }, { on := 3, ground := Ground.phase }, { on := 4, ground := Ground.phase }, { on := 5, ground := Ground.phase }, { on := 6, ground := Ground.phase }, { on := 7, ground := Ground.phase }, { on := 8, ground := Ground.phase }], guard := none } : Oper)) (v := ?yvq9B) rfl (by kernel_rfl) (by kernel_rfl) (by kernel_rfl) (fun _ _ _ h => h) (Or.inl ⟨by rfl, ?yhq9B⟩) (by assumption) ?yrq9B
            case yhq9B => (intro wq hSw; (try dsimp only at hSw); go_simp; first | done | with_reducible rfl)
            try simp only [Act.put, List.setIfInBounds_toArray, List.set_cons_zero, List.set_cons_succ]
            refine wpAnyH_done (by kernel_rfl) ?_ _
            have o2 : Hid (Own w.heap.size v' (34 :: inside (s.data.toList.take (k + 1))) w2) := by
              rw [HS.out, he.out, ← List.cons_append]
              exact own_more (M := [92, 120, hexd p, hexd q]) h2 rfl
            have K2 : Below w.heap.size w w2 := Below.grown (hB.drew.alloc (by simpa using hsz) _) h3 (by simp; omega) HK.out
            clear h2 h3 hI HK he HS
            (try go_wp2)
            exact ⟨⟨k + 1, by omega, by simp, o2, K2⟩, by simp [intOf]; omega⟩

end Go.Proofs.YtmegombglkcccaaGreatDoor

namespace Go.Proofs.YtmegombglkcccaaGreatDoor
open Go.RowKit Go.Shelf
set_option linter.unusedVariables false

set_option maxRecDepth 100000 in
set_option maxHeartbeats 2000000 in
theorem dprint_no (k n d : Int) (s : ByteArray) (w : World) (h1 : -9223372036854775808 ≤ n) (h2 : n ≤ 9223372036854775807) (g1 : -9223372036854775808 ≤ d) (g2 : d ≤ 9223372036854775807) (hc1 : (chk k n d s != 0) = true) :
    Calls Tryz.prog 43 #[.agg #[.int .i64 k, .int .i64 n, .int .i64 d, .string s]] w fun e w' => e = .returned (.tuple #[.string ⟨#[]⟩, .int .i64 (chk k n d s)]) ∧ Below w.heap.size w w' := by
  go_enter Tryz.func43, Tryz.ntmps43
  go_wp2_with fail
  refine (rcheck_any k n d s _ h1 h2 g1 g2).mono ?_
  rintro e w1 ⟨rfl, hb⟩
  obtain ⟨hc, hf, hz, hB⟩ := bf (w := w) (by go_grown) hb
  go_wp2
  go_ret2
  exact ⟨rfl, hB⟩

set_option maxRecDepth 100000 in
set_option maxHeartbeats 2000000 in
theorem dprint_1 (n d : Int) (s : ByteArray) (w : World) (h1 : -9223372036854775808 ≤ n) (h2 : n ≤ 9223372036854775807) (g1 : -9223372036854775808 ≤ d) (g2 : d ≤ 9223372036854775807) (c0 : chk 1 n d s = 0) :
    Calls Tryz.prog 43 #[.agg #[.int .i64 1, .int .i64 n, .int .i64 d, .string s]] w fun e w' => e = .returned (.tuple #[.string ⟨(Lib.itoa n).toArray⟩, .int .i64 0]) ∧ Below w.heap.size w w' := by
  go_enter Tryz.func43, Tryz.ntmps43
  go_wp2_with fail
  refine (rcheck_any 1 n d s _ h1 h2 g1 g2).mono ?_
  rintro e w1 ⟨rfl, hb⟩
  obtain ⟨hc, hf, hz, hB⟩ := bf (w := w) (by go_grown) hb
  rw [c0]
  have a1 : w1.cell? ⟨w.heap.size, 0, none⟩ = some (.int .i64 1) := by rw [hc _ _ (by simp)]; simp [go_sem]
  have a2 : w1.cell? ⟨w.heap.size, 1, none⟩ = some (.int .i64 n) := by rw [hc _ _ (by simp)]; simp [go_sem]
  clear hc hf hz hb
  go_wp2_with fail
  refine (ddec_any n _ h1 h2).mono ?_
  rintro e w2 ⟨rfl, hb2⟩
  go_wp2
  go_ret2
  exact ⟨rfl, hB.trans (hb2.mono hB.size)⟩

set_option maxRecDepth 100000 in
set_option maxHeartbeats 2000000 in
theorem dprint_3 (n d : Int) (s : ByteArray) (w : World) (h1 : -9223372036854775808 ≤ n) (h2 : n ≤ 9223372036854775807) (g1 : -9223372036854775808 ≤ d) (g2 : d ≤ 9223372036854775807) (c0 : chk 3 n d s = 0) :
    Calls Tryz.prog 43 #[.agg #[.int .i64 3, .int .i64 n, .int .i64 d, .string s]] w fun e w' => e = .returned (.tuple #[.string ⟨(quoted s.data.toList).toArray⟩, .int .i64 0]) ∧ Below w.heap.size w w' := by
  have hs := chk_size c0
  go_enter Tryz.func43, Tryz.ntmps43
  go_wp2_with fail
  refine (rcheck_any 3 n d s _ h1 h2 g1 g2).mono ?_
  rintro e w1 ⟨rfl, hb⟩
  obtain ⟨hc, hf, hz, hB⟩ := bf (w := w) (by go_grown) hb
  rw [c0]
  have a1 : w1.cell? ⟨w.heap.size, 0, none⟩ = some (.int .i64 3) := by rw [hc _ _ (by simp)]; simp [go_sem]
  have a2 : w1.cell? ⟨w.heap.size, 3, none⟩ = some (.string s) := by rw [hc _ _ (by simp)]; simp [go_sem]
  clear hc hf hz hb
  go_wp2_with fail
  refine (dquote_any s _ (by omega)).mono ?_
  rintro e w2 ⟨rfl, hb2⟩
  go_wp2
  go_ret2
  exact ⟨rfl, hB.trans (hb2.mono hB.size)⟩

set_option maxRecDepth 100000 in
set_option maxHeartbeats 2000000 in
theorem dprint_2 (n d : Int) (s : ByteArray) (w : World) (h1 : -9223372036854775808 ≤ n) (h2 : n ≤ 9223372036854775807) (g1 : -9223372036854775808 ≤ d) (g2 : d ≤ 9223372036854775807) (c0 : chk 2 n d s = 0) :
    Calls Tryz.prog 43 #[.agg #[.int .i64 2, .int .i64 n, .int .i64 d, .string s]] w fun e w' => e = .returned (.tuple #[.string ⟨(Lib.itoa n ++ 47 :: Lib.itoa d).toArray⟩, .int .i64 0]) ∧ Below w.heap.size w w' := by
  go_enter Tryz.func43, Tryz.ntmps43
  go_wp2_with fail
  refine (rcheck_any 2 n d s _ h1 h2 g1 g2).mono ?_
  rintro e W0 ⟨rfl, hb⟩
  obtain ⟨hc, hf, hz, hB⟩ := bf (w := w) (by go_grown) hb
  rw [c0]
  have c3 : W0.cell? ⟨w.heap.size, 0, none⟩ = some (.int .i64 2) := by rw [hc _ _ (by simp)]; simp [go_sem]
  have c1 : W0.cell? ⟨w.heap.size, 1, none⟩ = some (.int .i64 n) := by rw [hc _ _ (by simp)]; simp [go_sem]
  have c2 : W0.cell? ⟨w.heap.size, 2, none⟩ = some (.int .i64 d) := by rw [hc _ _ (by simp)]; simp [go_sem]
  have k1 : w.heap.size < W0.heap.size := by simp at hz; omega
  have k0 : Below w.heap.size w W0 := hB
  clear hc hf hz hb hB
  go_upto_region 8 with fail
  have lA := Lib.itoa_length_le n h1 h2
  have lB := Lib.itoa_length_le d g1 g2
  obtain ⟨A, eA⟩ : ∃ A : ByteArray, A = ⟨(Lib.itoa n).toArray⟩ := ⟨_, rfl⟩
  obtain ⟨B, eB⟩ : ∃ B : ByteArray, B = ⟨(Lib.itoa d).toArray⟩ := ⟨_, rfl⟩
  have sA : A.size ≤ 21 := by rw [eA]; show (Lib.itoa n).toArray.size ≤ 21; simpa using lA
  have sB : B.size ≤ 21 := by rw [eB]; show (Lib.itoa d).toArray.size ≤ 21; simpa using lB
  have DA := fun (W : World) => ddec_any n W h1 h2
  have DB := fun (W : World) => ddec_any d W g1 g2
  rw [← eA] at DA
  rw [← eB] at DB
  obtain ⟨C, eC⟩ : ∃ C : ByteArray, C = A ++ ⟨#[47]⟩ := ⟨_, rfl⟩
  have sC : C.size ≤ 22 := by rw [eC, ByteArray.size_append]; have : (⟨#[47]⟩ : ByteArray).size = 1 := rfl
                              omega
  have x1 : ∀ W : World, (Op.stringOp .add A ⟨#[47]⟩).run Tryz.prog W = .ok (.string C) W := fun W => by
    rw [run_string_add_sum W _ _ (by have : (⟨#[47]⟩ : ByteArray).size = 1 := rfl
                                     omega), eC]
  have x2 : ∀ W : World, (Op.stringOp .add C B).run Tryz.prog W = .ok (.string (C ++ B)) W := fun W => run_string_add_sum W _ _ (by omega)
  have eF : Hid (C ++ B = ⟨(Lib.itoa n ++ 47 :: Lib.itoa d).toArray⟩) := by
    rw [eC, eA, eB]
    apply ByteArray.ext
    simp
  have DA' : Hid (∀ W : World, Calls Tryz.prog 53 #[.int .i64 n] W fun e w' => e = .returned (.string A) ∧ Below W.heap.size W w') := DA
  have DB' : Hid (∀ W : World, Calls Tryz.prog 53 #[.int .i64 d] W fun e w' => e = .returned (.string B) ∧ Below W.heap.size W w') := DB
  clear DA DB eA eB eC sA sB sC lA lB
  go_region_held3 (fun w' => w'.cell? ⟨w.heap.size, 1, none⟩ = some (.int .i64 n) ∧ w'.cell? ⟨w.heap.size, 2, none⟩ = some (.int .i64 d)) (exact ⟨bcl (n := W0.heap.size) (by go_grown) c1 k1, bcl (n := W0.heap.size) (by go_grown) c2 k1⟩)
    (first
      | (go_at_call_of 53 (Value.int IntKind.i64 n); refine (DA'.out _).mono ?_; rintro e w1 ⟨rfl, hb1⟩; obtain ⟨hB1, hn1⟩ := bg0 (n := W0.heap.size) (W0 := W0) (by go_grown) (by go_size) hb1)
      | (go_at_call_of 53 (Value.int IntKind.i64 d); refine (DB'.out _).mono ?_; rintro e w2 ⟨rfl, hb2⟩; obtain ⟨hB2, hn2⟩ := bg0 (n := W0.heap.size) (W0 := W0) (by go_grown) (by go_size) hb2))
  all_goals
    go_wp2
    go_ret2
    exact ⟨by rw [eF.out]; rfl, k0.trans (Below.mono (B := W0.heap.size) (by go_grown) k0.size)⟩

theorem chk_kind0 {k n d : Int} {s : ByteArray} (h : chk k n d s = 0) : k = 1 ∨ k = 2 ∨ k = 3 := by
  by_cases k1 : k = 1
  · exact Or.inl k1
  · by_cases k2 : k = 2
    · exact Or.inr (Or.inl k2)
    · by_cases k3 : k = 3
      · exact Or.inr (Or.inr k3)
      · exfalso
        have e0 : chk k n d s = 20 := by simp [chk, pureB, k1, k2, k3]
        omega

theorem dprint_any (k n d : Int) (s : ByteArray) (w : World) (h1 : -9223372036854775808 ≤ n) (h2 : n ≤ 9223372036854775807) (g1 : -9223372036854775808 ≤ d) (g2 : d ≤ 9223372036854775807) :
    Calls Tryz.prog 43 #[.agg #[.int .i64 k, .int .i64 n, .int .i64 d, .string s]] w fun e w' => e = .returned (.tuple #[.string ⟨(if chk k n d s = 0 then vtext k n d s else []).toArray⟩, .int .i64 (chk k n d s)]) ∧ Below w.heap.size w w' := by
  by_cases hc0 : chk k n d s = 0
  · rw [if_pos hc0, hc0]
    rcases chk_kind0 hc0 with rfl | rfl | rfl
    · have h := dprint_1 n d s w h1 h2 g1 g2 hc0
      exact h
    · have h := dprint_2 n d s w h1 h2 g1 g2 hc0
      exact h
    · have h := dprint_3 n d s w h1 h2 g1 g2 hc0
      exact h
  · rw [if_neg hc0]
    exact dprint_no k n d s w h1 h2 g1 g2 (by simpa using hc0)

end Go.Proofs.YtmegombglkcccaaGreatDoor

namespace Go.Proofs.YtmegombglkcccaaGreatDoor
open Go.RowKit Go.Shelf
set_option linter.unusedVariables false

/-- What a digit to the base 16 is worth to the document: no capitals. -/
def wth (c : UInt8) : Nat := if 48 ≤ c.toNat ∧ c.toNat ≤ 57 then c.toNat - 48 else if 97 ≤ c.toNat ∧ c.toNat ≤ 102 then c.toNat - 87 else 16
theorem wth_hexd_all : ∀ i : Fin 16, wth (hexd i.1) = i.1 := by decide
theorem wth_hexd (n : Nat) (h : n < 16) : wth (hexd n) = n := wth_hexd_all ⟨n, h⟩
theorem wth_back_all : ∀ i : Fin 256, wth (UInt8.ofNat i.1) < 16 → hexd (wth (UInt8.ofNat i.1)) = UInt8.ofNat i.1 := by decide +kernel
theorem wth_back (c : UInt8) (h : wth c < 16) : hexd (wth c) = c := by
  have q := wth_back_all ⟨c.toNat, c.toNat_lt⟩
  rw [show (⟨c.toNat, c.toNat_lt⟩ : Fin 256).1 = c.toNat from rfl, UInt8.ofNat_toNat] at q
  exact q h
theorem wth_le (c : UInt8) : wth c ≤ 16 := by unfold wth; split; omega; split <;> omega

set_option maxRecDepth 100000 in
set_option maxHeartbeats 2000000 in
theorem worth_any (c : UInt8) (w : World) :
    Calls Tryz.prog 51 #[.int .u8 c.toNat] w fun e w' => e = .returned (.int .i64 (wth c)) ∧ Below w.heap.size w w' := by
  have hu : c.toNat < 256 := c.toNat_lt
  go_enter Tryz.func51, Tryz.ntmps51
  go_wp2
  go_loopw [3] (fun i wr => ∃ k : Nat, k ≤ 16 ∧ i = .int .i64 k ∧ Hid (∀ j, j < k → hexd j ≠ c) ∧ Below w.heap.size w wr) (fun i _ => 16 - (intOf i).toNat)
  case atStart => exact ⟨0, by omega, rfl, fun j h => by omega, Below.refl _ _⟩
  case round =>
    obtain ⟨k, hk, rfl, hj, hB⟩ := hrel
    by_cases hke : k = 16
    · subst hke
      have e0 : Hid (((wth c : Nat) : Int) = 16) := by
        have h1 := wth_le c
        have h2 : ¬ wth c < 16 := fun h => hj.out (wth c) h (wth_back c h)
        show ((wth c : Nat) : Int) = 16
        omega
      clear hj
      go_wp2
      go_ret
      exact ⟨ret_int e0.out.symm, hB⟩
    · have hk1 : (k : Int) < 16 := by omega
      have hk2 : k < 16 := by omega
      have tk := hex_tab k hk2
      by_cases he : hexd k = c
      · have e0 : Hid (((wth c : Nat) : Int) = k) := by rw [← he, wth_hexd k hk2]; rfl
        have hq : (((hexd k).toNat : Int) == (c.toNat : Int)) = true := by rw [he]; simp
        clear hj he
        go_wp2
        go_ret
        exact ⟨ret_int e0.out.symm, hB⟩
      · have hq : (((hexd k).toNat : Int) == (c.toNat : Int)) = false := by
          simp
          intro h
          exact he (UInt8.toNat_inj.1 (by omega))
        have e0 : Hid (∀ j, j < k + 1 → hexd j ≠ c) := fun j hjk => by
          by_cases g : j = k
          · rw [g]; exact he
          · exact hj.out j (by omega)
        clear hj he
        go_wp2
        exact ⟨⟨k + 1, by omega, by simp, e0, hB⟩, by simp [intOf]; omega⟩

/-- What digits say, step by step, wrapped round. -/
def numA : List UInt8 → Int → Int
  | [], a => a
  | c :: r, a => numA r (if 48 ≤ c.toNat ∧ c.toNat ≤ 57 then wrap64 (wrap64 (a * 10) - (c.toNat - 48)) else a)
theorem numA_cons (c : UInt8) (r : List UInt8) (a : Int) : numA (c :: r) a = numA r (if 48 ≤ c.toNat ∧ c.toNat ≤ 57 then wrap64 (wrap64 (a * 10) - (c.toNat - 48)) else a) := rfl
def numS (l : List UInt8) : Int := if l.head?.map (·.toNat) = some 45 then numA l 0 else wrap64 (-(numA l 0))
theorem wrap_range (x : Int) : -9223372036854775808 ≤ wrap64 x ∧ wrap64 x ≤ 9223372036854775807 := by unfold wrap64; omega
theorem wrap_id {x : Int} (h1 : -9223372036854775808 ≤ x) (h2 : x ≤ 9223372036854775807) : wrap64 x = x := by unfold wrap64; omega
theorem numA_fits : ∀ (l : List UInt8) (a : Int), -9223372036854775808 ≤ a → a ≤ 9223372036854775807 → -9223372036854775808 ≤ numA l a ∧ numA l a ≤ 9223372036854775807
  | [], a, h1, h2 => ⟨h1, h2⟩
  | c :: r, a, h1, h2 => by
    unfold numA
    split
    · exact numA_fits r _ (wrap_range _).1 (wrap_range _).2
    · exact numA_fits r a h1 h2
theorem numS_fits (l : List UInt8) : -9223372036854775808 ≤ numS l ∧ numS l ≤ 9223372036854775807 := by
  unfold numS
  split
  · exact numA_fits l 0 (by omega) (by omega)
  · exact wrap_range _
theorem numA_append : ∀ (l r : List UInt8) (a : Int), numA (l ++ r) a = numA r (numA l a)
  | [], r, a => rfl
  | c :: l, r, a => by simp only [List.cons_append, numA]; exact numA_append l r _
theorem numA_dec : ∀ (u : Nat), u ≤ 9223372036854775808 → numA (Lib.decDigits u) 0 = -(u : Int) := by
  intro u
  induction u using Nat.strongRecOn with
  | _ u ih =>
    intro hu
    by_cases h : u < 10
    · rw [Lib.decDigits_one h]
      have e := dg_nat u h
      simp only [numA, e]
      rw [if_pos (by omega)]
      rw [wrap_id (x := 0 * 10) (by omega) (by omega), wrap_id (by omega) (by omega)]
      omega
    · have e := dg_nat (u % 10) (by omega)
      rw [Lib.decDigits, dif_neg h, numA_append, ih (u / 10) (by omega) (by omega)]
      simp only [numA, e]
      rw [if_pos (by omega)]
      rw [wrap_id (x := -((u / 10 : Nat) : Int) * 10) (by omega) (by omega), wrap_id (by omega) (by omega)]
      omega
theorem numS_itoa {n : Int} (h1 : -9223372036854775808 ≤ n) (h2 : n ≤ 9223372036854775807) : numS (Lib.itoa n) = n := by
  unfold Lib.itoa
  by_cases hn : n < 0
  · rw [if_pos hn]
    unfold numS
    rw [if_pos (show Option.map (fun x : UInt8 => x.toNat) (45 :: Lib.decDigits n.natAbs).head? = some 45 from rfl)]
    have e : numA (45 :: Lib.decDigits n.natAbs) 0 = numA (Lib.decDigits n.natAbs) 0 := by simp [numA]
    rw [e, numA_dec _ (by omega)]
    omega
  · rw [if_neg hn]
    unfold numS
    obtain ⟨c, r, e⟩ := List.exists_cons_of_ne_nil (dec_ne n.toNat)
    have hd := dec_digit n.toNat c (by rw [e]; simp)
    rw [if_neg (by rw [e]; simp; omega), numA_dec _ (by omega), wrap_id (by omega) (by omega)]
    omega

set_option maxRecDepth 100000 in
set_option maxHeartbeats 2000000 in
theorem number_any (s : ByteArray) (w : World) (hs : s.size ≤ 140737488355328) :
    Calls Tryz.prog 42 #[.string s] w fun e w' => e = .returned (.int .i64 (numS s.data.toList)) ∧ Below w.heap.size w w' := by
  have hl : s.data.toList.length = s.size := by simp
  go_enter Tryz.func42, Tryz.ntmps42
  go_wp2
  go_loopw [3, 4] (fun n i wr => ∃ (k : Nat) (a : Int), k ≤ s.size ∧ i = .int .i64 k ∧ n = .int .i64 a ∧ -9223372036854775808 ≤ a ∧ a ≤ 9223372036854775807 ∧ Hid (numA s.data.toList 0 = numA (s.data.toList.drop k) a) ∧ Below w.heap.size w wr) (fun _ i _ => s.size - (intOf i).toNat)
  case atStart => exact ⟨0, 0, by omega, rfl, rfl, by omega, by omega, (show numA s.data.toList 0 = numA (s.data.toList.drop 0) 0 by simp), Below.refl _ _⟩
  case round =>
    obtain ⟨k, a, hk, rfl, rfl, a1, a2, hN, hB⟩ := hrel
    by_cases hke : k = s.size
    · subst hke
      have e0 : Hid (numA s.data.toList 0 = a) := by
        have q := hN.out
        rw [List.drop_of_length_le (by omega)] at q
        exact q
      clear hN
      by_cases h0 : s.size = 0
      · have e1 : Hid (numS s.data.toList = wrap64 (-a)) := by
          show numS s.data.toList = _
          unfold numS
          rw [e0.out, List.eq_nil_of_length_eq_zero (hl.trans h0)]
          rfl
        have h0' : (s.size : Int) = 0 := by omega
        go_wp2
        go_ret
        exact ⟨ret_int e1.out.symm, hB⟩
      · have hp : 0 < s.size := by omega
        have hp' : (0 : Int) < s.size := by omega
        have hne : s.data.toList = s[0] :: s.data.toList.drop 1 := by
          have q := List.drop_eq_getElem_cons (l := s.data.toList) (i := 0) (by omega)
          rw [List.drop_zero] at q
          exact q
        obtain ⟨c, hc⟩ : ∃ c : UInt8, s[0] = c := ⟨_, rfl⟩
        rw [hc] at hne
        have hu : c.toNat < 256 := c.toNat_lt
        by_cases h45 : c.toNat = 45
        · have e1 : Hid (numS s.data.toList = a) := by
            show numS s.data.toList = _
            unfold numS
            rw [e0.out, hne]
            simp [h45]
          have q1 : ((c.toNat : Int) == 45) = true := by simp; omega
          clear hne h45 e0
          go_wp2
          go_ret
          exact ⟨ret_int e1.out.symm, hB⟩
        · have e1 : Hid (numS s.data.toList = wrap64 (-a)) := by
            show numS s.data.toList = _
            unfold numS
            rw [e0.out, hne]
            simp [h45]
          have q1 : ((c.toNat : Int) == 45) = false := by simp; omega
          clear hne h45 e0
          go_wp2
          go_ret
          exact ⟨ret_int e1.out.symm, hB⟩
    · have hk' : (k : Int) < s.size := by omega
      have hkk : k < s.size := by omega
      have hd : s.data.toList.drop k = s[k] :: s.data.toList.drop (k + 1) := by
        rw [List.drop_eq_getElem_cons (by omega)]
        rfl
      rw [hd] at hN
      clear hd
      obtain ⟨c, hc⟩ : ∃ c : UInt8, s[k] = c := ⟨_, rfl⟩
      rw [hc] at hN
      have hu : c.toNat < 256 := c.toNat_lt
      by_cases h1 : 48 ≤ c.toNat ∧ c.toNat ≤ 57
      · have q1 : 48 ≤ (c.toNat : Int) := by omega
        have q2 : (c.toNat : Int) ≤ 57 := by omega
        have wr1 := wrap_range (a * 10)
        have wr2 := wrap_range (wrap64 (a * 10) - (c.toNat - 48))
        have e0 : Hid (numA s.data.toList 0 = numA (s.data.toList.drop (k + 1)) (wrap64 (wrap64 (a * 10) - (c.toNat - 48)))) := by
          have q := hN.out
          rw [numA_cons, if_pos h1] at q
          exact q
        have W2 : Hid (-9223372036854775808 ≤ wrap64 (wrap64 (a * 10) - (c.toNat - 48)) ∧ wrap64 (wrap64 (a * 10) - (c.toNat - 48)) ≤ 9223372036854775807) := wr2
        clear hN h1 wr1 wr2
        go_wp2
        exact ⟨⟨k + 1, _, by omega, by simp, rfl, W2.out.1, W2.out.2, e0, hB⟩, by simp [intOf]; omega⟩
      · have e0 : Hid (numA s.data.toList 0 = numA (s.data.toList.drop (k + 1)) a) := by
          have q := hN.out
          rw [numA_cons, if_neg h1] at q
          exact q
        have q1 : (48 ≤ (c.toNat : Int)) = False ∨ ((48 ≤ (c.toNat : Int)) = True ∧ ((c.toNat : Int) ≤ 57) = False) := by
          by_cases g : 48 ≤ c.toNat
          · right; refine ⟨by simp; omega, by simp; omega⟩
          · left; simp; omega
        clear hN h1
        rcases q1 with q1 | ⟨q1, q2⟩
        · go_wp2
          exact ⟨⟨k + 1, a, by omega, by simp, rfl, a1, a2, e0, hB⟩, by simp [intOf]; omega⟩
        · go_wp2
          exact ⟨⟨k + 1, a, by omega, by simp, rfl, a1, a2, e0, hB⟩, by simp [intOf]; omega⟩

end Go.Proofs.YtmegombglkcccaaGreatDoor

namespace Go.Proofs.YtmegombglkcccaaGreatDoor
open Go.RowKit Go.Shelf
set_option linter.unusedVariables false

/-- What the document takes of a text behind its first quote; the last byte is left out. -/
def dq (l : List UInt8) : List UInt8 :=
  match l with
  | [] => []
  | [_] => []
  | c :: e :: r => if c.toNat = 92 then (if e.toNat = 120 then (match r with
      | [] => [e]
      | [_] => [e]
      | x :: y :: r' => UInt8.ofNat (16 * wth x + wth y) :: dq r') else e :: dq r) else c :: dq (e :: r)
termination_by l.length
decreasing_by all_goals simp; try omega
theorem dq_nil : dq [] = [] := by rw [dq]
theorem dq_one (c : UInt8) : dq [c] = [] := by rw [dq]
theorem dq_plain {c : UInt8} (e : UInt8) (r : List UInt8) (h : c.toNat ≠ 92) : dq (c :: e :: r) = c :: dq (e :: r) := by rw [dq.eq_def]; simp [h]
theorem dq_esc {c e : UInt8} (r : List UInt8) (h : c.toNat = 92) (g : e.toNat ≠ 120) : dq (c :: e :: r) = e :: dq r := by rw [dq.eq_def]; simp [h, g]
theorem dq_short {c e : UInt8} (r : List UInt8) (h : c.toNat = 92) (g : r.length ≤ 1) : dq (c :: e :: r) = e :: dq r := by
  match r, g with
  | [], _ => rw [dq.eq_def]; simp [h, dq_nil]
  | [x], _ => rw [dq.eq_def]; simp [h, dq_one]
  | _ :: _ :: _, g => simp at g
theorem dq_hex {c e : UInt8} (x y : UInt8) (r : List UInt8) (h : c.toNat = 92) (g : e.toNat = 120) : dq (c :: e :: x :: y :: r) = UInt8.ofNat (16 * wth x + wth y) :: dq r := by rw [dq.eq_def]; simp [h, g]
theorem dq_inside : ∀ l : List UInt8, dq (inside l ++ [34]) = l
  | [] => by simp [inside, dq_one]
  | c :: l => by
    have ih := dq_inside l
    have e : inside (c :: l) ++ [34] = esc c ++ (inside l ++ [34]) := by simp [inside]
    rw [e]
    obtain ⟨d, r, er⟩ := List.exists_cons_of_ne_nil (show inside l ++ [34] ≠ [] by simp)
    unfold esc
    have hc : c.toNat < 256 := c.toNat_lt
    by_cases h1 : c.toNat = 34 ∨ c.toNat = 92
    · rw [if_pos h1]
      show dq (92 :: c :: (inside l ++ [34])) = _
      rw [dq_esc _ rfl (by omega), ih]
    · rw [if_neg h1]
      by_cases h2 : 32 ≤ c.toNat ∧ c.toNat ≤ 126
      · rw [if_pos h2]
        show dq (c :: (inside l ++ [34])) = _
        rw [er, dq_plain _ _ (by omega), ← er, ih]
      · rw [if_neg h2]
        show dq (92 :: 120 :: hexd (c.toNat / 16) :: hexd (c.toNat % 16) :: (inside l ++ [34])) = _
        have e2 : UInt8.ofNat (16 * (c.toNat / 16) + c.toNat % 16) = c := by
          have : 16 * (c.toNat / 16) + c.toNat % 16 = c.toNat := by omega
          rw [this]
          exact UInt8.ofNat_toNat
        rw [dq_hex _ _ _ rfl rfl, wth_hexd _ (by omega), wth_hexd _ (by omega), e2, ih]
theorem dq_len : ∀ (n : Nat) (l : List UInt8), l.length ≤ n → (dq l).length ≤ l.length
  | _, [], _ => by rw [dq_nil]; simp
  | _, [c], _ => by rw [dq_one]; simp
  | 0, _ :: _ :: _, h => by simp at h
  | n + 1, c :: e :: r, h => by
    by_cases h1 : c.toNat = 92
    · by_cases h2 : e.toNat = 120
      · by_cases h3 : r.length ≤ 1
        · rw [dq_short r h1 h3]
          have := dq_len n r (by simp at h; omega)
          simp; omega
        · match r, h3 with
          | [], h3 => simp at h3
          | [_], h3 => simp at h3
          | x :: y :: r', _ =>
            rw [dq_hex x y r' h1 h2]
            have := dq_len n r' (by simp at h; omega)
            simp; omega
      · rw [dq_esc r h1 h2]
        have := dq_len n r (by simp at h; omega)
        simp; omega
    · rw [dq_plain e r h1]
      have := dq_len n (e :: r) (by simp at h ⊢; omega)
      simp at this ⊢; omega

theorem own_below {B : Nat} {v : Value} {L : List UInt8} {w W : World} (h : Own B v L w) (hb : Below w.heap.size w W) : Own B v L W :=
  World.ownsRow.kept (row := none) h ⟨hb.os, hb.tape, hb.output, hb.size, fun k hk _ => hb.block k hk⟩ (Classical.em _)

theorem drop_two (s : ByteArray) (k : Nat) (h : k + 1 < s.size) : s.data.toList.drop k = s[k] :: s[k + 1] :: s.data.toList.drop (k + 2) := by
  have hl : s.data.toList.length = s.size := by simp
  rw [List.drop_eq_getElem_cons (by omega), List.drop_eq_getElem_cons (i := k + 1) (by omega)]
  rfl

set_option maxHeartbeats 8000000 in
set_option maxRecDepth 100000 in
theorem dunq_any (s : ByteArray) (w : World) (hs : s.size ≤ 35184372088830) :
    Calls Tryz.prog 40 #[.string s] w fun e w' => e = .returned (.string ⟨(dq (s.data.toList.drop 1)).toArray⟩) ∧ Below w.heap.size w w' := by
  obtain ⟨i0, hi, hz0, hz1, hz2⟩ := info_parts inB
  have hl : s.data.toList.length = s.size := by simp
  have WO : Hid (∀ (c : UInt8) (W : World), Calls Tryz.prog 51 #[.int .u8 c.toNat] W fun e w' => e = .returned (.int .i64 (wth c)) ∧ Below W.heap.size W w') := fun c W => worth_any c W
  go_enter Tryz.func40, Tryz.ntmps40
  go_wp2
  go_loopw [3, 4] (fun b i wr => ∃ (k : Nat) (acc : List UInt8), 1 ≤ k ∧ k ≤ s.size + 1 ∧ acc.length ≤ k ∧ i = .int .i64 k ∧ Hid (dq (s.data.toList.drop 1) = acc ++ dq (s.data.toList.drop k)) ∧ Hid (Own w.heap.size b acc wr) ∧ Below w.heap.size w wr) (fun _ i _ => s.size + 1 - (intOf i).toNat)
  case atStart => exact ⟨1, [], by omega, by omega, by simp, rfl, rfl, World.ownsRow_nil w _ _ _, Below.refl _ _⟩
  case round =>
    obtain ⟨k, acc, hk0, hk, ha, rfl, hU, hI, hB⟩ := hrel
    have hsz := hB.size
    have hbk : ∀ q, u3.ownBlock = some q → w.heap.size ≤ q := fun q hq => (World.ownsRow.lt hI.out q hq).1
    have HK : Hid (∀ q, u3.ownBlock = some q → w.heap.size ≤ q) := hbk
    clear hbk
    by_cases hke : s.size ≤ k + 1
    · have hke' : (s.size : Int) - 1 ≤ k := by omega
      have e0 : Hid (dq (s.data.toList.drop 1) = acc) := by
        have q := hU.out
        have hr : dq (s.data.toList.drop k) = [] := by
          match hd : s.data.toList.drop k with
          | [] => exact dq_nil
          | [c] => exact dq_one c
          | _ :: _ :: _ =>
            have := congrArg List.length hd
            simp at this
            omega
        rw [hr, List.append_nil] at q
        exact q
      clear hU
      have cv : (convert 59 9 u3).run Tryz.prog wr = .ok (.string ⟨acc.toArray⟩) wr := by
        obtain ⟨hl, hv | ⟨g, cap, cur, hv, hg1, hg2, hg3, hg4, hg5, hg6⟩⟩ := hI.out
        · obtain ⟨rfl, hn⟩ := hv
          obtain rfl : acc = [] := List.eq_nil_of_length_eq_zero hn
          exact run_convert_bytes_nil wr 59 5 Tryz.underlying59 Tryz.underlying5 0 0 9 Tryz.underlying9
        · subst hv
          have hown : wr.ownsRow w.heap.size 5 1 (.slice (some ⟨g, 0, none⟩) acc.length cap) acc.length (Lib.byteCells acc) := hI.out
          exact run_convert_bytes_back wr 59 9 5 ⟨g, 0, none⟩ cap acc Tryz.underlying59 Tryz.underlying5 Tryz.underlying9 (fun j hj => by
            rw [Addr.add_lit, Nat.zero_add, hown.cellAt j (by omega)]
            simp [Lib.byteCells, List.getElem?_eq_getElem hj])
      go_wp2
      go_ret
      exact ⟨by rw [e0.out]; rfl, hB⟩
    · have hk1 : (k : Int) < s.size - 1 := by omega
      have hk2 : (k : Int) < s.size := by omega
      have hkk : k < s.size := by omega
      have hd := drop_two s k (by omega)
      rw [hd] at hU
      clear hd
      have hu : s[k].toNat < 256 := s[k].toNat_lt
      have hu1 : s[k + 1].toNat < 256 := s[k + 1].toNat_lt
      obtain ⟨c, hc⟩ : ∃ c : UInt8, s[k] = c := ⟨_, rfl⟩
      obtain ⟨f, hf⟩ : ∃ f : UInt8, s[k + 1] = f := ⟨_, rfl⟩
      rw [hc] at hu
      rw [hf] at hu1
      rw [hc, hf] at hU
      have hbd : acc.length + 1 ≤ 140737488355328 := by omega
      by_cases h1 : c.toNat = 92
      · have q1 : ((c.toNat : Int) != 92) = false := by simp; omega
        by_cases h2 : f.toNat = 120
        · have q2 : ((f.toNat : Int) != 120) = false := by simp; omega
          by_cases h3 : s.size ≤ k + 3
          · have q3 : (s.size : Int) ≤ k + 3 := by omega
            have hr : (s.data.toList.drop (k + 2)).length ≤ 1 := by simp; omega
            have e0 : Hid (dq (s.data.toList.drop 1) = (acc ++ [f]) ++ dq (s.data.toList.drop (k + 2))) := by
              have q := hU.out
              rw [dq_short _ h1 hr] at q
              exact q.trans (by simp)
            clear hU h1 h2 h3 hr
            have hk3 : (k : Int) + 1 < s.size := by omega
            go_wp2_with (at_builtin; refine wpList_append_own _ rfl (.tmp 36) (.tmp 41) 59 rfl w.heap.size 5 i0 (.int .u8 0) 1 1 Tryz.underlying59 hi hz0 hz1 hz2 rfl (by decide) _ _ _ rfl (World.ownsRow.alloc hI.out _) ⟨wr.heap.size, 0, none⟩ 1 1 [.int .u8 f.toNat] rfl rfl ?c1 ?c2 (by unfold maxLen; omega) (by omega) (by simp; omega) ?grow)
            case c1 => (intro j u hj; rw [Addr.add_lit]; (rcases j with _ | j) <;> simp at hj <;> subst hj <;> simp (maxDischargeDepth := 12) [go_sem])
            case c2 => (intro u hu; simp at hu; subst hu; rfl)
            case grow =>
              intro v' w2 h2 h3 _
              have o2 : Hid (Own w.heap.size v' (acc ++ [f]) w2) := own_more (M := [f]) h2 rfl
              have K2 : Below w.heap.size w w2 := Below.grown (hB.alloc hsz _) h3 (by simp; omega) HK.out
              clear h2 h3 hI HK
              go_wp2
              exact ⟨⟨k + 2, acc ++ [f], by omega, by omega, by simp; omega, by simp, e0, o2, K2⟩, by simp [intOf]; omega⟩
          · have q3 : ((s.size : Int) ≤ k + 3) = False := by simp; omega
            have hk3 : (k : Int) + 1 < s.size := by omega
            have hk4 : (k : Int) + 2 < s.size := by omega
            have hk5 : (k : Int) + 3 < s.size := by omega
            have hd := drop_two s (k + 2) (by omega)
            rw [hd] at hU
            clear hd
            obtain ⟨x, hx⟩ : ∃ x : UInt8, s[k + 2] = x := ⟨_, rfl⟩
            obtain ⟨y, hy⟩ : ∃ y : UInt8, s[k + 2 + 1] = y := ⟨_, rfl⟩
            have hy' : s[k + 3] = y := hy
            rw [hx, hy] at hU
            obtain ⟨X, eX⟩ : ∃ X : Nat, Hid (wth x = X) := ⟨_, rfl⟩
            obtain ⟨Y, eY⟩ : ∃ Y : Nat, Hid (wth y = Y) := ⟨_, rfl⟩
            have lX : X ≤ 16 := by rw [← eX.out]; exact wth_le x
            have lY : Y ≤ 16 := by rw [← eY.out]; exact wth_le y
            obtain ⟨z, ez⟩ : ∃ z : UInt8, Hid (UInt8.ofNat (16 * X + Y) = z) := ⟨_, rfl⟩
            have zw : IntKind.u8.wrap (16 * (X : Int) + (Y : Int)) = (z.toNat : Int) := by
              rw [← ez.out]
              simp [IntKind.wrap, IntKind.bits, IntKind.signed, UInt8.toNat_ofNat]
            have e0 : Hid (dq (s.data.toList.drop 1) = (acc ++ [z]) ++ dq (s.data.toList.drop (k + 4))) := by
              have q := hU.out
              rw [dq_hex _ _ _ h1 h2, eX.out, eY.out, ez.out] at q
              exact q.trans (by simp)
            have WX : Hid (∀ W : World, Calls Tryz.prog 51 #[.int .u8 x.toNat] W fun e w' => e = .returned (.int .i64 X) ∧ Below W.heap.size W w') := fun W => by
              have q := WO.out x W
              rw [eX.out] at q
              exact q
            have WY : Hid (∀ W : World, Calls Tryz.prog 51 #[.int .u8 y.toNat] W fun e w' => e = .returned (.int .i64 Y) ∧ Below W.heap.size W w') := fun W => by
              have q := WO.out y W
              rw [eY.out] at q
              exact q
            clear hU h1 h2 eX eY ez
            go_wp2_with fail
            refine (WX.out _).mono ?_
            rintro e wa ⟨rfl, ba⟩
            go_wp2_with fail
            refine (WY.out _).mono ?_
            rintro e wb ⟨rfl, bb⟩
            have bab : Below wr.heap.size wr wb := ba.trans (bb.mono ba.size)
            have hI2 : Hid (Own w.heap.size u3 acc wb) := own_below hI.out bab
            have hB2 : Below w.heap.size w wb := hB.trans (bab.mono hB.size)
            have hsz2 := hB2.size
            clear hI hB hsz ba bb bab
            go_wp2_with (at_builtin; refine wpList_append_own _ rfl (.tmp 55) (.tmp 61) 59 rfl w.heap.size 5 i0 (.int .u8 0) 1 1 Tryz.underlying59 hi hz0 hz1 hz2 rfl (by decide) _ _ _ rfl (World.ownsRow.alloc hI2.out _) ⟨wb.heap.size, 0, none⟩ 1 1 [.int .u8 z.toNat] rfl rfl ?c1 ?c2 (by unfold maxLen; omega) (by omega) (by simp; omega) ?grow)
            case c1 => (intro j u hj; rw [Addr.add_lit]; (rcases j with _ | j) <;> simp at hj <;> subst hj <;> simp (maxDischargeDepth := 12) [go_sem])
            case c2 => (intro u hu; simp at hu; subst hu; rfl)
            case grow =>
              intro v' w2 h2 h3 _
              have o2 : Hid (Own w.heap.size v' (acc ++ [z]) w2) := own_more (M := [z]) h2 rfl
              have K2 : Below w.heap.size w w2 := Below.grown (hB2.alloc hsz2 _) h3 (by simp; omega) HK.out
              clear h2 h3 hI2 HK
              go_wp2
              exact ⟨⟨k + 4, acc ++ [z], by omega, by omega, by simp; omega, by simp, e0, o2, K2⟩, by simp [intOf]; omega⟩
        · have q2 : ((f.toNat : Int) != 120) = true := by simp; omega
          have e0 : Hid (dq (s.data.toList.drop 1) = (acc ++ [f]) ++ dq (s.data.toList.drop (k + 2))) := by
            have q := hU.out
            rw [dq_esc _ h1 h2] at q
            exact q.trans (by simp)
          clear hU h1 h2
          have hk3 : (k : Int) + 1 < s.size := by omega
          go_wp2_with (at_builtin; refine wpList_append_own _ rfl (.tmp 36) (.tmp 41) 59 rfl w.heap.size 5 i0 (.int .u8 0) 1 1 Tryz.underlying59 hi hz0 hz1 hz2 rfl (by decide) _ _ _ rfl (World.ownsRow.alloc hI.out _) ⟨wr.heap.size, 0, none⟩ 1 1 [.int .u8 f.toNat] rfl rfl ?c1 ?c2 (by unfold maxLen; omega) (by omega) (by simp; omega) ?grow)
          case c1 => (intro j u hj; rw [Addr.add_lit]; (rcases j with _ | j) <;> simp at hj <;> subst hj <;> simp (maxDischargeDepth := 12) [go_sem])
          case c2 => (intro u hu; simp at hu; subst hu; rfl)
          case grow =>
            intro v' w2 h2 h3 _
            have o2 : Hid (Own w.heap.size v' (acc ++ [f]) w2) := own_more (M := [f]) h2 rfl
            have K2 : Below w.heap.size w w2 := Below.grown (hB.alloc hsz _) h3 (by simp; omega) HK.out
            clear h2 h3 hI HK
            go_wp2
            exact ⟨⟨k + 2, acc ++ [f], by omega, by omega, by simp; omega, by simp, e0, o2, K2⟩, by simp [intOf]; omega⟩
      · have q1 : ((c.toNat : Int) != 92) = true := by simp; omega
        have e0 : Hid (dq (s.data.toList.drop 1) = (acc ++ [c]) ++ dq (s.data.toList.drop (k + 1))) := by
          have q := hU.out
          rw [dq_plain _ _ h1] at q
          refine q.trans ?_
          rw [show s.data.toList.drop (k + 1) = f :: s.data.toList.drop (k + 2) by
            rw [List.drop_eq_getElem_cons (by omega), ← hf]; rfl]
          simp
        clear hU h1
        go_wp2_with (at_builtin; refine wpList_append_own _ rfl (.tmp 16) (.tmp 20) 59 rfl w.heap.size 5 i0 (.int .u8 0) 1 1 Tryz.underlying59 hi hz0 hz1 hz2 rfl (by decide) _ _ _ rfl (World.ownsRow.alloc hI.out _) ⟨wr.heap.size, 0, none⟩ 1 1 [.int .u8 c.toNat] rfl rfl ?c1 ?c2 (by unfold maxLen; omega) (by omega) (by simp; omega) ?grow)
        case c1 => (intro j u hj; rw [Addr.add_lit]; (rcases j with _ | j) <;> simp at hj <;> subst hj <;> simp (maxDischargeDepth := 12) [go_sem])
        case c2 => (intro u hu; simp at hu; subst hu; rfl)
        case grow =>
          intro v' w2 h2 h3 _
          have o2 : Hid (Own w.heap.size v' (acc ++ [c]) w2) := own_more (M := [c]) h2 rfl
          have K2 : Below w.heap.size w w2 := Below.grown (hB.alloc hsz _) h3 (by simp; omega) HK.out
          clear h2 h3 hI HK
          go_wp2
          exact ⟨⟨k + 1, acc ++ [c], by omega, by omega, by simp; omega, by simp, e0, o2, K2⟩, by simp [intOf]; omega⟩

end Go.Proofs.YtmegombglkcccaaGreatDoor

namespace Go.Proofs.YtmegombglkcccaaGreatDoor
open Go.RowKit Go.Shelf
set_option linter.unusedVariables false

theorem BlkV.set0 {W : World} {B : Nat} {k n d x : Int} {s : ByteArray} (h : BlkV W B k n d s) : BlkV (W.setCell ⟨B, 0, none⟩ (.int .i64 x)) B x n d s := by
  obtain ⟨c0, c1, c2, c3, f0, f1, f2, f3⟩ := h
  constructor <;> simp (maxDischargeDepth := 12) [go_sem, c0, c1, c2, c3, f0, f1, f2, f3]
theorem BlkV.set1 {W : World} {B : Nat} {k n d x : Int} {s : ByteArray} (h : BlkV W B k n d s) : BlkV (W.setCell ⟨B, 1, none⟩ (.int .i64 x)) B k x d s := by
  obtain ⟨c0, c1, c2, c3, f0, f1, f2, f3⟩ := h
  constructor <;> simp (maxDischargeDepth := 12) [go_sem, c0, c1, c2, c3, f0, f1, f2, f3]
theorem BlkV.set2 {W : World} {B : Nat} {k n d x : Int} {s : ByteArray} (h : BlkV W B k n d s) : BlkV (W.setCell ⟨B, 2, none⟩ (.int .i64 x)) B k n x s := by
  obtain ⟨c0, c1, c2, c3, f0, f1, f2, f3⟩ := h
  constructor <;> simp (maxDischargeDepth := 12) [go_sem, c0, c1, c2, c3, f0, f1, f2, f3]
theorem BlkV.off {W : World} {B C o : Nat} {k n d : Int} {s : ByteArray} {v : Value} (h : BlkV W B k n d s) (hn : B ≠ C) : BlkV (W.setCell ⟨C, o, none⟩ v) B k n d s := by
  obtain ⟨c0, c1, c2, c3, f0, f1, f2, f3⟩ := h
  constructor <;> simp (maxDischargeDepth := 12) [go_sem, *]

set_option maxRecDepth 100000 in
set_option maxHeartbeats 4000000 in
theorem dp_bad (s T Q : ByteArray) (c : UInt8) (w : World) (h0 : 0 < s.size) (hc : s[0] = c) (h34 : ((c.toNat : Int) == 34) = true)
    (UN : Hid (∀ W : World, Calls Tryz.prog 40 #[.string s] W fun e w' => e = .returned (.string T) ∧ Below W.heap.size W w'))
    (QU : Hid (∀ W : World, Calls Tryz.prog 41 #[.string T] W fun e w' => e = .returned (.string Q) ∧ Below W.heap.size W w')) (hq : (Q.toList == s.toList) = false) :
    Calls Tryz.prog 34 #[.string s] w fun e w' => e = .returned (.tuple #[.agg #[.int .i64 0, .int .i64 0, .int .i64 0, .string ⟨#[]⟩], .int .i64 70]) ∧ Below w.heap.size w w' := by
  have h0' : (0 : Int) < s.size := by omega
  go_enter Tryz.func34, Tryz.ntmps34
  go_wp2_with fail
  refine (UN.out _).mono ?_
  rintro e w1 ⟨rfl, hb1⟩
  have R1 : Hid (BlkV w1 w.heap.size 0 0 0 ⟨#[]⟩) := BlkV.below (by constructor <;> simp (maxDischargeDepth := 12) [go_sem]) hb1 (by simp)
  have B1 : Below w.heap.size w w1 := ((Below.refl _ w).alloc (Nat.le_refl _) _).trans (hb1.mono (by simp))
  have z1 : w.heap.size < w1.heap.size := by have := hb1.size; simp at this; omega
  clear hb1
  go_wp2_with fail
  refine (QU.out _).mono ?_
  rintro e w2 ⟨rfl, hb2⟩
  have R2 : Hid (BlkV w2 w.heap.size 0 0 0 ⟨#[]⟩) := R1.out.below hb2 z1
  have B2 : Below w.heap.size w w2 := B1.trans (hb2.mono B1.size)
  clear hb2 R1 B1 z1
  obtain ⟨r0, r1, r2, r3, r4, r5, r6, r7⟩ := R2.out
  go_wp2
  generalize hW9 : World.setCell _ _ _ = W9
  have b9 : BlkV W9 w.heap.size 0 0 0 ⟨#[]⟩ := by rw [← hW9]; exact R2.out.four
  have hB9 : Below w.heap.size w W9 := by rw [← hW9]; exact (((B2.setCell (by simp) _).setCell (by simp) _).setCell (by simp) _).setCell (by simp) _
  clear hW9
  obtain ⟨x0, x1, x2, x3, -, -, -, -⟩ := b9
  refine bodyPost_ret (by simp [results, Tryz.results34, go_sem, x0, x1, x2, x3]; try rfl) rfl ?_
  exact ⟨rfl, hB9⟩

set_option maxRecDepth 100000 in
set_option maxHeartbeats 4000000 in
theorem dp_long (s T Q : ByteArray) (c : UInt8) (w : World) (h0 : 0 < s.size) (hc : s[0] = c) (h34 : ((c.toNat : Int) == 34) = true)
    (UN : Hid (∀ W : World, Calls Tryz.prog 40 #[.string s] W fun e w' => e = .returned (.string T) ∧ Below W.heap.size W w'))
    (QU : Hid (∀ W : World, Calls Tryz.prog 41 #[.string T] W fun e w' => e = .returned (.string Q) ∧ Below W.heap.size W w')) (hq : Q = s) (hl : 64 < T.size) :
    Calls Tryz.prog 34 #[.string s] w fun e w' => e = .returned (.tuple #[.agg #[.int .i64 0, .int .i64 0, .int .i64 0, .string ⟨#[]⟩], .int .i64 2]) ∧ Below w.heap.size w w' := by
  have h0' : (0 : Int) < s.size := by omega
  subst hq
  have hl2 : (64 : Int) < T.size := by omega
  go_enter Tryz.func34, Tryz.ntmps34
  go_wp2_with fail
  refine (UN.out _).mono ?_
  rintro e w1 ⟨rfl, hb1⟩
  have R1 : Hid (BlkV w1 w.heap.size 0 0 0 ⟨#[]⟩) := BlkV.below (by constructor <;> simp (maxDischargeDepth := 12) [go_sem]) hb1 (by simp)
  have B1 : Below w.heap.size w w1 := ((Below.refl _ w).alloc (Nat.le_refl _) _).trans (hb1.mono (by simp))
  have z1 : w.heap.size < w1.heap.size := by have := hb1.size; simp at this; omega
  clear hb1
  go_wp2_with fail
  refine (QU.out _).mono ?_
  rintro e w2 ⟨rfl, hb2⟩
  have R2 : Hid (BlkV w2 w.heap.size 0 0 0 ⟨#[]⟩) := R1.out.below hb2 z1
  have B2 : Below w.heap.size w w2 := B1.trans (hb2.mono B1.size)
  clear hb2 R1 B1 z1
  obtain ⟨r0, r1, r2, r3, r4, r5, r6, r7⟩ := R2.out
  go_wp2
  generalize hW9 : World.setCell _ _ _ = W9
  have b9 : BlkV W9 w.heap.size 0 0 0 ⟨#[]⟩ := by rw [← hW9]; exact R2.out.four
  have hB9 : Below w.heap.size w W9 := by rw [← hW9]; exact (((B2.setCell (by simp) _).setCell (by simp) _).setCell (by simp) _).setCell (by simp) _
  clear hW9
  obtain ⟨x0, x1, x2, x3, -, -, -, -⟩ := b9
  refine bodyPost_ret (by simp [results, Tryz.results34, go_sem, x0, x1, x2, x3]; try rfl) rfl ?_
  exact ⟨rfl, hB9⟩

set_option maxRecDepth 100000 in
set_option maxHeartbeats 4000000 in
theorem dp_str (s T Q : ByteArray) (c : UInt8) (w : World) (h0 : 0 < s.size) (hc : s[0] = c) (h34 : ((c.toNat : Int) == 34) = true)
    (UN : Hid (∀ W : World, Calls Tryz.prog 40 #[.string s] W fun e w' => e = .returned (.string T) ∧ Below W.heap.size W w'))
    (QU : Hid (∀ W : World, Calls Tryz.prog 41 #[.string T] W fun e w' => e = .returned (.string Q) ∧ Below W.heap.size W w')) (hq : Q = s) (hl : T.size ≤ 64) :
    Calls Tryz.prog 34 #[.string s] w fun e w' => e = .returned (.tuple #[.agg #[.int .i64 3, .int .i64 0, .int .i64 0, .string T], .int .i64 0]) ∧ Below w.heap.size w w' := by
  have h0' : (0 : Int) < s.size := by omega
  subst hq
  have hl2 : (T.size : Int) ≤ 64 := by omega
  go_enter Tryz.func34, Tryz.ntmps34
  go_wp2_with fail
  refine (UN.out _).mono ?_
  rintro e w1 ⟨rfl, hb1⟩
  have R1 : Hid (BlkV w1 w.heap.size 0 0 0 ⟨#[]⟩) := BlkV.below (by constructor <;> simp (maxDischargeDepth := 12) [go_sem]) hb1 (by simp)
  have B1 : Below w.heap.size w w1 := ((Below.refl _ w).alloc (Nat.le_refl _) _).trans (hb1.mono (by simp))
  have z1 : w.heap.size < w1.heap.size := by have := hb1.size; simp at this; omega
  clear hb1
  go_wp2_with fail
  refine (QU.out _).mono ?_
  rintro e w2 ⟨rfl, hb2⟩
  have R2 : Hid (BlkV w2 w.heap.size 0 0 0 ⟨#[]⟩) := R1.out.below hb2 z1
  have B2 : Below w.heap.size w w2 := B1.trans (hb2.mono B1.size)
  clear hb2 R1 B1 z1
  obtain ⟨r0, r1, r2, r3, r4, r5, r6, r7⟩ := R2.out
  go_wp2
  generalize hW9 : World.setCell _ _ _ = W9
  have b9 : BlkV W9 w.heap.size 3 0 0 T := by rw [← hW9]; exact R2.out.four
  have hB9 : Below w.heap.size w W9 := by rw [← hW9]; exact (((B2.setCell (by simp) _).setCell (by simp) _).setCell (by simp) _).setCell (by simp) _
  clear hW9
  obtain ⟨x0, x1, x2, x3, -, -, -, -⟩ := b9
  refine bodyPost_ret (by simp [results, Tryz.results34, go_sem, x0, x1, x2, x3]; try rfl) rfl ?_
  exact ⟨rfl, hB9⟩

set_option maxRecDepth 100000 in
set_option maxHeartbeats 8000000 in
theorem dp_int_err (s T A B : ByteArray) (n a b C : Int) (m : Nat) (w : World) (hs : s.size ≤ 140737488355328) (hp : s.size = 0 ∨ ∃ (h0 : 0 < s.size), s[0].toNat ≠ 34)
    (NS : Hid (∀ W : World, Calls Tryz.prog 42 #[.string s] W fun e w' => e = .returned (.int .i64 n) ∧ Below W.heap.size W w'))
    (hno : ∀ j (h : j < s.size), s[j].toNat ≠ 47)
    (PR : Hid (∀ W : World, Calls Tryz.prog 43 #[.agg #[.int .i64 1, .int .i64 n, .int .i64 0, .string ⟨#[]⟩]] W fun e w' => e = .returned (.tuple #[.string T, .int .i64 C]) ∧ Below W.heap.size W w')) (hC : (C != 0) = true) :
    Calls Tryz.prog 34 #[.string s] w fun e w' => e = .returned (.tuple #[.agg #[.int .i64 0, .int .i64 0, .int .i64 0, .string ⟨#[]⟩], .int .i64 70]) ∧ Below w.heap.size w w' := by
  have HN : Hid (∀ j (h : j < s.size), s[j].toNat ≠ 47) := hno
  clear hno
  have hp' : ((0 < (s.size : Int)) = False ∧ (0 < s.size) = False) ∨ (∃ (h0 : 0 < s.size) (c : UInt8), s[0] = c ∧ ((c.toNat : Int) == 34) = false ∧ (0 : Int) < s.size) := by
    rcases hp with hp | ⟨h0, hp⟩
    · left; exact ⟨eq_false (by omega), eq_false (by omega)⟩
    · right; exact ⟨h0, s[0], rfl, by simp; omega, by omega⟩
  clear hp
  rcases hp' with ⟨q0, q0n⟩ | ⟨h0, c0, hc0, q1, q0⟩
  all_goals
    go_enter Tryz.func34, Tryz.ntmps34
    go_wp2_with fail
    refine (NS.out _).mono ?_
    rintro e w1 ⟨rfl, hb1⟩
    have R1 : Hid (BlkV w1 w.heap.size 0 0 0 ⟨#[]⟩) := BlkV.below (by constructor <;> simp (maxDischargeDepth := 12) [go_sem]) hb1 (by first | (simp; done) | (simp; omega))
    have V1 : Hid (BlkV w1 (w.heap.size + 1) 1 0 0 ⟨#[]⟩) := BlkV.below (by constructor <;> simp (maxDischargeDepth := 12) [go_sem]) hb1 (by simp)
    have B1 : Below w.heap.size w w1 := (((Below.refl _ w).alloc (Nat.le_refl _) _).alloc (by simp) _).trans (hb1.mono (by simp; omega))
    have z1 : w.heap.size + 1 < w1.heap.size := by have := hb1.size; simp at this; omega
    clear hb1
    obtain ⟨v0, v1, v2, v3, v4, v5, v6, v7⟩ := V1.out
    go_upto_region 11 with fail
    refine wp_world ?_
    intro W2 hW2
    have R2 : Hid (BlkV W2 w.heap.size 0 0 0 ⟨#[]⟩) := by rw [hW2]; exact R1.out.off (by omega)
    have V2 : Hid (BlkV W2 (w.heap.size + 1) 1 n 0 ⟨#[]⟩) := by rw [hW2]; exact V1.out.set1
    have B2 : Below w.heap.size w W2 := by rw [hW2]; exact B1.setCell (by simp) _
    have z2 : w.heap.size + 1 < W2.heap.size := by rw [hW2]; simpa using z1
    clear hW2 R1 V1 B1 z1 v0 v1 v2 v3 v4 v5 v6 v7
    go_wp2
    go_loopw [7] (fun i wr => ∃ k : Nat, k ≤ s.size ∧ i = .int .i64 k ∧ wr = W2) (fun i _ => s.size - (intOf i).toNat)
    case atStart => exact ⟨0, by omega, rfl, rfl⟩
    case round =>
      obtain ⟨k, hk, rfl, rfl⟩ := hrel
      by_cases hke : k = s.size
      · subst hke
        obtain ⟨v0, v1, v2, v3, -, -, -, -⟩ := V2.out
        go_wp2_with fail
        refine (PR.out _).mono ?_
        rintro e w5 ⟨rfl, hb5⟩
        have R5 : Hid (BlkV w5 w.heap.size 0 0 0 ⟨#[]⟩) := R2.out.below hb5 (by omega)
        have V5 : Hid (BlkV w5 (w.heap.size + 1) 1 n 0 ⟨#[]⟩) := V2.out.below hb5 z2
        have B5 : Below w.heap.size w w5 := B2.trans (hb5.mono B2.size)
        clear hb5 v0 v1 v2 v3
        obtain ⟨v0, v1, v2, v3, -, -, -, -⟩ := V5.out
        obtain ⟨r0, r1, r2, r3, r4, r5, r6, r7⟩ := R5.out
        go_wp2
        generalize hW9 : World.setCell _ _ _ = W9
        have b9 : BlkV W9 w.heap.size 0 0 0 ⟨#[]⟩ := by rw [← hW9]; exact R5.out.four
        have hB9 : Below w.heap.size w W9 := by rw [← hW9]; exact (((B5.setCell (by simp) _).setCell (by simp) _).setCell (by simp) _).setCell (by simp) _
        clear hW9
        obtain ⟨x0, x1, x2, x3, -, -, -, -⟩ := b9
        refine bodyPost_ret (by simp [results, Tryz.results34, go_sem, x0, x1, x2, x3]; try rfl) rfl ?_
        exact ⟨rfl, hB9⟩
      · have hk' : (k : Int) < s.size := by omega
        have hkk : k < s.size := by omega
        have hne := HN.out k (by omega)
        obtain ⟨c, hc⟩ : ∃ c : UInt8, s[k] = c := ⟨_, rfl⟩
        rw [hc] at hne
        have q2 : ((c.toNat : Int) == 47) = false := by simp; omega
        clear hne
        go_wp2
        exact ⟨⟨k + 1, by omega, by simp, by first | rfl | trivial⟩, by simp [intOf]; omega⟩
    
set_option maxRecDepth 100000 in
set_option maxHeartbeats 8000000 in
theorem dp_int_not (s T A B : ByteArray) (n a b C : Int) (m : Nat) (w : World) (hs : s.size ≤ 140737488355328) (hp : s.size = 0 ∨ ∃ (h0 : 0 < s.size), s[0].toNat ≠ 34)
    (NS : Hid (∀ W : World, Calls Tryz.prog 42 #[.string s] W fun e w' => e = .returned (.int .i64 n) ∧ Below W.heap.size W w'))
    (hno : ∀ j (h : j < s.size), s[j].toNat ≠ 47)
    (PR : Hid (∀ W : World, Calls Tryz.prog 43 #[.agg #[.int .i64 1, .int .i64 n, .int .i64 0, .string ⟨#[]⟩]] W fun e w' => e = .returned (.tuple #[.string T, .int .i64 C]) ∧ Below W.heap.size W w')) (hC : C = 0) (hT : (T.toList == s.toList) = false) :
    Calls Tryz.prog 34 #[.string s] w fun e w' => e = .returned (.tuple #[.agg #[.int .i64 0, .int .i64 0, .int .i64 0, .string ⟨#[]⟩], .int .i64 70]) ∧ Below w.heap.size w w' := by
  subst hC
  have HN : Hid (∀ j (h : j < s.size), s[j].toNat ≠ 47) := hno
  clear hno
  have hp' : ((0 < (s.size : Int)) = False ∧ (0 < s.size) = False) ∨ (∃ (h0 : 0 < s.size) (c : UInt8), s[0] = c ∧ ((c.toNat : Int) == 34) = false ∧ (0 : Int) < s.size) := by
    rcases hp with hp | ⟨h0, hp⟩
    · left; exact ⟨eq_false (by omega), eq_false (by omega)⟩
    · right; exact ⟨h0, s[0], rfl, by simp; omega, by omega⟩
  clear hp
  rcases hp' with ⟨q0, q0n⟩ | ⟨h0, c0, hc0, q1, q0⟩
  all_goals
    go_enter Tryz.func34, Tryz.ntmps34
    go_wp2_with fail
    refine (NS.out _).mono ?_
    rintro e w1 ⟨rfl, hb1⟩
    have R1 : Hid (BlkV w1 w.heap.size 0 0 0 ⟨#[]⟩) := BlkV.below (by constructor <;> simp (maxDischargeDepth := 12) [go_sem]) hb1 (by first | (simp; done) | (simp; omega))
    have V1 : Hid (BlkV w1 (w.heap.size + 1) 1 0 0 ⟨#[]⟩) := BlkV.below (by constructor <;> simp (maxDischargeDepth := 12) [go_sem]) hb1 (by simp)
    have B1 : Below w.heap.size w w1 := (((Below.refl _ w).alloc (Nat.le_refl _) _).alloc (by simp) _).trans (hb1.mono (by simp; omega))
    have z1 : w.heap.size + 1 < w1.heap.size := by have := hb1.size; simp at this; omega
    clear hb1
    obtain ⟨v0, v1, v2, v3, v4, v5, v6, v7⟩ := V1.out
    go_upto_region 11 with fail
    refine wp_world ?_
    intro W2 hW2
    have R2 : Hid (BlkV W2 w.heap.size 0 0 0 ⟨#[]⟩) := by rw [hW2]; exact R1.out.off (by omega)
    have V2 : Hid (BlkV W2 (w.heap.size + 1) 1 n 0 ⟨#[]⟩) := by rw [hW2]; exact V1.out.set1
    have B2 : Below w.heap.size w W2 := by rw [hW2]; exact B1.setCell (by simp) _
    have z2 : w.heap.size + 1 < W2.heap.size := by rw [hW2]; simpa using z1
    clear hW2 R1 V1 B1 z1 v0 v1 v2 v3 v4 v5 v6 v7
    go_wp2
    go_loopw [7] (fun i wr => ∃ k : Nat, k ≤ s.size ∧ i = .int .i64 k ∧ wr = W2) (fun i _ => s.size - (intOf i).toNat)
    case atStart => exact ⟨0, by omega, rfl, rfl⟩
    case round =>
      obtain ⟨k, hk, rfl, rfl⟩ := hrel
      by_cases hke : k = s.size
      · subst hke
        obtain ⟨v0, v1, v2, v3, -, -, -, -⟩ := V2.out
        go_wp2_with fail
        refine (PR.out _).mono ?_
        rintro e w5 ⟨rfl, hb5⟩
        have R5 : Hid (BlkV w5 w.heap.size 0 0 0 ⟨#[]⟩) := R2.out.below hb5 (by omega)
        have V5 : Hid (BlkV w5 (w.heap.size + 1) 1 n 0 ⟨#[]⟩) := V2.out.below hb5 z2
        have B5 : Below w.heap.size w w5 := B2.trans (hb5.mono B2.size)
        clear hb5 v0 v1 v2 v3
        obtain ⟨v0, v1, v2, v3, -, -, -, -⟩ := V5.out
        obtain ⟨r0, r1, r2, r3, r4, r5, r6, r7⟩ := R5.out
        go_wp2
        generalize hW9 : World.setCell _ _ _ = W9
        have b9 : BlkV W9 w.heap.size 0 0 0 ⟨#[]⟩ := by rw [← hW9]; exact R5.out.four
        have hB9 : Below w.heap.size w W9 := by rw [← hW9]; exact (((B5.setCell (by simp) _).setCell (by simp) _).setCell (by simp) _).setCell (by simp) _
        clear hW9
        obtain ⟨x0, x1, x2, x3, -, -, -, -⟩ := b9
        refine bodyPost_ret (by simp [results, Tryz.results34, go_sem, x0, x1, x2, x3]; try rfl) rfl ?_
        exact ⟨rfl, hB9⟩
      · have hk' : (k : Int) < s.size := by omega
        have hkk : k < s.size := by omega
        have hne := HN.out k (by omega)
        obtain ⟨c, hc⟩ : ∃ c : UInt8, s[k] = c := ⟨_, rfl⟩
        rw [hc] at hne
        have q2 : ((c.toNat : Int) == 47) = false := by simp; omega
        clear hne
        go_wp2
        exact ⟨⟨k + 1, by omega, by simp, by first | rfl | trivial⟩, by simp [intOf]; omega⟩
    
set_option maxRecDepth 100000 in
set_option maxHeartbeats 8000000 in
theorem dp_int_yes (s T A B : ByteArray) (n a b C : Int) (m : Nat) (w : World) (hs : s.size ≤ 140737488355328) (hp : s.size = 0 ∨ ∃ (h0 : 0 < s.size), s[0].toNat ≠ 34)
    (NS : Hid (∀ W : World, Calls Tryz.prog 42 #[.string s] W fun e w' => e = .returned (.int .i64 n) ∧ Below W.heap.size W w'))
    (hno : ∀ j (h : j < s.size), s[j].toNat ≠ 47)
    (PR : Hid (∀ W : World, Calls Tryz.prog 43 #[.agg #[.int .i64 1, .int .i64 n, .int .i64 0, .string ⟨#[]⟩]] W fun e w' => e = .returned (.tuple #[.string T, .int .i64 C]) ∧ Below W.heap.size W w')) (hC : C = 0) (hT : s = T) :
    Calls Tryz.prog 34 #[.string s] w fun e w' => e = .returned (.tuple #[.agg #[.int .i64 1, .int .i64 n, .int .i64 0, .string ⟨#[]⟩], .int .i64 0]) ∧ Below w.heap.size w w' := by
  subst hC
  subst hT
  have HN : Hid (∀ j (h : j < s.size), s[j].toNat ≠ 47) := hno
  clear hno
  have hp' : ((0 < (s.size : Int)) = False ∧ (0 < s.size) = False) ∨ (∃ (h0 : 0 < s.size) (c : UInt8), s[0] = c ∧ ((c.toNat : Int) == 34) = false ∧ (0 : Int) < s.size) := by
    rcases hp with hp | ⟨h0, hp⟩
    · left; exact ⟨eq_false (by omega), eq_false (by omega)⟩
    · right; exact ⟨h0, s[0], rfl, by simp; omega, by omega⟩
  clear hp
  rcases hp' with ⟨q0, q0n⟩ | ⟨h0, c0, hc0, q1, q0⟩
  all_goals
    go_enter Tryz.func34, Tryz.ntmps34
    go_wp2_with fail
    refine (NS.out _).mono ?_
    rintro e w1 ⟨rfl, hb1⟩
    have R1 : Hid (BlkV w1 w.heap.size 0 0 0 ⟨#[]⟩) := BlkV.below (by constructor <;> simp (maxDischargeDepth := 12) [go_sem]) hb1 (by first | (simp; done) | (simp; omega))
    have V1 : Hid (BlkV w1 (w.heap.size + 1) 1 0 0 ⟨#[]⟩) := BlkV.below (by constructor <;> simp (maxDischargeDepth := 12) [go_sem]) hb1 (by simp)
    have B1 : Below w.heap.size w w1 := (((Below.refl _ w).alloc (Nat.le_refl _) _).alloc (by simp) _).trans (hb1.mono (by simp; omega))
    have z1 : w.heap.size + 1 < w1.heap.size := by have := hb1.size; simp at this; omega
    clear hb1
    obtain ⟨v0, v1, v2, v3, v4, v5, v6, v7⟩ := V1.out
    go_upto_region 11 with fail
    refine wp_world ?_
    intro W2 hW2
    have R2 : Hid (BlkV W2 w.heap.size 0 0 0 ⟨#[]⟩) := by rw [hW2]; exact R1.out.off (by omega)
    have V2 : Hid (BlkV W2 (w.heap.size + 1) 1 n 0 ⟨#[]⟩) := by rw [hW2]; exact V1.out.set1
    have B2 : Below w.heap.size w W2 := by rw [hW2]; exact B1.setCell (by simp) _
    have z2 : w.heap.size + 1 < W2.heap.size := by rw [hW2]; simpa using z1
    clear hW2 R1 V1 B1 z1 v0 v1 v2 v3 v4 v5 v6 v7
    go_wp2
    go_loopw [7] (fun i wr => ∃ k : Nat, k ≤ s.size ∧ i = .int .i64 k ∧ wr = W2) (fun i _ => s.size - (intOf i).toNat)
    case atStart => exact ⟨0, by omega, rfl, rfl⟩
    case round =>
      obtain ⟨k, hk, rfl, rfl⟩ := hrel
      by_cases hke : k = s.size
      · subst hke
        obtain ⟨v0, v1, v2, v3, -, -, -, -⟩ := V2.out
        go_wp2_with fail
        refine (PR.out _).mono ?_
        rintro e w5 ⟨rfl, hb5⟩
        have R5 : Hid (BlkV w5 w.heap.size 0 0 0 ⟨#[]⟩) := R2.out.below hb5 (by omega)
        have V5 : Hid (BlkV w5 (w.heap.size + 1) 1 n 0 ⟨#[]⟩) := V2.out.below hb5 z2
        have B5 : Below w.heap.size w w5 := B2.trans (hb5.mono B2.size)
        clear hb5 v0 v1 v2 v3
        obtain ⟨v0, v1, v2, v3, -, -, -, -⟩ := V5.out
        obtain ⟨r0, r1, r2, r3, r4, r5, r6, r7⟩ := R5.out
        go_wp2
        generalize hW9 : World.setCell _ _ _ = W9
        have b9 : BlkV W9 w.heap.size 1 n 0 ⟨#[]⟩ := by rw [← hW9]; exact R5.out.four
        have hB9 : Below w.heap.size w W9 := by rw [← hW9]; exact (((B5.setCell (by simp) _).setCell (by simp) _).setCell (by simp) _).setCell (by simp) _
        clear hW9
        obtain ⟨x0, x1, x2, x3, -, -, -, -⟩ := b9
        refine bodyPost_ret (by simp [results, Tryz.results34, go_sem, x0, x1, x2, x3]; try rfl) rfl ?_
        exact ⟨rfl, hB9⟩
      · have hk' : (k : Int) < s.size := by omega
        have hkk : k < s.size := by omega
        have hne := HN.out k (by omega)
        obtain ⟨c, hc⟩ : ∃ c : UInt8, s[k] = c := ⟨_, rfl⟩
        rw [hc] at hne
        have q2 : ((c.toNat : Int) == 47) = false := by simp; omega
        clear hne
        go_wp2
        exact ⟨⟨k + 1, by omega, by simp, by first | rfl | trivial⟩, by simp [intOf]; omega⟩
    
set_option maxRecDepth 100000 in
set_option maxHeartbeats 8000000 in
theorem dp_rat_err (s T A B : ByteArray) (n a b C : Int) (m : Nat) (w : World) (hs : s.size ≤ 140737488355328) (hp : s.size = 0 ∨ ∃ (h0 : 0 < s.size), s[0].toNat ≠ 34)
    (NS : Hid (∀ W : World, Calls Tryz.prog 42 #[.string s] W fun e w' => e = .returned (.int .i64 n) ∧ Below W.heap.size W w'))
    (NA : Hid (∀ W : World, Calls Tryz.prog 42 #[.string A] W fun e w' => e = .returned (.int .i64 a) ∧ Below W.heap.size W w'))
    (NB : Hid (∀ W : World, Calls Tryz.prog 42 #[.string B] W fun e w' => e = .returned (.int .i64 b) ∧ Below W.heap.size W w'))
    (xA : s.extract 0 m = A) (xB : s.extract (m + 1) s.size = B) (hm : m < s.size) (hfm : s[m].toNat = 47) (hno : ∀ j (h : j < m), s[j].toNat ≠ 47)
    (PR : Hid (∀ W : World, Calls Tryz.prog 43 #[.agg #[.int .i64 2, .int .i64 a, .int .i64 b, .string ⟨#[]⟩]] W fun e w' => e = .returned (.tuple #[.string T, .int .i64 C]) ∧ Below W.heap.size W w')) (hC : (C != 0) = true) :
    Calls Tryz.prog 34 #[.string s] w fun e w' => e = .returned (.tuple #[.agg #[.int .i64 0, .int .i64 0, .int .i64 0, .string ⟨#[]⟩], .int .i64 70]) ∧ Below w.heap.size w w' := by
  have HN : Hid (∀ j (h : j < m), s[j].toNat ≠ 47) := hno
  clear hno
  have h0 : 0 < s.size := by omega
  have q0 : (0 : Int) < s.size := by omega
  obtain ⟨c0, hc0⟩ : ∃ c : UInt8, s[0] = c := ⟨_, rfl⟩
  have q1 : ((c0.toNat : Int) == 34) = false := by
    rcases hp with hp | ⟨_, hp⟩
    · omega
    · rw [hc0] at hp; simp; omega
  clear hp
  go_enter Tryz.func34, Tryz.ntmps34
  go_wp2_with fail
  refine (NS.out _).mono ?_
  rintro e w1 ⟨rfl, hb1⟩
  have R1 : Hid (BlkV w1 w.heap.size 0 0 0 ⟨#[]⟩) := BlkV.below (by constructor <;> simp (maxDischargeDepth := 12) [go_sem]) hb1 (by first | (simp; done) | (simp; omega))
  have V1 : Hid (BlkV w1 (w.heap.size + 1) 1 0 0 ⟨#[]⟩) := BlkV.below (by constructor <;> simp (maxDischargeDepth := 12) [go_sem]) hb1 (by simp)
  have B1 : Below w.heap.size w w1 := (((Below.refl _ w).alloc (Nat.le_refl _) _).alloc (by simp) _).trans (hb1.mono (by simp; omega))
  have z1 : w.heap.size + 1 < w1.heap.size := by have := hb1.size; simp at this; omega
  clear hb1
  obtain ⟨v0, v1, v2, v3, v4, v5, v6, v7⟩ := V1.out
  go_upto_region 11 with fail
  refine wp_world ?_
  intro W2 hW2
  have R2 : Hid (BlkV W2 w.heap.size 0 0 0 ⟨#[]⟩) := by rw [hW2]; exact R1.out.off (by omega)
  have V2 : Hid (BlkV W2 (w.heap.size + 1) 1 n 0 ⟨#[]⟩) := by rw [hW2]; exact V1.out.set1
  have B2 : Below w.heap.size w W2 := by rw [hW2]; exact B1.setCell (by simp) _
  have z2 : w.heap.size + 1 < W2.heap.size := by rw [hW2]; simpa using z1
  clear hW2 R1 V1 B1 z1 v0 v1 v2 v3 v4 v5 v6 v7
  go_wp2
  go_loopw [7] (fun i wr => ∃ k : Nat, k ≤ m ∧ i = .int .i64 k ∧ wr = W2) (fun i _ => m - (intOf i).toNat)
  case atStart => exact ⟨0, by omega, rfl, rfl⟩
  case round =>
    obtain ⟨k, hk, rfl, rfl⟩ := hrel
    by_cases hke : k = m
    · subst hke
      have hk' : (k : Int) < s.size := by omega
      have hk1 : (k : Int) + 1 ≤ s.size := by omega
      have hk2 : (k : Int) ≤ s.size := by omega
      obtain ⟨c, hc⟩ : ∃ c : UInt8, s[k] = c := ⟨_, rfl⟩
      rw [hc] at hfm
      have q2 : ((c.toNat : Int) == 47) = true := by simp; omega
      clear hfm
      obtain ⟨v0, v1, v2, v3, v4, v5, v6, v7⟩ := V2.out
      go_upto_region 16 with fail
      refine wp_world ?_
      intro W3 hW3
      have R3 : Hid (BlkV W3 w.heap.size 0 0 0 ⟨#[]⟩) := by rw [hW3]; exact R2.out.off (by omega)
      have V3 : Hid (BlkV W3 (w.heap.size + 1) 2 n 0 ⟨#[]⟩) := by rw [hW3]; exact V2.out.set0
      have B3 : Below w.heap.size w W3 := by rw [hW3]; exact B2.setCell (by simp) _
      have z3 : w.heap.size + 1 < W3.heap.size := by rw [hW3]; simpa using z2
      clear hW3 R2 V2 B2 z2 v0 v1 v2 v3 v4 v5 v6 v7
      go_wp2_with fail
      refine (NA.out _).mono ?_
      rintro e w4 ⟨rfl, hb4⟩
      have R4 : Hid (BlkV w4 w.heap.size 0 0 0 ⟨#[]⟩) := R3.out.below hb4 (by omega)
      have V4 : Hid (BlkV w4 (w.heap.size + 1) 2 n 0 ⟨#[]⟩) := V3.out.below hb4 z3
      have B4 : Below w.heap.size w w4 := B3.trans (hb4.mono B3.size)
      have z4 : w.heap.size + 1 < w4.heap.size := by have := hb4.size; omega
      clear hb4 R3 V3 B3 z3
      obtain ⟨v0, v1, v2, v3, v4, v5, v6, v7⟩ := V4.out
      go_upto_region 17 with fail
      refine wp_world ?_
      intro W5 hW5
      have R5 : Hid (BlkV W5 w.heap.size 0 0 0 ⟨#[]⟩) := by rw [hW5]; exact R4.out.off (by omega)
      have V5 : Hid (BlkV W5 (w.heap.size + 1) 2 a 0 ⟨#[]⟩) := by rw [hW5]; exact V4.out.set1
      have B5 : Below w.heap.size w W5 := by rw [hW5]; exact B4.setCell (by simp) _
      have z5 : w.heap.size + 1 < W5.heap.size := by rw [hW5]; simpa using z4
      clear hW5 R4 V4 B4 z4 v0 v1 v2 v3 v4 v5 v6 v7
      go_wp2_with fail
      refine (NB.out _).mono ?_
      rintro e w6 ⟨rfl, hb6⟩
      have R6 : Hid (BlkV w6 w.heap.size 0 0 0 ⟨#[]⟩) := R5.out.below hb6 (by omega)
      have V6 : Hid (BlkV w6 (w.heap.size + 1) 2 a 0 ⟨#[]⟩) := V5.out.below hb6 z5
      have B6 : Below w.heap.size w w6 := B5.trans (hb6.mono B5.size)
      have z6 : w.heap.size + 1 < w6.heap.size := by have := hb6.size; omega
      clear hb6 R5 V5 B5 z5
      obtain ⟨v0, v1, v2, v3, v4, v5, v6, v7⟩ := V6.out
      go_upto_region 18 with fail
      refine wp_world ?_
      intro W7 hW7
      have R7 : Hid (BlkV W7 w.heap.size 0 0 0 ⟨#[]⟩) := by rw [hW7]; exact R6.out.off (by omega)
      have V7 : Hid (BlkV W7 (w.heap.size + 1) 2 a b ⟨#[]⟩) := by rw [hW7]; exact V6.out.set2
      have B7 : Below w.heap.size w W7 := by rw [hW7]; exact B6.setCell (by simp) _
      have z7 : w.heap.size + 1 < W7.heap.size := by rw [hW7]; simpa using z6
      clear hW7 R6 V6 B6 z6 v0 v1 v2 v3 v4 v5 v6 v7
      obtain ⟨v0, v1, v2, v3, -, -, -, -⟩ := V7.out
      go_wp2_with fail
      refine (PR.out _).mono ?_
      rintro e w5 ⟨rfl, hb5⟩
      have R5 : Hid (BlkV w5 w.heap.size 0 0 0 ⟨#[]⟩) := R7.out.below hb5 (by omega)
      have V5 : Hid (BlkV w5 (w.heap.size + 1) 2 a b ⟨#[]⟩) := V7.out.below hb5 z7
      have B5 : Below w.heap.size w w5 := B7.trans (hb5.mono B7.size)
      clear hb5 v0 v1 v2 v3
      obtain ⟨v0, v1, v2, v3, -, -, -, -⟩ := V5.out
      obtain ⟨r0, r1, r2, r3, r4, r5, r6, r7⟩ := R5.out
      go_wp2
      generalize hW9 : World.setCell _ _ _ = W9
      have b9 : BlkV W9 w.heap.size 0 0 0 ⟨#[]⟩ := by rw [← hW9]; exact R5.out.four
      have hB9 : Below w.heap.size w W9 := by rw [← hW9]; exact (((B5.setCell (by simp) _).setCell (by simp) _).setCell (by simp) _).setCell (by simp) _
      clear hW9
      obtain ⟨x0, x1, x2, x3, -, -, -, -⟩ := b9
      refine bodyPost_ret (by simp [results, Tryz.results34, go_sem, x0, x1, x2, x3]; try rfl) rfl ?_
      exact ⟨rfl, hB9⟩
    · have hk' : (k : Int) < s.size := by omega
      have hkk : k < s.size := by omega
      have hne := HN.out k (by omega)
      obtain ⟨c, hc⟩ : ∃ c : UInt8, s[k] = c := ⟨_, rfl⟩
      rw [hc] at hne
      have q2 : ((c.toNat : Int) == 47) = false := by simp; omega
      clear hne
      go_wp2
      exact ⟨⟨k + 1, by omega, by simp, by first | rfl | trivial⟩, by simp [intOf]; omega⟩
  
set_option maxRecDepth 100000 in
set_option maxHeartbeats 8000000 in
theorem dp_rat_not (s T A B : ByteArray) (n a b C : Int) (m : Nat) (w : World) (hs : s.size ≤ 140737488355328) (hp : s.size = 0 ∨ ∃ (h0 : 0 < s.size), s[0].toNat ≠ 34)
    (NS : Hid (∀ W : World, Calls Tryz.prog 42 #[.string s] W fun e w' => e = .returned (.int .i64 n) ∧ Below W.heap.size W w'))
    (NA : Hid (∀ W : World, Calls Tryz.prog 42 #[.string A] W fun e w' => e = .returned (.int .i64 a) ∧ Below W.heap.size W w'))
    (NB : Hid (∀ W : World, Calls Tryz.prog 42 #[.string B] W fun e w' => e = .returned (.int .i64 b) ∧ Below W.heap.size W w'))
    (xA : s.extract 0 m = A) (xB : s.extract (m + 1) s.size = B) (hm : m < s.size) (hfm : s[m].toNat = 47) (hno : ∀ j (h : j < m), s[j].toNat ≠ 47)
    (PR : Hid (∀ W : World, Calls Tryz.prog 43 #[.agg #[.int .i64 2, .int .i64 a, .int .i64 b, .string ⟨#[]⟩]] W fun e w' => e = .returned (.tuple #[.string T, .int .i64 C]) ∧ Below W.heap.size W w')) (hC : C = 0) (hT : (T.toList == s.toList) = false) :
    Calls Tryz.prog 34 #[.string s] w fun e w' => e = .returned (.tuple #[.agg #[.int .i64 0, .int .i64 0, .int .i64 0, .string ⟨#[]⟩], .int .i64 70]) ∧ Below w.heap.size w w' := by
  subst hC
  have HN : Hid (∀ j (h : j < m), s[j].toNat ≠ 47) := hno
  clear hno
  have h0 : 0 < s.size := by omega
  have q0 : (0 : Int) < s.size := by omega
  obtain ⟨c0, hc0⟩ : ∃ c : UInt8, s[0] = c := ⟨_, rfl⟩
  have q1 : ((c0.toNat : Int) == 34) = false := by
    rcases hp with hp | ⟨_, hp⟩
    · omega
    · rw [hc0] at hp; simp; omega
  clear hp
  go_enter Tryz.func34, Tryz.ntmps34
  go_wp2_with fail
  refine (NS.out _).mono ?_
  rintro e w1 ⟨rfl, hb1⟩
  have R1 : Hid (BlkV w1 w.heap.size 0 0 0 ⟨#[]⟩) := BlkV.below (by constructor <;> simp (maxDischargeDepth := 12) [go_sem]) hb1 (by first | (simp; done) | (simp; omega))
  have V1 : Hid (BlkV w1 (w.heap.size + 1) 1 0 0 ⟨#[]⟩) := BlkV.below (by constructor <;> simp (maxDischargeDepth := 12) [go_sem]) hb1 (by simp)
  have B1 : Below w.heap.size w w1 := (((Below.refl _ w).alloc (Nat.le_refl _) _).alloc (by simp) _).trans (hb1.mono (by simp; omega))
  have z1 : w.heap.size + 1 < w1.heap.size := by have := hb1.size; simp at this; omega
  clear hb1
  obtain ⟨v0, v1, v2, v3, v4, v5, v6, v7⟩ := V1.out
  go_upto_region 11 with fail
  refine wp_world ?_
  intro W2 hW2
  have R2 : Hid (BlkV W2 w.heap.size 0 0 0 ⟨#[]⟩) := by rw [hW2]; exact R1.out.off (by omega)
  have V2 : Hid (BlkV W2 (w.heap.size + 1) 1 n 0 ⟨#[]⟩) := by rw [hW2]; exact V1.out.set1
  have B2 : Below w.heap.size w W2 := by rw [hW2]; exact B1.setCell (by simp) _
  have z2 : w.heap.size + 1 < W2.heap.size := by rw [hW2]; simpa using z1
  clear hW2 R1 V1 B1 z1 v0 v1 v2 v3 v4 v5 v6 v7
  go_wp2
  go_loopw [7] (fun i wr => ∃ k : Nat, k ≤ m ∧ i = .int .i64 k ∧ wr = W2) (fun i _ => m - (intOf i).toNat)
  case atStart => exact ⟨0, by omega, rfl, rfl⟩
  case round =>
    obtain ⟨k, hk, rfl, rfl⟩ := hrel
    by_cases hke : k = m
    · subst hke
      have hk' : (k : Int) < s.size := by omega
      have hk1 : (k : Int) + 1 ≤ s.size := by omega
      have hk2 : (k : Int) ≤ s.size := by omega
      obtain ⟨c, hc⟩ : ∃ c : UInt8, s[k] = c := ⟨_, rfl⟩
      rw [hc] at hfm
      have q2 : ((c.toNat : Int) == 47) = true := by simp; omega
      clear hfm
      obtain ⟨v0, v1, v2, v3, v4, v5, v6, v7⟩ := V2.out
      go_upto_region 16 with fail
      refine wp_world ?_
      intro W3 hW3
      have R3 : Hid (BlkV W3 w.heap.size 0 0 0 ⟨#[]⟩) := by rw [hW3]; exact R2.out.off (by omega)
      have V3 : Hid (BlkV W3 (w.heap.size + 1) 2 n 0 ⟨#[]⟩) := by rw [hW3]; exact V2.out.set0
      have B3 : Below w.heap.size w W3 := by rw [hW3]; exact B2.setCell (by simp) _
      have z3 : w.heap.size + 1 < W3.heap.size := by rw [hW3]; simpa using z2
      clear hW3 R2 V2 B2 z2 v0 v1 v2 v3 v4 v5 v6 v7
      go_wp2_with fail
      refine (NA.out _).mono ?_
      rintro e w4 ⟨rfl, hb4⟩
      have R4 : Hid (BlkV w4 w.heap.size 0 0 0 ⟨#[]⟩) := R3.out.below hb4 (by omega)
      have V4 : Hid (BlkV w4 (w.heap.size + 1) 2 n 0 ⟨#[]⟩) := V3.out.below hb4 z3
      have B4 : Below w.heap.size w w4 := B3.trans (hb4.mono B3.size)
      have z4 : w.heap.size + 1 < w4.heap.size := by have := hb4.size; omega
      clear hb4 R3 V3 B3 z3
      obtain ⟨v0, v1, v2, v3, v4, v5, v6, v7⟩ := V4.out
      go_upto_region 17 with fail
      refine wp_world ?_
      intro W5 hW5
      have R5 : Hid (BlkV W5 w.heap.size 0 0 0 ⟨#[]⟩) := by rw [hW5]; exact R4.out.off (by omega)
      have V5 : Hid (BlkV W5 (w.heap.size + 1) 2 a 0 ⟨#[]⟩) := by rw [hW5]; exact V4.out.set1
      have B5 : Below w.heap.size w W5 := by rw [hW5]; exact B4.setCell (by simp) _
      have z5 : w.heap.size + 1 < W5.heap.size := by rw [hW5]; simpa using z4
      clear hW5 R4 V4 B4 z4 v0 v1 v2 v3 v4 v5 v6 v7
      go_wp2_with fail
      refine (NB.out _).mono ?_
      rintro e w6 ⟨rfl, hb6⟩
      have R6 : Hid (BlkV w6 w.heap.size 0 0 0 ⟨#[]⟩) := R5.out.below hb6 (by omega)
      have V6 : Hid (BlkV w6 (w.heap.size + 1) 2 a 0 ⟨#[]⟩) := V5.out.below hb6 z5
      have B6 : Below w.heap.size w w6 := B5.trans (hb6.mono B5.size)
      have z6 : w.heap.size + 1 < w6.heap.size := by have := hb6.size; omega
      clear hb6 R5 V5 B5 z5
      obtain ⟨v0, v1, v2, v3, v4, v5, v6, v7⟩ := V6.out
      go_upto_region 18 with fail
      refine wp_world ?_
      intro W7 hW7
      have R7 : Hid (BlkV W7 w.heap.size 0 0 0 ⟨#[]⟩) := by rw [hW7]; exact R6.out.off (by omega)
      have V7 : Hid (BlkV W7 (w.heap.size + 1) 2 a b ⟨#[]⟩) := by rw [hW7]; exact V6.out.set2
      have B7 : Below w.heap.size w W7 := by rw [hW7]; exact B6.setCell (by simp) _
      have z7 : w.heap.size + 1 < W7.heap.size := by rw [hW7]; simpa using z6
      clear hW7 R6 V6 B6 z6 v0 v1 v2 v3 v4 v5 v6 v7
      obtain ⟨v0, v1, v2, v3, -, -, -, -⟩ := V7.out
      go_wp2_with fail
      refine (PR.out _).mono ?_
      rintro e w5 ⟨rfl, hb5⟩
      have R5 : Hid (BlkV w5 w.heap.size 0 0 0 ⟨#[]⟩) := R7.out.below hb5 (by omega)
      have V5 : Hid (BlkV w5 (w.heap.size + 1) 2 a b ⟨#[]⟩) := V7.out.below hb5 z7
      have B5 : Below w.heap.size w w5 := B7.trans (hb5.mono B7.size)
      clear hb5 v0 v1 v2 v3
      obtain ⟨v0, v1, v2, v3, -, -, -, -⟩ := V5.out
      obtain ⟨r0, r1, r2, r3, r4, r5, r6, r7⟩ := R5.out
      go_wp2
      generalize hW9 : World.setCell _ _ _ = W9
      have b9 : BlkV W9 w.heap.size 0 0 0 ⟨#[]⟩ := by rw [← hW9]; exact R5.out.four
      have hB9 : Below w.heap.size w W9 := by rw [← hW9]; exact (((B5.setCell (by simp) _).setCell (by simp) _).setCell (by simp) _).setCell (by simp) _
      clear hW9
      obtain ⟨x0, x1, x2, x3, -, -, -, -⟩ := b9
      refine bodyPost_ret (by simp [results, Tryz.results34, go_sem, x0, x1, x2, x3]; try rfl) rfl ?_
      exact ⟨rfl, hB9⟩
    · have hk' : (k : Int) < s.size := by omega
      have hkk : k < s.size := by omega
      have hne := HN.out k (by omega)
      obtain ⟨c, hc⟩ : ∃ c : UInt8, s[k] = c := ⟨_, rfl⟩
      rw [hc] at hne
      have q2 : ((c.toNat : Int) == 47) = false := by simp; omega
      clear hne
      go_wp2
      exact ⟨⟨k + 1, by omega, by simp, by first | rfl | trivial⟩, by simp [intOf]; omega⟩
  
set_option maxRecDepth 100000 in
set_option maxHeartbeats 8000000 in
theorem dp_rat_yes (s T A B : ByteArray) (n a b C : Int) (m : Nat) (w : World) (hs : s.size ≤ 140737488355328) (hp : s.size = 0 ∨ ∃ (h0 : 0 < s.size), s[0].toNat ≠ 34)
    (NS : Hid (∀ W : World, Calls Tryz.prog 42 #[.string s] W fun e w' => e = .returned (.int .i64 n) ∧ Below W.heap.size W w'))
    (NA : Hid (∀ W : World, Calls Tryz.prog 42 #[.string A] W fun e w' => e = .returned (.int .i64 a) ∧ Below W.heap.size W w'))
    (NB : Hid (∀ W : World, Calls Tryz.prog 42 #[.string B] W fun e w' => e = .returned (.int .i64 b) ∧ Below W.heap.size W w'))
    (xA : s.extract 0 m = A) (xB : s.extract (m + 1) s.size = B) (hm : m < s.size) (hfm : s[m].toNat = 47) (hno : ∀ j (h : j < m), s[j].toNat ≠ 47)
    (PR : Hid (∀ W : World, Calls Tryz.prog 43 #[.agg #[.int .i64 2, .int .i64 a, .int .i64 b, .string ⟨#[]⟩]] W fun e w' => e = .returned (.tuple #[.string T, .int .i64 C]) ∧ Below W.heap.size W w')) (hC : C = 0) (hT : s = T) :
    Calls Tryz.prog 34 #[.string s] w fun e w' => e = .returned (.tuple #[.agg #[.int .i64 2, .int .i64 a, .int .i64 b, .string ⟨#[]⟩], .int .i64 0]) ∧ Below w.heap.size w w' := by
  subst hC
  subst hT
  have HN : Hid (∀ j (h : j < m), s[j].toNat ≠ 47) := hno
  clear hno
  have h0 : 0 < s.size := by omega
  have q0 : (0 : Int) < s.size := by omega
  obtain ⟨c0, hc0⟩ : ∃ c : UInt8, s[0] = c := ⟨_, rfl⟩
  have q1 : ((c0.toNat : Int) == 34) = false := by
    rcases hp with hp | ⟨_, hp⟩
    · omega
    · rw [hc0] at hp; simp; omega
  clear hp
  go_enter Tryz.func34, Tryz.ntmps34
  go_wp2_with fail
  refine (NS.out _).mono ?_
  rintro e w1 ⟨rfl, hb1⟩
  have R1 : Hid (BlkV w1 w.heap.size 0 0 0 ⟨#[]⟩) := BlkV.below (by constructor <;> simp (maxDischargeDepth := 12) [go_sem]) hb1 (by first | (simp; done) | (simp; omega))
  have V1 : Hid (BlkV w1 (w.heap.size + 1) 1 0 0 ⟨#[]⟩) := BlkV.below (by constructor <;> simp (maxDischargeDepth := 12) [go_sem]) hb1 (by simp)
  have B1 : Below w.heap.size w w1 := (((Below.refl _ w).alloc (Nat.le_refl _) _).alloc (by simp) _).trans (hb1.mono (by simp; omega))
  have z1 : w.heap.size + 1 < w1.heap.size := by have := hb1.size; simp at this; omega
  clear hb1
  obtain ⟨v0, v1, v2, v3, v4, v5, v6, v7⟩ := V1.out
  go_upto_region 11 with fail
  refine wp_world ?_
  intro W2 hW2
  have R2 : Hid (BlkV W2 w.heap.size 0 0 0 ⟨#[]⟩) := by rw [hW2]; exact R1.out.off (by omega)
  have V2 : Hid (BlkV W2 (w.heap.size + 1) 1 n 0 ⟨#[]⟩) := by rw [hW2]; exact V1.out.set1
  have B2 : Below w.heap.size w W2 := by rw [hW2]; exact B1.setCell (by simp) _
  have z2 : w.heap.size + 1 < W2.heap.size := by rw [hW2]; simpa using z1
  clear hW2 R1 V1 B1 z1 v0 v1 v2 v3 v4 v5 v6 v7
  go_wp2
  go_loopw [7] (fun i wr => ∃ k : Nat, k ≤ m ∧ i = .int .i64 k ∧ wr = W2) (fun i _ => m - (intOf i).toNat)
  case atStart => exact ⟨0, by omega, rfl, rfl⟩
  case round =>
    obtain ⟨k, hk, rfl, rfl⟩ := hrel
    by_cases hke : k = m
    · subst hke
      have hk' : (k : Int) < s.size := by omega
      have hk1 : (k : Int) + 1 ≤ s.size := by omega
      have hk2 : (k : Int) ≤ s.size := by omega
      obtain ⟨c, hc⟩ : ∃ c : UInt8, s[k] = c := ⟨_, rfl⟩
      rw [hc] at hfm
      have q2 : ((c.toNat : Int) == 47) = true := by simp; omega
      clear hfm
      obtain ⟨v0, v1, v2, v3, v4, v5, v6, v7⟩ := V2.out
      go_upto_region 16 with fail
      refine wp_world ?_
      intro W3 hW3
      have R3 : Hid (BlkV W3 w.heap.size 0 0 0 ⟨#[]⟩) := by rw [hW3]; exact R2.out.off (by omega)
      have V3 : Hid (BlkV W3 (w.heap.size + 1) 2 n 0 ⟨#[]⟩) := by rw [hW3]; exact V2.out.set0
      have B3 : Below w.heap.size w W3 := by rw [hW3]; exact B2.setCell (by simp) _
      have z3 : w.heap.size + 1 < W3.heap.size := by rw [hW3]; simpa using z2
      clear hW3 R2 V2 B2 z2 v0 v1 v2 v3 v4 v5 v6 v7
      go_wp2_with fail
      refine (NA.out _).mono ?_
      rintro e w4 ⟨rfl, hb4⟩
      have R4 : Hid (BlkV w4 w.heap.size 0 0 0 ⟨#[]⟩) := R3.out.below hb4 (by omega)
      have V4 : Hid (BlkV w4 (w.heap.size + 1) 2 n 0 ⟨#[]⟩) := V3.out.below hb4 z3
      have B4 : Below w.heap.size w w4 := B3.trans (hb4.mono B3.size)
      have z4 : w.heap.size + 1 < w4.heap.size := by have := hb4.size; omega
      clear hb4 R3 V3 B3 z3
      obtain ⟨v0, v1, v2, v3, v4, v5, v6, v7⟩ := V4.out
      go_upto_region 17 with fail
      refine wp_world ?_
      intro W5 hW5
      have R5 : Hid (BlkV W5 w.heap.size 0 0 0 ⟨#[]⟩) := by rw [hW5]; exact R4.out.off (by omega)
      have V5 : Hid (BlkV W5 (w.heap.size + 1) 2 a 0 ⟨#[]⟩) := by rw [hW5]; exact V4.out.set1
      have B5 : Below w.heap.size w W5 := by rw [hW5]; exact B4.setCell (by simp) _
      have z5 : w.heap.size + 1 < W5.heap.size := by rw [hW5]; simpa using z4
      clear hW5 R4 V4 B4 z4 v0 v1 v2 v3 v4 v5 v6 v7
      go_wp2_with fail
      refine (NB.out _).mono ?_
      rintro e w6 ⟨rfl, hb6⟩
      have R6 : Hid (BlkV w6 w.heap.size 0 0 0 ⟨#[]⟩) := R5.out.below hb6 (by omega)
      have V6 : Hid (BlkV w6 (w.heap.size + 1) 2 a 0 ⟨#[]⟩) := V5.out.below hb6 z5
      have B6 : Below w.heap.size w w6 := B5.trans (hb6.mono B5.size)
      have z6 : w.heap.size + 1 < w6.heap.size := by have := hb6.size; omega
      clear hb6 R5 V5 B5 z5
      obtain ⟨v0, v1, v2, v3, v4, v5, v6, v7⟩ := V6.out
      go_upto_region 18 with fail
      refine wp_world ?_
      intro W7 hW7
      have R7 : Hid (BlkV W7 w.heap.size 0 0 0 ⟨#[]⟩) := by rw [hW7]; exact R6.out.off (by omega)
      have V7 : Hid (BlkV W7 (w.heap.size + 1) 2 a b ⟨#[]⟩) := by rw [hW7]; exact V6.out.set2
      have B7 : Below w.heap.size w W7 := by rw [hW7]; exact B6.setCell (by simp) _
      have z7 : w.heap.size + 1 < W7.heap.size := by rw [hW7]; simpa using z6
      clear hW7 R6 V6 B6 z6 v0 v1 v2 v3 v4 v5 v6 v7
      obtain ⟨v0, v1, v2, v3, -, -, -, -⟩ := V7.out
      go_wp2_with fail
      refine (PR.out _).mono ?_
      rintro e w5 ⟨rfl, hb5⟩
      have R5 : Hid (BlkV w5 w.heap.size 0 0 0 ⟨#[]⟩) := R7.out.below hb5 (by omega)
      have V5 : Hid (BlkV w5 (w.heap.size + 1) 2 a b ⟨#[]⟩) := V7.out.below hb5 z7
      have B5 : Below w.heap.size w w5 := B7.trans (hb5.mono B7.size)
      clear hb5 v0 v1 v2 v3
      obtain ⟨v0, v1, v2, v3, -, -, -, -⟩ := V5.out
      obtain ⟨r0, r1, r2, r3, r4, r5, r6, r7⟩ := R5.out
      go_wp2
      generalize hW9 : World.setCell _ _ _ = W9
      have b9 : BlkV W9 w.heap.size 2 a b ⟨#[]⟩ := by rw [← hW9]; exact R5.out.four
      have hB9 : Below w.heap.size w W9 := by rw [← hW9]; exact (((B5.setCell (by simp) _).setCell (by simp) _).setCell (by simp) _).setCell (by simp) _
      clear hW9
      obtain ⟨x0, x1, x2, x3, -, -, -, -⟩ := b9
      refine bodyPost_ret (by simp [results, Tryz.results34, go_sem, x0, x1, x2, x3]; try rfl) rfl ?_
      exact ⟨rfl, hB9⟩
    · have hk' : (k : Int) < s.size := by omega
      have hkk : k < s.size := by omega
      have hne := HN.out k (by omega)
      obtain ⟨c, hc⟩ : ∃ c : UInt8, s[k] = c := ⟨_, rfl⟩
      rw [hc] at hne
      have q2 : ((c.toNat : Int) == 47) = false := by simp; omega
      clear hne
      go_wp2
      exact ⟨⟨k + 1, by omega, by simp, by first | rfl | trivial⟩, by simp [intOf]; omega⟩
  
end Go.Proofs.YtmegombglkcccaaGreatDoor

namespace Go.Proofs.YtmegombglkcccaaGreatDoor
open Go.RowKit Go.Shelf

theorem check_24 (w : World) : Calls Tryz.prog 39 #[.agg #[.int .i64 2, .int .i64 2, .int .i64 4, .string ⟨#[]⟩]] w fun e w' => e = .returned (.int .i64 20) ∧ Below w.heap.size w w' := by
  have h := check_any 2 2 4 ⟨#[]⟩ w (by decide) (by decide) (by decide) (by decide)
  rwa [show chk 2 2 4 ⟨#[]⟩ = 20 by decide +kernel] at h
theorem check_01 (w : World) : Calls Tryz.prog 39 #[.agg #[.int .i64 2, .int .i64 0, .int .i64 1, .string ⟨#[]⟩]] w fun e w' => e = .returned (.int .i64 0) ∧ Below w.heap.size w w' := by
  have h := check_any 2 0 1 ⟨#[]⟩ w (by decide) (by decide) (by decide) (by decide)
  rwa [show chk 2 0 1 ⟨#[]⟩ = 0 by decide +kernel] at h

end Go.Proofs.YtmegombglkcccaaGreatDoor

namespace Go.Proofs.YtmegombglkcccaaGreatDoor
open Go.RowKit Go.Shelf

end Go.Proofs.YtmegombglkcccaaGreatDoor

namespace Go.Proofs.YtmegombglkcccaaGreatDoor
open Go.RowKit Go.Shelf
set_option linter.unusedVariables false

theorem gss_str (t : List UInt8) : gss (quoted t) = (⟨3, 0, 0, ⟨t.toArray⟩⟩, true) := by
  have e0 : quoted t = 34 :: (inside t ++ [34]) := by simp [quoted]
  rw [e0]
  unfold gss
  have e1 : Lib.hasPrefix (34 :: (inside t ++ [34])) [34] = true := by simp [Lib.hasPrefix, List.isPrefixOf]
  obtain ⟨e2, e3⟩ := suff_quote (inside t)
  rw [e1]
  simp only [if_true, List.drop_succ_cons, List.drop_zero]
  unfold unqS
  rw [e2, e3]
  simp only [if_true]
  rw [unq_inside]
  rfl
theorem pure3 (S : ByteArray) : pureB 3 0 0 S = true := by simp [pureB]
theorem prs_quoted (t : List UInt8) : prs (quoted t) = if 64 < t.length then (⟨0, 0, 0, ⟨#[]⟩⟩, 2) else (⟨3, 0, 0, ⟨t.toArray⟩⟩, 0) := by
  unfold prs
  rw [gss_str]
  dsimp only
  have e1 : vtext 3 0 0 ⟨t.toArray⟩ = quoted t := by simp [vtext]
  have e2 : (⟨t.toArray⟩ : ByteArray).size = t.length := by show t.toArray.size = _; simp
  rw [if_pos ⟨rfl, pure3 _, e1⟩]
  by_cases h : 64 < t.length
  · have e3 : chk 3 0 0 ⟨t.toArray⟩ = 2 := by simp [chk, pure3, e2, h]
    rw [e3, if_pos h]
    rfl
  · have e3 : chk 3 0 0 ⟨t.toArray⟩ = 0 := by simp [chk, pure3, e2, h]
    rw [e3, if_neg h]
    rfl
theorem prs_bad {l : List UInt8} (hp : Lib.hasPrefix l [34] = true) (h : quoted (dq (l.drop 1)) ≠ l) : prs l = (⟨0, 0, 0, ⟨#[]⟩⟩, 70) := by
  unfold prs
  refine if_neg ?_
  rintro ⟨_, _, g3⟩
  have e0 : gss l = (⟨3, 0, 0, outS (unqS (l.drop 1))⟩, outB (unqS (l.drop 1))) := by simp [gss, hp]
  rw [e0] at g3
  dsimp only at g3
  have e1 : vtext 3 0 0 (outS (unqS (l.drop 1))) = quoted (outS (unqS (l.drop 1))).data.toList := by simp [vtext]
  rw [e1] at g3
  generalize (outS (unqS (l.drop 1))).data.toList = S at g3
  apply h
  rw [← g3]
  have e2 : (quoted S).drop 1 = inside S ++ [34] := by simp [quoted]
  rw [e2, dq_inside]
theorem chk_int (n : Int) : chk 1 n 0 ⟨#[]⟩ = 0 := by simp [chk, pureB, ByteArray.toList_eq]; decide
theorem prs_int {l : List UInt8} (hp : Lib.hasPrefix l [34] = false) (hc : (cutL l).2.2 = false) (h : ¬ (chk 1 (numS l) 0 ⟨#[]⟩ = 0 ∧ vtext 1 (numS l) 0 ⟨#[]⟩ = l)) : prs l = (⟨0, 0, 0, ⟨#[]⟩⟩, 70) := by
  unfold prs
  refine if_neg ?_
  rintro ⟨g1, g2, g3⟩
  have e0 : gss l = (⟨1, (pint l).1, 0, ⟨#[]⟩⟩, (pint l).2) := by simp [gss, hp, hc]
  have hf := pint_fits l
  rw [e0] at g3
  dsimp only at g3
  have e1 : vtext 1 (pint l).1 0 ⟨#[]⟩ = Lib.itoa (pint l).1 := by simp [vtext]
  rw [e1] at g3
  have e2 : numS l = (pint l).1 := by
    have q := numS_itoa hf.1 hf.2
    rw [g3] at q
    exact q
  apply h
  rw [e2]
  exact ⟨chk_int _, e1.trans g3⟩
theorem prs_rat {l : List UInt8} (hp : Lib.hasPrefix l [34] = false) (hc : (cutL l).2.2 = true) (h : ¬ (chk 2 (numS (cutL l).1) (numS (cutL l).2.1) ⟨#[]⟩ = 0 ∧ vtext 2 (numS (cutL l).1) (numS (cutL l).2.1) ⟨#[]⟩ = l)) : prs l = (⟨0, 0, 0, ⟨#[]⟩⟩, 70) := by
  unfold prs
  refine if_neg ?_
  rintro ⟨g1, g2, g3⟩
  cases hk : (pint (cutL l).1).2
  · have e0 : gss l = (⟨1, (pint (cutL l).1).1, 0, ⟨#[]⟩⟩, false) := by simp [gss, hp, hc, hk]
    rw [e0] at g1
    cases g1
  · have e0 : gss l = (⟨2, (pint (cutL l).1).1, (pint (cutL l).2.1).1, ⟨#[]⟩⟩, (pint (cutL l).2.1).2) := by simp [gss, hp, hc, hk]
    have f1 := pint_fits (cutL l).1
    have f2 := pint_fits (cutL l).2.1
    rw [e0] at g2 g3
    dsimp only at g2 g3
    generalize (pint (cutL l).1).1 = n at g2 g3 f1
    generalize (pint (cutL l).2.1).1 = d at g2 g3 f2
    have e1 : vtext 2 n d ⟨#[]⟩ = Lib.itoa n ++ 47 :: Lib.itoa d := by simp [vtext]
    have e2 : cutL l = (Lib.itoa n, Lib.itoa d, true) := by rw [← g3, e1]; exact cutL_some _ _ (itoa_cut n)
    apply h
    rw [e2]
    dsimp only
    rw [numS_itoa f1.1 f1.2, numS_itoa f2.1 f2.2]
    refine ⟨?_, g3⟩
    unfold chk
    rw [g2]
    rfl
theorem prs_good {v : Val} {l : List UInt8} (h : v.may = 0) (f : v.Fits) (e : vtext v.k v.n v.d v.s = l) : prs l = (v, 0) := by rw [← e]; exact prs_text h f

theorem pref_of (s : ByteArray) : Lib.hasPrefix s.data.toList [34] = true → ∃ (h0 : 0 < s.size), s[0] = 34 := by
  intro h
  obtain ⟨⟨l⟩⟩ := s
  match l with
  | [] => simp [Lib.hasPrefix] at h
  | c :: r =>
    simp [Lib.hasPrefix, List.isPrefixOf] at h
    exact ⟨by show 0 < (c :: r).length; simp, h.symm⟩
theorem nopref_of (s : ByteArray) : Lib.hasPrefix s.data.toList [34] = false → s.size = 0 ∨ ∃ (h0 : 0 < s.size), s[0].toNat ≠ 34 := by
  intro h
  obtain ⟨⟨l⟩⟩ := s
  match l with
  | [] => exact Or.inl rfl
  | c :: r =>
    right
    simp [Lib.hasPrefix, List.isPrefixOf] at h
    refine ⟨by show 0 < (c :: r).length; simp, ?_⟩
    show c.toNat ≠ 34
    intro g
    exact h (UInt8.toNat_inj.1 (by rw [g]; rfl))
theorem get_list (s : ByteArray) (j : Nat) (h : j < s.size) : s[j] = s.data.toList[j]'(by simpa using h) := rfl

theorem cutL_notin : ∀ (l : List UInt8), (cutL l).2.2 = false → ∀ c ∈ l, c.toNat ≠ 47
  | [], _, c, hc => by cases hc
  | a :: r, h, c, hc => by
    unfold cutL at h
    by_cases ha : a.toNat = 47
    · rw [if_pos ha] at h; cases h
    · rw [if_neg ha] at h
      rcases List.mem_cons.1 hc with e | e
      · rw [e]; exact ha
      · exact cutL_notin r h c e
theorem cutL_fst : ∀ (l : List UInt8), ∀ c ∈ (cutL l).1, c.toNat ≠ 47
  | [], c, hc => by simp [cutL] at hc
  | a :: r, c, hc => by
    unfold cutL at hc
    by_cases ha : a.toNat = 47
    · rw [if_pos ha] at hc; simp at hc
    · rw [if_neg ha] at hc
      simp only [List.mem_cons] at hc
      rcases hc with e | e
      · rw [e]; exact ha
      · exact cutL_fst r c e

theorem dparse_any (s : ByteArray) (w : World) (hs : s.size ≤ 1048576) :
    Calls Tryz.prog 34 #[.string s] w fun e w' => e = .returned (.tuple #[.agg #[.int .i64 (prs s.data.toList).1.k, .int .i64 (prs s.data.toList).1.n, .int .i64 (prs s.data.toList).1.d, .string (prs s.data.toList).1.s], .int .i64 (prs s.data.toList).2]) ∧ Below w.heap.size w w' := by
  have hl : s.data.toList.length = s.size := by simp
  cases hp : Lib.hasPrefix s.data.toList [34]
  · have hn := nopref_of s hp
    have NS := fun (W : World) => number_any s W (by omega)
    cases hc : (cutL s.data.toList).2.2
    · have hno : ∀ j (h : j < s.size), s[j].toNat ≠ 47 := fun j h => by
        rw [get_list]
        exact cutL_notin _ hc _ (List.getElem_mem _)
      have nf := numS_fits s.data.toList
      have PR := fun (W : World) => dprint_any 1 (numS s.data.toList) 0 ⟨#[]⟩ W nf.1 nf.2 (by decide) (by decide)
      rw [chk_int] at PR
      simp only [if_true] at PR
      by_cases ht : vtext 1 (numS s.data.toList) 0 ⟨#[]⟩ = s.data.toList
      · have e0 : prs s.data.toList = (⟨1, numS s.data.toList, 0, ⟨#[]⟩⟩, 0) := prs_good (v := ⟨1, numS s.data.toList, 0, ⟨#[]⟩⟩) (chk_int _) ⟨nf.1, nf.2, by simp, by simp⟩ ht
        rw [e0]
        exact dp_int_yes s _ ⟨#[]⟩ ⟨#[]⟩ _ 0 0 0 0 w (by omega) hn NS hno PR rfl (ba_eq ht.symm)
      · rw [prs_int hp hc (fun h => ht h.2)]
        exact dp_int_not s _ ⟨#[]⟩ ⟨#[]⟩ _ 0 0 0 0 w (by omega) hn NS hno PR rfl (by simp only [toList_data]; simpa using ht)
    · obtain ⟨h1, _⟩ := cutL_yes _ hc
      have hlen : s.data.toList.length = (cutL s.data.toList).1.length + 1 + (cutL s.data.toList).2.1.length := by
        have := congrArg List.length h1
        rw [List.length_append, List.length_cons] at this
        omega
      have hm : (cutL s.data.toList).1.length < s.size := by omega
      have x1 : s.extract 0 (cutL s.data.toList).1.length = ⟨(cutL s.data.toList).1.toArray⟩ := by
        refine ba_eq ?_
        rw [ext_take s _ (by omega)]
        generalize cutL s.data.toList = c at h1
        rw [h1]
        simp
      have x2 : s.extract ((cutL s.data.toList).1.length + 1) s.size = ⟨(cutL s.data.toList).2.1.toArray⟩ := by
        refine ba_eq ?_
        rw [ext_drop s _ (by omega)]
        generalize cutL s.data.toList = c at h1
        rw [h1, List.drop_append]
        simp
      have hat : ∀ j (h : j < s.size), s[j] = ((cutL s.data.toList).1 ++ 47 :: (cutL s.data.toList).2.1)[j]'(by rw [← h1]; omega) := fun j h => by
        rw [get_list]
        congr 1
      have hfm : s[(cutL s.data.toList).1.length].toNat = 47 := by
        rw [hat _ hm]
        simp
      have hno : ∀ j (h : j < (cutL s.data.toList).1.length), s[j].toNat ≠ 47 := fun j h => by
        rw [hat j (by omega), List.getElem_append_left h]
        exact cutL_fst _ _ (List.getElem_mem _)
      have fa := numS_fits (cutL s.data.toList).1
      have fb := numS_fits (cutL s.data.toList).2.1
      have NA := fun (W : World) => number_any ⟨(cutL s.data.toList).1.toArray⟩ W (by show (cutL s.data.toList).1.toArray.size ≤ _; simp; omega)
      have NB := fun (W : World) => number_any ⟨(cutL s.data.toList).2.1.toArray⟩ W (by show (cutL s.data.toList).2.1.toArray.size ≤ _; simp; omega)
      have PR := fun (W : World) => dprint_any 2 (numS (cutL s.data.toList).1) (numS (cutL s.data.toList).2.1) ⟨#[]⟩ W fa.1 fa.2 fb.1 fb.2
      by_cases hk : chk 2 (numS (cutL s.data.toList).1) (numS (cutL s.data.toList).2.1) ⟨#[]⟩ = 0
      · by_cases ht : vtext 2 (numS (cutL s.data.toList).1) (numS (cutL s.data.toList).2.1) ⟨#[]⟩ = s.data.toList
        · have e0 := prs_good (v := ⟨2, numS (cutL s.data.toList).1, numS (cutL s.data.toList).2.1, ⟨#[]⟩⟩) hk ⟨fa.1, fa.2, fb.1, fb.2⟩ ht
          rw [e0]
          simp only [if_pos hk] at PR
          exact dp_rat_yes s _ _ _ _ _ _ _ _ w (by omega) hn NS NA NB x1 x2 hm hfm hno PR hk (ba_eq ht.symm)
        · rw [prs_rat hp hc (fun h => ht h.2)]
          simp only [if_pos hk] at PR
          exact dp_rat_not s _ _ _ _ _ _ _ _ w (by omega) hn NS NA NB x1 x2 hm hfm hno PR hk (by simp only [toList_data]; simpa using ht)
      · rw [prs_rat hp hc (fun h => hk h.1)]
        exact dp_rat_err s _ _ _ _ _ _ _ _ w (by omega) hn NS NA NB x1 x2 hm hfm hno PR (by simpa using hk)
  · obtain ⟨h0, hc⟩ := pref_of s hp
    have hd := dq_len _ (s.data.toList.drop 1) (Nat.le_refl _)
    have hd2 : (s.data.toList.drop 1).length ≤ s.size := by simp
    have eT : (⟨(dq (s.data.toList.drop 1)).toArray⟩ : ByteArray).size = (dq (s.data.toList.drop 1)).length := by show (dq (s.data.toList.drop 1)).toArray.size = _; simp
    have UN := fun (W : World) => dunq_any s W (by omega)
    have QU := fun (W : World) => dquote_any ⟨(dq (s.data.toList.drop 1)).toArray⟩ W (by omega)
    by_cases hq : quoted (dq (s.data.toList.drop 1)) = s.data.toList
    · have e0 := prs_quoted (dq (s.data.toList.drop 1))
      rw [hq] at e0
      rw [e0]
      by_cases h64 : 64 < (dq (s.data.toList.drop 1)).length
      · rw [if_pos h64]
        exact dp_long s _ _ 34 w h0 hc (by decide) UN QU (ba_eq hq.symm).symm (by omega)
      · rw [if_neg h64]
        exact dp_str s ⟨(dq (s.data.toList.drop 1)).toArray⟩ _ 34 w h0 hc (by decide) UN QU (ba_eq hq.symm).symm (by omega)
    · rw [prs_bad hp hq]
      exact dp_bad s _ _ 34 w h0 hc (by decide) UN QU (by simp only [toList_data]; simpa using hq)

end Go.Proofs.YtmegombglkcccaaGreatDoor

namespace Go.Proofs.YtmegombglkcccaaGreatDoor
open Go.RowKit Go.Shelf LX
set_option linter.unusedVariables false

/-- What is told of a token at a place. -/
def OneIs (s : ByteArray) (i : Nat) (K at_ k n d : Int) (x S : ByteArray) (ok : Bool) : Prop :=
  (ok = true ↔ fine sdB (s.data.toList.drop i)) ∧ (ok = true → tokAt sdB (s.data.toList.drop i) i = ⟨K.toNat, at_.toNat, x.data.toList, ⟨k, n, d, S⟩⟩ ∧ K = K.toNat ∧ at_ = i ∧ 1 ≤ x.size ∧ i + x.size ≤ s.size)
theorem one_fin (s x : ByteArray) (i K m : Nat) (v : Val) (ok : Bool) (hi : i < s.size) (hb : beh (s.data.toList.drop i) = (K, m)) (hK : K ≠ 0) (hx : x.data.toList = (s.data.toList.drop i).take m) (hsd : (sdB K x.data.toList).2 = ok) (hv : ok = true → (sdB K x.data.toList).1 = v) : OneIs s i K i v.k v.n v.d x v.s ok := by
  have hle := beh_le (s.data.toList.drop i) (by rw [hb]; exact hK)
  rw [hb] at hle
  simp only [List.length_drop] at hle
  have hl : s.data.toList.length = s.size := by simp
  have hxl : x.size = m := by
    have : x.data.toList.length = x.size := by simp
    rw [← this, hx]
    simp
    omega
  refine ⟨?_, fun h => ⟨?_, rfl, rfl, by omega, by omega⟩⟩
  · unfold fine
    rw [hb]
    dsimp only
    rw [← hx, hsd]
    exact ⟨fun h => ⟨hK, h⟩, fun h => h.2⟩
  · unfold tokAt
    rw [hb]
    dsimp only
    rw [← hx, hv h]
    rfl
theorem one_nil (s : ByteArray) (i : Nat) (h : (beh (s.data.toList.drop i)).1 = 0) (K at_ k n d : Int) (x S : ByteArray) : OneIs s i K at_ k n d x S false := by
  refine ⟨⟨fun hh => (by cases hh), fun hf => absurd h hf.1⟩, fun hh => (by cases hh)⟩
theorem u8_of {c : UInt8} {n : UInt8} (h : c.toNat = n.toNat) : c = n := UInt8.toNat_inj.1 h
theorem ext_i (s : ByteArray) (i m : Nat) : (s.extract i (i + m)).data.toList = (s.data.toList.drop i).take m := by rw [ext_mid, Nat.add_sub_cancel_left]
theorem brk_last : ∀ (t : List UInt8) (k : Nat), brk t = some k → ∃ u : List UInt8, t.take k = u ++ [93]
  | [], k, h => by simp [brk] at h
  | c :: t, k, h => by
    simp only [brk] at h
    split at h
    · rename_i hc
      cases h
      exact ⟨[], by simp; exact u8_of hc⟩
    · cases hb : brk t with
      | none => simp [hb] at h
      | some j =>
        simp [hb] at h
        subst h
        obtain ⟨u, hu⟩ := brk_last t j hb
        exact ⟨c :: u, by simp [hu]⟩
theorem num_end (s : ByteArray) (i : Nat) (hi : i < s.size) : i + 1 + run digN (s.data.toList.drop (i + 1)) ≤ s.size := by
  have := run_le digN (s.data.toList.drop (i + 1))
  simp at this
  omega
/-- number at every place: the value of the text from there on, up to where the number ends. -/
theorem rnumber_at (s : ByteArray) (i : Nat) (w : World) (hs : s.size ≤ 16384) (hi : i < s.size) :
    Calls Tryz.prog 17 #[.string s, .int .i64 i] w fun e w' => e = .returned (.tuple #[.agg #[.int .i64 6, .int .i64 i, .string ⟨((s.data.toList.drop i).take (1 + numLen (s.data.toList.drop (i + 1)))).toArray⟩, .int .i64 (prs ((s.data.toList.drop i).take (1 + numLen (s.data.toList.drop (i + 1))))).1.k, .int .i64 (prs ((s.data.toList.drop i).take (1 + numLen (s.data.toList.drop (i + 1))))).1.n, .int .i64 (prs ((s.data.toList.drop i).take (1 + numLen (s.data.toList.drop (i + 1))))).1.d, .string (prs ((s.data.toList.drop i).take (1 + numLen (s.data.toList.drop (i + 1))))).1.s], .bool (decide ((prs ((s.data.toList.drop i).take (1 + numLen (s.data.toList.drop (i + 1))))).2 = 0))]) ∧ Below w.heap.size w w' := by
  have hl : s.data.toList.length = s.size := by simp
  have hle := numLen_le (s.data.toList.drop (i + 1))
  simp only [List.length_drop, hl] at hle
  obtain ⟨N, eN⟩ : ∃ N, numLen (s.data.toList.drop (i + 1)) = N := ⟨_, rfl⟩
  rw [eN] at hle ⊢
  have hex : s.extract i (i + (1 + N)) = ⟨((s.data.toList.drop i).take (1 + N)).toArray⟩ := ba_eq (ext_i s i (1 + N))
  have hsx : (⟨((s.data.toList.drop i).take (1 + N)).toArray⟩ : ByteArray).size ≤ 1048576 := by
    show ((s.data.toList.drop i).take (1 + N)).toArray.size ≤ _
    simp
    omega
  have VA : ∀ W : World, _ := fun W => rvalued ⟨((s.data.toList.drop i).take (1 + N)).toArray⟩ _ i _ _ _ _ W (fun W' => dparse_any _ W' hsx)
  have hD := num_end s i hi
  obtain ⟨R, eR⟩ : ∃ R, run digN (s.data.toList.drop (i + 1)) = R := ⟨_, rfl⟩
  have DI : ∀ W : World, Calls Tryz.prog 22 #[.string s, .int .i64 ((i + 1 : Nat) : Int)] W fun e w' => e = .returned (.int .i64 ((i + 1 + R : Nat) : Int)) ∧ w' = W := fun W => by have q := rdigits_any s (i + 1) W hs (by omega); rw [eR] at q; exact q
  rw [eR] at hD
  unfold numLen at eN
  rw [eR] at eN
  simp only [List.drop_drop] at eN
  by_cases h1 : s.size ≤ i + 1 + R + 1
  · have hno : ¬ (hd (s.data.toList.drop (i + 1 + R)) = 47 ∧ digN (hd (s.data.toList.drop (i + 1 + (R + 1)))) = true) := by
      rintro ⟨-, h⟩
      rw [hd_end s _ (by omega)] at h
      simp [digN] at h
    rw [if_neg hno] at eN
    subst eN
    exact rnum_a s _ _ i (i + 1 + R) 0 _ _ _ _ w hs hi (by omega) hD DI VA (by rw [← hex]; congr 1; omega) h1
  · have h1' : i + 1 + R + 1 < s.size := by omega
    rw [hd_drop s (i + 1 + R) (by omega)] at eN
    have e2 : hd (s.data.toList.drop (i + 1 + (R + 1))) = s[i + 1 + R + 1].toNat := hd_drop s (i + 1 + R + 1) h1'
    rw [e2] at eN
    by_cases h47 : s[i + 1 + R].toNat = 47
    · cases hP : digN s[i + 1 + R + 1].toNat
      · rw [if_neg (by rw [hP]; simp)] at eN
        subst eN
        exact rnum_c s _ _ i (i + 1 + R) 0 _ _ _ _ w hs hi (by omega) hD DI VA (by rw [← hex]; congr 1; omega) h1' h47 hP
      · rw [if_pos ⟨h47, hP⟩] at eN
        have hr2 := run_le digN (s.data.toList.drop (i + 1 + (R + 1)))
        simp at hr2
        exact rnum_d s _ _ i (i + 1 + R) (i + (1 + N)) _ _ _ _ w hs hi (by omega) hD DI VA h1' h47 hP (by omega) (by omega) hex (fun W => by
          have q := rdigits_any s (i + 1 + R + 1) W hs (by omega)
          rw [show i + 1 + R + 1 + run digN (s.data.toList.drop (i + 1 + R + 1)) = i + (1 + N) by rw [← eN]; rw [show i + 1 + (R + 1) = i + 1 + R + 1 by omega]; omega] at q
          exact q)
    · rw [if_neg (fun h => h47 h.1)] at eN
      subst eN
      exact rnum_b s _ _ i (i + 1 + R) 0 _ _ _ _ w hs hi (by omega) hD DI VA (by rw [← hex]; congr 1; omega) h1' h47
theorem sd_plain (K : Nat) (l : List UInt8) (h3 : K ≠ 3) (h5 : K ≠ 5) (h6 : K ≠ 6) (h7 : K ≠ 7) : sdB K l = (zeroV, true) := by
  unfold sdB; rw [if_neg h3, if_neg h5, if_neg h6, if_neg h7]
theorem one_any (s : ByteArray) (i : Nat) (w : World) (hs : s.size ≤ 16384) (hi : i < s.size) :
    Calls Tryz.prog 9 #[.string s, .int .i64 i] w fun e w' => ∃ (K at_ k n d : Int) (x S : ByteArray) (ok : Bool), e = .returned (.tuple #[.agg #[.int .i64 K, .int .i64 at_, .string x, .int .i64 k, .int .i64 n, .int .i64 d, .string S], .bool ok]) ∧ Below w.heap.size w w' ∧ Hid (OneIs s i K at_ k n d x S ok) := by
  have hd0 := drop_at s i hi
  have hl : s.data.toList.length = s.size := by simp
  have t1 : (s.data.toList.drop i).take 1 = [s[i]] := by rw [hd0]; rfl
  have x1 : s.extract i (i + 1) = ⟨#[s[i]]⟩ := ba_eq (by rw [ext_i, t1])
  by_cases h1 : s[i].toNat = 40
  · have e : beh (s.data.toList.drop i) = (1, 1) := by rw [hd0, beh_cons, if_pos h1]
    refine (one_40 s s s i 0 0 0 0 true w hs hi h1).mono ?_
    rintro e w' ⟨rfl, hB⟩
    exact ⟨_, _, _, _, _, _, _, _, rfl, hB, one_fin s ⟨#[40]⟩ i 1 1 zeroV true hi e (by decide) (by rw [t1, u8_of (n := 40) h1]) (by rw [sd_plain] <;> simp) (fun _ => by rw [sd_plain] <;> simp)⟩
  by_cases h2 : s[i].toNat = 41
  · have e : beh (s.data.toList.drop i) = (2, 1) := by rw [hd0, beh_cons, if_neg h1, if_pos h2]
    refine (one_41 s s s i 0 0 0 0 true w hs hi h2).mono ?_
    rintro e w' ⟨rfl, hB⟩
    exact ⟨_, _, _, _, _, _, _, _, rfl, hB, one_fin s ⟨#[41]⟩ i 2 1 zeroV true hi e (by decide) (by rw [t1, u8_of (n := 41) h2]) (by rw [sd_plain] <;> simp) (fun _ => by rw [sd_plain] <;> simp)⟩
  cases hA : lowN s[i].toNat
  · have h3 : ¬ lowN s[i].toNat = true := by rw [hA]; simp
    have sign : ∀ (e : beh (s.data.toList.drop i) = (4, 1)), OneIs s i 4 i zeroV.k zeroV.n zeroV.d (s.extract i (i + 1)) zeroV.s true := fun e => one_fin s _ i 4 1 zeroV true hi e (by decide) (ext_i s i 1) (by rw [sd_plain] <;> simp) (fun _ => by rw [sd_plain] <;> simp)
    cases hD : digN s[i].toNat
    · by_cases h45 : s[i].toNat = 45
      · by_cases hsz : s.size ≤ i + 1
        · have hP : digN (hd (s.data.toList.drop (i + 1))) = false := by rw [hd_end s _ hsz]; rfl
          have e : beh (s.data.toList.drop i) = (4, 1) := by rw [hd0, beh_cons, if_neg h1, if_neg h2, if_neg h3, if_neg (by rw [hD, hP]; simp), if_neg (by omega), if_pos (by omega)]
          refine (one_mia s _ s i 0 0 0 0 true w hs hi hA hD h45 hsz rfl).mono ?_
          rintro e w' ⟨rfl, hB⟩
          exact ⟨_, _, _, _, _, _, _, _, rfl, hB, sign e⟩
        · have hsz' : i + 1 < s.size := by omega
          have eP := hd_drop s (i + 1) hsz'
          cases hP : digN s[i + 1].toNat
          · have e : beh (s.data.toList.drop i) = (4, 1) := by rw [hd0, beh_cons, if_neg h1, if_neg h2, if_neg h3, if_neg (by rw [hD, eP, hP]; simp), if_neg (by omega), if_pos (by omega)]
            refine (one_mib s _ s i 0 0 0 0 true w hs hi hA hD h45 hsz' hP rfl).mono ?_
            rintro e w' ⟨rfl, hB⟩
            exact ⟨_, _, _, _, _, _, _, _, rfl, hB, sign e⟩
          · have e : beh (s.data.toList.drop i) = (6, 1 + numLen (s.data.toList.drop (i + 1))) := by rw [hd0, beh_cons, if_neg h1, if_neg h2, if_neg h3, if_pos (by rw [eP, hP, h45]; simp)]
            refine (one_neg s _ _ i 0 _ _ _ _ w hs hi hA hD h45 hsz' hP (fun W => rnumber_at s i W hs hi)).mono ?_
            rintro e w' ⟨rfl, hB⟩
            exact ⟨_, _, _, _, _, _, _, _, rfl, hB, one_fin s _ i 6 _ _ _ hi e (by decide) rfl rfl (fun _ => rfl)⟩
      · have h4 : ¬ (digN s[i].toNat || (s[i].toNat == 45 && digN (hd (s.data.toList.drop (i + 1))))) = true := by rw [hD]; simp [h45]
        by_cases h60 : s[i].toNat = 60
        · by_cases hsz : s.size ≤ i + 1
          · have e : beh (s.data.toList.drop i) = (4, 1) := by rw [hd0, beh_cons, if_neg h1, if_neg h2, if_neg h3, if_neg h4, if_neg (by rw [hd_end s _ hsz]; omega), if_pos (by omega)]
            refine (one_lta s _ s i 0 0 0 0 true w hs hi hA hD h60 hsz rfl).mono ?_
            rintro e w' ⟨rfl, hB⟩
            exact ⟨_, _, _, _, _, _, _, _, rfl, hB, sign e⟩
          · have hsz' : i + 1 < s.size := by omega
            have eP := hd_drop s (i + 1) hsz'
            by_cases h61 : s[i + 1].toNat = 61
            · have e : beh (s.data.toList.drop i) = (4, 2) := by rw [hd0, beh_cons, if_neg h1, if_neg h2, if_neg h3, if_neg h4, if_pos ⟨h60, by rw [eP]; exact h61⟩]
              have t2 : (s.data.toList.drop i).take 2 = [60, 61] := by
                rw [hd0, drop_at s (i + 1) hsz', u8_of (n := 60) h60, u8_of (n := 61) h61]; rfl
              refine (one_le s s s i 0 0 0 0 true w hs hi hA h60 hsz' h61).mono ?_
              rintro e w' ⟨rfl, hB⟩
              exact ⟨_, _, _, _, _, _, _, _, rfl, hB, one_fin s ⟨#[60, 61]⟩ i 4 2 zeroV true hi e (by decide) (by rw [t2]) (by rw [sd_plain] <;> simp) (fun _ => by rw [sd_plain] <;> simp)⟩
            · have e : beh (s.data.toList.drop i) = (4, 1) := by rw [hd0, beh_cons, if_neg h1, if_neg h2, if_neg h3, if_neg h4, if_neg (by rw [eP]; exact fun x => h61 x.2), if_pos (by omega)]
              refine (one_ltb s _ s i 0 0 0 0 true w hs hi hA hD h60 hsz' h61 rfl).mono ?_
              rintro e w' ⟨rfl, hB⟩
              exact ⟨_, _, _, _, _, _, _, _, rfl, hB, sign e⟩
        have h5 : ¬ (s[i].toNat = 60 ∧ hd (s.data.toList.drop (i + 1)) = 61) := fun x => h60 x.1
        by_cases h61 : s[i].toNat = 61
        · have e : beh (s.data.toList.drop i) = (4, 1) := by rw [hd0, beh_cons, if_neg h1, if_neg h2, if_neg h3, if_neg h4, if_neg h5, if_pos (by omega)]
          refine (one_61 s _ s i 0 0 0 0 true w hs hi hA hD h61 rfl).mono ?_
          rintro e w' ⟨rfl, hB⟩
          exact ⟨_, _, _, _, _, _, _, _, rfl, hB, sign e⟩
        by_cases h43 : s[i].toNat = 43
        · have e : beh (s.data.toList.drop i) = (4, 1) := by rw [hd0, beh_cons, if_neg h1, if_neg h2, if_neg h3, if_neg h4, if_neg h5, if_pos (by omega)]
          refine (one_43 s _ s i 0 0 0 0 true w hs hi hA hD h43 rfl).mono ?_
          rintro e w' ⟨rfl, hB⟩
          exact ⟨_, _, _, _, _, _, _, _, rfl, hB, sign e⟩
        by_cases h42 : s[i].toNat = 42
        · have e : beh (s.data.toList.drop i) = (4, 1) := by rw [hd0, beh_cons, if_neg h1, if_neg h2, if_neg h3, if_neg h4, if_neg h5, if_pos (by omega)]
          refine (one_42 s _ s i 0 0 0 0 true w hs hi hA hD h42 rfl).mono ?_
          rintro e w' ⟨rfl, hB⟩
          exact ⟨_, _, _, _, _, _, _, _, rfl, hB, sign e⟩
        have h6 : ¬ (s[i].toNat = 61 ∨ s[i].toNat = 43 ∨ s[i].toNat = 42 ∨ s[i].toNat = 60 ∨ s[i].toNat = 45) := by omega
        by_cases h91 : s[i].toNat = 91
        · have hq : brk (s.data.toList.drop i) = (brk (s.data.toList.drop (i + 1))).map (· + 1) := by rw [brk_step s i hi, if_neg (by omega)]
          have BR := fun W : World => rbracket_any s i W hs (by omega)
          rw [hq] at BR
          cases hb : brk (s.data.toList.drop (i + 1)) with
          | none =>
            have e : beh (s.data.toList.drop i) = (0, 0) := by rw [hd0, beh_cons, if_neg h1, if_neg h2, if_neg h3, if_neg h4, if_neg h5, if_neg h6, if_pos h91, hb]; rfl
            rw [hb] at BR
            refine (one_91n s s s i 0 0 0 0 true w hs hi hA hD h91 BR).mono ?_
            rintro e w' ⟨rfl, hB⟩
            exact ⟨_, _, _, _, _, _, _, _, rfl, hB, one_nil s i (by rw [e]) _ _ _ _ _ _ _⟩
          | some kk =>
            have e : beh (s.data.toList.drop i) = (5, 1 + kk) := by rw [hd0, beh_cons, if_neg h1, if_neg h2, if_neg h3, if_neg h4, if_neg h5, if_neg h6, if_pos h91, hb]; rfl
            rw [hb] at BR
            obtain ⟨u, hu⟩ := brk_last _ kk hb
            have hkk := brk_le _ kk hb
            simp only [List.length_drop, hl] at hkk
            have hx : (s.extract i (i + (1 + kk))).data.toList = 91 :: (u ++ [93]) := by
              rw [ext_i, hd0, show 1 + kk = kk + 1 by omega, List.take_succ_cons, hu, u8_of (n := 91) h91]
            have hin : ((91 :: (u ++ [93]) : List UInt8).drop 1).take ((91 :: (u ++ [93]) : List UInt8).length - 2) = u := by simp
            have hmi : i + (kk + 1) = i + (1 + kk) := by omega
            refine (one_91s s _ s i (i + (1 + kk)) 0 0 0 (ivB u) w hs hi hA hD h91 (by omega) (by omega) rfl (by rw [← hmi]; exact BR) (fun W => rends_any _ u W (by simp; omega) hx)).mono ?_
            rintro e' w' ⟨rfl, hB⟩
            exact ⟨_, _, _, _, _, _, _, _, rfl, hB, one_fin s _ i 5 (1 + kk) zeroV _ hi e (by decide) (ext_i s i (1 + kk)) (by rw [hx]; show (sdB 5 _).2 = _; unfold sdB; rw [if_neg (by decide), if_pos rfl, hin]) (fun _ => by rw [hx]; unfold sdB; rw [if_neg (by decide), if_pos rfl])⟩
        by_cases h34 : s[i].toNat = 34
        · have QU := fun W : World => rquote_any s i W hs hi
          cases hb : qend false (s.data.toList.drop (i + 1)) with
          | none =>
            have e : beh (s.data.toList.drop i) = (0, 0) := by rw [hd0, beh_cons, if_neg h1, if_neg h2, if_neg h3, if_neg h4, if_neg h5, if_neg h6, if_neg h91, if_pos h34, hb]; rfl
            rw [hb] at QU
            refine (one_34n s s s i 0 0 0 0 true w hs hi hA hD h34 QU).mono ?_
            rintro e w' ⟨rfl, hB⟩
            exact ⟨_, _, _, _, _, _, _, _, rfl, hB, one_nil s i (by rw [e]) _ _ _ _ _ _ _⟩
          | some kk =>
            have e : beh (s.data.toList.drop i) = (6, 1 + kk) := by rw [hd0, beh_cons, if_neg h1, if_neg h2, if_neg h3, if_neg h4, if_neg h5, if_neg h6, if_neg h91, if_pos h34, hb]; rfl
            rw [hb] at QU
            have hkk := qend_le _ _ kk hb
            simp only [List.length_drop, hl] at hkk
            have hmi : i + 1 + kk = i + (1 + kk) := by omega
            refine (one_34s s (s.extract i (i + (1 + kk))) _ i (i + (1 + kk)) _ _ _ _ w hs hi hA hD h34 (by omega) (by omega) rfl (by rw [← hmi]; exact QU) (fun W => rvalued _ _ i _ _ _ _ W (fun W' => dparse_any _ W' (by simp; omega)))).mono ?_
            rintro e' w' ⟨rfl, hB⟩
            exact ⟨_, _, _, _, _, _, _, _, rfl, hB, one_fin s _ i 6 (1 + kk) _ _ hi e (by decide) (ext_i s i (1 + kk)) rfl (fun _ => rfl)⟩
        by_cases h64 : s[i].toNat = 64
        · have e : beh (s.data.toList.drop i) = (7, 1 + run digN (s.data.toList.drop (i + 1))) := by rw [hd0, beh_cons, if_neg h1, if_neg h2, if_neg h3, if_neg h4, if_neg h5, if_neg h6, if_neg h91, if_neg h34, if_pos h64]
          have hD2 := num_end s i hi
          have DI := fun W : World => rdigits_any s (i + 1) W hs (by omega)
          obtain ⟨R, eR⟩ : ∃ R, run digN (s.data.toList.drop (i + 1)) = R := ⟨_, rfl⟩
          rw [eR] at e hD2 DI
          have hmi : i + 1 + R = i + (1 + R) := by omega
          rw [hmi] at DI hD2
          have hS : (s.extract (i + 1) (i + (1 + R))).data.toList = (s.extract i (i + (1 + R))).data.toList.drop 1 := by
            rw [ext_i, ext_mid, hd0, show 1 + R = R + 1 by omega, List.take_succ_cons, List.drop_one, List.tail_cons]
            congr 1
            omega
          obtain ⟨b1, b2⟩ := numR_B (s.extract (i + 1) (i + (1 + R))).data.toList
          refine (one_64 s _ _ i (i + (1 + R)) 0 _ 0 _ w hs hi hA hD h64 (by omega) hD2 rfl rfl DI (fun W => rnumber_any _ _ W)).mono ?_
          rintro e' w' ⟨rfl, hB⟩
          refine ⟨_, _, _, _, _, _, _, _, rfl, hB, one_fin s (s.extract i (i + (1 + R))) i 7 (1 + R) ⟨1, _, 0, ⟨#[]⟩⟩ _ hi e (by decide) (ext_i s i (1 + R)) ?_ ?_⟩
          · rw [b1, hS]; rfl
          · intro h
            rw [b1] at h
            have q := b2 h
            rw [hS] at q h ⊢
            show (numB _).1 = _
            rw [q]
        · have e : beh (s.data.toList.drop i) = (0, 0) := by rw [hd0, beh_cons, if_neg h1, if_neg h2, if_neg h3, if_neg h4, if_neg h5, if_neg h6, if_neg h91, if_neg h34, if_neg h64]
          refine (one_no s s s i 0 0 0 0 true w hs hi hA hD h1 h2 h45 h60 h61 h43 h42 h91 h34 h64).mono ?_
          rintro e w' ⟨rfl, hB⟩
          exact ⟨_, _, _, _, _, _, _, _, rfl, hB, one_nil s i (by rw [e]) _ _ _ _ _ _ _⟩
    · have e : beh (s.data.toList.drop i) = (6, 1 + numLen (s.data.toList.drop (i + 1))) := by rw [hd0, beh_cons, if_neg h1, if_neg h2, if_neg h3, if_pos (by rw [hD]; simp)]
      refine (one_num s _ _ i 0 _ _ _ _ w hs hi hA hD (fun W => rnumber_at s i W hs hi)).mono ?_
      rintro e w' ⟨rfl, hB⟩
      exact ⟨_, _, _, _, _, _, _, _, rfl, hB, one_fin s _ i 6 _ _ _ hi e (by decide) rfl rfl (fun _ => rfl)⟩
  · have e : beh (s.data.toList.drop i) = (3, 1 + run inwN (s.data.toList.drop (i + 1))) := by rw [hd0, beh_cons, if_neg h1, if_neg h2, if_pos hA]
    have WO := fun W : World => rword_any s i W hs (by omega)
    have hrun : run inwN (s.data.toList.drop i) = 1 + run inwN (s.data.toList.drop (i + 1)) := by
      rw [run_size inwN s i hi, if_pos (by unfold inwN; rw [hA]; rfl)]; omega
    rw [hrun] at WO
    have hrl := run_le inwN (s.data.toList.drop (i + 1))
    simp only [List.length_drop, hl] at hrl
    generalize run inwN (s.data.toList.drop (i + 1)) = R at e WO hrl hrun
    refine (one_word s _ s i (i + (1 + R)) 0 0 0 true w hs hi hA (by omega) (by omega) rfl WO).mono ?_
    rintro e' w' ⟨rfl, hB⟩
    refine ⟨_, _, _, _, _, _, _, _, rfl, hB, one_fin s _ i 3 (1 + R) zeroV _ hi e (by decide) (ext_i s i (1 + R)) ?_ (fun _ => by unfold sdB; rw [if_pos rfl])⟩
    have hxl : (s.extract i (i + (1 + R))).data.toList.length = 1 + R := by rw [ext_i]; simp; omega
    unfold sdB
    rw [if_pos rfl, hxl]
    exact decide_eq_decide.mpr (by omega)
end Go.Proofs.YtmegombglkcccaaGreatDoor
