/- The document's small functions of layer 5: digits, words, brackets, quotes. -/
import Derived.Test.YticmebamclacaaaGreatDoorZ05
import Derived.OwnWalk
import Derived.Laws.OwnMore
import Derived.Laws.IdiomStrings
import Derived.Deep.RegionLaw
import Derived.Deep.RegionWith
import Derived.Test.YticmebamclacaaaGreatDoorZ01

namespace Go.Proofs.YticmebamclacaaaGreatDoor
open Go.RowKit Go.Shelf
set_option linter.unusedVariables false

theorem step_append_own {P : Program} {ops : Array Oper} {o : Oper} {a : Act} {w : World} {K : Act → World → Prop} {Q : Exit → Act → World → Prop} {E : Prop}
    (hg : o.guard = none) (s x : Operand) (t : TypeId) (ho : o.op = Op.call { callee := Callee.builtin Builtin.append, args := #[s, x], argTypes := #[t, t] })
    (base : Nat) (e : TypeId) (i : TypeInfo) (z : Value) (size bytes : Nat) (ht : P.underlying t = some (.slice e)) (hi : P.info? e = some i) (hz : i.zero = some z) (hsize : i.size = size) (hby : i.bytes = bytes) (hzs : z.cells.size = size) (hsz : 0 < size)
    (v : Value) (n : Nat) (xs : List Value) (hs : a.eval s = v) (hown : w.ownsRow base e size v n xs)
    (ad : Addr) (m c : Nat) (news : List Value) (hx : a.eval x = .slice (some ad) m c) (hl : news.length = m * size) (hnews : ∀ j u, news[j]? = some u → w.cell? (ad.add j) = some u) (h1 : ∀ u ∈ news, u.oneCell' = true)
    (h63 : n + m ≤ maxLen) (hbytes : (n + m) * bytes ≤ 140737488355328) (hbase : base ≤ w.heap.size)
    (h : ∀ v' w', w'.ownsRow base e size v' (n + m) (xs ++ news) → w.grownBy w' v.ownBlock → K (a.put o.dst v') w') :
    if Region.wanted o (yielded ops a.tmps) = true then Oper.wp P o a w K Q else E := by
  have hw : Region.wanted o (yielded ops a.tmps) = true := by simp [Region.wanted, hg]
  rw [if_pos hw]
  exact wp_append_own w s x t ho base e i z size bytes ht hi hz hsize hby hzs hsz v n xs hs hown ad m c news hx hl hnews h1 h63 hbytes hbase fun v' w' h2 h3 _ => h v' w' h2 h3

/-- The bytes that a slice of the call's own holds. -/
def Own (B : Nat) (v : Value) (L : List UInt8) (w : World) : Prop := w.ownsRow B 5 1 v L.length (Lib.byteCells L)
theorem own_more {B : Nat} {v' : Value} {L M : List UInt8} {w' : World} {m : Nat} (h : w'.ownsRow B 5 1 v' (L.length + m) (Lib.byteCells L ++ Lib.byteCells M)) (hm : m = M.length) : Own B v' (L ++ M) w' := by
  unfold Own
  subst hm
  have e1 : Lib.byteCells (L ++ M) = Lib.byteCells L ++ Lib.byteCells M := by simp [Lib.byteCells]
  rw [e1, List.length_append]
  exact h
set_option maxHeartbeats 4000000 in
set_option maxRecDepth 100000 in
theorem dquote_any (s : ByteArray) (w : World) (hs : s.size ≤ 35184372088830) :
    Calls Tryz.prog 63 #[.string s] w fun e w' => e = .returned (.string ⟨(quoted s.data.toList).toArray⟩) ∧ Below w.heap.size w w' := by
  obtain ⟨i0, hi, hz0, hz1, hz2⟩ := info_parts inB
  go_enter Tryz.func63, Tryz.ntmps63
  go_wp2
  go_loopw [3, 4] (fun b i wr => ∃ k : Nat, k ≤ s.size ∧ i = .int .i64 k ∧ Hid (Own w.heap.size b (34 :: inside (s.data.toList.take k)) wr) ∧ Below w.heap.size w wr) (fun _ i _ => s.size - (intOf i).toNat)
  case atStart => exact ⟨0, by omega, rfl, World.ownsRow_lit w #[.int .u8 34] 1 (Nat.le_refl _) (by decide) rfl, by go_grown⟩
  case round =>
    obtain ⟨k, hk, rfl, hI, hB⟩ := hrel
    have hsz := hB.size
    have hbk : ∀ q, u3.ownBlock = some q → w.heap.size ≤ q := fun q hq => (World.ownsRow.lt hI.out q hq).1
    have HK : Hid (∀ q, u3.ownBlock = some q → w.heap.size ≤ q) := hbk
    clear hbk
    by_cases hke : k = s.size
    · subst hke
      have e0 : s.data.toList.take s.size = s.data.toList := List.take_of_length_le (by simp)
      rw [e0] at hI
      have hl := inside_len s.data.toList
      have hl2 : s.data.toList.length = s.size := by simp
      have hbd : (34 :: inside s.data.toList).length + 1 ≤ 140737488355328 := by simp; omega
      clear hl hl2
      go_wp2_with (at_builtin; refine wpList_append_own _ rfl (.tmp 47) (.tmp 48) 60 rfl w.heap.size 5 i0 (.int .u8 0) 1 1 Tryz.underlying60 hi hz0 hz1 hz2 rfl (by decide) _ _ _ rfl (World.ownsRow.alloc hI.out _) ⟨wr.heap.size, 0, none⟩ 1 1 [.int .u8 34] rfl rfl ?c1 ?c2 (by unfold maxLen; omega) (by omega) (by simp; omega) ?grow)
      case c1 => (intro j u hj; rw [Addr.add_lit]; (rcases j with _ | _ | _ | _ | j) <;> simp at hj <;> subst hj <;> simp (maxDischargeDepth := 12) [go_sem])
      case c2 => (intro u hu; simp at hu; (first | (rcases hu with rfl | rfl) | subst hu) <;> rfl)
      case grow =>
        intro v' w2 h2 h3 _
        have o2 : Own w.heap.size v' (quoted s.data.toList) w2 := own_more (M := [34]) h2 rfl
        have K2 : Below w.heap.size w w2 := Below.grown (hB.alloc hsz _) h3 (by simp; omega) HK.out
        clear h2 h3 hI
        obtain ⟨hl, hv | ⟨g, cap, cur, rfl, hg1, hg2, hg3, hg4, hg5, hg6⟩⟩ := o2
        · exfalso; have := hv.2; simp [quoted] at this
        have hown : w2.ownsRow w.heap.size 5 1 (.slice (some ⟨g, 0, none⟩) (quoted s.data.toList).length cap) (quoted s.data.toList).length (Lib.byteCells (quoted s.data.toList)) := ⟨hl, Or.inr ⟨g, cap, cur, rfl, hg1, hg2, hg3, hg4, hg5, hg6⟩⟩
        have cv : (convert 60 9 (.slice (some ⟨g, 0, none⟩) (quoted s.data.toList).length cap)).run Tryz.prog w2 = .ok (.string ⟨(quoted s.data.toList).toArray⟩) w2 := run_convert_bytes_back w2 60 9 5 ⟨g, 0, none⟩ cap (quoted s.data.toList) Tryz.underlying60 Tryz.underlying5 Tryz.underlying9 (fun j hj => by
          rw [Addr.add_lit, Nat.zero_add, hown.cellAt j (by omega)]
          simp [Lib.byteCells, List.getElem?_eq_getElem hj])
        clear hg1 hg2 hg3 hg4 hg5 hg6 hown hl
        go_wp2
        go_ret
        exact ⟨rfl, K2⟩
    · have hk' : (k : Int) < s.size := by omega
      have hkk : k < s.size := by omega
      have hstep := inside_take s k hkk
      have hl := inside_len (s.data.toList.take k)
      have hl2 : (s.data.toList.take k).length ≤ k := by simp; omega
      have hbd : (34 :: inside (s.data.toList.take k)).length + 4 ≤ 140737488355328 := by simp; omega
      have HS : Hid (inside (s.data.toList.take (k + 1)) = inside (s.data.toList.take k) ++ esc s[k]) := hstep
      clear hstep hl hl2
      have hu : s[k].toNat < 256 := s[k].toNat_lt
      obtain ⟨c, hc⟩ : ∃ c : UInt8, s[k] = c := ⟨_, rfl⟩
      rw [hc] at hu
      rw [hc] at HS
      by_cases a1 : (c.toNat : Int) = 34 ∨ (c.toNat : Int) = 92
      · have he : Hid (esc c = [92, c]) := by unfold Hid esc; rw [if_pos (by omega)]
        have a1' : c.toNat = 34 ∨ c.toNat = 92 := by omega
        clear a1
        have a2 : ((c.toNat : Int) == 34) = true ∨ (((c.toNat : Int) == 34) = false ∧ ((c.toNat : Int) == 92) = true) := by rcases a1' with h | h <;> simp [h]
        clear a1'
        rcases a2 with a2 | ⟨a2, a3⟩
        · go_wp2_with (at_builtin; refine wpList_append_own _ rfl (.tmp 32) (.tmp 34) 60 rfl w.heap.size 5 i0 (.int .u8 0) 1 1 Tryz.underlying60 hi hz0 hz1 hz2 rfl (by decide) _ _ _ rfl (World.ownsRow.alloc hI.out _) ⟨wr.heap.size, 0, none⟩ 2 2 [.int .u8 92, .int .u8 c.toNat] rfl rfl ?c1 ?c2 (by unfold maxLen; omega) (by omega) (by simp; omega) ?grow)
          case c1 => (intro j u hj; rw [Addr.add_lit]; (rcases j with _ | _ | _ | _ | j) <;> simp at hj <;> subst hj <;> simp (maxDischargeDepth := 12) [go_sem])
          case c2 => (intro u hu; simp at hu; (first | (rcases hu with rfl | rfl) | subst hu) <;> rfl)
          case grow =>
            intro v' w2 h2 h3 _
            have o2 : Hid (Own w.heap.size v' (34 :: inside (s.data.toList.take (k + 1))) w2) := by
              rw [HS.out, he.out, ← List.cons_append]
              exact own_more (M := [92, c]) h2 rfl
            have K2 : Below w.heap.size w w2 := Below.grown (hB.alloc hsz _) h3 (by simp; omega) HK.out
            clear h2 h3 hI HK he HS
            go_wp2
            exact ⟨⟨k + 1, by omega, by simp, o2, K2⟩, by simp [intOf]; omega⟩
        · go_wp2_with (at_builtin; refine wpList_append_own _ rfl (.tmp 32) (.tmp 34) 60 rfl w.heap.size 5 i0 (.int .u8 0) 1 1 Tryz.underlying60 hi hz0 hz1 hz2 rfl (by decide) _ _ _ rfl (World.ownsRow.alloc hI.out _) ⟨wr.heap.size, 0, none⟩ 2 2 [.int .u8 92, .int .u8 c.toNat] rfl rfl ?c1 ?c2 (by unfold maxLen; omega) (by omega) (by simp; omega) ?grow)
          case c1 => (intro j u hj; rw [Addr.add_lit]; (rcases j with _ | _ | _ | _ | j) <;> simp at hj <;> subst hj <;> simp (maxDischargeDepth := 12) [go_sem])
          case c2 => (intro u hu; simp at hu; (first | (rcases hu with rfl | rfl) | subst hu) <;> rfl)
          case grow =>
            intro v' w2 h2 h3 _
            have o2 : Hid (Own w.heap.size v' (34 :: inside (s.data.toList.take (k + 1))) w2) := by
              rw [HS.out, he.out, ← List.cons_append]
              exact own_more (M := [92, c]) h2 rfl
            have K2 : Below w.heap.size w w2 := Below.grown (hB.alloc hsz _) h3 (by simp; omega) HK.out
            clear h2 h3 hI HK he HS
            go_wp2
            exact ⟨⟨k + 1, by omega, by simp, o2, K2⟩, by simp [intOf]; omega⟩
      · have a2 : ((c.toNat : Int) == 34) = false := by simp; omega
        have a3 : ((c.toNat : Int) == 92) = false := by simp; omega
        by_cases a4 : 32 ≤ (c.toNat : Int) ∧ (c.toNat : Int) ≤ 126
        · have he : Hid (esc c = [c]) := by unfold Hid esc; rw [if_neg (by omega), if_pos (by omega)]
          obtain ⟨a5, a6⟩ := a4
          clear a1
          go_wp2_with (at_builtin; refine wpList_append_own _ rfl (.tmp 43) (.tmp 45) 60 rfl w.heap.size 5 i0 (.int .u8 0) 1 1 Tryz.underlying60 hi hz0 hz1 hz2 rfl (by decide) _ _ _ rfl (World.ownsRow.alloc hI.out _) ⟨wr.heap.size, 0, none⟩ 1 1 [.int .u8 c.toNat] rfl rfl ?c1 ?c2 (by unfold maxLen; omega) (by omega) (by simp; omega) ?grow)
          case c1 => (intro j u hj; rw [Addr.add_lit]; (rcases j with _ | _ | _ | _ | j) <;> simp at hj <;> subst hj <;> simp (maxDischargeDepth := 12) [go_sem])
          case c2 => (intro u hu; simp at hu; (first | (rcases hu with rfl | rfl) | subst hu) <;> rfl)
          case grow =>
            intro v' w2 h2 h3 _
            have o2 : Hid (Own w.heap.size v' (34 :: inside (s.data.toList.take (k + 1))) w2) := by
              rw [HS.out, he.out, ← List.cons_append]
              exact own_more (M := [c]) h2 rfl
            have K2 : Below w.heap.size w w2 := Below.grown (hB.alloc hsz _) h3 (by simp; omega) HK.out
            clear h2 h3 hI HK he HS
            go_wp2
            exact ⟨⟨k + 1, by omega, by simp, o2, K2⟩, by simp [intOf]; omega⟩
        · have he : Hid (esc c = [92, 120, hexd (c.toNat / 16), hexd (c.toNat % 16)]) := by unfold Hid esc; rw [if_neg (by omega), if_neg (by omega)]
          have a5 : (32 ≤ (c.toNat : Int)) = False ∨ ((32 ≤ (c.toNat : Int)) = True ∧ ((c.toNat : Int) ≤ 126) = False) := by
            by_cases h : 32 ≤ (c.toNat : Int)
            · right; refine ⟨by simp; omega, by simp; omega⟩
            · left; simp; omega
          clear a1 a4
          obtain ⟨p, ep⟩ : ∃ p : Nat, Hid (c.toNat / 16 = p) := ⟨_, rfl⟩
          obtain ⟨q, eq⟩ : ∃ q : Nat, Hid (c.toNat % 16 = q) := ⟨_, rfl⟩
          have hp : p < 16 := by have := ep.out; omega
          have hq : q < 16 := by have := eq.out; omega
          have xp : (c.toNat : Int) / 16 = (p : Int) := by have := ep.out; omega
          have xq : (c.toNat : Int) % 16 = (q : Int) := by have := eq.out; omega
          rw [ep.out, eq.out] at he
          rcases a5 with a5 | ⟨a5, a6⟩
          · skip
            have yp : IntKind.u8.wrap (p : Int) = (p : Int) := by simp [IntKind.wrap, IntKind.bits, IntKind.signed]; omega
            have yq : (c.toNat : Int).tmod 16 = (q : Int) := by rw [Int.tmod_eq_emod_of_nonneg (by omega)]; exact xq
            have hp2 : (p : Int) < 16 := by omega
            have hq2 : (q : Int) < 16 := by omega
            have tp := hex_tab p hp
            have tq := hex_tab q hq
            go_upto_region 6 with fail
            refine wp_region_held_drew (S := fun _ => True) (by kernel_rfl) trivial (fun hHeld => ?_)
            refine wpAnyH_take (i := 0) (oi := ({ dst := some 16, op := Op.move (Operand.tmp 3), type := 60, pos := "ref.go:191", after := #[], guard := none } : Oper)) (v := ?yvq0A) rfl (by kernel_rfl) (by kernel_rfl) (by kernel_rfl) (fun _ _ _ h => h) (Or.inl ⟨by rfl, ?yhq0A⟩) (by assumption) ?yrq0A
            case yhq0A => (intro wq hSw; (try dsimp only at hSw); go_simp; first | done | with_reducible rfl)
            try simp only [Act.put, List.setIfInBounds_toArray, List.set_cons_zero, List.set_cons_succ]
            refine wpAnyH_take (i := 1) (oi := ({ dst := some 17, op := Op.move (Operand.tmp 5), type := 5, pos := "ref.go:191", after := #[], guard := none } : Oper)) (v := ?yvq1A) rfl (by kernel_rfl) (by kernel_rfl) (by kernel_rfl) (fun _ _ _ h => h) (Or.inl ⟨by rfl, ?yhq1A⟩) (by assumption) ?yrq1A
            case yhq1A => (intro wq hSw; (try dsimp only at hSw); go_simp; first | done | with_reducible rfl)
            try simp only [Act.put, List.setIfInBounds_toArray, List.set_cons_zero, List.set_cons_succ]
            refine wpAnyH_take (i := 2) (oi := ({ dst := some 18, op := Op.binOp BinOp.quo 5 (Operand.tmp 17) (Operand.const (Value.int IntKind.u8 16)) 5, type := 5, pos := "ref.go:191", after := #[{ on := 1, ground := Ground.data }], guard := none } : Oper)) (v := ?yvq2A) rfl (by kernel_rfl) (by kernel_rfl) (by kernel_rfl) (fun _ _ _ h => h) (Or.inl ⟨by rfl, ?yhq2A⟩) (by assumption) ?yrq2A
            case yhq2A => (intro wq hSw; (try dsimp only at hSw); go_simp; first | done | with_reducible rfl)
            try simp only [Act.put, List.setIfInBounds_toArray, List.set_cons_zero, List.set_cons_succ]
            refine wpAnyH_take (i := 3) (oi := ({ dst := some 19, op := Op.index 9 (Operand.const (Value.string { data := #[48, 49, 50, 51, 52, 53, 54, 55, 56, 57, 97, 98, 99, 100, 101, 102] })) (Operand.tmp 18), type := 5, pos := "ref.go:191", after := #[{ on := 2, ground := Ground.data }], guard := none } : Oper)) (v := ?yvq3A) rfl (by kernel_rfl) (by kernel_rfl) (by kernel_rfl) (fun _ _ _ h => h) (Or.inl ⟨by rfl, ?yhq3A⟩) (by assumption) ?yrq3A
            case yhq3A => (intro wq hSw; (try dsimp only at hSw); go_simp; first | done | with_reducible rfl)
            try simp only [Act.put, List.setIfInBounds_toArray, List.set_cons_zero, List.set_cons_succ]
            refine wpAnyH_take (i := 4) (oi := ({ dst := some 20, op := Op.move (Operand.tmp 5), type := 5, pos := "ref.go:191", after := #[], guard := none } : Oper)) (v := ?yvq4A) rfl (by kernel_rfl) (by kernel_rfl) (by kernel_rfl) (fun _ _ _ h => h) (Or.inl ⟨by rfl, ?yhq4A⟩) (by assumption) ?yrq4A
            case yhq4A => (intro wq hSw; (try dsimp only at hSw); go_simp; first | done | with_reducible rfl)
            try simp only [Act.put, List.setIfInBounds_toArray, List.set_cons_zero, List.set_cons_succ]
            refine wpAnyH_take (i := 5) (oi := ({ dst := some 21, op := Op.binOp BinOp.rem 5 (Operand.tmp 20) (Operand.const (Value.int IntKind.u8 16)) 5, type := 5, pos := "ref.go:191", after := #[{ on := 4, ground := Ground.data }], guard := none } : Oper)) (v := ?yvq5A) rfl (by kernel_rfl) (by kernel_rfl) (by kernel_rfl) (fun _ _ _ h => h) (Or.inl ⟨by rfl, ?yhq5A⟩) (by assumption) ?yrq5A
            case yhq5A => (intro wq hSw; (try dsimp only at hSw); go_simp; first | done | with_reducible rfl)
            try simp only [Act.put, List.setIfInBounds_toArray, List.set_cons_zero, List.set_cons_succ]
            refine wpAnyH_take (i := 6) (oi := ({ dst := some 22, op := Op.index 9 (Operand.const (Value.string { data := #[48, 49, 50, 51, 52, 53, 54, 55, 56, 57, 97, 98, 99, 100, 101, 102] })) (Operand.tmp 21), type := 5, pos := "ref.go:191", after := #[{ on := 5, ground := Ground.data }], guard := none } : Oper)) (v := ?yvq6A) rfl (by kernel_rfl) (by kernel_rfl) (by kernel_rfl) (fun _ _ _ h => h) (Or.inl ⟨by rfl, ?yhq6A⟩) (by assumption) ?yrq6A
            case yhq6A => (intro wq hSw; (try dsimp only at hSw); go_simp; first | done | with_reducible rfl)
            try simp only [Act.put, List.setIfInBounds_toArray, List.set_cons_zero, List.set_cons_succ]
            refine wpAnyH_ready (rs := [7]) (by kernel_rfl) (by simp) ?_
            refine AllReadyH.cons (o := ({ dst := some 23, op := Op.buildSlice 60 4 #[(0, Operand.const (Value.int IntKind.u8 92)), (1, Operand.const (Value.int IntKind.u8 120)), (2, Operand.tmp 19), (3, Operand.tmp 22)], type := 60, pos := "ref.go:191", after := #[{ on := 3, ground := Ground.data }, { on := 6, ground := Ground.data }], guard := none } : Oper)) rfl (fun K hK => ?_) AllReadyH.nil
            go_simp
            refine hK.out _ _ trivial (fun hHeld => ?_)
            clear hK K
            try simp only [Act.put, List.setIfInBounds_toArray, List.set_cons_zero, List.set_cons_succ]
            refine wpAnyH_ready (rs := [8]) (by kernel_rfl) (by simp) ?_
            refine AllReadyH.cons (o := ({ dst := some 24, op := Op.call { callee := Callee.builtin Builtin.append, args := #[Operand.tmp 16, Operand.tmp 23], argTypes := #[60, 60] }, type := 60, pos := "ref.go:191", after := #[{ on := 0, ground := Ground.data }, { on := 7, ground := Ground.data }], guard := none } : Oper)) rfl (fun K hK => ?_) AllReadyH.nil
            refine step_append_own rfl (.tmp 16) (.tmp 23) 60 rfl w.heap.size 5 i0 (.int .u8 0) 1 1 Tryz.underlying60 hi hz0 hz1 hz2 rfl (by decide) u3 _ _ (by simp [Act.eval]) (World.ownsRow.alloc (World.ownsRow.drew hI.out) _) ⟨wr.heap.size, 0, none⟩ 4 4 [.int .u8 92, .int .u8 120, .int .u8 (hexd p).toNat, .int .u8 (hexd q).toNat] (by simp [Act.eval]) rfl ?c1A ?c2A (by unfold maxLen; omega) (by omega) (by simp; omega) (fun v' w2 h2 h3 => ?_)
            case c1A => (intro j u hj; rw [Addr.add_lit]; (rcases j with _ | _ | _ | _ | j) <;> simp at hj <;> subst hj <;> simp (maxDischargeDepth := 12) [go_sem])
            case c2A => (intro u hu; simp at hu; (rcases hu with rfl | rfl | rfl | rfl) <;> rfl)
            refine hK.out _ _ trivial (fun hHeld => ?_)
            clear hK K
            try simp only [Act.put, List.setIfInBounds_toArray, List.set_cons_zero, List.set_cons_succ]
            refine wpAnyH_take (i := 9) (oi := ({ dst := some 3, op := Op.assign (Operand.tmp 24), type := 60, pos := "ref.go:191", after := #[{ on := 8, ground := Ground.data }, { on := 8, ground := Ground.chain }, { on := 0, ground := Ground.phase }, { on := 1, ground := Ground.phase }, { on := 2, ground := Ground.phase }, { on := 3, ground := Ground.phase }, { on := 4, ground := Ground.phase }, { on := 5, ground := Ground.phase }, { on := 6, ground := Ground.phase }, { on := 7, ground := Ground.phase }, { on := 8, ground := Ground.phase }], guard := none } : Oper)) (v := ?yvq9A) rfl (by kernel_rfl) (by kernel_rfl) (by kernel_rfl) (fun _ _ _ h => h) (Or.inl ⟨by rfl, ?yhq9A⟩) (by assumption) ?yrq9A
            case yhq9A => (intro wq hSw; (try dsimp only at hSw); go_simp; first | done | with_reducible rfl)
            try simp only [Act.put, List.setIfInBounds_toArray, List.set_cons_zero, List.set_cons_succ]
            refine wpAnyH_done (by kernel_rfl) ?_ _
            have o2 : Hid (Own w.heap.size v' (34 :: inside (s.data.toList.take (k + 1))) w2) := by
              rw [HS.out, he.out, ← List.cons_append]
              exact own_more (M := [92, 120, hexd p, hexd q]) h2 rfl
            have K2 : Below w.heap.size w w2 := Below.grown (hB.drew.alloc (by simpa using hsz) _) h3 (by simp; omega) HK.out
            clear h2 h3 hI HK he HS
            (try go_wp2)
            exact ⟨⟨k + 1, by omega, by simp, o2, K2⟩, by simp [intOf]; omega⟩
          · skip
            have yp : IntKind.u8.wrap (p : Int) = (p : Int) := by simp [IntKind.wrap, IntKind.bits, IntKind.signed]; omega
            have yq : (c.toNat : Int).tmod 16 = (q : Int) := by rw [Int.tmod_eq_emod_of_nonneg (by omega)]; exact xq
            have hp2 : (p : Int) < 16 := by omega
            have hq2 : (q : Int) < 16 := by omega
            have tp := hex_tab p hp
            have tq := hex_tab q hq
            go_upto_region 6 with fail
            refine wp_region_held_drew (S := fun _ => True) (by kernel_rfl) trivial (fun hHeld => ?_)
            refine wpAnyH_take (i := 0) (oi := ({ dst := some 16, op := Op.move (Operand.tmp 3), type := 60, pos := "ref.go:191", after := #[], guard := none } : Oper)) (v := ?yvq0B) rfl (by kernel_rfl) (by kernel_rfl) (by kernel_rfl) (fun _ _ _ h => h) (Or.inl ⟨by rfl, ?yhq0B⟩) (by assumption) ?yrq0B
            case yhq0B => (intro wq hSw; (try dsimp only at hSw); go_simp; first | done | with_reducible rfl)
            try simp only [Act.put, List.setIfInBounds_toArray, List.set_cons_zero, List.set_cons_succ]
            refine wpAnyH_take (i := 1) (oi := ({ dst := some 17, op := Op.move (Operand.tmp 5), type := 5, pos := "ref.go:191", after := #[], guard := none } : Oper)) (v := ?yvq1B) rfl (by kernel_rfl) (by kernel_rfl) (by kernel_rfl) (fun _ _ _ h => h) (Or.inl ⟨by rfl, ?yhq1B⟩) (by assumption) ?yrq1B
            case yhq1B => (intro wq hSw; (try dsimp only at hSw); go_simp; first | done | with_reducible rfl)
            try simp only [Act.put, List.setIfInBounds_toArray, List.set_cons_zero, List.set_cons_succ]
            refine wpAnyH_take (i := 2) (oi := ({ dst := some 18, op := Op.binOp BinOp.quo 5 (Operand.tmp 17) (Operand.const (Value.int IntKind.u8 16)) 5, type := 5, pos := "ref.go:191", after := #[{ on := 1, ground := Ground.data }], guard := none } : Oper)) (v := ?yvq2B) rfl (by kernel_rfl) (by kernel_rfl) (by kernel_rfl) (fun _ _ _ h => h) (Or.inl ⟨by rfl, ?yhq2B⟩) (by assumption) ?yrq2B
            case yhq2B => (intro wq hSw; (try dsimp only at hSw); go_simp; first | done | with_reducible rfl)
            try simp only [Act.put, List.setIfInBounds_toArray, List.set_cons_zero, List.set_cons_succ]
            refine wpAnyH_take (i := 3) (oi := ({ dst := some 19, op := Op.index 9 (Operand.const (Value.string { data := #[48, 49, 50, 51, 52, 53, 54, 55, 56, 57, 97, 98, 99, 100, 101, 102] })) (Operand.tmp 18), type := 5, pos := "ref.go:191", after := #[{ on := 2, ground := Ground.data }], guard := none } : Oper)) (v := ?yvq3B) rfl (by kernel_rfl) (by kernel_rfl) (by kernel_rfl) (fun _ _ _ h => h) (Or.inl ⟨by rfl, ?yhq3B⟩) (by assumption) ?yrq3B
            case yhq3B => (intro wq hSw; (try dsimp only at hSw); go_simp; first | done | with_reducible rfl)
            try simp only [Act.put, List.setIfInBounds_toArray, List.set_cons_zero, List.set_cons_succ]
            refine wpAnyH_take (i := 4) (oi := ({ dst := some 20, op := Op.move (Operand.tmp 5), type := 5, pos := "ref.go:191", after := #[], guard := none } : Oper)) (v := ?yvq4B) rfl (by kernel_rfl) (by kernel_rfl) (by kernel_rfl) (fun _ _ _ h => h) (Or.inl ⟨by rfl, ?yhq4B⟩) (by assumption) ?yrq4B
            case yhq4B => (intro wq hSw; (try dsimp only at hSw); go_simp; first | done | with_reducible rfl)
            try simp only [Act.put, List.setIfInBounds_toArray, List.set_cons_zero, List.set_cons_succ]
            refine wpAnyH_take (i := 5) (oi := ({ dst := some 21, op := Op.binOp BinOp.rem 5 (Operand.tmp 20) (Operand.const (Value.int IntKind.u8 16)) 5, type := 5, pos := "ref.go:191", after := #[{ on := 4, ground := Ground.data }], guard := none } : Oper)) (v := ?yvq5B) rfl (by kernel_rfl) (by kernel_rfl) (by kernel_rfl) (fun _ _ _ h => h) (Or.inl ⟨by rfl, ?yhq5B⟩) (by assumption) ?yrq5B
            case yhq5B => (intro wq hSw; (try dsimp only at hSw); go_simp; first | done | with_reducible rfl)
            try simp only [Act.put, List.setIfInBounds_toArray, List.set_cons_zero, List.set_cons_succ]
            refine wpAnyH_take (i := 6) (oi := ({ dst := some 22, op := Op.index 9 (Operand.const (Value.string { data := #[48, 49, 50, 51, 52, 53, 54, 55, 56, 57, 97, 98, 99, 100, 101, 102] })) (Operand.tmp 21), type := 5, pos := "ref.go:191", after := #[{ on := 5, ground := Ground.data }], guard := none } : Oper)) (v := ?yvq6B) rfl (by kernel_rfl) (by kernel_rfl) (by kernel_rfl) (fun _ _ _ h => h) (Or.inl ⟨by rfl, ?yhq6B⟩) (by assumption) ?yrq6B
            case yhq6B => (intro wq hSw; (try dsimp only at hSw); go_simp; first | done | with_reducible rfl)
            try simp only [Act.put, List.setIfInBounds_toArray, List.set_cons_zero, List.set_cons_succ]
            refine wpAnyH_ready (rs := [7]) (by kernel_rfl) (by simp) ?_
            refine AllReadyH.cons (o := ({ dst := some 23, op := Op.buildSlice 60 4 #[(0, Operand.const (Value.int IntKind.u8 92)), (1, Operand.const (Value.int IntKind.u8 120)), (2, Operand.tmp 19), (3, Operand.tmp 22)], type := 60, pos := "ref.go:191", after := #[{ on := 3, ground := Ground.data }, { on := 6, ground := Ground.data }], guard := none } : Oper)) rfl (fun K hK => ?_) AllReadyH.nil
            go_simp
            refine hK.out _ _ trivial (fun hHeld => ?_)
            clear hK K
            try simp only [Act.put, List.setIfInBounds_toArray, List.set_cons_zero, List.set_cons_succ]
            refine wpAnyH_ready (rs := [8]) (by kernel_rfl) (by simp) ?_
            refine AllReadyH.cons (o := ({ dst := some 24, op := Op.call { callee := Callee.builtin Builtin.append, args := #[Operand.tmp 16, Operand.tmp 23], argTypes := #[60, 60] }, type := 60, pos := "ref.go:191", after := #[{ on := 0, ground := Ground.data }, { on := 7, ground := Ground.data }], guard := none } : Oper)) rfl (fun K hK => ?_) AllReadyH.nil
            refine step_append_own rfl (.tmp 16) (.tmp 23) 60 rfl w.heap.size 5 i0 (.int .u8 0) 1 1 Tryz.underlying60 hi hz0 hz1 hz2 rfl (by decide) u3 _ _ (by simp [Act.eval]) (World.ownsRow.alloc (World.ownsRow.drew hI.out) _) ⟨wr.heap.size, 0, none⟩ 4 4 [.int .u8 92, .int .u8 120, .int .u8 (hexd p).toNat, .int .u8 (hexd q).toNat] (by simp [Act.eval]) rfl ?c1B ?c2B (by unfold maxLen; omega) (by omega) (by simp; omega) (fun v' w2 h2 h3 => ?_)
            case c1B => (intro j u hj; rw [Addr.add_lit]; (rcases j with _ | _ | _ | _ | j) <;> simp at hj <;> subst hj <;> simp (maxDischargeDepth := 12) [go_sem])
            case c2B => (intro u hu; simp at hu; (rcases hu with rfl | rfl | rfl | rfl) <;> rfl)
            refine hK.out _ _ trivial (fun hHeld => ?_)
            clear hK K
            try simp only [Act.put, List.setIfInBounds_toArray, List.set_cons_zero, List.set_cons_succ]
            refine wpAnyH_take (i := 9) (oi := ({ dst := some 3, op := Op.assign (Operand.tmp 24), type := 60, pos := "ref.go:191", after := #[{ on := 8, ground := Ground.data }, { on := 8, ground := Ground.chain }, { on := 0, ground := Ground.phase }, { on := 1, ground := Ground.phase }, { on := 2, ground := Ground.phase }, { on := 3, ground := Ground.phase }, { on := 4, ground := Ground.phase }, { on := 5, ground := Ground.phase }, { on := 6, ground := Ground.phase }, { on := 7, ground := Ground.phase }, { on := 8, ground := Ground.phase }], guard := none } : Oper)) (v := ?yvq9B) rfl (by kernel_rfl) (by kernel_rfl) (by kernel_rfl) (fun _ _ _ h => h) (Or.inl ⟨by rfl, ?yhq9B⟩) (by assumption) ?yrq9B
            case yhq9B => (intro wq hSw; (try dsimp only at hSw); go_simp; first | done | with_reducible rfl)
            try simp only [Act.put, List.setIfInBounds_toArray, List.set_cons_zero, List.set_cons_succ]
            refine wpAnyH_done (by kernel_rfl) ?_ _
            have o2 : Hid (Own w.heap.size v' (34 :: inside (s.data.toList.take (k + 1))) w2) := by
              rw [HS.out, he.out, ← List.cons_append]
              exact own_more (M := [92, 120, hexd p, hexd q]) h2 rfl
            have K2 : Below w.heap.size w w2 := Below.grown (hB.drew.alloc (by simpa using hsz) _) h3 (by simp; omega) HK.out
            clear h2 h3 hI HK he HS
            (try go_wp2)
            exact ⟨⟨k + 1, by omega, by simp, o2, K2⟩, by simp [intOf]; omega⟩

end Go.Proofs.YticmebamclacaaaGreatDoor

namespace Go.Proofs.YticmebamclacaaaGreatDoor
open Go.RowKit LX Go.Shelf
set_option linter.unusedVariables false

/-- Values of the call's own. -/
def OwnVs (B : Nat) (v : Value) (xs : List Val) (w : World) : Prop := w.ownsRow B 50 4 v xs.length (flat xs)
theorem OwnVs.row {B : Nat} {v : Value} {xs : List Val} {w : World} (h : OwnVs B v xs w) : RowAt w v xs := by
  have h' : w.ownsRow B 50 4 v xs.length (flat xs) := h
  obtain ⟨hl, ⟨e, hn⟩ | ⟨g, cap, cur, rfl, hg1, hg2, -⟩⟩ := h
  · exact ⟨none, 0, by rw [e, hn], Or.inl (List.length_eq_zero_iff.1 hn)⟩
  · refine ⟨_, _, rfl, Or.inr ⟨g, 0, rfl, (Array.getElem?_eq_some_iff.1 hg2).1, cells_lie fun j hj => ?_⟩⟩
    rw [Nat.zero_add, h'.cellAt _ (by omega)]
theorem OwnVs.form {B : Nat} {v : Value} {xs : List Val} {w : World} (h : OwnVs B v xs w) : ∃ p n c, v = .slice p n c := by
  obtain ⟨-, ⟨e, hn⟩ | ⟨g, cap, cur, e, -⟩⟩ := h
  · exact ⟨_, _, _, e⟩
  · exact ⟨_, _, _, e⟩
theorem flat_snoc (xs : List Val) (v : Val) : flat (xs ++ [v]) = flat xs ++ vcells v := by simp [flat]

/-- The values up to the bracket that ends an event, and how many tokens there were. -/
def rdA (acc : List Val) (i : Nat) : List (Tok Val) → Option (List Val × Nat)
  | [] => none
  | t :: l => if t.x = [41] then some (acc, i + 1) else if t.k = 6 then rdA (acc ++ [t.v]) (i + 1) l else none
/-- An event at the tokens' head. -/
def rdE : List (Tok Val) → Option (Evt × Nat)
  | t0 :: t1 :: l => if t0.x = [40] ∧ nameL t1.x = true then (rdA [] 2 l).map (fun p => (⟨⟨t1.x.toArray⟩, p.1⟩, p.2)) else none
  | _ => none
theorem x_ne {l m : List UInt8} (h : ¬ l = m) : ((⟨l.toArray⟩ : ByteArray).toList == m) = false := by rw [ByteArray.toList_eq]; simpa using h
theorem x_eq {l m : List UInt8} (h : l = m) : ((⟨l.toArray⟩ : ByteArray).toList == m) = true := by rw [ByteArray.toList_eq]; simpa using h

/-- What readEvent answers: an error, or an event whose values are its own. -/
def RdOut (N : Nat) (w : World) (L : List (Tok Val)) (r : Ending) (w' : World) : Prop := Below N w w' ∧ ((rdE L = none ∧ r = .returned (.tuple #[.agg #[.string ⟨#[]⟩, .slice none 0 0], .int .i64 0, .iface 92 (.agg #[.int .i64 70])])) ∨
      (∃ e n p m c, rdE L = some (e, n) ∧ r = .returned (.tuple #[.agg #[.string e.name, .slice p m c], .int .i64 (n : Nat), .nilIface]) ∧ OwnVs (N + 2) (.slice p m c) e.args w'))
theorem RdOut.no {N : Nat} {w w' : World} {L : List (Tok Val)} {r : Ending} (hb : Below N w w') (h : rdE L = none) (hr : r = .returned (.tuple #[.agg #[.string ⟨#[]⟩, .slice none 0 0], .int .i64 0, .iface 92 (.agg #[.int .i64 70])])) : RdOut N w L r w' := ⟨hb, Or.inl ⟨h, hr⟩⟩
theorem RdOut.yes {N : Nat} {w w' : World} {L : List (Tok Val)} {r : Ending} {nm : ByteArray} {acc : List Val} {n : Nat} {p : Option Addr} {m c : Nat} (hb : Below N w w') (h : rdE L = some (⟨nm, acc⟩, n)) (hr : r = .returned (.tuple #[.agg #[.string nm, .slice p m c], .int .i64 (n : Nat), .nilIface])) (ho : OwnVs (N + 2) (.slice p m c) acc w') : RdOut N w L r w' := ⟨hb, Or.inr ⟨⟨nm, acc⟩, n, p, m, c, h, hr, ho⟩⟩
/-- What stands behind one value more. -/
theorem ev_step {w W W2 : World} {B ev n : Nat} {nm : ByteArray} {V v' : Value} {acc : List Val} {Y : Val} (hev : W.heap[ev]? = some (.cells #[.string nm, V] 48 (0, 0))) (hlt : ev < B) (hBW : B ≤ W.heap.size) (h0 : Below n w W) (hn : n ≤ ev)
    (hown : W.ownsRow B 50 4 V acc.length (flat acc))
    (h2 : W2.ownsRow B 50 4 v' (acc.length + 1) (flat acc ++ [.int .i64 Y.k, .int .i64 Y.n, .int .i64 Y.d, .string Y.s])) (h3 : (W.alloc (.cells #[.int .i64 Y.k, .int .i64 Y.n, .int .i64 Y.d, .string Y.s] 50)).grownBy W2 V.ownBlock) :
    ∃ p m c, v' = .slice p m c ∧ W2.cell? ⟨ev, 1, none⟩ = some V ∧ W2.frozen? ⟨ev, 1, none⟩ = false ∧
      (W2.setCell ⟨ev, 1, none⟩ v').heap[ev]? = some (.cells #[.string nm, v'] 48 (0, 0)) ∧ OwnVs B v' (acc ++ [Y]) (W2.setCell ⟨ev, 1, none⟩ v') ∧ Below n w (W2.setCell ⟨ev, 1, none⟩ v') ∧ B ≤ (W2.setCell ⟨ev, 1, none⟩ v').heap.size ∧ (∀ k, k < B → k ≠ ev → (W2.setCell ⟨ev, 1, none⟩ v').heap[k]? = W.heap[k]?) := by
  have hown1 : (W.alloc (.cells #[.int .i64 Y.k, .int .i64 Y.n, .int .i64 Y.d, .string Y.s] 50)).ownsRow B 50 4 V acc.length (flat acc) := World.ownsRow.alloc hown _
  have hne : ∀ k, k < B → V.ownBlock ≠ some k := fun k hk e => by have := (World.ownsRow.lt hown k e).1; omega
  have keep : ∀ k, k < B → W2.heap[k]? = W.heap[k]? := fun k hk => by
    have e1 := h3.block k (by simp; omega) (fun e => hne k hk e.symm)
    rw [e1]
    show (W.heap.push _)[k]? = _
    rw [Array.getElem?_push, if_neg (by omega)]
  have hev2 : W2.heap[ev]? = some (.cells #[.string nm, V] 48 (0, 0)) := (keep ev hlt).trans hev
  obtain ⟨p, m, c, rfl⟩ : ∃ p m c, v' = .slice p m c := by
    obtain ⟨-, ⟨e, hn⟩ | ⟨g, cap, cur, e, -⟩⟩ := h2
    · exact ⟨_, _, _, e⟩
    · exact ⟨_, _, _, e⟩
  have hB2 : Below n w W2 := Below.grown (h0.alloc (by omega) _) h3 (by simp; omega) (fun q hq => by have := (World.ownsRow.lt hown q hq).1; omega)
  have hs2 : B ≤ W2.heap.size := Nat.le_trans hBW (Nat.le_trans (by simp) h3.size)
  have hg := grownBy_setX W2 ev 1 (.slice p m c)
  refine ⟨p, m, c, rfl, ?_, Lib.frozen_of_heap hev2 1, ?_, ?_, ?_, ?_, ?_⟩
  · rw [Lib.cell_of_heap hev2]; rfl
  · show (W2.heap.modify ev _)[ev]? = _
    rw [Array.getElem?_modify, if_pos rfl, hev2]
    rfl
  · unfold OwnVs
    rw [flat_snoc, List.length_append]
    exact ownsRow_setCell_below h2 (a := ⟨ev, 1, none⟩) hlt _
  · exact hB2.grown hg (by omega) (fun q hq => by injection hq with hq; omega)
  · exact Nat.le_trans hs2 hg.size
  · intro k hk hke
    exact (hg.block k (by omega) (fun e => hke (by injection e))).trans (keep k hk)

set_option maxRecDepth 100000 in
set_option maxHeartbeats 8000000 in
theorem rdev_any (V : Value) (L : List (Tok Val)) (w : World) (hV : ToksAt w V L) (lL : L.length ≤ 16384) :
    Calls Tryz.prog 80 #[V] w fun r w' => RdOut w.heap.size w L r w' := by
  obtain ⟨p, c, rfl, hc, HX0⟩ := hV.form
  have HX : Hid (∀ i (hi : i < L.length), ∃ b off, p = some ⟨b, off, none⟩ ∧ b < w.heap.size ∧ TokC w b (off + i * 7) L[i]) := HX0
  clear hV HX0
  obtain ⟨i0, hi, hz0, hz1, hz2⟩ := info_parts inV
  obtain ⟨n, en⟩ : ∃ n : Nat, Hid (L.length = n) := ⟨_, rfl⟩
  rw [en.out] at hc lL ⊢
  by_cases h2 : n < 2
  · have hE : Hid (rdE L = none) := by
      have := en.out
      unfold Hid
      match L, this with
      | [], _ => rfl
      | [_], _ => rfl
      | _ :: _ :: _, h => simp at h; omega
    have h2' : (n : Int) < 2 := by omega
    go_enter Tryz.func80, Tryz.ntmps80
    go_wp2
    refine bodyPost_ret (by simp [results, Tryz.results80, go_sem]; try rfl) rfl ?_
    exact RdOut.no (by go_grown) hE.out rfl
  · have h2' : ¬ (n : Int) < 2 := by omega
    obtain ⟨t0, t1, l, rfl⟩ : ∃ t0 t1 l, L = t0 :: t1 :: l := by
      have := en.out
      match L, this with
      | [], h => simp at h; omega
      | [_], h => simp at h; omega
      | a :: b :: l, _ => exact ⟨a, b, l, rfl⟩
    have hE : Hid (rdE (t0 :: t1 :: l) = if t0.x = [40] ∧ nameL t1.x = true then (rdA [] 2 l).map (fun p => (⟨⟨t1.x.toArray⟩, p.1⟩, p.2)) else none) := rfl
    obtain ⟨b, off, rfl, hb, T0⟩ := HX.out 0 (by simp)
    obtain ⟨b', off', q, -, T1⟩ := HX.out 1 (by simp)
    injection q with q
    injection q with q1 q2 q3
    subst q1 q2
    have y0 := T0.2.2.1
    have y1 := T1.2.2.1
    simp only [Nat.zero_mul, Nat.add_zero, List.getElem_cons_zero] at y0
    simp only [Nat.one_mul, List.getElem_cons_succ, List.getElem_cons_zero] at y1
    clear T0 T1
    have n0 : (0 : Int) < n := by omega
    have n1 : (1 : Int) < n := by omega
    have cN : Hid (∀ W : World, Calls Tryz.prog 73 #[.string ⟨t1.x.toArray⟩] W fun e' w' => e' = .returned (.bool (nameL t1.x)) ∧ w' = W) := fun W => name_any ⟨t1.x.toArray⟩ W
    by_cases hx : t0.x = [40]
    · have hx' := x_eq hx
      generalize (⟨t0.x.toArray⟩ : ByteArray) = X0 at y0 hx'
      cases hN : nameL t1.x with
      | false =>
        have hE2 : Hid (rdE (t0 :: t1 :: l) = none) := by have h := hE.out; rwa [if_neg (by rw [hN]; simp)] at h
        rw [hN] at cN
        generalize (⟨t1.x.toArray⟩ : ByteArray) = X1 at y1 cN
        go_enter Tryz.func80, Tryz.ntmps80
        go_wp2_with fail
        refine (cN.out _).mono ?_
        rintro e' w1 ⟨rfl, rfl⟩
        go_wp2
        refine bodyPost_ret (by simp [results, Tryz.results80, go_sem]; try rfl) rfl ?_
        exact RdOut.no (by go_grown) hE2.out rfl
      | true =>
        have hE2 : Hid (rdE (t0 :: t1 :: l) = (rdA [] 2 l).map (fun p => (⟨⟨t1.x.toArray⟩, p.1⟩, p.2))) := by have h := hE.out; rwa [if_pos ⟨hx, hN⟩] at h
        rw [hN] at cN
        generalize (⟨t1.x.toArray⟩ : ByteArray) = X1 at y1 cN hE2
        clear hE hx hN
        go_enter Tryz.func80, Tryz.ntmps80
        go_wp2_with fail
        refine (cN.out _).mono ?_
        rintro e' w1 ⟨rfl, rfl⟩
        clear cN
        go_wp2
        go_loopw [6] (fun i wr => ∃ (k : Nat) (acc : List Val) (V : Value), 2 ≤ k ∧ k ≤ n ∧ acc.length ≤ k ∧ i = .int .i64 k ∧ Hid (rdA [] 2 l = rdA acc k ((t0 :: t1 :: l).drop k)) ∧ Hid (wr.heap[w.heap.size + 1]? = some (.cells #[.string X1, V] 48 (0, 0))) ∧ Hid (wr.heap[w.heap.size]? = some (.cells #[.string ⟨#[]⟩, .slice none 0 0] 48 (0, 0))) ∧ Hid (OwnVs (w.heap.size + 2) V acc wr) ∧ Below w.heap.size w wr ∧ w.heap.size + 2 ≤ wr.heap.size) (fun i _ => n - (intOf i).toNat)
        case atStart =>
          refine ⟨2, [], .slice none 0 0, Nat.le_refl _, by omega, by simp, rfl, (show rdA [] 2 l = rdA [] 2 l from rfl), ?_, ?_, ?_, by go_grown, by simp⟩
          · unfold Hid
            show ((w.heap.push _).push _)[w.heap.size + 1]? = _
            rw [Array.getElem?_push, if_pos (by simp)]
          · unfold Hid
            show ((w.heap.push _).push _)[w.heap.size]? = _
            rw [Array.getElem?_push, if_neg (by simp), Array.getElem?_push, if_pos rfl]
          · exact ⟨rfl, .inl ⟨rfl, rfl⟩⟩
        case round =>
          obtain ⟨k, acc, V, hk2, hk, hac, rfl, hr, hev, hres, hown, hB, hsz⟩ := hrel
          have e0 : wr.cell? ⟨w.heap.size + 1, 0, none⟩ = some (.string X1) := by rw [Lib.cell_of_heap hev.out]; rfl
          have e1 : wr.cell? ⟨w.heap.size + 1, 1, none⟩ = some V := by rw [Lib.cell_of_heap hev.out]; rfl
          have q0 : wr.cell? ⟨w.heap.size, 0, none⟩ = some (.string ⟨#[]⟩) := by rw [Lib.cell_of_heap hres.out]; rfl
          have q1 : wr.cell? ⟨w.heap.size, 1, none⟩ = some (.slice none 0 0) := by rw [Lib.cell_of_heap hres.out]; rfl
          have f0 : wr.frozen? ⟨w.heap.size, 0, none⟩ = false := Lib.frozen_of_heap hres.out 0
          have f1 : wr.frozen? ⟨w.heap.size, 1, none⟩ = false := Lib.frozen_of_heap hres.out 1
          obtain ⟨pV, nV, cV, rfl⟩ := hown.out.form
          by_cases hlt : k < n
          · have kx : k < (t0 :: t1 :: l).length := by have := en.out; omega
            obtain ⟨b', off', q, -, TK⟩ := HX.out k kx
            injection q with q
            injection q with qa qb qc
            subst qa qb
            have TK2 := TK.below hB hb
            have hr2 : Hid (rdA [] 2 l = if (t0 :: t1 :: l)[k].x = [41] then some (acc, k + 1) else if (t0 :: t1 :: l)[k].k = 6 then rdA (acc ++ [(t0 :: t1 :: l)[k].v]) (k + 1) ((t0 :: t1 :: l).drop (k + 1)) else none) := by
              have h := hr.out
              rw [List.drop_eq_getElem_cons kx] at h
              exact h
            clear TK hr
            generalize (t0 :: t1 :: l)[k] = t at TK2 hr2
            obtain ⟨a0, a1, a2, a3, a4, a5, a6⟩ := TK2
            have hlt' : (k : Int) < n := by omega
            by_cases hx : t.x = [41]
            · have hr3 : Hid (rdA [] 2 l = some (acc, k + 1)) := by have h := hr2.out; rwa [if_pos hx] at h
              have hE3 : Hid (rdE (t0 :: t1 :: l) = some (⟨X1, acc⟩, k + 1)) := by have h := hE2.out; rw [hr3.out] at h; exact h
              have hx2 := x_eq hx
              generalize (⟨t.x.toArray⟩ : ByteArray) = XT at a2 hx2
              clear hr2 hx
              have g0 : ((wr.setCell ⟨w.heap.size, 0, none⟩ (.string X1)).setCell ⟨w.heap.size, 1, none⟩ (.slice pV nV cV)).cell? ⟨w.heap.size, 0, none⟩ = some (.string X1) := by simp (maxDischargeDepth := 8) [go_sem, q0]
              have g1 : ((wr.setCell ⟨w.heap.size, 0, none⟩ (.string X1)).setCell ⟨w.heap.size, 1, none⟩ (.slice pV nV cV)).cell? ⟨w.heap.size, 1, none⟩ = some (.slice pV nV cV) := by simp (maxDischargeDepth := 8) [go_sem, q1]
              have K9 : Below w.heap.size w ((wr.setCell ⟨w.heap.size, 0, none⟩ (.string X1)).setCell ⟨w.heap.size, 1, none⟩ (.slice pV nV cV)) := (hB.setCell (p := ⟨w.heap.size, 0, none⟩) (Nat.le_refl _) _).setCell (p := ⟨w.heap.size, 1, none⟩) (Nat.le_refl _) _
              have O9 : Hid (OwnVs (w.heap.size + 2) (.slice pV nV cV) acc ((wr.setCell ⟨w.heap.size, 0, none⟩ (.string X1)).setCell ⟨w.heap.size, 1, none⟩ (.slice pV nV cV))) := ownsRow_setCell_below (ownsRow_setCell_below hown.out (a := ⟨w.heap.size, 0, none⟩) (by simp) _) (a := ⟨w.heap.size, 1, none⟩) (by simp) _
              go_wp2
              generalize (wr.setCell ⟨w.heap.size, 0, none⟩ (.string X1)).setCell ⟨w.heap.size, 1, none⟩ (.slice pV nV cV) = W9 at g0 g1 K9 O9 ⊢
              refine bodyPost_ret (by simp [results, Tryz.results80, go_sem, g0, g1]; try rfl) rfl ?_
              exact RdOut.yes K9 hE3.out (by simp) O9.out
            · have hx2 := x_ne hx
              generalize (⟨t.x.toArray⟩ : ByteArray) = XT at a2 hx2
              by_cases h6 : t.k = 6
              · have hr3 : Hid (rdA [] 2 l = rdA (acc ++ [t.v]) (k + 1) ((t0 :: t1 :: l).drop (k + 1))) := by have h := hr2.out; rwa [if_neg hx, if_pos h6] at h
                have h6' : ((t.k : Nat) : Int) = 6 := by omega
                clear hr2 hx
                have hown1 := hown.out
                unfold OwnVs at hown1
                have HO : Hid (wr.ownsRow (w.heap.size + 2) 50 4 (.slice pV nV cV) acc.length (flat acc)) := hown1
                clear hown1
                have hz9 : w.heap.size + 1 < wr.heap.size := by omega
                go_upto_region 10 with fail
                go_region_law (refine step_append_own rfl (.tmp 55) (.tmp 61) 46 rfl (w.heap.size + 2) 50 i0 (.agg #[.int .i64 0, .int .i64 0, .int .i64 0, .string ⟨#[]⟩]) 4 40 Tryz.underlying46 hi hz0 hz1 hz2 rfl (by decide) (.slice pV nV cV) acc.length (flat acc) (by simp [Act.eval]) (World.ownsRow.alloc (World.ownsRow.drew HO.out) _) ⟨wr.heap.size, 0, none⟩ 1 1 [.int .i64 t.v.k, .int .i64 t.v.n, .int .i64 t.v.d, .string t.v.s] (by simp [Act.eval]) rfl (by intro j u hj; rw [Addr.add_lit]; (rcases j with _ | _ | _ | _ | j) <;> simp at hj <;> subst hj <;> simp (maxDischargeDepth := 12) [go_sem]) (by intro u hu; simp at hu; rcases hu with rfl | rfl | rfl | rfl <;> rfl) (by unfold maxLen; omega) (by omega) (by simp; omega) (fun v' w2 h2 h3 => ?_); obtain ⟨pv2, mv2, cv2, rfl, z1, z2, z3, z4, z5, z6, z7⟩ := ev_step (w := w) (n := w.heap.size) (W := wr.drew) (ev := w.heap.size + 1) (nm := X1) (acc := acc) (Y := t.v) hev.out (by omega) hsz (Below.drew hB) (by omega) (World.ownsRow.drew HO.out) h2 h3; have Z3 : Hid ((w2.setCell ⟨w.heap.size + 1, 1, none⟩ (.slice pv2 mv2 cv2)).heap[w.heap.size + 1]? = some (.cells #[.string X1, .slice pv2 mv2 cv2] 48 (0, 0))) := z3; have Z4 : Hid (OwnVs (w.heap.size + 2) (.slice pv2 mv2 cv2) (acc ++ [t.v]) (w2.setCell ⟨w.heap.size + 1, 1, none⟩ (.slice pv2 mv2 cv2))) := z4; have Z7 : Hid ((w2.setCell ⟨w.heap.size + 1, 1, none⟩ (.slice pv2 mv2 cv2)).heap[w.heap.size]? = some (.cells #[.string ⟨#[]⟩, .slice none 0 0] 48 (0, 0))) := (z7 w.heap.size (by omega) (by omega)).trans hres.out; clear h2 h3 z3 z4 z7)
                all_goals
                  go_wp2
                  exact ⟨⟨k + 1, acc ++ [t.v], .slice pv2 mv2 cv2, by omega, by omega, by simp; omega, by go_num, hr3, Z3, Z7, Z4, z5, z6⟩, by simp [intOf]; omega⟩
              · have hr3 : Hid (rdA [] 2 l = none) := by have h := hr2.out; rwa [if_neg hx, if_neg h6] at h
                have h6' : (((t.k : Nat) : Int) == 6) = false := by simp; omega
                clear hr2 hx h6
                have hE3 : Hid (rdE (t0 :: t1 :: l) = none) := by have h := hE2.out; rw [hr3.out] at h; exact h
                have K9 : Below w.heap.size w ((wr.setCell ⟨w.heap.size, 0, none⟩ (.string ⟨#[]⟩)).setCell ⟨w.heap.size, 1, none⟩ (.slice none 0 0)) := (hB.setCell (p := ⟨w.heap.size, 0, none⟩) (Nat.le_refl _) _).setCell (p := ⟨w.heap.size, 1, none⟩) (Nat.le_refl _) _
                have g0 : ((wr.setCell ⟨w.heap.size, 0, none⟩ (.string ⟨#[]⟩)).setCell ⟨w.heap.size, 1, none⟩ (.slice none 0 0)).cell? ⟨w.heap.size, 0, none⟩ = some (.string ⟨#[]⟩) := by simp (maxDischargeDepth := 8) [go_sem, q0]
                have g1 : ((wr.setCell ⟨w.heap.size, 0, none⟩ (.string ⟨#[]⟩)).setCell ⟨w.heap.size, 1, none⟩ (.slice none 0 0)).cell? ⟨w.heap.size, 1, none⟩ = some (.slice none 0 0) := by simp (maxDischargeDepth := 8) [go_sem, q1]
                go_wp2
                generalize (wr.setCell ⟨w.heap.size, 0, none⟩ (.string ⟨#[]⟩)).setCell ⟨w.heap.size, 1, none⟩ (.slice none 0 0) = W9 at g0 g1 K9 ⊢
                refine bodyPost_ret (by simp [results, Tryz.results80, go_sem, g0, g1]; try rfl) rfl ?_
                exact RdOut.no K9 hE3.out rfl
          · have c2 : ¬ (k : Int) < n := by omega
            have hr3 : Hid (rdA [] 2 l = none) := by
              have h := hr.out
              rw [List.drop_eq_nil_of_le (by have := en.out; omega)] at h
              exact h
            have hE3 : Hid (rdE (t0 :: t1 :: l) = none) := by have h := hE2.out; rw [hr3.out] at h; exact h
            have K9 : Below w.heap.size w ((wr.setCell ⟨w.heap.size, 0, none⟩ (.string ⟨#[]⟩)).setCell ⟨w.heap.size, 1, none⟩ (.slice none 0 0)) := (hB.setCell (p := ⟨w.heap.size, 0, none⟩) (Nat.le_refl _) _).setCell (p := ⟨w.heap.size, 1, none⟩) (Nat.le_refl _) _
            have g0 : ((wr.setCell ⟨w.heap.size, 0, none⟩ (.string ⟨#[]⟩)).setCell ⟨w.heap.size, 1, none⟩ (.slice none 0 0)).cell? ⟨w.heap.size, 0, none⟩ = some (.string ⟨#[]⟩) := by simp (maxDischargeDepth := 8) [go_sem, q0]
            have g1 : ((wr.setCell ⟨w.heap.size, 0, none⟩ (.string ⟨#[]⟩)).setCell ⟨w.heap.size, 1, none⟩ (.slice none 0 0)).cell? ⟨w.heap.size, 1, none⟩ = some (.slice none 0 0) := by simp (maxDischargeDepth := 8) [go_sem, q1]
            go_wp2
            generalize (wr.setCell ⟨w.heap.size, 0, none⟩ (.string ⟨#[]⟩)).setCell ⟨w.heap.size, 1, none⟩ (.slice none 0 0) = W9 at g0 g1 K9 ⊢
            refine bodyPost_ret (by simp [results, Tryz.results80, go_sem, g0, g1]; try rfl) rfl ?_
            exact RdOut.no K9 hE3.out rfl
    · have hE2 : Hid (rdE (t0 :: t1 :: l) = none) := by have h := hE.out; rwa [if_neg (fun h => hx h.1)] at h
      have hx' := x_ne hx
      generalize (⟨t0.x.toArray⟩ : ByteArray) = X0 at y0 hx'
      go_enter Tryz.func80, Tryz.ntmps80
      go_wp2
      refine bodyPost_ret (by simp [results, Tryz.results80, go_sem]; try rfl) rfl ?_
      exact RdOut.no (by go_grown) hE2.out rfl

end Go.Proofs.YticmebamclacaaaGreatDoor

namespace Go.Proofs.YticmebamclacaaaGreatDoor
open Go.RowKit LX Go.Shelf
set_option linter.unusedVariables false

theorem own_baseX {w : World} {B B' e size n : Nat} {v : Value} {xs : List Value} (h : w.ownsRow B' e size v n xs) (hB : B ≤ B') : w.ownsRow B e size v n xs := by
  obtain ⟨hl, hv | ⟨g, cap, cur, e1, h1, h2⟩⟩ := h
  · exact ⟨hl, Or.inl hv⟩
  · exact ⟨hl, Or.inr ⟨g, cap, cur, e1, Nat.le_trans hB h1, h2⟩⟩
theorem own_ne2X {w : World} {B e e' size n B' size' n' : Nat} {v v' : Value} {xs xs' : List Value} (h : w.ownsRow B e size v n xs) (h' : w.ownsRow B' e' size' v' n' xs') (hne : e ≠ e') : v.ownBlock = none ∨ v.ownBlock ≠ v'.ownBlock := by
  obtain ⟨-, ⟨rfl, -⟩ | ⟨g, cap, cur', rfl, -, hg, -⟩⟩ := h'
  · by_cases hv : v.ownBlock = none
    · exact Or.inl hv
    · exact Or.inr hv
  · exact Or.inr (own_neX h hg hne)

/-- The cells of events of the call's own. -/
def EvC (B : Nat) (w : World) : List Evt → List Value → Prop
  | [], [] => True
  | e :: es, a :: b :: zs => a = .string e.name ∧ OwnVs B b e.args w ∧ EvC B w es zs
  | _, _ => False
theorem EvC.snoc {B : Nat} {w : World} {es : List Evt} {zs : List Value} {e : Evt} {b : Value} (h : EvC B w es zs) (hb : OwnVs B b e.args w) : EvC B w (es ++ [e]) (zs ++ [.string e.name, b]) := by
  induction es generalizing zs with
  | nil =>
    match zs, h with
    | [], _ => exact ⟨rfl, hb, trivial⟩
  | cons x es ih =>
    match zs, h with
    | a :: b' :: zs, h => exact ⟨h.1, h.2.1, ih h.2.2⟩
theorem EvC.mono {B : Nat} {w w' : World} (k : ∀ b xs, OwnVs B b xs w → OwnVs B b xs w') {es : List Evt} {zs : List Value} (h : EvC B w es zs) : EvC B w' es zs := by
  induction es generalizing zs with
  | nil =>
    match zs, h with
    | [], _ => trivial
  | cons x es ih =>
    match zs, h with
    | a :: b' :: zs, h => exact ⟨h.1, k _ _ h.2.1, ih h.2.2⟩
theorem EvC.get {B : Nat} {w : World} {es : List Evt} {zs : List Value} (h : EvC B w es zs) (i : Nat) (hi : i < es.length) : zs[i * 2]? = some (.string es[i].name) ∧ ∃ u, zs[i * 2 + 1]? = some u ∧ OwnVs B u es[i].args w := by
  induction es generalizing zs i with
  | nil => simp at hi
  | cons x es ih =>
    match zs, h with
    | a :: b' :: zs, h =>
      cases i with
      | zero => exact ⟨by rw [h.1]; rfl, b', rfl, h.2.1⟩
      | succ i =>
        have g := ih h.2.2 i (by simpa using hi)
        rw [show (i + 1) * 2 = i * 2 + 2 by omega]
        exact g
theorem EvC.len {B : Nat} {w : World} {es : List Evt} {zs : List Value} (h : EvC B w es zs) : zs.length = es.length * 2 := by
  induction es generalizing zs with
  | nil =>
    match zs, h with
    | [], _ => rfl
  | cons x es ih =>
    match zs, h with
    | a :: b' :: zs, h => simp only [List.length_cons, ih h.2.2]; omega
/-- Events of the call's own. -/
def OwnE (B : Nat) (v : Value) (es : List Evt) (w : World) : Prop := ∃ zs, w.ownsRow B 48 2 v es.length zs ∧ EvC B w es zs
theorem OwnE.form {B : Nat} {v : Value} {es : List Evt} {w : World} (h : OwnE B v es w) : ∃ p c, v = .slice p es.length c := by
  obtain ⟨zs, ⟨-, ⟨e, hn⟩ | ⟨g, cap, cur, e, -⟩⟩, -⟩ := h
  · exact ⟨none, 0, by rw [e, hn]⟩
  · exact ⟨_, _, e⟩
theorem OwnE.at {B : Nat} {v : Value} {es : List Evt} {w : World} (h : OwnE B v es w) : EvsAt w v es := by
  obtain ⟨zs, h, hc⟩ := h
  have h' := h
  obtain ⟨hl, ⟨e, hn⟩ | ⟨g, cap, cur, rfl, hg1, hg2, -⟩⟩ := h
  · exact ⟨none, 0, by rw [e, hn], Or.inl (List.length_eq_zero_iff.1 hn)⟩
  · refine ⟨_, _, rfl, Or.inr ⟨g, 0, rfl, (Array.getElem?_eq_some_iff.1 hg2).1, fun i hi => ?_⟩⟩
    obtain ⟨c0, u, c1, ho⟩ := hc.get i hi
    refine ⟨u, ?_, ?_, ho.row⟩
    · rw [Nat.zero_add, h'.cellAt _ (by omega)]; exact c0
    · rw [Nat.zero_add, h'.cellAt _ (by omega)]; exact c1
theorem OwnE.below {B : Nat} {v : Value} {es : List Evt} {w w' : World} (h : OwnE B v es w) (hb : Below w.heap.size w w') : OwnE B v es w' := by
  obtain ⟨zs, h, hc⟩ := h
  exact ⟨zs, own_belX h hb, hc.mono fun b xs k => own_belX k hb⟩

theorem rdA_len {l : List (Tok Val)} {acc a : List Val} {i n : Nat} (h : rdA acc i l = some (a, n)) : i < n ∧ n ≤ i + l.length ∧ a.length ≤ acc.length + l.length := by
  induction l generalizing acc i with
  | nil => cases h
  | cons t l ih =>
    unfold rdA at h
    by_cases h1 : t.x = [41]
    · rw [if_pos h1] at h
      injection h with h
      injection h with e1 e2
      subst e1 e2
      simp only [List.length_cons]; omega
    · rw [if_neg h1] at h
      by_cases h2 : t.k = 6
      · rw [if_pos h2] at h
        have := ih h
        simp only [List.length_append, List.length_cons, List.length_nil] at this ⊢
        omega
      · rw [if_neg h2] at h; cases h
theorem rdE_len {L : List (Tok Val)} {e : Evt} {n : Nat} (h : rdE L = some (e, n)) : 2 < n ∧ n ≤ L.length ∧ e.args.length ≤ L.length := by
  match L, h with
  | t0 :: t1 :: l, h =>
    have h : (if t0.x = [40] ∧ nameL t1.x = true then (rdA [] 2 l).map (fun p => ((⟨⟨t1.x.toArray⟩, p.1⟩ : Evt), p.2)) else none) = some (e, n) := h
    by_cases h1 : t0.x = [40] ∧ nameL t1.x = true
    · rw [if_pos h1] at h
      obtain ⟨⟨a, k⟩, q1, q2⟩ := Option.map_eq_some_iff.1 h
      have := rdA_len q1
      injection q2 with e1 e2
      subst e1 e2
      simp only [List.length_cons, List.length_nil] at this ⊢
      omega
    · rw [if_neg h1] at h; cases h
/-- All events. -/
def rdEs : Nat → List Evt → List (Tok Val) → Option (List Evt)
  | 0, acc, _ => some acc
  | f + 1, acc, [] => some acc
  | f + 1, acc, t :: l => match rdE (t :: l) with
    | none => none
    | some (e, n) => rdEs f (acc ++ [e]) ((t :: l).drop n)
theorem rdEs_none {f : Nat} {acc : List Evt} {L : List (Tok Val)} (hL : 0 < L.length) (h : rdE L = none) : rdEs (f + 1) acc L = none := by
  match L, hL with
  | t :: l, _ => unfold rdEs; rw [h]
theorem rdEs_some {f : Nat} {acc : List Evt} {L : List (Tok Val)} {e : Evt} {n : Nat} (hL : 0 < L.length) (h : rdE L = some (e, n)) : rdEs (f + 1) acc L = rdEs f (acc ++ [e]) (L.drop n) := by
  match L, hL with
  | t :: l, _ => rw [rdEs]; rw [h]
theorem rdEs_end {f : Nat} {acc : List Evt} {L : List (Tok Val)} (hL : L.length = 0) : rdEs f acc L = some acc := by
  obtain rfl := List.length_eq_zero_iff.1 hL
  cases f <;> rfl
def slen : Value → Nat
  | .slice _ n _ => n
  | _ => 0
theorem inE : (Tryz.prog.info? 48).map (fun i => (i.zero, i.size, i.bytes)) = some (some (.agg #[.string ⟨#[]⟩, .slice none 0 0]), 2, 40) := by kernel_rfl

/-- What readEvents answers. -/
def RsOut (N : Nat) (w : World) (L : List (Tok Val)) (r : Ending) (w' : World) : Prop := Below N w w' ∧ ((rdEs (L.length + 1) [] L = none ∧ r = .returned (.tuple #[.slice none 0 0, .iface 92 (.agg #[.int .i64 70])])) ∨
      (∃ es p c, rdEs (L.length + 1) [] L = some es ∧ r = .returned (.tuple #[.slice p es.length c, .nilIface]) ∧ OwnE N (.slice p es.length c) es w' ∧ es.length ≤ L.length))
theorem RsOut.no {N : Nat} {w w' : World} {L : List (Tok Val)} {r : Ending} (hb : Below N w w') (h : rdEs (L.length + 1) [] L = none) (hr : r = .returned (.tuple #[.slice none 0 0, .iface 92 (.agg #[.int .i64 70])])) : RsOut N w L r w' := ⟨hb, Or.inl ⟨h, hr⟩⟩
theorem RsOut.yes {N : Nat} {w w' : World} {L : List (Tok Val)} {r : Ending} {es : List Evt} {p : Option Addr} {c m : Nat} (hb : Below N w w') (h : rdEs (L.length + 1) [] L = some es) (hm : m = es.length) (hr : r = .returned (.tuple #[.slice p m c, .nilIface])) (ho : OwnE N (.slice p m c) es w') (hl : es.length ≤ L.length) : RsOut N w L r w' := by
  subst hm
  exact ⟨hb, Or.inr ⟨es, p, c, h, hr, ho, hl⟩⟩

/-- One event more. -/
theorem evs_step {w2 w4 : World} {B : Nat} {v v' u : Value} {es : List Evt} {e : Evt} {zs : List Value} (h2 : B ≤ w2.heap.size) (ho : w2.ownsRow B 48 2 v es.length zs) (hc : EvC B w2 es zs) (hu : OwnVs B u e.args w2)
    (h4 : w4.ownsRow B 48 2 v' (es.length + 1) (zs ++ [.string e.name, u])) (hg : w2.grownBy w4 v.ownBlock) : OwnE B v' (es ++ [e]) w4 := by
  refine ⟨zs ++ [.string e.name, u], by rw [List.length_append]; exact h4, ?_⟩
  have k : ∀ b xs, OwnVs B b xs w2 → OwnVs B b xs w4 := fun b xs hb => World.ownsRow.kept hb hg (own_ne2X hb ho (by decide))
  exact (hc.mono k).snoc (k _ _ hu)

set_option maxRecDepth 100000 in
set_option maxHeartbeats 8000000 in
theorem rdevs_any (V : Value) (L : List (Tok Val)) (w : World) (hV : ToksAt w V L) (lL : L.length ≤ 16384) :
    Calls Tryz.prog 58 #[V] w fun r w' => RsOut w.heap.size w L r w' := by
  have HV : Hid (ToksAt w V L) := hV
  obtain ⟨i0, hi, hz0, hz1, hz2⟩ := info_parts inE
  obtain ⟨p, c, rfl, -⟩ := hV.form
  clear hV
  go_enter Tryz.func58, Tryz.ntmps58
  go_wp2
  go_loopw [0, 4] (fun v0 v4 wr => ∃ (f : Nat) (es : List Evt) (M : List (Tok Val)), Hid (rdEs (L.length + 1) [] L = rdEs f es M) ∧ M.length < f ∧ Hid (ToksAt w v0 M) ∧ Hid (OwnE w.heap.size v4 es wr) ∧ es.length + M.length ≤ L.length ∧ Below w.heap.size w wr ∧ slen v0 = M.length) (fun v0 _ _ => slen v0)
  case atStart => exact ⟨L.length + 1, [], L, (show rdEs (L.length + 1) [] L = rdEs (L.length + 1) [] L from rfl), by omega, HV, ⟨[], ⟨rfl, .inl ⟨rfl, rfl⟩⟩, trivial⟩, by simp, Below.refl _ _, rfl⟩
  case round =>
    obtain ⟨f, es, M, hr, hf, hT, hO, hl, hB, hs⟩ := hrel
    obtain ⟨f, rfl⟩ : ∃ f', f = f' + 1 := ⟨f - 1, by omega⟩
    obtain ⟨p0, c0, rfl, hc0, hX0⟩ := hT.out.form
    obtain ⟨p4, c4, rfl⟩ := hO.out.form
    have ct : Hid (Calls Tryz.prog 80 #[.slice p0 M.length c0] wr fun r w' => RdOut wr.heap.size wr M r w') := rdev_any _ M wr (hT.out.below hB) (by omega)
    by_cases hM : 0 < M.length
    · obtain ⟨b, off, rfl, hb, -⟩ := hX0 0 hM
      clear hX0
      obtain ⟨n, en⟩ : ∃ n : Nat, Hid (M.length = n) := ⟨_, rfl⟩
      obtain ⟨m, em⟩ : ∃ m : Nat, Hid (es.length = m) := ⟨_, rfl⟩
      rw [en.out] at hM hc0 hf hl ct hs ⊢
      rw [em.out] at hl ⊢
      have HT : Hid (ToksAt w (.slice (some ⟨b, off, none⟩) n c0) M) := by have h := hT.out; rwa [en.out] at h
      have HO : Hid (OwnE w.heap.size (.slice p4 m c4) es wr) := by have h := hO.out; rwa [em.out] at h
      clear hT hO hs
      have hM' : (0 : Int) < n := by omega
      go_wp2_with fail
      refine ct.out.mono ?_
      rintro r w1 ⟨hB1, ⟨hn, rfl⟩ | ⟨e, sz, pe, me, ce, hsome, rfl, hown⟩⟩
      · have hE : Hid (rdEs (L.length + 1) [] L = none) := hr.out.trans (rdEs_none (by have := en.out; omega) hn)
        have K1 : Below w.heap.size w w1 := hB.trans (hB1.mono hB.size)
        clear ct hr
        go_wp2
        go_ret2
        exact RsOut.no (K1.alloc K1.size _) hE.out rfl
      · have hE : Hid (rdEs (L.length + 1) [] L = rdEs f (es ++ [e]) (M.drop sz)) := hr.out.trans (rdEs_some (by have := en.out; omega) hsome)
        obtain ⟨z1, z2, z3⟩ := rdE_len hsome
        have K1 : Below w.heap.size w w1 := hB.trans (hB1.mono hB.size)
        have HT1 : Hid (ToksAt w (.slice (some ⟨b, off, none⟩) n c0) M) := HT.out
        have HO1 : Hid (OwnE w.heap.size (.slice p4 m c4) es w1) := HO.out.below hB1
        have HV1 : Hid (OwnVs w.heap.size (.slice pe me ce) e.args w1) := own_baseX hown (by have := hB.size; omega)
        have zn : sz ≤ n := by have := en.out; omega
        clear ct hr hown HT HO hsome
        generalize hnm : e.name = X
        have HX : Hid (e.name = X) := hnm
        clear hnm
        obtain ⟨zs, ho, hcc⟩ := HO1.out
        have HC : Hid (EvC w.heap.size (w1.alloc (.cells #[.string X, .slice pe me ce] 48)) es zs) := hcc.mono fun b xs k => World.ownsRow.alloc k _
        have HC2 : Hid (w1.ownsRow w.heap.size 48 2 (.slice p4 m c4) m zs) := by have h := ho; rwa [em.out] at h
        clear ho hcc HO1
        have hsz1 : w.heap.size ≤ w1.heap.size := K1.size
        go_wp2_with (at_builtin; refine wpList_append_own _ rfl _ _ 24 rfl w.heap.size 48 i0 (.agg #[.string ⟨#[]⟩, .slice none 0 0]) 2 40 Tryz.underlying24 hi hz0 hz1 hz2 rfl (by decide) _ _ _ rfl (World.ownsRow.alloc (World.ownsRow.alloc HC2.out _) _) ⟨w1.heap.size + 1, 0, none⟩ 1 1 [.string X, .slice pe me ce] rfl rfl ?c1 ?c2 ?c3 ?c4 ?c5 ?_)
        case c1 => (intro j u hj; rw [Addr.add_lit]; (rcases j with _ | _ | j) <;> simp at hj <;> subst hj <;> simp (maxDischargeDepth := 12) [go_sem])
        case c2 => (intro u hu; simp at hu; rcases hu with rfl | rfl <;> rfl)
        case c3 => unfold maxLen; omega
        case c4 => omega
        case c5 => simp; omega
        intro v' w4 hown' hgrow _
        have hA1 : Below w.heap.size w ((w1.alloc (.cells #[.string X, .slice pe me ce] 48)).alloc (.cells #[.string X, .slice pe me ce] 48)) := (K1.alloc K1.size _).alloc (by simp; omega) _
        have K4 : Below w.heap.size w w4 := Below.grown hA1 hgrow (by simp; omega) (fun q hq => (World.ownsRow.lt HC2.out q hq).1)
        have HO4 : Hid (OwnE w.heap.size v' (es ++ [e]) w4) := by
          refine evs_step (zs := zs) (u := .slice pe me ce) hA1.size (World.ownsRow.alloc (World.ownsRow.alloc (by rw [em.out]; exact HC2.out) _) _) (HC.out.mono fun b xs k => World.ownsRow.alloc k _) (World.ownsRow.alloc (World.ownsRow.alloc HV1.out _) _) ?_ hgrow
          rw [em.out, HX.out]
          exact hown'
        clear hown' hgrow hA1 HC HC2 HV1
        obtain ⟨pv, cv, rfl⟩ := HO4.out.form
        have hlen : (es ++ [e]).length = m + 1 := by rw [List.length_append, em.out]; rfl
        rw [hlen] at HO4 ⊢
        have hsl : (sz : Int) ≤ n := by omega
        have hs0 : (0 : Int) ≤ sz := by omega
        have hcc : n ≤ c0 := hc0
        go_wp2
        refine ⟨⟨f, es ++ [e], M.drop sz, hE, by rw [List.length_drop, en.out]; omega, ?_, HO4, by rw [hlen, List.length_drop, en.out]; omega, K4, by rw [List.length_drop, en.out]; rfl⟩, by simp only [slen]; omega⟩
        have h9 := ToksAt.drop HT1.out sz z2 (if c0 = sz then some ⟨b, off, none⟩ else some ⟨b, off + sz * 7, none⟩) (fun hlt => if_neg (by have := en.out; omega))
        rw [en.out] at h9
        exact h9
    · have hM0 : M.length = 0 := by omega
      have hE : Hid (rdEs (L.length + 1) [] L = some es) := hr.out.trans (rdEs_end hM0)
      have hle : es.length ≤ L.length := by omega
      have HO : Hid (OwnE w.heap.size (.slice p4 es.length c4) es wr) := hO
      rw [hM0]
      clear ct hX0 hT hr hs hf hc0 hl hM hM0 hO
      obtain ⟨m, em⟩ : ∃ m : Nat, Hid (es.length = m) := ⟨_, rfl⟩
      rw [em.out] at HO ⊢
      go_wp2
      go_ret2
      exact RsOut.yes hB hE.out em.out.symm rfl HO.out hle

end Go.Proofs.YticmebamclacaaaGreatDoor

namespace Go.Proofs.YticmebamclacaaaGreatDoor
open Go.RowKit LX Go.Shelf
set_option linter.unusedVariables false

/-- The kind that a word names. -/
def koL (x : List UInt8) : Int := if x = [105, 110, 116] then 1 else if x = [114, 97, 116] then 2 else if x = [115, 116, 114] then 3 else 0
set_option maxHeartbeats 1000000 in
theorem kindof_any (x : List UInt8) (w : World) :
    Calls Tryz.prog 105 #[.string ⟨x.toArray⟩] w fun e w' => e = .returned (.int .i64 (koL x)) ∧ w' = w := by
  have c1 : Hid (∀ W : World, Calls Tryz.prog 30 #[.int .i64 1] W fun e w' => e = .returned (.string ⟨#[105, 110, 116]⟩) ∧ w' = W) := fun W => kword_any 1 W
  have c2 : Hid (∀ W : World, Calls Tryz.prog 30 #[.int .i64 2] W fun e w' => e = .returned (.string ⟨#[114, 97, 116]⟩) ∧ w' = W) := fun W => kword_any 2 W
  have c3 : Hid (∀ W : World, Calls Tryz.prog 30 #[.int .i64 3] W fun e w' => e = .returned (.string ⟨#[115, 116, 114]⟩) ∧ w' = W) := fun W => kword_any 3 W
  by_cases h1 : x = [105, 110, 116]
  · subst h1
    go_enter Tryz.func105, Tryz.ntmps105
    go_wp2
    refine wp_loop_rounds 1 ?_
    rw [rounds_succ]
    go_wp2_with fail
    refine (c1.out _).mono ?_
    rintro e w1 ⟨rfl, rfl⟩
    go_wp2
    go_ret
    exact ⟨rfl, rfl⟩
  have y1 : (([105, 110, 116] : List UInt8) == (⟨x.toArray⟩ : ByteArray).toList) = false := by rw [ByteArray.toList_eq]; simpa using fun h => h1 h.symm
  by_cases h2 : x = [114, 97, 116]
  · subst h2
    go_enter Tryz.func105, Tryz.ntmps105
    go_wp2
    refine wp_loop_rounds 2 ?_
    rw [rounds_succ]
    go_wp2_with fail
    refine (c1.out _).mono ?_
    rintro e w1 ⟨rfl, rfl⟩
    go_wp2
    rw [rounds_succ]
    go_wp2_with fail
    refine (c2.out _).mono ?_
    rintro e w1 ⟨rfl, rfl⟩
    go_wp2
    go_ret
    exact ⟨rfl, rfl⟩
  have y2 : (([114, 97, 116] : List UInt8) == (⟨x.toArray⟩ : ByteArray).toList) = false := by rw [ByteArray.toList_eq]; simpa using fun h => h2 h.symm
  by_cases h3 : x = [115, 116, 114]
  · subst h3
    go_enter Tryz.func105, Tryz.ntmps105
    go_wp2
    refine wp_loop_rounds 3 ?_
    rw [rounds_succ]
    go_wp2_with fail
    refine (c1.out _).mono ?_
    rintro e w1 ⟨rfl, rfl⟩
    go_wp2
    rw [rounds_succ]
    go_wp2_with fail
    refine (c2.out _).mono ?_
    rintro e w1 ⟨rfl, rfl⟩
    go_wp2
    rw [rounds_succ]
    go_wp2_with fail
    refine (c3.out _).mono ?_
    rintro e w1 ⟨rfl, rfl⟩
    go_wp2
    go_ret
    exact ⟨rfl, rfl⟩
  have y3 : (([115, 116, 114] : List UInt8) == (⟨x.toArray⟩ : ByteArray).toList) = false := by rw [ByteArray.toList_eq]; simpa using fun h => h3 h.symm
  have hz : Hid (koL x = 0) := by unfold Hid koL; rw [if_neg h1, if_neg h2, if_neg h3]
  rw [hz.out]
  generalize (⟨x.toArray⟩ : ByteArray) = X at y1 y2 y3 ⊢
  clear h1 h2 h3
  go_enter Tryz.func105, Tryz.ntmps105
  go_wp2
  refine wp_loop_rounds 4 ?_
  rw [rounds_succ]
  go_wp2_with fail
  refine (c1.out _).mono ?_
  rintro e w1 ⟨rfl, rfl⟩
  go_wp2
  rw [rounds_succ]
  go_wp2_with fail
  refine (c2.out _).mono ?_
  rintro e w1 ⟨rfl, rfl⟩
  go_wp2
  rw [rounds_succ]
  go_wp2_with fail
  refine (c3.out _).mono ?_
  rintro e w1 ⟨rfl, rfl⟩
  go_wp2
  rw [rounds_succ]
  go_wp2
  go_ret
  exact ⟨rfl, rfl⟩

/-- Kinds of the call's own. -/
def kcells (ks : List Int) : List Value := ks.map fun k => .int .i64 k
def OwnK (B : Nat) (v : Value) (ks : List Int) (w : World) : Prop := w.ownsRow B 3 1 v ks.length (kcells ks)
theorem OwnK.at {B : Nat} {v : Value} {ks : List Int} {w : World} (h : OwnK B v ks w) : KAt w v ks := by
  have h' : w.ownsRow B 3 1 v ks.length (kcells ks) := h
  obtain ⟨hl, ⟨e, hn⟩ | ⟨g, cap, cur, rfl, hg1, hg2, -⟩⟩ := h
  · exact ⟨none, 0, by rw [e, hn], Or.inl (List.length_eq_zero_iff.1 hn)⟩
  · refine ⟨_, _, rfl, Or.inr ⟨g, 0, rfl, (Array.getElem?_eq_some_iff.1 hg2).1, fun i hi => ?_⟩⟩
    rw [Nat.zero_add, h'.cellAt _ (by omega)]
    simp [kcells, hi]
theorem OwnK.form {B : Nat} {v : Value} {ks : List Int} {w : World} (h : OwnK B v ks w) : ∃ p n c, v = .slice p n c := by
  obtain ⟨-, ⟨e, hn⟩ | ⟨g, cap, cur, e, -⟩⟩ := h
  · exact ⟨_, _, _, e⟩
  · exact ⟨_, _, _, e⟩
theorem OwnK.len {B : Nat} {p : Option Addr} {n c : Nat} {ks : List Int} {w : World} (h : OwnK B (.slice p n c) ks w) : n = ks.length := by
  obtain ⟨-, ⟨e, hn⟩ | ⟨g, cap, cur, e, -⟩⟩ := h
  · injection e with _ e _; omega
  · injection e with _ e _
theorem inI : (Tryz.prog.info? 3).map (fun i => (i.zero, i.size, i.bytes)) = some (some (.int .i64 0), 1, 8) := by kernel_rfl

def rdK (acc : List Int) : List (Tok Val) → Option (List Int)
  | [] => some acc
  | t :: l => if koL t.x = 0 then none else rdK (acc ++ [koL t.x]) l
def rdD : List (Tok Val) → Option Dec
  | [] => none
  | t :: l => if nameL t.x = true then (rdK [] l).map (fun ks => ⟨⟨t.x.toArray⟩, ks⟩) else none
/-- What readDecl answers. -/
def DdOut (N : Nat) (w : World) (L : List (Tok Val)) (r : Ending) (w' : World) : Prop := Below N w w' ∧ ((rdD L = none ∧ r = .returned (.tuple #[.agg #[.string ⟨#[]⟩, .slice none 0 0], .iface 92 (.agg #[.int .i64 70])])) ∨
      (∃ d p c, rdD L = some d ∧ r = .returned (.tuple #[.agg #[.string d.name, .slice p d.kinds.length c], .nilIface]) ∧ OwnK (N + 2) (.slice p d.kinds.length c) d.kinds w'))
theorem DdOut.no {N : Nat} {w w' : World} {L : List (Tok Val)} {r : Ending} (hb : Below N w w') (h : rdD L = none) (hr : r = .returned (.tuple #[.agg #[.string ⟨#[]⟩, .slice none 0 0], .iface 92 (.agg #[.int .i64 70])])) : DdOut N w L r w' := ⟨hb, Or.inl ⟨h, hr⟩⟩
theorem DdOut.yes {N : Nat} {w w' : World} {L : List (Tok Val)} {r : Ending} {nm : ByteArray} {ks : List Int} {p : Option Addr} {m c : Nat} (hb : Below N w w') (h : rdD L = some ⟨nm, ks⟩) (ho : OwnK (N + 2) (.slice p m c) ks w') (hr : r = .returned (.tuple #[.agg #[.string nm, .slice p m c], .nilIface])) : DdOut N w L r w' := by
  have hm := ho.len
  subst hm
  exact ⟨hb, Or.inr ⟨⟨nm, ks⟩, p, c, h, hr, ho⟩⟩
/-- What stands behind one kind more. -/
theorem dk_step {w W W2 : World} {B ev n : Nat} {nm : ByteArray} {V v' : Value} {acc : List Int} {K : Int} {o : Obj} (hev : W.heap[ev]? = some (.cells #[.string nm, V] 40 (0, 0))) (hlt : ev < B) (hBW : B ≤ W.heap.size) (h0 : Below n w W) (hn : n ≤ ev)
    (hown : W.ownsRow B 3 1 V acc.length (kcells acc))
    (h2 : W2.ownsRow B 3 1 v' (acc.length + 1) (kcells acc ++ [.int .i64 K])) (h3 : (W.alloc o).grownBy W2 V.ownBlock) :
    ∃ p m c, v' = .slice p m c ∧ W2.cell? ⟨ev, 1, none⟩ = some V ∧ W2.frozen? ⟨ev, 1, none⟩ = false ∧
      (W2.setCell ⟨ev, 1, none⟩ v').heap[ev]? = some (.cells #[.string nm, v'] 40 (0, 0)) ∧ OwnK B v' (acc ++ [K]) (W2.setCell ⟨ev, 1, none⟩ v') ∧ Below n w (W2.setCell ⟨ev, 1, none⟩ v') ∧ B ≤ (W2.setCell ⟨ev, 1, none⟩ v').heap.size ∧ (∀ k, k < B → k ≠ ev → (W2.setCell ⟨ev, 1, none⟩ v').heap[k]? = W.heap[k]?) := by
  have hne : ∀ k, k < B → V.ownBlock ≠ some k := fun k hk e => by have := (World.ownsRow.lt hown k e).1; omega
  have keep : ∀ k, k < B → W2.heap[k]? = W.heap[k]? := fun k hk => by
    have e1 := h3.block k (by simp; omega) (fun e => hne k hk e.symm)
    rw [e1]
    show (W.heap.push _)[k]? = _
    rw [Array.getElem?_push, if_neg (by omega)]
  have hev2 : W2.heap[ev]? = some (.cells #[.string nm, V] 40 (0, 0)) := (keep ev hlt).trans hev
  obtain ⟨p, m, c, rfl⟩ : ∃ p m c, v' = .slice p m c := by
    obtain ⟨-, ⟨e, hn⟩ | ⟨g, cap, cur, e, -⟩⟩ := h2
    · exact ⟨_, _, _, e⟩
    · exact ⟨_, _, _, e⟩
  have hB2 : Below n w W2 := Below.grown (h0.alloc (by omega) _) h3 (by simp; omega) (fun q hq => by have := (World.ownsRow.lt hown q hq).1; omega)
  have hs2 : B ≤ W2.heap.size := Nat.le_trans hBW (Nat.le_trans (by simp) h3.size)
  have hg := grownBy_setX W2 ev 1 (.slice p m c)
  refine ⟨p, m, c, rfl, ?_, Lib.frozen_of_heap hev2 1, ?_, ?_, ?_, ?_, ?_⟩
  · rw [Lib.cell_of_heap hev2]; rfl
  · show (W2.heap.modify ev _)[ev]? = _
    rw [Array.getElem?_modify, if_pos rfl, hev2]
    rfl
  · unfold OwnK kcells
    rw [List.map_append, List.length_append]
    exact ownsRow_setCell_below h2 (a := ⟨ev, 1, none⟩) hlt _
  · exact hB2.grown hg (by omega) (fun q hq => by injection hq with hq; omega)
  · exact Nat.le_trans hs2 hg.size
  · intro k hk hke
    exact (hg.block k (by omega) (fun e => hke (by injection e))).trans (keep k hk)

set_option maxRecDepth 100000 in
set_option maxHeartbeats 2000000 in
theorem rddecl_any (V : Value) (t : Tok Val) (l : List (Tok Val)) (w : World) (hV : ToksAt w V (t :: l)) (lL : (t :: l).length ≤ 16384) :
    Calls Tryz.prog 77 #[V] w fun r w' => DdOut w.heap.size w (t :: l) r w' := by
  obtain ⟨p, c, rfl, hc, HX0⟩ := hV.form
  have HX : Hid (∀ i (hi : i < (t :: l).length), ∃ b off, p = some ⟨b, off, none⟩ ∧ b < w.heap.size ∧ TokC w b (off + i * 7) (t :: l)[i]) := HX0
  have hE : Hid (rdD (t :: l) = if nameL t.x = true then (rdK [] l).map (fun ks => ⟨⟨t.x.toArray⟩, ks⟩) else none) := rfl
  clear hV HX0
  obtain ⟨i0, hi, hz0, hz1, hz2⟩ := info_parts inI
  obtain ⟨b, off, rfl, hb, T0⟩ := HX.out 0 (by simp)
  have y0 := T0.2.2.1
  simp only [Nat.zero_mul, Nat.add_zero, List.getElem_cons_zero] at y0
  clear T0
  obtain ⟨n, en⟩ : ∃ n : Nat, Hid (l.length = n) := ⟨_, rfl⟩
  have hlen : (t :: l).length = n + 1 := by rw [List.length_cons, en.out]
  rw [hlen] at hc lL ⊢
  clear hlen
  have n0 : (0 : Int) < ((n + 1 : Nat) : Int) := by omega
  have n1 : (1 : Int) ≤ ((n + 1 : Nat) : Int) := by omega
  have cN : Hid (∀ W : World, Calls Tryz.prog 73 #[.string ⟨t.x.toArray⟩] W fun e' w' => e' = .returned (.bool (nameL t.x)) ∧ w' = W) := fun W => name_any ⟨t.x.toArray⟩ W
  cases hN : nameL t.x with
  | false =>
    have hE2 : Hid (rdD (t :: l) = none) := by have h := hE.out; rwa [if_neg (by rw [hN]; simp)] at h
    rw [hN] at cN
    generalize (⟨t.x.toArray⟩ : ByteArray) = X1 at y0 cN
    go_enter Tryz.func77, Tryz.ntmps77
    go_wp2_with fail
    refine (cN.out _).mono ?_
    rintro e' w1 ⟨rfl, rfl⟩
    go_wp2
    refine bodyPost_ret (by simp [results, Tryz.results77, go_sem]; try rfl) rfl ?_
    exact DdOut.no (by go_grown) hE2.out rfl
  | true =>
    have hE2 : Hid (rdD (t :: l) = (rdK [] l).map (fun ks => ⟨⟨t.x.toArray⟩, ks⟩)) := by have h := hE.out; rwa [if_pos hN] at h
    rw [hN] at cN
    generalize (⟨t.x.toArray⟩ : ByteArray) = X1 at y0 cN hE2
    clear hE hN
    by_cases hc1 : c = 1
    · subst hc1
      obtain rfl : n = 0 := by omega
      have HTK : Hid (∀ k (hk : k < l.length), TokC w b (off + k * 7) l[k]) := fun k hk => absurd hk (by have := en.out; omega)
      clear hc HTK
      have hE3 : Hid (rdD (t :: l) = some ⟨X1, []⟩) := by
        have h0 : l = [] := List.length_eq_zero_iff.1 en.out
        have h := hE2.out
        rw [h0] at h ⊢
        exact h
      go_enter Tryz.func77, Tryz.ntmps77
      go_wp2_with fail
      refine (cN.out _).mono ?_
      rintro e' w1 ⟨rfl, rfl⟩
      clear cN
      go_wp2
      refine wpX_world ?_
      intro W1 hW1
      have e0 : W1.cell? ⟨w.heap.size + 1, 0, none⟩ = some (.string X1) := by rw [hW1]; simp [go_sem]
      have e1 : W1.cell? ⟨w.heap.size + 1, 1, none⟩ = some (.slice none 0 0) := by rw [hW1]; simp [go_sem]
      have q0 : W1.cell? ⟨w.heap.size, 0, none⟩ = some (.string ⟨#[]⟩) := by rw [hW1]; simp [go_sem]
      have q1 : W1.cell? ⟨w.heap.size, 1, none⟩ = some (.slice none 0 0) := by rw [hW1]; simp [go_sem]
      have f0 : W1.frozen? ⟨w.heap.size, 0, none⟩ = false := by rw [hW1]; simp [go_sem]
      have f1 : W1.frozen? ⟨w.heap.size, 1, none⟩ = false := by rw [hW1]; simp [go_sem]
      have hB : Below w.heap.size w W1 := by rw [hW1]; go_grown
      clear hW1
      have g0 : ((W1.setCell ⟨w.heap.size, 0, none⟩ (.string X1)).setCell ⟨w.heap.size, 1, none⟩ (.slice none 0 0)).cell? ⟨w.heap.size, 0, none⟩ = some (.string X1) := by simp (maxDischargeDepth := 8) [go_sem, q0]
      have g1 : ((W1.setCell ⟨w.heap.size, 0, none⟩ (.string X1)).setCell ⟨w.heap.size, 1, none⟩ (.slice none 0 0)).cell? ⟨w.heap.size, 1, none⟩ = some (.slice none 0 0) := by simp (maxDischargeDepth := 8) [go_sem, q1]
      have K9 : Below w.heap.size w ((W1.setCell ⟨w.heap.size, 0, none⟩ (.string X1)).setCell ⟨w.heap.size, 1, none⟩ (.slice none 0 0)) := (hB.setCell (p := ⟨w.heap.size, 0, none⟩) (Nat.le_refl _) _).setCell (p := ⟨w.heap.size, 1, none⟩) (Nat.le_refl _) _
      refine wp_loop_rounds 1 ?_
      rw [rounds_succ]
      go_wp2
      generalize (W1.setCell ⟨w.heap.size, 0, none⟩ (.string X1)).setCell ⟨w.heap.size, 1, none⟩ (.slice none 0 0) = W9 at g0 g1 K9 ⊢
      refine bodyPost_ret (by simp [results, Tryz.results77, go_sem, g0, g1]; try rfl) rfl ?_
      exact DdOut.yes K9 hE3.out ⟨rfl, .inl ⟨rfl, rfl⟩⟩ rfl
    · have HTK : Hid (∀ k (hk : k < l.length), TokC w b (off + 7 + k * 7) l[k]) := fun k hk => by
        obtain ⟨b', off', q, -, h⟩ := HX.out (k + 1) (by simp; omega)
        injection q with q
        injection q with qa qb qc
        subst qa qb
        rw [List.getElem_cons_succ] at h
        rw [show off + 7 + k * 7 = off + (k + 1) * 7 by omega]
        exact h
      go_enter Tryz.func77, Tryz.ntmps77
      go_wp2_with fail
      refine (cN.out _).mono ?_
      rintro e' w1 ⟨rfl, rfl⟩
      clear cN
      go_wp2
      go_loopw [23] (fun i wr => ∃ (k : Nat) (acc : List Int) (V : Value), k ≤ n ∧ acc.length = k ∧ i = .int .i64 k ∧ Hid (rdK [] l = rdK acc (l.drop k)) ∧ Hid (wr.heap[w.heap.size + 1]? = some (.cells #[.string X1, V] 40 (0, 0))) ∧ Hid (wr.heap[w.heap.size]? = some (.cells #[.string ⟨#[]⟩, .slice none 0 0] 40 (0, 0))) ∧ Hid (OwnK (w.heap.size + 2) V acc wr) ∧ Below w.heap.size w wr ∧ w.heap.size + 2 ≤ wr.heap.size) (fun i _ => n - (intOf i).toNat)
      case atStart =>
        refine ⟨0, [], .slice none 0 0, Nat.zero_le _, rfl, rfl, (show rdK [] l = rdK [] l from rfl), ?_, ?_, ?_, by go_grown, by simp⟩
        · unfold Hid
          show ((w.heap.push _).push _)[w.heap.size + 1]? = _
          rw [Array.getElem?_push, if_pos (by simp)]
        · unfold Hid
          show ((w.heap.push _).push _)[w.heap.size]? = _
          rw [Array.getElem?_push, if_neg (by simp), Array.getElem?_push, if_pos rfl]
        · exact ⟨rfl, .inl ⟨rfl, rfl⟩⟩
      case round =>
        obtain ⟨k, acc, V, hk, hac0, rfl, hr, hev, hres, hown, hB, hsz⟩ := hrel
        have HAC : Hid (acc.length = k) := hac0
        clear hac0
        have e0 : wr.cell? ⟨w.heap.size + 1, 0, none⟩ = some (.string X1) := by rw [Lib.cell_of_heap hev.out]; rfl
        have e1 : wr.cell? ⟨w.heap.size + 1, 1, none⟩ = some V := by rw [Lib.cell_of_heap hev.out]; rfl
        have q0 : wr.cell? ⟨w.heap.size, 0, none⟩ = some (.string ⟨#[]⟩) := by rw [Lib.cell_of_heap hres.out]; rfl
        have q1 : wr.cell? ⟨w.heap.size, 1, none⟩ = some (.slice none 0 0) := by rw [Lib.cell_of_heap hres.out]; rfl
        have f0 : wr.frozen? ⟨w.heap.size, 0, none⟩ = false := Lib.frozen_of_heap hres.out 0
        have f1 : wr.frozen? ⟨w.heap.size, 1, none⟩ = false := Lib.frozen_of_heap hres.out 1
        have hz9 : w.heap.size + 1 < wr.heap.size := by omega
        have hz8 : w.heap.size < wr.heap.size := by omega
        obtain ⟨pV, nV, cV, rfl⟩ := hown.out.form
        by_cases hlt : k < n
        · have kx : k < l.length := by have := en.out; omega
          have TK2 := (HTK.out k kx).below hB hb
          have hr2 : Hid (rdK [] l = if koL l[k].x = 0 then none else rdK (acc ++ [koL l[k].x]) (l.drop (k + 1))) := by
            have h := hr.out
            rw [List.drop_eq_getElem_cons kx] at h
            exact h
          have cK : Hid (∀ W : World, Calls Tryz.prog 105 #[.string ⟨l[k].x.toArray⟩] W fun e w' => e = .returned (.int .i64 (koL l[k].x)) ∧ w' = W) := fun W => kindof_any _ W
          clear hr
          generalize l[k] = u at TK2 hr2 cK
          obtain ⟨a0, a1, a2, a3, a4, a5, a6⟩ := TK2
          generalize (⟨u.x.toArray⟩ : ByteArray) = XT at a2 cK
          generalize koL u.x = K at cK hr2
          have hlt' : (k : Int) < n := by omega
          by_cases hK : K = 0
          · have hr3 : Hid (rdK [] l = none) := by have h := hr2.out; rwa [if_pos hK] at h
            have hE3 : Hid (rdD (t :: l) = none) := by have h := hE2.out; rw [hr3.out] at h; exact h
            subst hK
            clear hr2
            go_wp2_with fail
            refine (cK.out _).mono ?_
            rintro e' w2 ⟨rfl, rfl⟩
            clear cK
            dsimp only
            have hA : Below wr.heap.size wr (wr.alloc (.cells #[.int .i64 u.k, .int .i64 u.at_, .string XT, .int .i64 u.v.k, .int .i64 u.v.n, .int .i64 u.v.d, .string u.v.s] 109)) := by go_grown
            have hzA : wr.heap.size < (wr.alloc (.cells #[.int .i64 u.k, .int .i64 u.at_, .string XT, .int .i64 u.v.k, .int .i64 u.v.n, .int .i64 u.v.d, .string u.v.s] 109)).heap.size := by simp
            generalize wr.alloc (.cells #[.int .i64 u.k, .int .i64 u.at_, .string XT, .int .i64 u.v.k, .int .i64 u.v.n, .int .i64 u.v.d, .string u.v.s] 109) = W0 at hA hzA ⊢
            have HEV : Hid (W0.heap[w.heap.size + 1]? = some (.cells #[.string X1, .slice pV nV cV] 40 (0, 0))) := (hA.block _ hz9).trans hev.out
            have HRS : Hid (W0.heap[w.heap.size]? = some (.cells #[.string ⟨#[]⟩, .slice none 0 0] 40 (0, 0))) := (hA.block _ hz8).trans hres.out
            have HOW : Hid (W0.ownsRow (w.heap.size + 2) 3 1 (.slice pV nV cV) acc.length (kcells acc)) := own_belX hown.out hA
            have E1 : W0.cell? ⟨w.heap.size + 1, 1, none⟩ = some (.slice pV nV cV) := by rw [Lib.cell_of_heap HEV.out]; rfl
            have Q0 : W0.cell? ⟨w.heap.size, 0, none⟩ = some (.string ⟨#[]⟩) := by rw [Lib.cell_of_heap HRS.out]; rfl
            have Q1 : W0.cell? ⟨w.heap.size, 1, none⟩ = some (.slice none 0 0) := by rw [Lib.cell_of_heap HRS.out]; rfl
            have F0 : W0.frozen? ⟨w.heap.size, 0, none⟩ = false := Lib.frozen_of_heap HRS.out 0
            have F1 : W0.frozen? ⟨w.heap.size, 1, none⟩ = false := Lib.frozen_of_heap HRS.out 1
            have KB : Below w.heap.size w W0 := hB.trans (hA.mono hB.size)
            have KZ : w.heap.size + 2 ≤ W0.heap.size := by omega
            clear e0 e1 q0 q1 f0 f1
            have g0 : ((W0.setCell ⟨w.heap.size, 0, none⟩ (.string ⟨#[]⟩)).setCell ⟨w.heap.size, 1, none⟩ (.slice none 0 0)).cell? ⟨w.heap.size, 0, none⟩ = some (.string ⟨#[]⟩) := by simp (maxDischargeDepth := 8) [go_sem, Q0]
            have g1 : ((W0.setCell ⟨w.heap.size, 0, none⟩ (.string ⟨#[]⟩)).setCell ⟨w.heap.size, 1, none⟩ (.slice none 0 0)).cell? ⟨w.heap.size, 1, none⟩ = some (.slice none 0 0) := by simp (maxDischargeDepth := 8) [go_sem, Q1]
            have K9 : Below w.heap.size w ((W0.setCell ⟨w.heap.size, 0, none⟩ (.string ⟨#[]⟩)).setCell ⟨w.heap.size, 1, none⟩ (.slice none 0 0)) := (KB.setCell (p := ⟨w.heap.size, 0, none⟩) (Nat.le_refl _) _).setCell (p := ⟨w.heap.size, 1, none⟩) (Nat.le_refl _) _
            go_wp2
            generalize (W0.setCell ⟨w.heap.size, 0, none⟩ (.string ⟨#[]⟩)).setCell ⟨w.heap.size, 1, none⟩ (.slice none 0 0) = W9 at g0 g1 K9 ⊢
            refine bodyPost_ret (by simp [results, Tryz.results77, go_sem, g0, g1]; try rfl) rfl ?_
            exact DdOut.no K9 hE3.out rfl
          · have hr3 : Hid (rdK [] l = rdK (acc ++ [K]) (l.drop (k + 1))) := by have h := hr2.out; rwa [if_neg hK] at h
            have hK' : (K == 0) = false := by simpa using hK
            clear hr2
            go_wp2_with fail
            refine (cK.out _).mono ?_
            rintro e' w2 ⟨rfl, rfl⟩
            clear cK a0 a1 a2 a3 a4 a5 a6
            dsimp only
            have hA : Below wr.heap.size wr (wr.alloc (.cells #[.int .i64 u.k, .int .i64 u.at_, .string XT, .int .i64 u.v.k, .int .i64 u.v.n, .int .i64 u.v.d, .string u.v.s] 109)) := by go_grown
            have hzA : wr.heap.size < (wr.alloc (.cells #[.int .i64 u.k, .int .i64 u.at_, .string XT, .int .i64 u.v.k, .int .i64 u.v.n, .int .i64 u.v.d, .string u.v.s] 109)).heap.size := by simp
            generalize wr.alloc (.cells #[.int .i64 u.k, .int .i64 u.at_, .string XT, .int .i64 u.v.k, .int .i64 u.v.n, .int .i64 u.v.d, .string u.v.s] 109) = W0 at hA hzA ⊢
            have HEV : Hid (W0.heap[w.heap.size + 1]? = some (.cells #[.string X1, .slice pV nV cV] 40 (0, 0))) := (hA.block _ hz9).trans hev.out
            have HRS : Hid (W0.heap[w.heap.size]? = some (.cells #[.string ⟨#[]⟩, .slice none 0 0] 40 (0, 0))) := (hA.block _ hz8).trans hres.out
            have HOW : Hid (W0.ownsRow (w.heap.size + 2) 3 1 (.slice pV nV cV) acc.length (kcells acc)) := own_belX hown.out hA
            have E1 : W0.cell? ⟨w.heap.size + 1, 1, none⟩ = some (.slice pV nV cV) := by rw [Lib.cell_of_heap HEV.out]; rfl
            have Q0 : W0.cell? ⟨w.heap.size, 0, none⟩ = some (.string ⟨#[]⟩) := by rw [Lib.cell_of_heap HRS.out]; rfl
            have Q1 : W0.cell? ⟨w.heap.size, 1, none⟩ = some (.slice none 0 0) := by rw [Lib.cell_of_heap HRS.out]; rfl
            have F0 : W0.frozen? ⟨w.heap.size, 0, none⟩ = false := Lib.frozen_of_heap HRS.out 0
            have F1 : W0.frozen? ⟨w.heap.size, 1, none⟩ = false := Lib.frozen_of_heap HRS.out 1
            have KB : Below w.heap.size w W0 := hB.trans (hA.mono hB.size)
            have KZ : w.heap.size + 2 ≤ W0.heap.size := by omega
            clear e0 e1 q0 q1 f0 f1
            have hkb : acc.length ≤ 16384 := by have := HAC.out; omega
            go_wp2_with (at_builtin; refine wpList_append_own _ rfl _ _ 38 rfl (w.heap.size + 2) 3 i0 (.int .i64 0) 1 8 Tryz.underlying38 hi hz0 hz1 hz2 rfl (by decide) _ _ _ rfl (World.ownsRow.alloc HOW.out _) ⟨W0.heap.size, 0, none⟩ 1 1 [.int .i64 K] rfl rfl ?c1 ?c2 ?c3 ?c4 ?c5 ?_)
            case c1 => (intro j z hj; rw [Addr.add_lit]; (rcases j with _ | j) <;> simp at hj; subst hj; simp (maxDischargeDepth := 12) [go_sem])
            case c2 => (intro z hz; simp at hz; subst hz; rfl)
            case c3 => unfold maxLen; omega
            case c4 => omega
            case c5 => simp; omega
            intro v' w4 hown' hgrow _
            obtain ⟨pv2, mv2, cv2, rfl, z1, z2, z3, z4, z5, z6, z7⟩ := dk_step (w := w) (n := w.heap.size) (ev := w.heap.size + 1) (K := K) HEV.out (by omega) KZ KB (by omega) HOW.out hown' hgrow
            have Z3 : Hid ((w4.setCell ⟨w.heap.size + 1, 1, none⟩ (.slice pv2 mv2 cv2)).heap[w.heap.size + 1]? = some (.cells #[.string X1, .slice pv2 mv2 cv2] 40 (0, 0))) := z3
            have Z4 : Hid (OwnK (w.heap.size + 2) (.slice pv2 mv2 cv2) (acc ++ [K]) (w4.setCell ⟨w.heap.size + 1, 1, none⟩ (.slice pv2 mv2 cv2))) := z4
            have Z7 : Hid ((w4.setCell ⟨w.heap.size + 1, 1, none⟩ (.slice pv2 mv2 cv2)).heap[w.heap.size]? = some (.cells #[.string ⟨#[]⟩, .slice none 0 0] 40 (0, 0))) := (z7 w.heap.size (by omega) (by omega)).trans HRS.out
            have hl9 : (acc ++ [K]).length = k + 1 := by rw [List.length_append, HAC.out]; rfl
            have HL9 : Hid ((acc ++ [K]).length = k + 1) := hl9
            clear hown' hgrow z3 z4 z7 HEV HRS HOW hl9 hkb
            go_wp2
            exact ⟨⟨k + 1, acc ++ [K], .slice pv2 mv2 cv2, by omega, HL9.out, by go_num, hr3, Z3, Z7, Z4, z5, z6⟩, by simp [intOf]; omega⟩
        · have c2 : ¬ (k : Int) < n := by omega
          have hr3 : Hid (rdK [] l = some acc) := by
            have h := hr.out
            rw [List.drop_eq_nil_of_le (by have := en.out; omega)] at h
            exact h
          have hE3 : Hid (rdD (t :: l) = some ⟨X1, acc⟩) := by have h := hE2.out; rw [hr3.out] at h; exact h
          have g0 : ((wr.setCell ⟨w.heap.size, 0, none⟩ (.string X1)).setCell ⟨w.heap.size, 1, none⟩ (.slice pV nV cV)).cell? ⟨w.heap.size, 0, none⟩ = some (.string X1) := by simp (maxDischargeDepth := 8) [go_sem, q0]
          have g1 : ((wr.setCell ⟨w.heap.size, 0, none⟩ (.string X1)).setCell ⟨w.heap.size, 1, none⟩ (.slice pV nV cV)).cell? ⟨w.heap.size, 1, none⟩ = some (.slice pV nV cV) := by simp (maxDischargeDepth := 8) [go_sem, q1]
          have K9 : Below w.heap.size w ((wr.setCell ⟨w.heap.size, 0, none⟩ (.string X1)).setCell ⟨w.heap.size, 1, none⟩ (.slice pV nV cV)) := (hB.setCell (p := ⟨w.heap.size, 0, none⟩) (Nat.le_refl _) _).setCell (p := ⟨w.heap.size, 1, none⟩) (Nat.le_refl _) _
          have O9 : Hid (OwnK (w.heap.size + 2) (.slice pV nV cV) acc ((wr.setCell ⟨w.heap.size, 0, none⟩ (.string X1)).setCell ⟨w.heap.size, 1, none⟩ (.slice pV nV cV))) := ownsRow_setCell_below (ownsRow_setCell_below hown.out (a := ⟨w.heap.size, 0, none⟩) (by simp) _) (a := ⟨w.heap.size, 1, none⟩) (by simp) _
          go_wp2
          generalize (wr.setCell ⟨w.heap.size, 0, none⟩ (.string X1)).setCell ⟨w.heap.size, 1, none⟩ (.slice pV nV cV) = W9 at g0 g1 K9 O9 ⊢
          refine bodyPost_ret (by simp [results, Tryz.results77, go_sem, g0, g1]; try rfl) rfl ?_
          exact DdOut.yes K9 hE3.out O9.out rfl

end Go.Proofs.YticmebamclacaaaGreatDoor

namespace Go.Proofs.YticmebamclacaaaGreatDoor
open Go.RowKit LX Go.Shelf
set_option linter.unusedVariables false

/-- The cells of declarations of the call's own. -/
def DcC (B : Nat) (w : World) : List Dec → List Value → Prop
  | [], [] => True
  | e :: es, a :: b :: zs => a = .string e.name ∧ OwnK B b e.kinds w ∧ DcC B w es zs
  | _, _ => False
theorem DcC.snoc {B : Nat} {w : World} {es : List Dec} {zs : List Value} {e : Dec} {b : Value} (h : DcC B w es zs) (hb : OwnK B b e.kinds w) : DcC B w (es ++ [e]) (zs ++ [.string e.name, b]) := by
  induction es generalizing zs with
  | nil =>
    match zs, h with
    | [], _ => exact ⟨rfl, hb, trivial⟩
  | cons x es ih =>
    match zs, h with
    | a :: b' :: zs, h => exact ⟨h.1, h.2.1, ih h.2.2⟩
theorem DcC.mono {B : Nat} {w w' : World} (k : ∀ b xs, OwnK B b xs w → OwnK B b xs w') {es : List Dec} {zs : List Value} (h : DcC B w es zs) : DcC B w' es zs := by
  induction es generalizing zs with
  | nil =>
    match zs, h with
    | [], _ => trivial
  | cons x es ih =>
    match zs, h with
    | a :: b' :: zs, h => exact ⟨h.1, k _ _ h.2.1, ih h.2.2⟩
theorem DcC.get {B : Nat} {w : World} {es : List Dec} {zs : List Value} (h : DcC B w es zs) (i : Nat) (hi : i < es.length) : zs[i * 2]? = some (.string es[i].name) ∧ ∃ u, zs[i * 2 + 1]? = some u ∧ OwnK B u es[i].kinds w := by
  induction es generalizing zs i with
  | nil => simp at hi
  | cons x es ih =>
    match zs, h with
    | a :: b' :: zs, h =>
      cases i with
      | zero => exact ⟨by rw [h.1]; rfl, b', rfl, h.2.1⟩
      | succ i =>
        have g := ih h.2.2 i (by simpa using hi)
        rw [show (i + 1) * 2 = i * 2 + 2 by omega]
        exact g
theorem DcC.len {B : Nat} {w : World} {es : List Dec} {zs : List Value} (h : DcC B w es zs) : zs.length = es.length * 2 := by
  induction es generalizing zs with
  | nil =>
    match zs, h with
    | [], _ => rfl
  | cons x es ih =>
    match zs, h with
    | a :: b' :: zs, h => simp only [List.length_cons, ih h.2.2]; omega
/-- Declarations of the call's own. -/
def OwnG (B : Nat) (v : Value) (es : List Dec) (w : World) : Prop := ∃ zs, w.ownsRow B 40 2 v es.length zs ∧ DcC B w es zs
theorem OwnG.form {B : Nat} {v : Value} {es : List Dec} {w : World} (h : OwnG B v es w) : ∃ p c, v = .slice p es.length c := by
  obtain ⟨zs, ⟨-, ⟨e, hn⟩ | ⟨g, cap, cur, e, -⟩⟩, -⟩ := h
  · exact ⟨none, 0, by rw [e, hn]⟩
  · exact ⟨_, _, e⟩
theorem OwnG.at {B : Nat} {v : Value} {es : List Dec} {w : World} (h : OwnG B v es w) : SigAt w v es := by
  obtain ⟨zs, h, hc⟩ := h
  have h' := h
  obtain ⟨hl, ⟨e, hn⟩ | ⟨g, cap, cur, rfl, hg1, hg2, hg3, hg4⟩⟩ := h
  · exact ⟨none, 0, by rw [e, hn], by omega, Or.inl (List.length_eq_zero_iff.1 hn)⟩
  · refine ⟨_, _, rfl, by omega, Or.inr ⟨g, 0, rfl, (Array.getElem?_eq_some_iff.1 hg2).1, fun i hi => ?_⟩⟩
    obtain ⟨c0, u, c1, ho⟩ := hc.get i hi
    refine ⟨u, ?_, ?_, ho.at⟩
    · rw [Nat.zero_add, h'.cellAt _ (by omega)]; exact c0
    · rw [Nat.zero_add, h'.cellAt _ (by omega)]; exact c1
theorem OwnG.below {B : Nat} {v : Value} {es : List Dec} {w w' : World} (h : OwnG B v es w) (hb : Below w.heap.size w w') : OwnG B v es w' := by
  obtain ⟨zs, h, hc⟩ := h
  exact ⟨zs, own_belX h hb, hc.mono fun b xs k => own_belX k hb⟩

/-- One declaration more. -/
theorem sig_step {w2 w4 : World} {B : Nat} {v v' u : Value} {es : List Dec} {e : Dec} {zs : List Value} (h2 : B ≤ w2.heap.size) (ho : w2.ownsRow B 40 2 v es.length zs) (hc : DcC B w2 es zs) (hu : OwnK B u e.kinds w2)
    (h4 : w4.ownsRow B 40 2 v' (es.length + 1) (zs ++ [.string e.name, u])) (hg : w2.grownBy w4 v.ownBlock) : OwnG B v' (es ++ [e]) w4 := by
  refine ⟨zs ++ [.string e.name, u], by rw [List.length_append]; exact h4, ?_⟩
  have k : ∀ b xs, OwnK B b xs w2 → OwnK B b xs w4 := fun b xs hb => World.ownsRow.kept hb hg (own_ne2X hb ho (by decide))
  exact (hc.mono k).snoc (k _ _ hu)


theorem inD : (Tryz.prog.info? 40).map (fun i => (i.zero, i.size, i.bytes)) = some (some (.agg #[.string ⟨#[]⟩, .slice none 0 0]), 2, 40) := by kernel_rfl
/-- A signature, and a line's tokens: an error's number, or the declaration more. -/
def wdD (A : List Dec) : Option Dec → Int × List Dec
  | none => (70, [])
  | some d => if 6 < d.kinds.length ∨ A.length = 32 then (3, []) else if 0 ≤ findI d.name A 0 then (1, []) else (0, A ++ [d])
/-- What withDecl answers. -/
def WdOut (B : Nat) (w : World) (D : Int × List Dec) (r : Ending) (w' : World) : Prop := Below B w w' ∧ ∃ p c, r = .returned (.tuple #[.slice p D.2.length c, errV D.1]) ∧ OwnG B (.slice p D.2.length c) D.2 w'
theorem WdOut.no {B : Nat} {w w' : World} {D : Int × List Dec} {r : Ending} {E : Int} {v : Value} (hb : Below B w w') (h : D = (E, [])) (hv : v = errV E) (hr : r = .returned (.tuple #[.slice none 0 0, v])) : WdOut B w D r w' := by
  subst h hv
  exact ⟨hb, none, 0, hr, [], ⟨rfl, .inl ⟨rfl, rfl⟩⟩, trivial⟩
theorem WdOut.yes {B : Nat} {w w' : World} {D : Int × List Dec} {r : Ending} {es : List Dec} {p : Option Addr} {m c : Nat} (hb : Below B w w') (h : D = (0, es)) (hm : m = es.length) (ho : OwnG B (.slice p m c) es w') (hr : r = .returned (.tuple #[.slice p m c, .nilIface])) : WdOut B w D r w' := by
  subst h hm
  exact ⟨hb, p, c, hr, ho⟩

set_option maxRecDepth 100000 in
set_option maxHeartbeats 2000000 in
theorem wdecl_any (B : Nat) (A V : Value) (L : List Dec) (t : Tok Val) (l : List (Tok Val)) (w : World) (hB : B ≤ w.heap.size) (hA : OwnG B A L w) (hV : ToksAt w V (t :: l)) (lL : (t :: l).length ≤ 16384) (lA : L.length ≤ 32) :
    Calls Tryz.prog 56 #[A, V] w fun r w' => WdOut B w (wdD L (rdD (t :: l))) r w' := by
  have HA : Hid (OwnG B A L w) := hA
  have cR : Hid (Calls Tryz.prog 77 #[V] w fun r w' => DdOut w.heap.size w (t :: l) r w') := rddecl_any V t l w hV lL
  obtain ⟨i0, hi, hz0, hz1, hz2⟩ := info_parts inD
  obtain ⟨pa, ca, rfl⟩ := hA.form
  obtain ⟨pt, ct, rfl, -⟩ := hV.form
  clear hA hV lL
  generalize hO : rdD (t :: l) = O
  have HO : Hid (rdD (t :: l) = O) := hO
  clear hO
  obtain ⟨D, eD⟩ : ∃ D, Hid (wdD L O = D) := ⟨_, rfl⟩
  obtain ⟨m, em⟩ : ∃ m : Nat, Hid (L.length = m) := ⟨_, rfl⟩
  generalize (t :: l).length = nt at *
  rw [eD.out]
  rw [em.out] at HA lA ⊢
  go_enter Tryz.func56, Tryz.ntmps56
  go_wp2_with fail
  refine cR.out.mono ?_
  rintro r w1 ⟨hB1, ⟨hn, rfl⟩ | ⟨d, p, c, hsome, rfl, hown⟩⟩
  · have hE : Hid (D = (70, [])) := by rw [← eD.out, ← HO.out, hn]; rfl
    have K1 : Below B w w1 := hB1.mono hB
    clear cR hn HO eD
    go_wp2
    go_ret2
    exact WdOut.no (K1.alloc (Nat.le_trans hB hB1.size) _) hE.out rfl rfl
  · have hE0 : Hid (D = if 6 < d.kinds.length ∨ L.length = 32 then (3, []) else if 0 ≤ findI d.name L 0 then (1, []) else (0, L ++ [d])) := by rw [← eD.out, ← HO.out, hsome]; rfl
    have HA1 : Hid (OwnG B (.slice pa m ca) L w1) := HA.out.below hB1
    have HK1 : Hid (OwnK B (.slice p d.kinds.length c) d.kinds w1) := own_baseX hown (by omega)
    have K1 : Below B w w1 := hB1.mono hB
    have z1 : B ≤ w1.heap.size := Nat.le_trans hB hB1.size
    have cF : Hid (∀ W : World, Below w1.heap.size w1 W → Calls Tryz.prog 70 #[.slice pa m ca, .string d.name] W fun e' w' => e' = .returned (.int .i64 (findI d.name L 0)) ∧ Below W.heap.size W w') := fun W hW => find_any _ L d.name W (HA1.out.at.below hW) (by have := em.out; omega)
    clear cR hsome HO eD hown HA hB1
    obtain ⟨nk, enk⟩ : ∃ nk : Nat, Hid (d.kinds.length = nk) := ⟨_, rfl⟩
    obtain ⟨X, eX⟩ : ∃ X : ByteArray, Hid (d.name = X) := ⟨_, rfl⟩
    obtain ⟨I, eI⟩ : ∃ I : Int, Hid (findI X L 0 = I) := ⟨_, rfl⟩
    rw [enk.out, em.out, eX.out, eI.out] at hE0
    rw [eX.out, eI.out] at cF
    rw [enk.out] at HK1
    rw [enk.out, eX.out]
    by_cases h6 : 6 < nk
    · have hE : Hid (D = (3, [])) := by have h := hE0.out; rwa [if_pos (Or.inl h6)] at h
      have h6' : (6 : Int) < nk := by omega
      clear hE0 cF
      go_wp2
      go_ret2
      exact WdOut.no (K1.alloc z1 _) hE.out rfl rfl
    · have h6' : ¬ (6 : Int) < nk := by omega
      by_cases h32 : m = 32
      · have hE : Hid (D = (3, [])) := by have h := hE0.out; rwa [if_pos (Or.inr h32)] at h
        subst h32
        clear hE0 cF
        go_wp2
        go_ret2
        exact WdOut.no (K1.alloc z1 _) hE.out rfl rfl
      · have hE1 : Hid (D = if 0 ≤ I then (1, []) else (0, L ++ [d])) := by have h := hE0.out; rwa [if_neg (by omega)] at h
        have h32' : ((m : Int) == 32) = false := by simp; omega
        clear hE0
        go_wp2_with fail
        refine (cF.out _ (by go_grown)).mono ?_
        rintro e' w2 ⟨rfl, hb2⟩
        have d0 : w2.cell? ⟨w1.heap.size, 0, none⟩ = some (.string X) := (hb2.cell (p := ⟨w1.heap.size, 0, none⟩) (by simp)).trans (by simp [go_sem])
        have d1 : w2.cell? ⟨w1.heap.size, 1, none⟩ = some (.slice p nk c) := (hb2.cell (p := ⟨w1.heap.size, 1, none⟩) (by simp)).trans (by simp [go_sem])
        obtain ⟨hB2, -⟩ := bgX (n := w1.heap.size) (W0 := w1) (by go_grown) (by go_size) hb2
        have K2 : Below B w w2 := K1.trans (hB2.mono z1)
        have z2 : B ≤ w2.heap.size := Nat.le_trans z1 hB2.size
        have HA2 : Hid (OwnG B (.slice pa m ca) L w2) := HA1.out.below hB2
        have HK2 : Hid (OwnK B (.slice p nk c) d.kinds w2) := own_belX HK1.out hB2
        clear hb2 hB2 cF HA1 HK1
        by_cases hI : 0 ≤ I
        · have hE : Hid (D = (1, [])) := by have h := hE1.out; rwa [if_pos hI] at h
          clear hE1
          go_wp2
          go_ret2
          exact WdOut.no K2 hE.out rfl rfl
        · have hE : Hid (D = (0, L ++ [d])) := by have h := hE1.out; rwa [if_neg hI] at h
          have hI' : I < 0 := by omega
          clear hE1
          obtain ⟨zs, ho, hcc⟩ := HA2.out
          have HC2 : Hid (w2.ownsRow B 40 2 (.slice pa m ca) m zs) := by have h := ho; rwa [em.out] at h
          have HCC : Hid (DcC B w2 L zs) := hcc
          clear ho hcc HA2
          go_wp2_with (at_builtin; refine wpList_append_own _ rfl _ _ 28 rfl B 40 i0 (.agg #[.string ⟨#[]⟩, .slice none 0 0]) 2 40 Tryz.underlying28 hi hz0 hz1 hz2 rfl (by decide) _ _ _ rfl (World.ownsRow.alloc HC2.out _) ⟨w2.heap.size, 0, none⟩ 1 1 [.string X, .slice p nk c] rfl rfl ?c1 ?c2 ?c3 ?c4 ?c5 ?_)
          case c1 => (intro j u hj; rw [Addr.add_lit]; (rcases j with _ | _ | j) <;> simp at hj <;> subst hj <;> simp (maxDischargeDepth := 12) [go_sem])
          case c2 => (intro u hu; simp at hu; rcases hu with rfl | rfl <;> rfl)
          case c3 => unfold maxLen; omega
          case c4 => omega
          case c5 => simp; omega
          intro v' w4 hown' hgrow _
          have hA1 : Below B w (w2.alloc (.cells #[.string X, .slice p nk c] 40)) := K2.alloc z2 _
          have K4 : Below B w w4 := Below.grown hA1 hgrow (by simp; omega) (fun q hq => (World.ownsRow.lt HC2.out q hq).1)
          have HO4 : Hid (OwnG B v' (L ++ [d]) w4) := by
            refine sig_step (zs := zs) (u := .slice p nk c) (by simp; omega) (World.ownsRow.alloc (by rw [em.out]; exact HC2.out) _) (HCC.out.mono fun b xs k => World.ownsRow.alloc k _) (World.ownsRow.alloc HK2.out _) ?_ hgrow
            rw [em.out, eX.out]
            exact hown'
          clear hown' hgrow hA1 HC2 HCC HK2
          obtain ⟨pv, cv, rfl⟩ := HO4.out.form
          obtain ⟨n9, en9⟩ : ∃ n9 : Nat, Hid ((L ++ [d]).length = n9) := ⟨_, rfl⟩
          rw [en9.out] at HO4 ⊢
          go_wp2
          go_ret2
          exact WdOut.yes K4 hE.out en9.out.symm HO4.out rfl

end Go.Proofs.YticmebamclacaaaGreatDoor

namespace Go.Proofs.YticmebamclacaaaGreatDoor
open Go.RowKit LX Go.Shelf
set_option linter.unusedVariables false

theorem T_lenX (n : Nat) (l : List UInt8) (hn : l.length ≤ n) (p : Nat) : (T sdB l p).1.length ≤ l.length := by
  induction n generalizing l p with
  | zero =>
    have : l = [] := List.length_eq_zero_iff.mp (by omega)
    subst this
    simp [T_nil]
  | succ n ih =>
    rcases T_cases sdB l p with ⟨h1, h2⟩ | ⟨b, h1, h2, h2a, h2b, h3, h4⟩ | ⟨b, h1, h2, h2a, h2b, h3, h4⟩
    · rw [h2]; simp
    · rw [h4]
      have hle := beh_le _ h3.1
      simp only [List.length_drop] at hle
      have := ih (l.drop (b + (beh (l.drop b)).2)) (by simp; omega) (p + b + (beh (l.drop b)).2)
      simp only [List.length_drop] at this
      simp
      omega
    · rw [h4]; simp

/-- What events behind a time say; what tokens say; what a line says: an error's number, a time, events. -/
def rdM (n : Int) : Option (List Evt) → Int × Int × List Evt
  | none => (70, 0, [])
  | some es => if 64 < es.length then (3, 0, []) else (0, n, es)
def rdL : List (Tok Val) → Int × Int × List Evt
  | [] => (70, 0, [])
  | t :: L => if t.k = 7 then rdM t.v.n (rdEs (L.length + 1) [] L) else (70, 0, [])
def rdP (s : ByteArray) : Int × Int × List Evt := if cutE s = 0 then rdL (tks s) else (cutE s, 0, [])
/-- What readPoint answers; what ParsePoint answers. -/
def PtOut (N : Nat) (w : World) (D : Int × Int × List Evt) (r : Ending) (w' : World) : Prop := Below N w w' ∧ ∃ p c, r = .returned (.tuple #[.agg #[.int .i64 D.2.1, .slice p D.2.2.length c], errV D.1]) ∧ OwnE N (.slice p D.2.2.length c) D.2.2 w'
def PpOut (N : Nat) (w : World) (D : Int × Int × List Evt) (r : Ending) (w' : World) : Prop := Below N w w' ∧ ∃ p c, r = .returned (.tuple #[.agg #[.int .i64 D.2.1, .slice p D.2.2.length c], .int .i64 D.1]) ∧ OwnE N (.slice p D.2.2.length c) D.2.2 w'
theorem PtOut.no {N : Nat} {w w' : World} {D : Int × Int × List Evt} {r : Ending} {E : Int} {v : Value} (hb : Below N w w') (h : D = (E, 0, [])) (hv : v = errV E) (hr : r = .returned (.tuple #[.agg #[.int .i64 0, .slice none 0 0], v])) : PtOut N w D r w' := by
  subst h hv
  exact ⟨hb, none, 0, hr, [], ⟨rfl, .inl ⟨rfl, rfl⟩⟩, trivial⟩
theorem PtOut.yes {N : Nat} {w w' : World} {D : Int × Int × List Evt} {r : Ending} {t : Int} {es : List Evt} {p : Option Addr} {m c : Nat} (hb : Below N w w') (h : D = (0, t, es)) (hm : m = es.length) (hr : r = .returned (.tuple #[.agg #[.int .i64 t, .slice p m c], .nilIface])) (ho : OwnE N (.slice p m c) es w') : PtOut N w D r w' := by
  subst h hm
  exact ⟨hb, p, c, hr, ho⟩
theorem own_setE {w : World} {N : Nat} {v : Value} {es : List Evt} (h : OwnE N v es w) {a : Addr} (ha : a.block < N) (u : Value) : OwnE N v es (w.setCell a u) := by
  obtain ⟨zs, h1, h2⟩ := h
  exact ⟨zs, ownsRow_setCell_below h1 ha u, h2.mono fun b xs k => ownsRow_setCell_below k ha u⟩
theorem OwnE.base {N N' : Nat} {w : World} {v : Value} {es : List Evt} (h : OwnE N' v es w) (hN : N ≤ N') : OwnE N v es w := by
  obtain ⟨zs, h1, h2⟩ := h
  refine ⟨zs, own_baseX h1 hN, ?_⟩
  clear h1
  induction es generalizing zs with
  | nil =>
    match zs, h2 with
    | [], _ => trivial
  | cons x es ih =>
    match zs, h2 with
    | a :: b :: zs, h2 => exact ⟨h2.1, own_baseX h2.2.1 hN, ih zs h2.2.2⟩

set_option maxRecDepth 100000 in
set_option maxHeartbeats 8000000 in
theorem rdpt_any (s : ByteArray) (w : World) (ht : Pow w) (he : Errs w) (h8 : 9 ≤ w.heap.size) :
    Calls Tryz.prog 41 #[.string s] w fun r w' => PtOut w.heap.size w (rdP s) r w' := by
  have cC : Hid (∀ W : World, Below w.heap.size w W → Calls Tryz.prog 55 #[.string s] W fun r w' => ∃ p n c, r = .returned (.tuple #[.slice p n c, errV (cutE s)]) ∧ Below W.heap.size W w' ∧ (cutE s = 0 → ToksAt w' (.slice p n c) (tks s))) := fun W hW => cut_any s W (ht.below hW) (he.below hW h8) (Nat.le_trans h8 hW.size)
  have hD : Hid (rdP s = if cutE s = 0 then rdL (tks s) else (cutE s, 0, [])) := rfl
  have hTl : Hid (cutE s = 0 → (tks s).length ≤ 4096) := fun h => by
    unfold cutE at h
    have h1 : ¬ 4096 < s.size := fun hh => by rw [if_pos hh] at h; cases h
    have h2 := T_lenX s.data.toList.length s.data.toList (Nat.le_refl _) 0
    have h3 : s.data.toList.length = s.size := by simp
    unfold tks
    omega
  clear ht he h8
  generalize rdP s = D at *
  generalize cutE s = C at *
  generalize tks s = TL at *
  go_enter Tryz.func41, Tryz.ntmps41
  go_wp2_with fail
  refine (cC.out _ (by go_grown)).mono ?_
  rintro r w1 ⟨p, n, c, rfl, hb1, hT⟩
  have q0 : w1.cell? ⟨w.heap.size, 0, none⟩ = some (.int .i64 0) := (hb1.cell (p := ⟨w.heap.size, 0, none⟩) (by simp)).trans (by simp [go_sem])
  have q1 : w1.cell? ⟨w.heap.size, 1, none⟩ = some (.slice none 0 0) := (hb1.cell (p := ⟨w.heap.size, 1, none⟩) (by simp)).trans (by simp [go_sem])
  have f0 : w1.frozen? ⟨w.heap.size, 0, none⟩ = false := (hb1.frozen (p := ⟨w.heap.size, 0, none⟩) (by simp)).trans (by simp [go_sem])
  have f1 : w1.frozen? ⟨w.heap.size, 1, none⟩ = false := (hb1.frozen (p := ⟨w.heap.size, 1, none⟩) (by simp)).trans (by simp [go_sem])
  have hs1 : w.heap.size < w1.heap.size := by have := hb1.size; simp at this; omega
  obtain ⟨hB1, -⟩ := bgX (n := w.heap.size) (W0 := w) (by go_grown) (by go_size) hb1
  clear hb1 cC
  by_cases hC : C = 0
  · have hT1 := hT hC
    have l4 := hTl.out hC
    have hD1 : Hid (D = rdL TL) := by have h := hD.out; rwa [if_pos hC] at h
    subst hC
    clear hT hTl hD
    rw [errV_0]
    obtain ⟨p', c', e9, hc, HX⟩ := hT1.form
    injection e9 with e1 e2 e3
    subst e1 e2 e3
    cases TL with
    | nil =>
      have hE : Hid (D = (70, 0, [])) := hD1.out
      simp only [List.length_nil]
      have g0 : ((w1.setCell ⟨w.heap.size, 0, none⟩ (.int .i64 0)).setCell ⟨w.heap.size, 1, none⟩ (.slice none 0 0)).cell? ⟨w.heap.size, 0, none⟩ = some (.int .i64 0) := by simp (maxDischargeDepth := 8) [go_sem, q0]
      have g1 : ((w1.setCell ⟨w.heap.size, 0, none⟩ (.int .i64 0)).setCell ⟨w.heap.size, 1, none⟩ (.slice none 0 0)).cell? ⟨w.heap.size, 1, none⟩ = some (.slice none 0 0) := by simp (maxDischargeDepth := 8) [go_sem, q1]
      have K9 : Below w.heap.size w ((w1.setCell ⟨w.heap.size, 0, none⟩ (.int .i64 0)).setCell ⟨w.heap.size, 1, none⟩ (.slice none 0 0)) := (hB1.setCell (p := ⟨w.heap.size, 0, none⟩) (Nat.le_refl _) _).setCell (p := ⟨w.heap.size, 1, none⟩) (Nat.le_refl _) _
      go_wp2
      generalize (w1.setCell ⟨w.heap.size, 0, none⟩ (.int .i64 0)).setCell ⟨w.heap.size, 1, none⟩ (.slice none 0 0) = W9 at g0 g1 K9 ⊢
      refine bodyPost_ret (by simp [results, Tryz.results41, go_sem, g0, g1]; try rfl) rfl ?_
      exact PtOut.no K9 hE.out rfl rfl
    | cons t L =>
      have hD2 : Hid (D = if t.k = 7 then rdM t.v.n (rdEs (L.length + 1) [] L) else (70, 0, [])) := hD1.out
      clear hD1
      obtain ⟨b, off, rfl, hb, TK⟩ := HX 0 (by simp)
      simp only [Nat.zero_mul, Nat.add_zero, List.getElem_cons_zero] at TK
      obtain ⟨a0, a1, a2, a3, a4, a5, a6⟩ := TK
      have HT1 : Hid (ToksAt w1 (.slice (some ⟨b, off, none⟩) (t :: L).length c) (t :: L)) := hT1
      obtain ⟨n, en⟩ : ∃ n : Nat, Hid ((t :: L).length = n) := ⟨_, rfl⟩
      have hn1 : 1 ≤ n := by have := en.out; simp at this; omega
      rw [en.out] at HT1 hc l4 ⊢
      clear hT1 HX
      have hn0 : ((n : Int) == 0) = false := by simp; omega
      have hn' : (0 : Int) < n := by omega
      by_cases h7 : t.k = 7
      · have hD3 : Hid (D = rdM t.v.n (rdEs (L.length + 1) [] L)) := by have h := hD2.out; rwa [if_pos h7] at h
        have h7' : (((t.k : Nat) : Int) == 7) = true := by simp; omega
        have hLn : L.length = n - 1 := by have := en.out; simp at this; omega
        have ct : Hid (∀ (W : World) (q : Option Addr) (c9 : Nat), c9 = c - 1 → (1 < n → q = some ⟨b, off + 7, none⟩) → Below w1.heap.size w1 W → Calls Tryz.prog 58 #[.slice q (n - 1) c9] W fun r w' => RsOut W.heap.size W L r w') := fun W q c9 hc9 hq hW => by
          have h9 := ToksAt.drop HT1.out 1 (by simp) q (fun hlt => hq (by have := en.out; omega))
          rw [en.out, ← hc9] at h9
          exact rdevs_any _ L W (ToksAt.below h9 hW) (by omega)
        clear hD2 h7 HT1
        have hc1 : (1 : Int) ≤ n := by omega
        generalize t.k = tk at a0 h7'
        by_cases hc2 : c = 1
        · subst hc2
          obtain rfl : n = 1 := by omega
          have ct1 : Hid (Calls Tryz.prog 58 #[.slice (some ⟨b, off, none⟩) 0 0] w1 fun r w' => RsOut w1.heap.size w1 L r w') := ct.out w1 (some ⟨b, off, none⟩) 0 rfl (fun h => absurd h (by omega)) (Below.refl _ _)
          clear ct hLn hc l4 hn1
          go_wp2_with fail
          refine ct1.out.mono ?_
          rintro r w2 ⟨hB2, ⟨hn9, rfl⟩ | ⟨es, pe, ce, hsome, rfl, hown, hle⟩⟩
          · have hE : Hid (D = (70, 0, [])) := by have h := hD3.out; rw [hn9] at h; exact h
            have p0 : w2.cell? ⟨w.heap.size, 0, none⟩ = some (.int .i64 0) := (hB2.cell (p := ⟨w.heap.size, 0, none⟩) hs1).trans q0
            have p1 : w2.cell? ⟨w.heap.size, 1, none⟩ = some (.slice none 0 0) := (hB2.cell (p := ⟨w.heap.size, 1, none⟩) hs1).trans q1
            have h0 : w2.frozen? ⟨w.heap.size, 0, none⟩ = false := (hB2.frozen (p := ⟨w.heap.size, 0, none⟩) hs1).trans f0
            have h1 : w2.frozen? ⟨w.heap.size, 1, none⟩ = false := (hB2.frozen (p := ⟨w.heap.size, 1, none⟩) hs1).trans f1
            have K2 : Below w.heap.size w w2 := hB1.trans (hB2.mono hB1.size)
            clear ct1 hn9 hD3 a0 a1 a2 a3 a4 a5 a6 q0 q1 f0 f1
            have g0 : ((w2.setCell ⟨w.heap.size, 0, none⟩ (.int .i64 0)).setCell ⟨w.heap.size, 1, none⟩ (.slice none 0 0)).cell? ⟨w.heap.size, 0, none⟩ = some (.int .i64 0) := by simp (maxDischargeDepth := 8) [go_sem, p0]
            have g1 : ((w2.setCell ⟨w.heap.size, 0, none⟩ (.int .i64 0)).setCell ⟨w.heap.size, 1, none⟩ (.slice none 0 0)).cell? ⟨w.heap.size, 1, none⟩ = some (.slice none 0 0) := by simp (maxDischargeDepth := 8) [go_sem, p1]
            have K9 : Below w.heap.size w ((w2.setCell ⟨w.heap.size, 0, none⟩ (.int .i64 0)).setCell ⟨w.heap.size, 1, none⟩ (.slice none 0 0)) := (K2.setCell (p := ⟨w.heap.size, 0, none⟩) (Nat.le_refl _) _).setCell (p := ⟨w.heap.size, 1, none⟩) (Nat.le_refl _) _
            go_wp2
            generalize (w2.setCell ⟨w.heap.size, 0, none⟩ (.int .i64 0)).setCell ⟨w.heap.size, 1, none⟩ (.slice none 0 0) = W9 at g0 g1 K9 ⊢
            refine bodyPost_ret (by simp [results, Tryz.results41, go_sem, g0, g1]; try rfl) rfl ?_
            exact PtOut.no K9 hE.out rfl rfl
          · have hD4 : Hid (D = if 64 < es.length then (3, 0, []) else (0, t.v.n, es)) := by have h := hD3.out; rw [hsome] at h; exact h
            have p0 : w2.cell? ⟨w.heap.size, 0, none⟩ = some (.int .i64 0) := (hB2.cell (p := ⟨w.heap.size, 0, none⟩) hs1).trans q0
            have p1 : w2.cell? ⟨w.heap.size, 1, none⟩ = some (.slice none 0 0) := (hB2.cell (p := ⟨w.heap.size, 1, none⟩) hs1).trans q1
            have h0 : w2.frozen? ⟨w.heap.size, 0, none⟩ = false := (hB2.frozen (p := ⟨w.heap.size, 0, none⟩) hs1).trans f0
            have h1 : w2.frozen? ⟨w.heap.size, 1, none⟩ = false := (hB2.frozen (p := ⟨w.heap.size, 1, none⟩) hs1).trans f1
            have K2 : Below w.heap.size w w2 := hB1.trans (hB2.mono hB1.size)
            have d4 : w2.cell? ⟨b, off + 4, none⟩ = some (.int .i64 t.v.n) := (hB2.cell (p := ⟨b, off + 4, none⟩) hb).trans a4
            have HO : Hid (OwnE w1.heap.size (.slice pe es.length ce) es w2) := hown
            obtain ⟨m, em⟩ : ∃ m : Nat, Hid (es.length = m) := ⟨_, rfl⟩
            rw [em.out] at HO ⊢
            clear ct1 hsome hD3 a0 a1 a2 a3 a4 a5 a6 q0 q1 f0 f1 hown
            by_cases h64 : 64 < m
            · have hE : Hid (D = (3, 0, [])) := by have h := hD4.out; rwa [if_pos (by have := em.out; omega)] at h
              have h64' : (64 : Int) < m := by omega
              clear hD4 d4
              have g0 : ((w2.setCell ⟨w.heap.size, 0, none⟩ (.int .i64 0)).setCell ⟨w.heap.size, 1, none⟩ (.slice none 0 0)).cell? ⟨w.heap.size, 0, none⟩ = some (.int .i64 0) := by simp (maxDischargeDepth := 8) [go_sem, p0]
              have g1 : ((w2.setCell ⟨w.heap.size, 0, none⟩ (.int .i64 0)).setCell ⟨w.heap.size, 1, none⟩ (.slice none 0 0)).cell? ⟨w.heap.size, 1, none⟩ = some (.slice none 0 0) := by simp (maxDischargeDepth := 8) [go_sem, p1]
              have K9 : Below w.heap.size w ((w2.setCell ⟨w.heap.size, 0, none⟩ (.int .i64 0)).setCell ⟨w.heap.size, 1, none⟩ (.slice none 0 0)) := (K2.setCell (p := ⟨w.heap.size, 0, none⟩) (Nat.le_refl _) _).setCell (p := ⟨w.heap.size, 1, none⟩) (Nat.le_refl _) _
              go_wp2
              generalize (w2.setCell ⟨w.heap.size, 0, none⟩ (.int .i64 0)).setCell ⟨w.heap.size, 1, none⟩ (.slice none 0 0) = W9 at g0 g1 K9 ⊢
              refine bodyPost_ret (by simp [results, Tryz.results41, go_sem, g0, g1]; try rfl) rfl ?_
              exact PtOut.no K9 hE.out rfl rfl
            · have hE : Hid (D = (0, t.v.n, es)) := by have h := hD4.out; rwa [if_neg (by have := em.out; omega)] at h
              have h64' : ¬ (64 : Int) < m := by omega
              clear hD4
              generalize t.v.n = tn at d4 hE
              have g0 : ((w2.setCell ⟨w.heap.size, 0, none⟩ (.int .i64 tn)).setCell ⟨w.heap.size, 1, none⟩ (.slice pe m ce)).cell? ⟨w.heap.size, 0, none⟩ = some (.int .i64 tn) := by simp (maxDischargeDepth := 8) [go_sem, p0]
              have g1 : ((w2.setCell ⟨w.heap.size, 0, none⟩ (.int .i64 tn)).setCell ⟨w.heap.size, 1, none⟩ (.slice pe m ce)).cell? ⟨w.heap.size, 1, none⟩ = some (.slice pe m ce) := by simp (maxDischargeDepth := 8) [go_sem, p1]
              have K9 : Below w.heap.size w ((w2.setCell ⟨w.heap.size, 0, none⟩ (.int .i64 tn)).setCell ⟨w.heap.size, 1, none⟩ (.slice pe m ce)) := (K2.setCell (p := ⟨w.heap.size, 0, none⟩) (Nat.le_refl _) _).setCell (p := ⟨w.heap.size, 1, none⟩) (Nat.le_refl _) _
              have O9 : Hid (OwnE w.heap.size (.slice pe m ce) es ((w2.setCell ⟨w.heap.size, 0, none⟩ (.int .i64 tn)).setCell ⟨w.heap.size, 1, none⟩ (.slice pe m ce))) := (own_setE (own_setE HO.out (a := ⟨w.heap.size, 0, none⟩) hs1 _) (a := ⟨w.heap.size, 1, none⟩) hs1 _).base (Nat.le_of_lt hs1)
              go_wp2
              generalize (w2.setCell ⟨w.heap.size, 0, none⟩ (.int .i64 tn)).setCell ⟨w.heap.size, 1, none⟩ (.slice pe m ce) = W9 at g0 g1 K9 O9 ⊢
              refine bodyPost_ret (by simp [results, Tryz.results41, go_sem, g0, g1]; try rfl) rfl ?_
              exact PtOut.yes K9 hE.out em.out.symm rfl O9.out
        · have hc3 : ¬ c = 1 := hc2
          have ct1 : Hid (Calls Tryz.prog 58 #[.slice (some ⟨b, off + 7, none⟩) (n - 1) (c - 1)] w1 fun r w' => RsOut w1.heap.size w1 L r w') := ct.out w1 (some ⟨b, off + 7, none⟩) (c - 1) rfl (fun h => rfl) (Below.refl _ _)
          clear ct hLn hc l4 hn1
          go_wp2_with fail
          refine ct1.out.mono ?_
          rintro r w2 ⟨hB2, ⟨hn9, rfl⟩ | ⟨es, pe, ce, hsome, rfl, hown, hle⟩⟩
          · have hE : Hid (D = (70, 0, [])) := by have h := hD3.out; rw [hn9] at h; exact h
            have p0 : w2.cell? ⟨w.heap.size, 0, none⟩ = some (.int .i64 0) := (hB2.cell (p := ⟨w.heap.size, 0, none⟩) hs1).trans q0
            have p1 : w2.cell? ⟨w.heap.size, 1, none⟩ = some (.slice none 0 0) := (hB2.cell (p := ⟨w.heap.size, 1, none⟩) hs1).trans q1
            have h0 : w2.frozen? ⟨w.heap.size, 0, none⟩ = false := (hB2.frozen (p := ⟨w.heap.size, 0, none⟩) hs1).trans f0
            have h1 : w2.frozen? ⟨w.heap.size, 1, none⟩ = false := (hB2.frozen (p := ⟨w.heap.size, 1, none⟩) hs1).trans f1
            have K2 : Below w.heap.size w w2 := hB1.trans (hB2.mono hB1.size)
            clear ct1 hn9 hD3 a0 a1 a2 a3 a4 a5 a6 q0 q1 f0 f1
            have g0 : ((w2.setCell ⟨w.heap.size, 0, none⟩ (.int .i64 0)).setCell ⟨w.heap.size, 1, none⟩ (.slice none 0 0)).cell? ⟨w.heap.size, 0, none⟩ = some (.int .i64 0) := by simp (maxDischargeDepth := 8) [go_sem, p0]
            have g1 : ((w2.setCell ⟨w.heap.size, 0, none⟩ (.int .i64 0)).setCell ⟨w.heap.size, 1, none⟩ (.slice none 0 0)).cell? ⟨w.heap.size, 1, none⟩ = some (.slice none 0 0) := by simp (maxDischargeDepth := 8) [go_sem, p1]
            have K9 : Below w.heap.size w ((w2.setCell ⟨w.heap.size, 0, none⟩ (.int .i64 0)).setCell ⟨w.heap.size, 1, none⟩ (.slice none 0 0)) := (K2.setCell (p := ⟨w.heap.size, 0, none⟩) (Nat.le_refl _) _).setCell (p := ⟨w.heap.size, 1, none⟩) (Nat.le_refl _) _
            go_wp2
            generalize (w2.setCell ⟨w.heap.size, 0, none⟩ (.int .i64 0)).setCell ⟨w.heap.size, 1, none⟩ (.slice none 0 0) = W9 at g0 g1 K9 ⊢
            refine bodyPost_ret (by simp [results, Tryz.results41, go_sem, g0, g1]; try rfl) rfl ?_
            exact PtOut.no K9 hE.out rfl rfl
          · have hD4 : Hid (D = if 64 < es.length then (3, 0, []) else (0, t.v.n, es)) := by have h := hD3.out; rw [hsome] at h; exact h
            have p0 : w2.cell? ⟨w.heap.size, 0, none⟩ = some (.int .i64 0) := (hB2.cell (p := ⟨w.heap.size, 0, none⟩) hs1).trans q0
            have p1 : w2.cell? ⟨w.heap.size, 1, none⟩ = some (.slice none 0 0) := (hB2.cell (p := ⟨w.heap.size, 1, none⟩) hs1).trans q1
            have h0 : w2.frozen? ⟨w.heap.size, 0, none⟩ = false := (hB2.frozen (p := ⟨w.heap.size, 0, none⟩) hs1).trans f0
            have h1 : w2.frozen? ⟨w.heap.size, 1, none⟩ = false := (hB2.frozen (p := ⟨w.heap.size, 1, none⟩) hs1).trans f1
            have K2 : Below w.heap.size w w2 := hB1.trans (hB2.mono hB1.size)
            have d4 : w2.cell? ⟨b, off + 4, none⟩ = some (.int .i64 t.v.n) := (hB2.cell (p := ⟨b, off + 4, none⟩) hb).trans a4
            have HO : Hid (OwnE w1.heap.size (.slice pe es.length ce) es w2) := hown
            obtain ⟨m, em⟩ : ∃ m : Nat, Hid (es.length = m) := ⟨_, rfl⟩
            rw [em.out] at HO ⊢
            clear ct1 hsome hD3 a0 a1 a2 a3 a4 a5 a6 q0 q1 f0 f1 hown
            by_cases h64 : 64 < m
            · have hE : Hid (D = (3, 0, [])) := by have h := hD4.out; rwa [if_pos (by have := em.out; omega)] at h
              have h64' : (64 : Int) < m := by omega
              clear hD4 d4
              have g0 : ((w2.setCell ⟨w.heap.size, 0, none⟩ (.int .i64 0)).setCell ⟨w.heap.size, 1, none⟩ (.slice none 0 0)).cell? ⟨w.heap.size, 0, none⟩ = some (.int .i64 0) := by simp (maxDischargeDepth := 8) [go_sem, p0]
              have g1 : ((w2.setCell ⟨w.heap.size, 0, none⟩ (.int .i64 0)).setCell ⟨w.heap.size, 1, none⟩ (.slice none 0 0)).cell? ⟨w.heap.size, 1, none⟩ = some (.slice none 0 0) := by simp (maxDischargeDepth := 8) [go_sem, p1]
              have K9 : Below w.heap.size w ((w2.setCell ⟨w.heap.size, 0, none⟩ (.int .i64 0)).setCell ⟨w.heap.size, 1, none⟩ (.slice none 0 0)) := (K2.setCell (p := ⟨w.heap.size, 0, none⟩) (Nat.le_refl _) _).setCell (p := ⟨w.heap.size, 1, none⟩) (Nat.le_refl _) _
              go_wp2
              generalize (w2.setCell ⟨w.heap.size, 0, none⟩ (.int .i64 0)).setCell ⟨w.heap.size, 1, none⟩ (.slice none 0 0) = W9 at g0 g1 K9 ⊢
              refine bodyPost_ret (by simp [results, Tryz.results41, go_sem, g0, g1]; try rfl) rfl ?_
              exact PtOut.no K9 hE.out rfl rfl
            · have hE : Hid (D = (0, t.v.n, es)) := by have h := hD4.out; rwa [if_neg (by have := em.out; omega)] at h
              have h64' : ¬ (64 : Int) < m := by omega
              clear hD4
              generalize t.v.n = tn at d4 hE
              have g0 : ((w2.setCell ⟨w.heap.size, 0, none⟩ (.int .i64 tn)).setCell ⟨w.heap.size, 1, none⟩ (.slice pe m ce)).cell? ⟨w.heap.size, 0, none⟩ = some (.int .i64 tn) := by simp (maxDischargeDepth := 8) [go_sem, p0]
              have g1 : ((w2.setCell ⟨w.heap.size, 0, none⟩ (.int .i64 tn)).setCell ⟨w.heap.size, 1, none⟩ (.slice pe m ce)).cell? ⟨w.heap.size, 1, none⟩ = some (.slice pe m ce) := by simp (maxDischargeDepth := 8) [go_sem, p1]
              have K9 : Below w.heap.size w ((w2.setCell ⟨w.heap.size, 0, none⟩ (.int .i64 tn)).setCell ⟨w.heap.size, 1, none⟩ (.slice pe m ce)) := (K2.setCell (p := ⟨w.heap.size, 0, none⟩) (Nat.le_refl _) _).setCell (p := ⟨w.heap.size, 1, none⟩) (Nat.le_refl _) _
              have O9 : Hid (OwnE w.heap.size (.slice pe m ce) es ((w2.setCell ⟨w.heap.size, 0, none⟩ (.int .i64 tn)).setCell ⟨w.heap.size, 1, none⟩ (.slice pe m ce))) := (own_setE (own_setE HO.out (a := ⟨w.heap.size, 0, none⟩) hs1 _) (a := ⟨w.heap.size, 1, none⟩) hs1 _).base (Nat.le_of_lt hs1)
              go_wp2
              generalize (w2.setCell ⟨w.heap.size, 0, none⟩ (.int .i64 tn)).setCell ⟨w.heap.size, 1, none⟩ (.slice pe m ce) = W9 at g0 g1 K9 O9 ⊢
              refine bodyPost_ret (by simp [results, Tryz.results41, go_sem, g0, g1]; try rfl) rfl ?_
              exact PtOut.yes K9 hE.out em.out.symm rfl O9.out
      · have hE : Hid (D = (70, 0, [])) := by have h := hD2.out; rwa [if_neg h7] at h
        have h7' : (((t.k : Nat) : Int) == 7) = false := by simp; omega
        generalize t.k = tk at a0 h7'
        clear hD2 h7 HT1
        have g0 : ((w1.setCell ⟨w.heap.size, 0, none⟩ (.int .i64 0)).setCell ⟨w.heap.size, 1, none⟩ (.slice none 0 0)).cell? ⟨w.heap.size, 0, none⟩ = some (.int .i64 0) := by simp (maxDischargeDepth := 8) [go_sem, q0]
        have g1 : ((w1.setCell ⟨w.heap.size, 0, none⟩ (.int .i64 0)).setCell ⟨w.heap.size, 1, none⟩ (.slice none 0 0)).cell? ⟨w.heap.size, 1, none⟩ = some (.slice none 0 0) := by simp (maxDischargeDepth := 8) [go_sem, q1]
        have K9 : Below w.heap.size w ((w1.setCell ⟨w.heap.size, 0, none⟩ (.int .i64 0)).setCell ⟨w.heap.size, 1, none⟩ (.slice none 0 0)) := (hB1.setCell (p := ⟨w.heap.size, 0, none⟩) (Nat.le_refl _) _).setCell (p := ⟨w.heap.size, 1, none⟩) (Nat.le_refl _) _
        go_wp2
        generalize (w1.setCell ⟨w.heap.size, 0, none⟩ (.int .i64 0)).setCell ⟨w.heap.size, 1, none⟩ (.slice none 0 0) = W9 at g0 g1 K9 ⊢
        refine bodyPost_ret (by simp [results, Tryz.results41, go_sem, g0, g1]; try rfl) rfl ?_
        exact PtOut.no K9 hE.out rfl rfl
  · have hE : Hid (D = (C, 0, [])) := by have h := hD.out; rwa [if_neg hC] at h
    have hd : Hid (errV C = .iface 92 (.agg #[.int .i64 C])) := errV_ne hC
    rw [hd.out]
    clear hC hT hTl hD
    have g0 : ((w1.setCell ⟨w.heap.size, 0, none⟩ (.int .i64 0)).setCell ⟨w.heap.size, 1, none⟩ (.slice none 0 0)).cell? ⟨w.heap.size, 0, none⟩ = some (.int .i64 0) := by simp (maxDischargeDepth := 8) [go_sem, q0]
    have g1 : ((w1.setCell ⟨w.heap.size, 0, none⟩ (.int .i64 0)).setCell ⟨w.heap.size, 1, none⟩ (.slice none 0 0)).cell? ⟨w.heap.size, 1, none⟩ = some (.slice none 0 0) := by simp (maxDischargeDepth := 8) [go_sem, q1]
    have K9 : Below w.heap.size w ((w1.setCell ⟨w.heap.size, 0, none⟩ (.int .i64 0)).setCell ⟨w.heap.size, 1, none⟩ (.slice none 0 0)) := (hB1.setCell (p := ⟨w.heap.size, 0, none⟩) (Nat.le_refl _) _).setCell (p := ⟨w.heap.size, 1, none⟩) (Nat.le_refl _) _
    go_wp2
    generalize (w1.setCell ⟨w.heap.size, 0, none⟩ (.int .i64 0)).setCell ⟨w.heap.size, 1, none⟩ (.slice none 0 0) = W9 at g0 g1 K9 ⊢
    refine bodyPost_ret (by simp [results, Tryz.results41, go_sem, g0, g1]; try rfl) rfl ?_
    exact PtOut.no K9 hE.out hd.out.symm rfl

end Go.Proofs.YticmebamclacaaaGreatDoor

namespace Go.Proofs.YticmebamclacaaaGreatDoor
open Go.RowKit LX Go.Shelf
set_option linter.unusedVariables false

/-- What lines say behind a signature: an error's number, its line, the declarations. -/
def rdT (A : List Dec) : List (Tok Val) → Int × List Dec
  | [] => (0, A)
  | t :: l => wdD A (rdD (t :: l))
def rdS (A : List Dec) (i : Nat) : List ByteArray → Int × Int × List Dec
  | [] => (0, 0, A)
  | x :: ls => if cutE x = 0 then (if (rdT A (tks x)).1 = 0 then rdS (rdT A (tks x)).2 (i + 1) ls else ((rdT A (tks x)).1, (i : Int) + 1, [])) else (cutE x, (i : Int) + 1, [])
/-- What a text says. -/
def rsg (s : ByteArray) : Int × Int × List Dec := if 16384 < s.size then (2, 0, []) else rdS [] 0 (linesB s)
theorem wdD_len {A : List Dec} {o : Option Dec} (hA : A.length ≤ 32) : (wdD A o).2.length ≤ 32 := by
  unfold wdD
  cases o with
  | none => simp
  | some d =>
    dsimp only
    by_cases h1 : 6 < d.kinds.length ∨ A.length = 32
    · rw [if_pos h1]; simp
    · rw [if_neg h1]
      by_cases h2 : 0 ≤ findI d.name A 0
      · rw [if_pos h2]; simp
      · rw [if_neg h2]; simp; omega
theorem tks_len {s : ByteArray} (h : cutE s = 0) : (tks s).length ≤ 4096 := by
  unfold cutE at h
  have h1 : ¬ 4096 < s.size := fun hh => by rw [if_pos hh] at h; cases h
  have h2 := T_lenX s.data.toList.length s.data.toList (Nat.le_refl _) 0
  have h3 : s.data.toList.length = s.size := by simp
  unfold tks
  omega
theorem OwnG.base {N N' : Nat} {w : World} {v : Value} {es : List Dec} (h : OwnG N' v es w) (hN : N ≤ N') : OwnG N v es w := by
  obtain ⟨zs, h1, h2⟩ := h
  refine ⟨zs, own_baseX h1 hN, ?_⟩
  clear h1
  induction es generalizing zs with
  | nil =>
    match zs, h2 with
    | [], _ => trivial
  | cons x es ih =>
    match zs, h2 with
    | a :: b :: zs, h2 => exact ⟨h2.1, own_baseX h2.2.1 hN, ih zs h2.2.2⟩
/-- The error that readSignature answers. -/
def sgV (E l : Int) : Value := if E = 0 then .nilIface else if l = 0 then .iface 92 (.agg #[.int .i64 E]) else lineV l E
/-- What readSignature answers. -/
def SgOut (N : Nat) (w : World) (D : Int × Int × List Dec) (r : Ending) (w' : World) : Prop := Below N w w' ∧ ∃ p c, r = .returned (.tuple #[.slice p D.2.2.length c, sgV D.1 D.2.1]) ∧ OwnG N (.slice p D.2.2.length c) D.2.2 w'
theorem SgOut.no {N : Nat} {w w' : World} {D : Int × Int × List Dec} {r : Ending} {E l : Int} {v : Value} (hb : Below N w w') (h : D = (E, l, [])) (hv : v = sgV E l) (hr : r = .returned (.tuple #[.slice none 0 0, v])) : SgOut N w D r w' := by
  subst h hv
  exact ⟨hb, none, 0, hr, [], ⟨rfl, .inl ⟨rfl, rfl⟩⟩, trivial⟩
theorem SgOut.yes {N : Nat} {w w' : World} {D : Int × Int × List Dec} {r : Ending} {es : List Dec} {p : Option Addr} {m c : Nat} (hb : Below N w w') (h : D = (0, 0, es)) (hm : m = es.length) (ho : OwnG N (.slice p m c) es w') (hr : r = .returned (.tuple #[.slice p m c, .nilIface])) : SgOut N w D r w' := by
  subst h hm
  exact ⟨hb, p, c, hr, ho⟩
theorem sgV_line {E : Int} {i : Nat} (h : ¬ E = 0) : sgV E ((i : Int) + 1) = lineV ((i : Int) + 1) E := by
  unfold sgV
  rw [if_neg h, if_neg (by omega)]

set_option maxRecDepth 100000 in
set_option maxHeartbeats 2000000 in
theorem rdsig_any (s : ByteArray) (w : World) (ht : Pow w) (he : Errs w) (h8 : 9 ≤ w.heap.size) :
    Calls Tryz.prog 34 #[.string s] w fun r w' => SgOut w.heap.size w (rsg s) r w' := by
  by_cases h : 16384 < s.size
  · have hE : Hid (rsg s = (2, 0, [])) := if_pos h
    have h' : (16384 : Int) < s.size := by omega
    generalize rsg s = D at *
    go_enter Tryz.func34, Tryz.ntmps34
    go_wp2
    go_ret2
    exact SgOut.no (Below.refl _ _) hE.out rfl rfl
  · have hE : Hid (rsg s = rdS [] 0 (linesB s)) := if_neg h
    have h' : ¬ (16384 : Int) < s.size := by omega
    have cS : Hid (Calls Tryz.prog 54 #[.string s, .string ⟨#[10]⟩] w fun e w' => e = .returned (.slice (some ⟨w.heap.size, 0, none⟩) (linesB s).length (linesB s).length) ∧ w' = w.alloc (.cells ((linesB s).map Value.string).toArray 9)) := lines_any s w (by omega)
    have cC : Hid (∀ (x : ByteArray) (W : World), Below w.heap.size w W → Calls Tryz.prog 55 #[.string x] W fun r w' => ∃ p n c, r = .returned (.tuple #[.slice p n c, errV (cutE x)]) ∧ Below W.heap.size W w' ∧ (cutE x = 0 → ToksAt w' (.slice p n c) (tks x))) := fun x W hW => cut_any x W (ht.below hW) (he.below hW h8) (Nat.le_trans h8 hW.size)
    have hln : (linesB s).length ≤ 16385 := by
      rw [linesB_len]
      have := Lib.countB_le ⟨#[10]⟩ (by decide) s.size s (Nat.le_refl _)
      omega
    clear h ht he h8
    generalize rsg s = D at *
    generalize linesB s = LS at *
    obtain ⟨n, en⟩ : ∃ n : Nat, Hid (LS.length = n) := ⟨_, rfl⟩
    rw [en.out] at cS hln
    go_enter Tryz.func34, Tryz.ntmps34
    go_wp2_with fail
    refine cS.out.mono ?_
    rintro e w1 ⟨rfl, hw1⟩
    have HC : Hid (∀ i (hi : i < LS.length), w1.cell? ⟨w.heap.size, i, none⟩ = some (.string LS[i])) := fun i hi => by
      rw [hw1, World.cell?_alloc_at _ _ _ _ rfl]
      simp [hi]
    have hB1 : Below w.heap.size w w1 := by rw [hw1]; go_grown
    have hs1 : w1.heap.size = w.heap.size + 1 := by rw [hw1]; simp
    have HS1 : Hid (w1.heap.size = w.heap.size + 1) := hs1
    have z1 : w.heap.size < w1.heap.size := by omega
    clear hw1 cS hs1
    go_wp2
    go_loopw [4, 17] (fun v4 v17 wr => ∃ (k : Nat) (A : List Dec), k ≤ n ∧ v17 = .int .i64 k ∧ Hid (D = rdS A k (LS.drop k)) ∧ A.length ≤ 32 ∧ Hid (OwnG w1.heap.size v4 A wr) ∧ Below w1.heap.size w1 wr) (fun _ v17 _ => n - (intOf v17).toNat)
    case atStart => exact ⟨0, [], Nat.zero_le _, rfl, by rw [List.drop_zero]; exact hE, by simp, ⟨[], ⟨rfl, .inl ⟨rfl, rfl⟩⟩, trivial⟩, Below.refl _ _⟩
    case round =>
      obtain ⟨k, A, hk, rfl, hr, hA, hO, hB⟩ := hrel
      obtain ⟨p4, c4, rfl⟩ := hO.out.form
      have KW : Below w.heap.size w wr := hB1.trans (hB.mono hB1.size)
      by_cases hlt : k < n
      · have kx : k < LS.length := by have := en.out; omega
        have a0 := (hB.cell (p := ⟨w.heap.size, k, none⟩) z1).trans (HC.out k kx)
        have hr2 : Hid (D = if cutE LS[k] = 0 then (if (rdT A (tks LS[k])).1 = 0 then rdS (rdT A (tks LS[k])).2 (k + 1) (LS.drop (k + 1)) else ((rdT A (tks LS[k])).1, (k : Int) + 1, [])) else (cutE LS[k], (k : Int) + 1, [])) := by
          have h := hr.out
          rw [List.drop_eq_getElem_cons kx] at h
          exact h
        have ct := cC.out LS[k] wr KW
        have hTl := @tks_len LS[k]
        clear hr
        generalize LS[k] = x at a0 hr2 ct hTl
        have CT : Hid (Calls Tryz.prog 55 #[.string x] wr fun r w' => ∃ p n c, r = .returned (.tuple #[.slice p n c, errV (cutE x)]) ∧ Below wr.heap.size wr w' ∧ (cutE x = 0 → ToksAt w' (.slice p n c) (tks x))) := ct
        have HTL : Hid (cutE x = 0 → (tks x).length ≤ 4096) := hTl
        clear ct hTl
        generalize cutE x = C at hr2 CT HTL
        generalize tks x = TL at hr2 CT HTL
        have hlt' : (k : Int) < n := by omega
        have zr : w1.heap.size ≤ wr.heap.size := hB.size
        obtain ⟨m, em⟩ : ∃ m : Nat, Hid (A.length = m) := ⟨_, rfl⟩
        have HO : Hid (OwnG w1.heap.size (.slice p4 m c4) A wr) := by have h := hO.out; rwa [em.out] at h
        rw [em.out] at hA ⊢
        clear hO
        by_cases hC : C = 0
        · have hr3 : Hid (D = if (rdT A TL).1 = 0 then rdS (rdT A TL).2 (k + 1) (LS.drop (k + 1)) else ((rdT A TL).1, (k : Int) + 1, [])) := by have h := hr2.out; rwa [if_pos hC] at h
          have l4 := HTL.out hC
          subst hC
          rw [errV_0] at CT
          clear hr2 HTL
          go_wp2_with fail
          refine CT.out.mono ?_
          rintro r w2 ⟨p, nt, c, rfl, hB2, hT⟩
          have hT2 := hT (by first | trivial | rfl)
          have K2 : Below w1.heap.size w1 w2 := hB.trans (hB2.mono zr)
          have HO2 : Hid (OwnG w1.heap.size (.slice p4 m c4) A w2) := HO.out.below hB2
          have z2 : w1.heap.size ≤ w2.heap.size := Nat.le_trans zr hB2.size
          obtain ⟨p', c', e9, -⟩ := hT2.form
          injection e9 with e1 e2 e3
          subst e1 e2 e3
          clear CT HO hT a0
          cases TL with
          | nil =>
            have hr4 : Hid (D = rdS A (k + 1) (LS.drop (k + 1))) := hr3.out
            simp only [List.length_nil]
            clear hr3 hT2 l4
            go_wp2
            exact ⟨⟨k + 1, A, by omega, by go_num, hr4, by have := em.out; omega, by rw [← em.out] at HO2 ⊢; exact HO2, K2⟩, by simp [intOf]; omega⟩
          | cons t l =>
            have cW : Hid (Calls Tryz.prog 56 #[.slice p4 m c4, .slice p (t :: l).length c] w2 fun r w' => WdOut w1.heap.size w2 (wdD A (rdD (t :: l))) r w') := wdecl_any w1.heap.size _ _ A t l w2 z2 HO2.out hT2 (by omega) (by have := em.out; omega)
            have hr4 : Hid (D = if (wdD A (rdD (t :: l))).1 = 0 then rdS (wdD A (rdD (t :: l))).2 (k + 1) (LS.drop (k + 1)) else ((wdD A (rdD (t :: l))).1, (k : Int) + 1, [])) := hr3.out
            have hwl : (wdD A (rdD (t :: l))).2.length ≤ 32 := wdD_len (by have := em.out; omega)
            have hnl : (0 : Int) < (t :: l).length := by first | (simp; done) | (simp; omega)
            generalize (t :: l).length = nl at *
            generalize wdD A (rdD (t :: l)) = G at cW hr4 hwl
            obtain ⟨E, G2⟩ := G
            dsimp only at hr4 hwl
            clear hr3 hT2 HO2
            go_wp2_with fail
            refine cW.out.mono ?_
            rintro r w3 ⟨hB3, p3, c3, rfl, ho3⟩
            have K3 : Below w1.heap.size w1 w3 := K2.trans hB3
            dsimp only at ho3 ⊢
            have HO3 : Hid (OwnG w1.heap.size (.slice p3 G2.length c3) G2 w3) := ho3
            clear cW ho3 hB3
            obtain ⟨g2, eg2⟩ : ∃ g2 : Nat, Hid (G2.length = g2) := ⟨_, rfl⟩
            rw [eg2.out] at HO3 ⊢
            by_cases hEz : E = 0
            · have hr5 : Hid (D = rdS G2 (k + 1) (LS.drop (k + 1))) := by have h := hr4.out; rwa [if_pos hEz] at h
              subst hEz
              rw [errV_0]
              clear hr4
              go_wp2
              exact ⟨⟨k + 1, G2, by omega, by go_num, hr5, hwl, by rw [← eg2.out] at HO3 ⊢; exact HO3, K3⟩, by simp [intOf]; omega⟩
            · have hr5 : Hid (D = (E, (k : Int) + 1, [])) := by have h := hr4.out; rwa [if_neg hEz] at h
              have hd : Hid (errV E = .iface 92 (.agg #[.int .i64 E])) := errV_ne hEz
              have hv : Hid (sgV E ((k : Int) + 1) = lineV ((k : Int) + 1) E) := sgV_line hEz
              rw [hd.out]
              clear hr4 hEz
              go_wp2
              go_ret2
              exact SgOut.no (hB1.trans (K3.mono hB1.size)) hr5.out hv.out.symm rfl
        · have hr3 : Hid (D = (C, (k : Int) + 1, [])) := by have h := hr2.out; rwa [if_neg hC] at h
          have hd : Hid (errV C = .iface 92 (.agg #[.int .i64 C])) := errV_ne hC
          have hv : Hid (sgV C ((k : Int) + 1) = lineV ((k : Int) + 1) C) := sgV_line hC
          rw [hd.out] at CT
          clear hr2 hC HTL
          go_wp2_with fail
          refine CT.out.mono ?_
          rintro r w2 ⟨p, nt, c, rfl, hB2, -⟩
          have K2 : Below w.heap.size w w2 := KW.trans (hB2.mono KW.size)
          clear CT a0
          go_wp2
          go_ret2
          exact SgOut.no K2 hr3.out hv.out.symm rfl
      · have c2 : ¬ (k : Int) < n := by omega
        have hr3 : Hid (D = (0, 0, A)) := by
          have h := hr.out
          rw [List.drop_eq_nil_of_le (by have := en.out; omega)] at h
          exact h
        obtain ⟨m, em⟩ : ∃ m : Nat, Hid (A.length = m) := ⟨_, rfl⟩
        have HO : Hid (OwnG w.heap.size (.slice p4 m c4) A wr) := by have h := hO.out; rw [em.out] at h; exact h.base (Nat.le_of_lt z1)
        rw [em.out]
        clear hO
        go_wp2
        go_ret2
        exact SgOut.yes KW hr3.out em.out.symm HO.out rfl

end Go.Proofs.YticmebamclacaaaGreatDoor

namespace Go.Proofs.YticmebamclacaaaGreatDoor
open Go.RowKit LX Go.Shelf
set_option linter.unusedVariables false

/-- An empty line more says nothing more. -/
theorem rdS_empty (A : List Dec) (i : Nat) (L : List ByteArray) : rdS A i (L ++ [⟨#[]⟩]) = rdS A i L := by
  induction L generalizing A i with
  | nil =>
    have h1 : cutE ⟨#[]⟩ = 0 := rfl
    have h2 : tks ⟨#[]⟩ = [] := rfl
    show rdS A i [⟨#[]⟩] = _
    unfold rdS
    rw [if_pos h1, h2]
    rfl
  | cons x l ih =>
    rw [List.cons_append]
    unfold rdS
    by_cases h1 : cutE x = 0
    · rw [if_pos h1, if_pos h1]
      by_cases h2 : (rdT A (tks x)).1 = 0
      · rw [if_pos h2, if_pos h2, ih]
      · rw [if_neg h2, if_neg h2]
    · rw [if_neg h1, if_neg h1]

end Go.Proofs.YticmebamclacaaaGreatDoor

namespace Go.Proofs.YticmebamclacaaaGreatDoor
open Go.RowKit LX
set_option linter.unusedVariables false

def ivR : Value → Int | .int _ q => q | _ => 0
theorem rdigit_any (c : Nat) (w : World) (hc : c < 256) :
    Calls Tryz.prog 83 #[.int .u8 c] w fun e w' => e = .returned (.bool (digN c)) ∧ w' = w := by
  go_enter Tryz.func83, Tryz.ntmps83
  go_wp2
  all_goals go_ret
  all_goals refine ⟨retb ?_, rfl⟩
  all_goals unfold digN
  all_goals rw [Bool.eq_iff_iff]
  all_goals simp
  all_goals omega
theorem rsmall_any (c : Nat) (w : World) (hc : c < 256) :
    Calls Tryz.prog 81 #[.int .u8 c] w fun e w' => e = .returned (.bool (lowN c)) ∧ w' = w := by
  go_enter Tryz.func81, Tryz.ntmps81
  go_wp2
  all_goals go_ret
  all_goals refine ⟨retb ?_, rfl⟩
  all_goals unfold lowN
  all_goals rw [Bool.eq_iff_iff]
  all_goals simp
  all_goals omega

theorem run_size (p : Nat → Bool) (s : ByteArray) (k : Nat) (hk : k < s.size) : run p (s.data.toList.drop k) = if p s[k].toNat then run p (s.data.toList.drop (k + 1)) + 1 else 0 := by
  rw [drop_at s k hk]; rfl
theorem run_over (p : Nat → Bool) (s : ByteArray) (k : Nat) (hk : s.size ≤ k) : run p (s.data.toList.drop k) = 0 := by
  rw [List.drop_eq_nil_of_le (by simpa using hk)]; rfl
set_option maxRecDepth 100000 in
set_option maxHeartbeats 4000000 in
theorem rdigits_any (s : ByteArray) (i : Nat) (w : World) (hs : s.size ≤ 16384) (hi : i ≤ s.size) :
    Calls Tryz.prog 89 #[.string s, .int .i64 i] w fun e w' => e = .returned (.int .i64 (i + run digN (s.data.toList.drop i) : Nat)) ∧ w' = w := by
  obtain ⟨R, eR⟩ : ∃ R, Hid (i + run digN (s.data.toList.drop i) = R) := ⟨_, rfl⟩
  rw [eR.out]
  have DG : Hid (∀ (c : Nat) (W : World), c < 256 → Calls Tryz.prog 83 #[.int .u8 c] W fun x w' => x = .returned (.bool (digN c)) ∧ w' = W) := fun c W h => rdigit_any c W h
  go_enter Tryz.func89, Tryz.ntmps89
  go_wp2
  go_loopw [1] (fun v wr => ∃ k : Nat, v = .int .i64 k ∧ k ≤ s.size ∧ wr = w ∧ Hid (k + run digN (s.data.toList.drop k) = R)) (fun v _ => s.size - (ivR v).toNat)
  case atStart => exact ⟨i, rfl, hi, rfl, eR⟩
  case round =>
    obtain ⟨k, rfl, hk, rfl, hR⟩ := hrel
    by_cases hlt : k < s.size
    · have c1 : (k : Int) < s.size := by omega
      have hr := run_size digN s k hlt
      have hR' := hR.out
      go_wp2_with fail
      refine (DG.out _ _ s[k].toNat_lt).mono ?_
      rintro e w1 ⟨rfl, rfl⟩
      cases hd0 : digN s[k].toNat
      · rw [hd0] at hr
        simp at hr
        go_wp2
        go_ret
        exact ⟨reti (by omega), rfl⟩
      · rw [hd0] at hr
        simp at hr
        go_wp2
        exact ⟨⟨k + 1, by go_num, by omega, trivial, (show _ = _ by omega)⟩, by simp [ivR]; omega⟩
    · have c1 : ¬ (k : Int) < s.size := by omega
      have c2 : ¬ k < s.size := hlt
      have hr := run_over digN s k (by omega)
      have hR' := hR.out
      go_wp2
      go_ret
      exact ⟨reti (by omega), rfl⟩
set_option maxRecDepth 100000 in
set_option maxHeartbeats 4000000 in
theorem rbracket_any (s : ByteArray) (i : Nat) (w : World) (hs : s.size ≤ 16384) (hi : i ≤ s.size) :
    Calls Tryz.prog 85 #[.string s, .int .i64 i] w fun e w' => e = .returned (.int .i64 (((brk (s.data.toList.drop i)).map (i + ·)).elim 0 fun k => (k : Int))) ∧ w' = w := by
  have hl : s.data.toList.length = s.size := by simp
  obtain ⟨R, eR⟩ : ∃ R, Hid ((brk (s.data.toList.drop i)).map (i + ·) = R) := ⟨_, rfl⟩
  rw [eR.out]
  go_enter Tryz.func85, Tryz.ntmps85
  go_wp2
  go_loopw [5] (fun v wr => ∃ k : Nat, v = .int .i64 k ∧ k ≤ s.size ∧ wr = w ∧ Hid ((brk (s.data.toList.drop k)).map (k + ·) = R)) (fun v _ => s.size - (ivR v).toNat)
  case atStart => exact ⟨i, rfl, hi, rfl, eR⟩
  case round =>
    obtain ⟨k, rfl, hk, rfl, hR⟩ := hrel
    by_cases hlt : k < s.size
    · have c1 : (k : Int) < s.size := by omega
      have hR' := hR.out
      rw [brk_step s k hlt] at hR'
      clear hR
      by_cases h93 : s[k].toNat = 93
      · have h93' : ((s[k].toNat : Nat) : Int) = 93 := by omega
        rw [if_pos h93] at hR'
        simp at hR'
        subst hR'
        go_wp2
        go_ret
        exact ⟨rfl, rfl⟩
      · have h93' : ¬ ((s[k].toNat : Nat) : Int) = 93 := by omega
        rw [if_neg h93, map_next] at hR'
        go_wp2
        exact ⟨⟨k + 1, by go_num, by omega, trivial, hR'⟩, by simp [ivR]; omega⟩
    · have c1 : ¬ (k : Int) < s.size := by omega
      have hR' := hR.out
      rw [brk_nil _ _ (by omega)] at hR'
      simp at hR'
      subst hR'
      go_wp2
      go_ret
      exact ⟨rfl, rfl⟩
theorem qend_two (s : ByteArray) (k : Nat) : qend true (s.data.toList.drop (k + 1)) = (qend false (s.data.toList.drop (k + 2))).map (· + 1) := by
  by_cases h : k + 1 < s.size
  · exact qend_pair s (k + 1) h
  · rw [qend_nil _ _ _ (by simp; omega), qend_nil _ _ _ (by simp; omega)]; rfl
set_option maxRecDepth 100000 in
set_option maxHeartbeats 4000000 in
theorem rquote_any (s : ByteArray) (i : Nat) (w : World) (hs : s.size ≤ 16384) (hi : i < s.size) :
    Calls Tryz.prog 87 #[.string s, .int .i64 i] w fun e w' => e = .returned (.int .i64 (((qend false (s.data.toList.drop (i + 1))).map (i + 1 + ·)).elim 0 fun k => (k : Int))) ∧ w' = w := by
  have hl : s.data.toList.length = s.size := by simp
  obtain ⟨R, eR⟩ : ∃ R, Hid ((qend false (s.data.toList.drop (i + 1))).map (i + 1 + ·) = R) := ⟨_, rfl⟩
  rw [eR.out]
  go_enter Tryz.func87, Tryz.ntmps87
  go_wp2
  go_loopw [5] (fun v wr => ∃ k : Nat, v = .int .i64 k ∧ k ≤ s.size + 1 ∧ wr = w ∧ Hid ((qend false (s.data.toList.drop k)).map (k + ·) = R)) (fun v _ => s.size + 2 - (ivR v).toNat)
  case atStart => exact ⟨i + 1, by go_num, by omega, rfl, eR⟩
  case round =>
    obtain ⟨k, rfl, hk, rfl, hR⟩ := hrel
    by_cases hlt : k < s.size
    · have c1 : (k : Int) < s.size := by omega
      have hR' := hR.out
      rw [qend_step s k hlt] at hR'
      clear hR
      by_cases h34 : s[k].toNat = 34
      · have h34' : ((s[k].toNat : Nat) : Int) = 34 := by omega
        rw [if_pos h34] at hR'
        simp at hR'
        subst hR'
        go_wp2
        go_ret
        exact ⟨rfl, rfl⟩
      · have h34' : ¬ ((s[k].toNat : Nat) : Int) = 34 := by omega
        rw [if_neg h34, map_next] at hR'
        by_cases h92 : s[k].toNat = 92
        · have h92' : ((s[k].toNat : Nat) : Int) = 92 := by omega
          rw [show (s[k].toNat == 92) = true by rw [h92]; rfl, qend_two, map_next] at hR'
          go_wp2
          exact ⟨⟨k + 2, by go_num, by omega, trivial, hR'⟩, by simp [ivR]; omega⟩
        · have h92' : ¬ ((s[k].toNat : Nat) : Int) = 92 := by omega
          rw [show (s[k].toNat == 92) = false by simpa using h92] at hR'
          go_wp2
          exact ⟨⟨k + 1, by go_num, by omega, trivial, hR'⟩, by simp [ivR]; omega⟩
    · have c1 : ¬ (k : Int) < s.size := by omega
      have hR' := hR.out
      rw [qend_nil _ _ _ (by omega)] at hR'
      simp at hR'
      subst hR'
      go_wp2
      go_ret
      exact ⟨rfl, rfl⟩
set_option maxRecDepth 100000 in
set_option maxHeartbeats 4000000 in
theorem rword_any (s : ByteArray) (i : Nat) (w : World) (hs : s.size ≤ 16384) (hi : i ≤ s.size) :
    Calls Tryz.prog 82 #[.string s, .int .i64 i] w fun e w' => e = .returned (.int .i64 (i + run inwN (s.data.toList.drop i) : Nat)) ∧ w' = w := by
  obtain ⟨R, eR⟩ : ∃ R, Hid (i + run inwN (s.data.toList.drop i) = R) := ⟨_, rfl⟩
  rw [eR.out]
  go_enter Tryz.func82, Tryz.ntmps82
  go_wp2
  go_loopw [1] (fun v wr => ∃ k : Nat, v = .int .i64 k ∧ k ≤ s.size ∧ wr = w ∧ Hid (k + run inwN (s.data.toList.drop k) = R)) (fun v _ => s.size - (ivR v).toNat)
  case atStart => exact ⟨i, rfl, hi, rfl, eR⟩
  case round =>
    obtain ⟨k, rfl, hk, rfl, hR⟩ := hrel
    by_cases hlt : k < s.size
    · have c1 : (k : Int) < s.size := by omega
      have hr := run_size inwN s k hlt
      have hR' := hR.out
      have DG : Hid (∀ W : World, Calls Tryz.prog 83 #[.int .u8 s[k].toNat] W fun x w' => x = .returned (.bool (digN s[k].toNat)) ∧ w' = W) := fun W => rdigit_any _ W s[k].toNat_lt
      have SM : Hid (∀ W : World, Calls Tryz.prog 81 #[.int .u8 s[k].toNat] W fun x w' => x = .returned (.bool (lowN s[k].toNat)) ∧ w' = W) := fun W => rsmall_any _ W s[k].toNat_lt
      cases hA : lowN s[k].toNat
      · rw [hA] at SM
        cases hD : digN s[k].toNat
        · rw [hD] at DG
          by_cases h95 : s[k].toNat = 95
          · have b95 : ((s[k].toNat : Int) == 95) = true := by simp; omega
            have hin : inwN s[k].toNat = true := by unfold inwN; rw [h95]; rfl
            rw [hin] at hr
            simp at hr
            have SM5 : Hid (∀ (v : Int) (W : World), v = s[k].toNat → Calls Tryz.prog 81 #[.int .u8 v] W fun x w' => x = .returned (.bool false) ∧ w' = W) := fun v W h => by rw [h]; exact SM.out W
            have DG5 : Hid (∀ (v : Int) (W : World), v = s[k].toNat → Calls Tryz.prog 83 #[.int .u8 v] W fun x w' => x = .returned (.bool false) ∧ w' = W) := fun v W h => by rw [h]; exact DG.out W
            go_wp2_with fail
            refine (SM5.out _ _ (by omega)).mono ?_
            rintro e w1 ⟨rfl, rfl⟩
            go_wp2_with fail
            refine (DG5.out _ _ (by omega)).mono ?_
            rintro e w1 ⟨rfl, rfl⟩
            go_wp2
            exact ⟨⟨k + 1, by go_num, by omega, trivial, (show _ = _ by omega)⟩, by simp [ivR]; omega⟩
          · have b95 : ((s[k].toNat : Int) == 95) = false := by simp; omega
            have n95 : (s[k].toNat == 95) = false := by simpa using h95
            have hin : inwN s[k].toNat = false := by unfold inwN; rw [hA, hD, n95]; rfl
            rw [hin] at hr
            simp at hr
            go_wp2_with fail
            refine (SM.out _).mono ?_
            rintro e w1 ⟨rfl, rfl⟩
            go_wp2_with fail
            refine (DG.out _).mono ?_
            rintro e w1 ⟨rfl, rfl⟩
            go_wp2
            go_ret
            exact ⟨reti (by omega), rfl⟩
        · rw [hD] at DG
          have hin : inwN s[k].toNat = true := by unfold inwN; rw [hA, hD]; rfl
          rw [hin] at hr
          simp at hr
          go_wp2_with fail
          refine (SM.out _).mono ?_
          rintro e w1 ⟨rfl, rfl⟩
          go_wp2_with fail
          refine (DG.out _).mono ?_
          rintro e w1 ⟨rfl, rfl⟩
          go_wp2
          exact ⟨⟨k + 1, by go_num, by omega, trivial, (show _ = _ by omega)⟩, by simp [ivR]; omega⟩
      · rw [hA] at SM
        have hin : inwN s[k].toNat = true := by unfold inwN; rw [hA]; rfl
        rw [hin] at hr
        simp at hr
        go_wp2_with fail
        refine (SM.out _).mono ?_
        rintro e w1 ⟨rfl, rfl⟩
        go_wp2
        exact ⟨⟨k + 1, by go_num, by omega, trivial, (show _ = _ by omega)⟩, by simp [ivR]; omega⟩
    · have c1 : ¬ (k : Int) < s.size := by omega
      have c2 : ¬ k < s.size := hlt
      have hr := run_over inwN s k (by omega)
      have hR' := hR.out
      go_wp2
      go_ret
      exact ⟨reti (by omega), rfl⟩
end Go.Proofs.YticmebamclacaaaGreatDoor
