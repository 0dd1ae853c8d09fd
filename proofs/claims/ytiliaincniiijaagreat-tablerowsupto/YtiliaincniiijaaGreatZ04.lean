/- Two tables joined: the walk. -/
import Derived.Test.YtiliaincniiijaaGreatZ03
import Derived.Maps.OwnRows
import Derived.DeepKeys4
import Derived.WideKeyEntry
import Derived.Shelf.SlGeneric
import Derived.Ground.Names8Prog
import Derived.Shelf.Spec.SlicesGrow
import Derived.Test.YtiliaincniiijaaGreatProg
import Derived.Maps.AppendAt
import Derived.Lib.AppendZeros
import Derived.Test.YtiliaincniiijaaGreatZ02

namespace Go.Proofs.YtiliaincniiijaaGreat
open Go.RowKit Go.Shelf
set_option linter.unusedVariables false

/-- What may stand in a key. -/
structure Kb (x : Val) : Prop where
  k1 : -9223372036854775808 ≤ x.k
  k2 : x.k ≤ 9223372036854775807
  n1 : -9223372036854775808 ≤ x.n
  n2 : x.n ≤ 9223372036854775807
  d1 : -9223372036854775808 ≤ x.d
  d2 : x.d ≤ 9223372036854775807
  s1 : x.s.size ≤ maxLen
theorem kb_val0 : Kb val0 := ⟨by decide, by decide, by decide, by decide, by decide, by decide, by decide⟩

theorem wf64 {a : Int} (h1 : -9223372036854775808 ≤ a) (h2 : a ≤ 9223372036854775807) : (Lit.int .i64 a).wf = true := WalkArith.wf_i64 ⟨h1, by omega⟩
theorem laid0 : laidOutB Tryz.prog = true := by kernel_rfl
theorem key_law0 : WideMaps.KeyLaw Tryz.prog 79 := deep_law_laid laid0 (m := 3) (by omega) (of_decide_eq_true (by kernel_rfl)) (by kernel_rfl) (by kernel_rfl)
theorem key_law : Maps.Keyed Tryz.prog 79 := Maps.Keyed.of_law key_law0

def keyV (ks : List Val) : Value := .agg (flat ks).toArray
theorem flat_inj : ∀ {xs ys : List Val}, flat xs = flat ys → xs = ys
  | [], [], _ => rfl
  | [], y :: ys, h => by simp [flat, vcells] at h
  | x :: xs, [], h => by simp [flat, vcells] at h
  | ⟨k, n, d, s⟩ :: xs, ⟨k', n', d', s'⟩ :: ys, h => by
    have h' : Value.int .i64 k :: .int .i64 n :: .int .i64 d :: .string s :: flat xs = .int .i64 k' :: .int .i64 n' :: .int .i64 d' :: .string s' :: flat ys := h
    injection h' with a h'
    injection h' with b h'
    injection h' with c h'
    injection h' with e h'
    injection a with _ a
    injection b with _ b
    injection c with _ c
    injection e with e
    rw [a, b, c, e, flat_inj h']
theorem keyV_inj {xs ys : List Val} (h : keyV xs = keyV ys) : xs = ys := by
  unfold keyV at h
  injection h with h
  exact flat_inj (by simpa using congrArg Array.toList h)

theorem cV : Tryz.prog.cellsOf 45 = 4 := by kernel_rfl
theorem cK : Tryz.prog.cellsOf 79 = 32 := by kernel_rfl
theorem tyK : Tryz.prog.keyType 79 = true := by kernel_rfl
theorem keyLits_val (d : Nat) (x : Val) (h : Kb x) : Tryz.prog.keyLits (d + 2) 45 (vcells x) = some [.int .i64 x.k, .int .i64 x.n, .int .i64 x.d, .string x.s.data.toList] := by
  have w1 := wf64 h.k1 h.k2
  have w2 := wf64 h.n1 h.n2
  have w3 := wf64 h.d1 h.d2
  have w4 := h.s1
  have c1 : Tryz.prog.cellsOf 3 = 1 := by kernel_rfl
  have c2 : Tryz.prog.cellsOf 2 = 1 := by kernel_rfl
  have c3 : Tryz.prog.cellsOf 9 = 1 := by kernel_rfl
  simp [Program.keyLits, Tryz.underlying45, Tryz.underlying3, Tryz.underlying2, Tryz.underlying9, vcells, cV, c1, c2, c3, w1, w2, w3, w4]
theorem keyLits_key (d : Nat) (a b c e f g i j : Val) (ha : Kb a) (hb : Kb b) (hc : Kb c) (he : Kb e) (hf : Kb f) (hg : Kb g) (hi : Kb i) (hj : Kb j) : (Tryz.prog.keyLits (d + 3) 79 (flat [a, b, c, e, f, g, i, j])).isSome = true := by
  have n1 := keyLits_val d a ha
  have n2 := keyLits_val d b hb
  have n3 := keyLits_val d c hc
  have n4 := keyLits_val d e he
  have n5 := keyLits_val d f hf
  have n6 := keyLits_val d g hg
  have n7 := keyLits_val d i hi
  have n8 := keyLits_val d j hj
  unfold Program.keyLits
  simp only [Tryz.underlying79, cK, cV]
  rw [if_pos (show (flat [a, b, c, e, f, g, i, j]).length = 32 from rfl)]
  have hr : List.range 8 = [0, 1, 2, 3, 4, 5, 6, 7] := rfl
  rw [hr]
  have e1 : ((flat [a, b, c, e, f, g, i, j]).drop (0 * 4)).take 4 = vcells a := rfl
  have e2 : ((flat [a, b, c, e, f, g, i, j]).drop (1 * 4)).take 4 = vcells b := rfl
  have e3 : ((flat [a, b, c, e, f, g, i, j]).drop (2 * 4)).take 4 = vcells c := rfl
  have e4 : ((flat [a, b, c, e, f, g, i, j]).drop (3 * 4)).take 4 = vcells e := rfl
  have e5 : ((flat [a, b, c, e, f, g, i, j]).drop (4 * 4)).take 4 = vcells f := rfl
  have e6 : ((flat [a, b, c, e, f, g, i, j]).drop (5 * 4)).take 4 = vcells g := rfl
  have e7 : ((flat [a, b, c, e, f, g, i, j]).drop (6 * 4)).take 4 = vcells i := rfl
  have e8 : ((flat [a, b, c, e, f, g, i, j]).drop (7 * 4)).take 4 = vcells j := rfl
  simp only [List.mapM_cons, List.mapM_nil, e1, e2, e3, e4, e5, e6, e7, e8, n1, n2, n3, n4, n5, n6, n7, n8]
  rfl
theorem keyV_key : ∀ {ks : List Val}, ks.length = 8 → (∀ x ∈ ks, Kb x) → ∃ l, keyOf Tryz.prog 79 (keyV ks) = some l
  | [a, b, c, e, f, g, i, j], _, h => by
    have hsz : ∃ d, Tryz.prog.types.size + 1 = d + 3 := ⟨Tryz.prog.types.size - 2, by have : 2 ≤ Tryz.prog.types.size := of_decide_eq_true (by kernel_rfl); omega⟩
    obtain ⟨d, hd⟩ := hsz
    obtain ⟨l, hl⟩ := Option.isSome_iff_exists.1 <| keyLits_key d a b c e f g i j (h a (by simp)) (h b (by simp)) (h c (by simp)) (h e (by simp)) (h f (by simp)) (h g (by simp)) (h i (by simp)) (h j (by simp))
    refine ⟨.string (keyBytes l), ?_⟩
    unfold keyOf
    rw [Tryz.underlying79]
    simp only
    rw [if_pos, hd]
    · show (Tryz.prog.keyLits (d + 3) 79 (flat [a, b, c, e, f, g, i, j])).map _ = _
      rw [hl]
      rfl
    · rw [tyK, Bool.true_and]
      simp [Value.formed, keyV, Tryz.underlying79, cK, flat, vcells]

theorem zeroRs (w : World) : (zeroValue 23).run Tryz.prog w = .ok (.slice none 0 0) w := by kernel_rfl
def noR (v : Value) : Option (DataW Unit × List MemPlace) := some (.nil, [])
/-- BLOCK b is a map whose entry at a key is a slice of the rows that G has there. -/
def MapG (w : World) (b base n : Nat) (G : List Val → List Value) : Prop :=
  ∃ es clock, w.heap[b]? = some (.map es clock) ∧ WideElems.Fit Tryz.prog 79 noR es clock ∧ es.size ≤ n ∧ b < base ∧
    (∀ x ∈ es.toList, ∃ ks, ks.length = 8 ∧ x.key = keyV ks ∧ w.ownsRow base 26 1 x.val (G ks).length (G ks)) ∧
    (∀ ks, ks.length = 8 → (∀ x ∈ es.toList, x.key ≠ keyV ks) → G ks = []) ∧
    ∀ x ∈ es.toList, ∀ y ∈ es.toList, x.key ≠ y.key → x.val.ownBlock = none ∨ x.val.ownBlock ≠ y.val.ownBlock
theorem MapG.made (w : World) : MapG (w.alloc (.map #[] 0)) w.heap.size (w.heap.size + 1) 0 (fun _ => []) :=
  ⟨#[], 0, (MapKept.heap_alloc w _).1, ⟨by simp, MapKept.stamped_empty 0, by simp⟩, Nat.le_refl _, Nat.lt_succ_self _, by simp, fun _ _ _ => rfl, by simp⟩

open Classical in
/-- One key's rows turned. -/
noncomputable def updG (G : List Val → List Value) (ks : List Val) (us : List Value) : List Val → List Value := fun js => if js = ks then us else G js
theorem updG_same (G : List Val → List Value) (ks : List Val) (us : List Value) : updG G ks us ks = us := by simp [updG]
theorem updG_other (G : List Val → List Value) {ks js : List Val} (us : List Value) (h : js ≠ ks) : updG G ks us js = G js := by simp [updG, h]

theorem MapG.entry {w : World} {b base n : Nat} {G : List Val → List Value} {ks : List Val} {kl : Lit} (h : MapG w b base n G) (hn : n < maxLen) (hl : ks.length = 8) (hkey : keyOf Tryz.prog 79 (keyV ks) = some kl) :
    ∃ v st w1, (Instr.mapEntry 76 (.map (some b)) (keyV ks)).run Tryz.prog w = .ok (.tuple #[v, goInt st]) w1 ∧ w.grownBy w1 (some b) ∧ w1.heap.size = w.heap.size ∧ w1.ownsRow base 26 1 v (G ks).length (G ks) ∧
      ∀ (w2 : World) (v' : Value) (us : List Value), w1.grownBy w2 v.ownBlock → w2.ownsRow base 26 1 v' us.length us → (v'.ownBlock = v.ownBlock ∨ ∃ g, v'.ownBlock = some g ∧ w1.heap.size ≤ g) →
        ∃ w3, (Instr.entryStore 76 (.map (some b)) (goInt st) v').run Tryz.prog w2 = .ok () w3 ∧ MapG w3 b base (n + 1) (updG G ks us) ∧ w2.grownBy w3 (some b) := by
  obtain ⟨es, clock, hb, F, hs, hbb, hown, hnone, hap⟩ := h
  have hblt : b < w.heap.size := (Array.getElem?_eq_some_iff.1 hb).1
  obtain ⟨v, st, es1, clock1, hrun1, hwhat, hback⟩ := WideElems.entry_then_store key_law0 Tryz.underlying76 (fun u => zeroRs u) hb F hkey
  have hg1 : w.grownBy (ChangeMaps.setBlock w b (.map es1 clock1)) (some b) := ⟨rfl, rfl, rfl, by simp [ChangeMaps.setBlock], fun i _ hi => ChangeMaps.heap_setBlock_other hb _ (fun e1 => hi (by rw [e1]))⟩
  have hz1 : (ChangeMaps.setBlock w b (.map es1 clock1)).heap.size = w.heap.size := by simp [ChangeMaps.setBlock]
  have hb1 : (ChangeMaps.setBlock w b (.map es1 clock1)).heap[b]? = some (.map es1 clock1) := ChangeMaps.heap_setBlock_same hb _
  have ne_b : ∀ {W : World} {u : Value} {m : Nat} {ys : List Value}, W.ownsRow base 26 1 u m ys → u.ownBlock = none ∨ u.ownBlock ≠ some b := fun {W u m ys} ho => by
    cases hu : u.ownBlock with
    | none => exact Or.inl rfl
    | some g =>
      refine Or.inr (fun e1 => ?_)
      have := (World.ownsRow.lt ho g hu).1
      cases e1
      omega
  have hv1 : w.ownsRow base 26 1 v (G ks).length (G ks) := by
    rcases hwhat with ⟨e0, hm0, h3, rfl⟩ | ⟨hno, rfl⟩
    · obtain ⟨js, h4, h5, h6⟩ := hown e0 hm0
      obtain rfl := keyV_inj (h5.symm.trans h3)
      exact h6
    · rw [hnone ks hl hno]
      exact World.ownsRow_nil _ _ _ _
  have hv : ∀ x ∈ es.toList, x.key ≠ keyV ks → x.val.ownBlock = none ∨ x.val.ownBlock ≠ v.ownBlock := by
    rcases hwhat with ⟨e0, hm0, h3, rfl⟩ | ⟨hno, rfl⟩
    · exact fun x hx hne => hap x hx e0 hm0 (by rw [h3]; exact hne)
    · intro x _ _
      cases x.val.ownBlock <;> simp [Value.ownBlock]
  have hvb : v.ownBlock ≠ some b := fun e1 => by
    have := (World.ownsRow.lt hv1 b e1).1
    omega
  refine ⟨v, st, _, hrun1, hg1, hz1, World.ownsRow.kept hv1 hg1 (ne_b hv1), ?_⟩
  intro w2 v' us hg hown' hloc
  rw [hz1] at hloc
  have hb2 : w2.heap[b]? = some (.map es1 clock1) := (hg.block b (by rw [hz1]; exact hblt) (fun e1 => hvb e1.symm)).trans hb1
  obtain ⟨es', clock', hrun2, hupd⟩ := hback w2 v' hb2
  obtain ⟨es2, clock2, hrun3, F', hput, _, _, hwho⟩ := Maps.fit_store (R := noR) (R' := noR) (yv := (.nil, [])) key_law Tryz.underlying76 hb F (Nat.lt_of_le_of_lt hs hn) (fun _ _ _ _ hz => hz) (val := v') hkey rfl
  have hsame : es2 = es' ∧ clock2 = clock' := by
    rw [hupd] at hrun3
    injection hrun3 with _ e1
    have e2 := congrArg (fun W : World => W.heap[b]?) e1
    simp only [ChangeMaps.heap_setBlock_same hb] at e2
    injection e2 with e2
    injection e2 with e3 e4
    exact ⟨e3.symm, e4.symm⟩
  obtain ⟨rfl, rfl⟩ := hsame
  have hg2 : w2.grownBy (ChangeMaps.setBlock w2 b (.map es2 clock2)) (some b) := ⟨rfl, rfl, rfl, by simp [ChangeMaps.setBlock], fun i _ hi => ChangeMaps.heap_setBlock_other hb2 _ (fun e1 => hi (by rw [e1]))⟩
  have keep : ∀ x ∈ es.toList, x.key ≠ keyV ks → ∀ {m : Nat} {ys : List Value}, w.ownsRow base 26 1 x.val m ys → (ChangeMaps.setBlock w2 b (.map es2 clock2)).ownsRow base 26 1 x.val m ys := fun x hx hne {m ys} ho => by
    have k1 := World.ownsRow.kept ho hg1 (ne_b ho)
    have k2 := World.ownsRow.kept k1 hg (hv x hx hne)
    exact World.ownsRow.kept k2 hg2 (ne_b k2)
  have old_new : ∀ x ∈ es.toList, x.key ≠ keyV ks → x.val.ownBlock = none ∨ x.val.ownBlock ≠ v'.ownBlock := by
    intro x hx hne
    rcases hloc with h1 | ⟨g, h1, h2⟩
    · rw [h1]
      exact hv x hx hne
    · cases hx' : x.val.ownBlock with
      | none => exact Or.inl rfl
      | some gx =>
        obtain ⟨js, -, -, ho⟩ := hown x hx
        have := (World.ownsRow.lt ho gx hx').2
        refine Or.inr (fun e1 => ?_)
        rw [h1] at e1
        cases e1
        omega
  -- who stands at another key stands there still
  have stays : ∀ x ∈ es.toList, x.key ≠ keyV ks → ∃ x' ∈ es2.toList, x'.key = x.key := by
    intro x hx hne
    obtain ⟨y, hy⟩ := F.reads x hx
    have m1 : WideElems.rg Tryz.prog 79 noR x ∈ (es2.toList.map (WideElems.rg Tryz.prog 79 noR)).foldr DataW.insert [] := by
      rw [hput]
      unfold ChangeMaps.putKey
      refine ChangeMaps.mem_insert_iff.2 (Or.inr (List.mem_filter.2 ⟨(WideShapes.sorted_perm _).mem_iff.2 (List.mem_map.2 ⟨x, hx, rfl⟩), ?_⟩))
      refine (Maps.notKey_iff (key_law.key hkey)).2 (fun e1 => hne ?_)
      have m2 := WideElems.rd_key hy
      rw [WideElems.rg_of hy] at e1
      rw [e1] at m2
      exact key_law.inj m2 hkey
    obtain ⟨x', hx', e1⟩ := List.mem_map.1 ((WideShapes.sorted_perm _).mem_iff.1 m1)
    obtain ⟨y', hy'⟩ := F'.reads x' hx'
    rw [WideElems.rg_of hy, WideElems.rg_of hy'] at e1
    refine ⟨x', hx', key_law.inj (WideElems.rd_key hy') ?_⟩
    rw [e1]
    exact WideElems.rd_key hy
  have has : ∃ x' ∈ es2.toList, x'.key = keyV ks := by
    have m1 : (kl, (.nil : DataW Unit)) ∈ (es2.toList.map (WideElems.rg Tryz.prog 79 noR)).foldr DataW.insert [] := by
      rw [hput]
      unfold ChangeMaps.putKey
      exact ChangeMaps.mem_insert_iff.2 (Or.inl rfl)
    obtain ⟨x', hx', e1⟩ := List.mem_map.1 ((WideShapes.sorted_perm _).mem_iff.1 m1)
    obtain ⟨y', hy'⟩ := F'.reads x' hx'
    rw [WideElems.rg_of hy'] at e1
    refine ⟨x', hx', key_law.inj (WideElems.rd_key hy') ?_⟩
    rw [e1]
    exact hkey
  refine ⟨_, hrun2, ⟨es2, clock2, ChangeMaps.heap_setBlock_same hb2 _, F', ?_, hbb, ?_, ?_, ?_⟩, hg2⟩
  · have e1 : es2.size = ((es2.toList.map (WideElems.rg Tryz.prog 79 noR)).foldr DataW.insert []).length := by rw [length_sorted]; simp
    rw [e1, hput]
    unfold ChangeMaps.putKey
    rw [length_insert]
    have e2 := List.length_filter_le (ChangeMaps.notKey kl) ((es.toList.map (WideElems.rg Tryz.prog 79 noR)).foldr DataW.insert [])
    rw [length_sorted] at e2
    simp at e2
    omega
  · intro x hx
    rcases hwho x hx with ⟨hx0, hxk⟩ | ⟨hxk, hxv⟩
    · obtain ⟨js, h1, h2, h3⟩ := hown x hx0
      have hne : js ≠ ks := fun e => hxk (by rw [h2, e])
      refine ⟨js, h1, h2, ?_⟩
      rw [updG_other G us hne]
      exact keep x hx0 hxk h3
    · refine ⟨ks, hl, hxk, ?_⟩
      rw [updG_same, hxv]
      exact World.ownsRow.kept hown' hg2 (ne_b hown')
  · intro js hj hno
    have hne : js ≠ ks := fun e => by
      obtain ⟨x', hx', e1⟩ := has
      exact hno x' hx' (by rw [e1, e])
    rw [updG_other G us hne]
    refine hnone js hj (fun x hx e1 => ?_)
    obtain ⟨x', hx', e2⟩ := stays x hx (fun e3 => hne (keyV_inj (e1.symm.trans e3)))
    exact hno x' hx' (e2.trans e1)
  · intro x hx y hy hne
    rcases hwho x hx with ⟨hx0, hxk⟩ | ⟨hxk, hxv⟩ <;> rcases hwho y hy with ⟨hy0, hyk⟩ | ⟨hyk, hyv⟩
    · exact hap x hx0 y hy0 hne
    · rw [hyv]
      exact old_new x hx0 hxk
    · rw [hxv]
      cases hv' : v'.ownBlock with
      | none => exact Or.inl rfl
      | some g =>
        refine Or.inr (fun e1 => ?_)
        rcases old_new y hy0 hyk with h | h
        · rw [h] at e1
          cases e1
        · exact h (by rw [hv', e1])
    · exact absurd (hxk.trans hyk.symm) hne


theorem MapG.at {w : World} {b base n : Nat} {G : List Val → List Value} {ks : List Val} {kl : Lit} (h : MapG w b base n G) (hl : ks.length = 8) (hkey : keyOf Tryz.prog 79 (keyV ks) = some kl) :
    ∃ v, (Instr.lookup 76 (.map (some b)) (keyV ks) false).run Tryz.prog w = .ok v w ∧ w.ownsRow base 26 1 v (G ks).length (G ks) := by
  obtain ⟨es, clock, hb, F, hs, hbb, hown, hnone, hap⟩ := h
  rcases Maps.fit_look false key_law Tryz.underlying76 (zeroRs w) hb F hkey with ⟨hrun, hno, _⟩ | ⟨e0, y, hm0, h3, hrun, hR, _, _⟩
  · refine ⟨.slice none 0 0, hrun, ?_⟩
    rw [hnone ks hl hno]
    exact World.ownsRow_nil _ _ _ _
  · obtain ⟨js, h4, h5, h6⟩ := hown e0 hm0
    obtain rfl := keyV_inj (h5.symm.trans h3)
    exact ⟨e0.val, hrun, h6⟩

end Go.Proofs.YtiliaincniiijaaGreat

namespace Go.Proofs.YtiliaincniiijaaGreat
open Go.RowKit Go.Shelf Go.Sort
set_option linter.unusedVariables false

theorem wpList_stop {P : Program} {w : World} {ops : Array Oper} {rest : List Oper} {a : Act} {Q : Exit → Act → World → Prop} (h : ∀ ws, Hid (ws = w) → wpList P ops Q rest a ws) : wpList P ops Q rest a w := h w rfl
theorem wpList_mapEntry_run {P : Program} (w : World) {ops : Array Oper} {rest : List Oper} {o : Oper} {a : Act} {Q : Exit → Act → World → Prop} (hg : o.guard = none) (m x : Operand) (t : TypeId) (hop : o.op = Op.mapEntry t m x) (mv xv : Value) (hm : a.eval m = mv) (hx : a.eval x = xv) (r : Value) (w1 : World) (hrun : (Instr.mapEntry t mv xv).run P w = .ok r w1) (hK : wpList P ops Q rest (a.put o.dst r) w1) : wpList P ops Q (o :: rest) a w := by
  refine wpList_plain hg fun K' hK' => ?_
  unfold Oper.wp
  simp [execOp, hop, hm, hx, hrun, Result.andThen]
  exact hK' _ _ hK
theorem wpList_entryStore_run {P : Program} (w : World) {ops : Array Oper} {rest : List Oper} {o : Oper} {a : Act} {Q : Exit → Act → World → Prop} (hg : o.guard = none) (m x y : Operand) (t : TypeId) (hop : o.op = Op.entryStore t m x y) (mv xv yv : Value) (hm : a.eval m = mv) (hx : a.eval x = xv) (hy : a.eval y = yv) (w1 : World) (hrun : (Instr.entryStore t mv xv yv).run P w = .ok () w1) (hK : wpList P ops Q rest (a.put o.dst undef) w1) : wpList P ops Q (o :: rest) a w := by
  refine wpList_plain hg fun K' hK' => ?_
  unfold Oper.wp
  simp [execOp, hop, hm, hx, hy, hrun, Result.andThen]
  exact hK' _ _ hK
theorem wpList_lookup_run {P : Program} (w : World) {ops : Array Oper} {rest : List Oper} {o : Oper} {a : Act} {Q : Exit → Act → World → Prop} (hg : o.guard = none) (m x : Operand) (t : TypeId) (hop : o.op = Op.lookup t m x false) (mv xv : Value) (hm : a.eval m = mv) (hx : a.eval x = xv) (r : Value) (w1 : World) (hrun : (Instr.lookup t mv xv false).run P w = .ok r w1) (hK : wpList P ops Q rest (a.put o.dst r) w1) : wpList P ops Q (o :: rest) a w := by
  refine wpList_plain hg fun K' hK' => ?_
  unfold Oper.wp
  simp [execOp, hop, hm, hx, hrun, Result.andThen]
  exact hK' _ _ hK

theorem MapG.below {w w' : World} {b base n : Nat} {G : List Val → List Value} (h : MapG w b base n G) (hb : Below w.heap.size w w') : MapG w' b base n G := by
  obtain ⟨es, clock, h1, h2, h3, h4, h5, h6, h7⟩ := h
  refine ⟨es, clock, (hb.block b (Array.getElem?_eq_some_iff.1 h1).1).trans h1, h2, h3, h4, fun x hx => ?_, h6, h7⟩
  obtain ⟨ks, a1, a2, a3⟩ := h5 x hx
  exact ⟨ks, a1, a2, own_below a3 hb⟩

open Classical in
/-- The rows at a key. -/
noncomputable def grp (w : World) (cs : List Nat) (us : List Value) (ks : List Val) : List Value := us.filter fun u => decide (padK (picks (rwOf w u) cs) = ks)
theorem grp_more (w : World) (cs : List Nat) (us : List Value) (u : Value) : updG (grp w cs us) (padK (picks (rwOf w u) cs)) (grp w cs us (padK (picks (rwOf w u) cs)) ++ [u]) = grp w cs (us ++ [u]) := by
  funext ks
  by_cases h : ks = padK (picks (rwOf w u) cs)
  · subst h
    rw [updG_same]
    simp [grp]
  · rw [updG_other _ _ h]
    simp [grp, Ne.symm h]
theorem grp_len (w : World) (cs : List Nat) (us : List Value) (ks : List Val) : (grp w cs us ks).length ≤ us.length := List.length_filter_le ..

theorem kb_of {v : Val} (h : v.may = 0) (f : v.Fits) : Kb v := by
  unfold Val.may chk at h
  split at h
  · cases h
  · split at h
    · cases h
    · rename_i hp hs
      have hk : v.k = 1 ∨ v.k = 2 ∨ v.k = 3 := by
        unfold pureB at hp
        by_cases k1 : v.k = 1
        · exact Or.inl k1
        · by_cases k2 : v.k = 2
          · exact Or.inr (Or.inl k2)
          · by_cases k3 : v.k = 3
            · exact Or.inr (Or.inr k3)
            · simp [k1, k2, k3] at hp
      exact ⟨by omega, by omega, f.n1, f.n2, f.d1, f.d2, by unfold maxLen; omega⟩

def zeroK : Array Value := (flat (List.replicate 8 val0)).toArray
/-- A key laid into a variable of its own. -/
theorem key_block (w1 : World) (KS : List Value) (hl : KS.length = 32) : (w1.alloc (.cells zeroK 79)).there w1.heap.size 0 KS.toArray.size ∧ ((w1.alloc (.cells zeroK 79)).setCells w1.heap.size 0 KS).rangeAt w1.heap.size 0 KS ∧ Below w1.heap.size w1 ((w1.alloc (.cells zeroK 79)).setCells w1.heap.size 0 KS) ∧ ((w1.alloc (.cells zeroK 79)).setCells w1.heap.size 0 KS).heap.size = w1.heap.size + 1 := by
  have ho : (w1.alloc (.cells zeroK 79)).ownsRow w1.heap.size 79 4 (.slice (some ⟨w1.heap.size, 0, none⟩) 8 8) 8 (flat (List.replicate 8 val0)) := World.ownsRow_lit (base := w1.heap.size) (e := 79) (size := 4) w1 zeroK 8 (Nat.le_refl _) (by unfold maxLen; omega) rfl
  have hth : (w1.alloc (.cells zeroK 79)).there w1.heap.size 0 KS.toArray.size := fun j hj => by
    have hj' : j < 32 := by simpa [hl] using hj
    have h0 : j < (flat (List.replicate 8 val0)).length := by rw [flat_len]; simpa using hj'
    rw [Nat.zero_add]
    exact ⟨by rw [ho.cellAt j (by omega), List.getElem?_eq_getElem h0]; rfl, ho.frozenAt j⟩
  obtain ⟨zs, hz, -, hgs⟩ := own_setCells4 KS 0 _ ho
  refine ⟨hth, fun j v hv => ?_, Below.grown ((Below.refl _ _).alloc (Nat.le_refl _) _) hgs (by simp) (fun q hq => by injection hq with hq; omega), ?_⟩
  · have hj := (List.getElem?_eq_some_iff.1 hv).1
    have h := World.cell?_setCells_in w1.heap.size KS 0 _ (fun j hj => (hth j (by simpa using hj)).1) j hj
    rw [h, ← List.getElem?_eq_getElem hj]
    exact hv
  · have : ∀ (vs : List Value) (o : Nat) (w : World), (w.setCells w1.heap.size o vs).heap.size = w.heap.size := by
      intro vs
      induction vs with
      | nil => intro o w; rfl
      | cons v vs ih =>
        intro o w
        show ((w.setCell ⟨w1.heap.size, o, none⟩ v).setCells w1.heap.size (o + 1) vs).heap.size = _
        rw [ih, setCell_eq]
        simp [mapBlock]
    rw [this]
    simp

set_option maxRecDepth 100000 in
set_option maxHeartbeats 4000000 in
theorem index_any (R C : Value) (us : List Value) (cs : List Nat) (w : World) (hR : ValsAt w R us) (hC : IntsAt w C cs) (hu : ∀ u ∈ us, Fit w cs u) (lc : cs.length ≤ 8) (lu : us.length ≤ 5864062014805) :
    Calls Tryz.prog 50 #[R, C] w fun e w' => e = .returned (.map (some w.heap.size)) ∧ MapG w' w.heap.size (w.heap.size + 1) us.length (grp w cs us) ∧ Below w.heap.size w w' := by
  obtain ⟨i0, hi, hz0, hz1, hz2⟩ := info_parts inR
  obtain ⟨p, c, rfl, HV0⟩ := hR.form
  have HV : Hid (∀ k (hk : k < us.length), ∃ b off, p = some ⟨b, off, none⟩ ∧ b < w.heap.size ∧ w.cell? ⟨b, off + k, none⟩ = some us[k]) := HV0
  have HU : Hid (∀ u ∈ us, Fit w cs u) := hu
  obtain ⟨pc, cc, eC⟩ := hC.form
  obtain ⟨m, em⟩ : ∃ m : Nat, Hid (cs.length = m) := ⟨_, rfl⟩
  rw [em.out] at eC
  subst eC
  have ct : Hid (∀ (u : Value) (x : List Val) (W : World), Below w.heap.size w W → RowAt w u x → (∀ c ∈ cs, c < x.length) → x.length ≤ 9223372036854775807 → Calls Tryz.prog 51 #[u, .slice pc m cc] W fun e w' => e = .returned (keyV (padK (picks x cs))) ∧ Below W.heap.size W w') := fun u x W hB hx hc hl => keyOf_any u _ x cs W (hx.below hB) (hC.below hB) hc hl lc
  obtain ⟨n, en⟩ : ∃ n : Nat, Hid (us.length = n) := ⟨_, rfl⟩
  have hlc : Hid (cs.length ≤ 8) := lc
  rw [en.out] at lu ⊢
  clear hR hC hu HV0 lc
  have hmm := @run_makeMap Tryz.prog
  go_enter Tryz.func50, Tryz.ntmps50
  go_wp2
  go_loopw [12] (fun i wr => ∃ (k : Nat), k ≤ n ∧ i = .int .i64 k ∧ Hid (MapG wr w.heap.size (w.heap.size + 1) k (grp w cs (us.take k))) ∧ Below w.heap.size w wr) (fun i _ => n - (intOf i).toNat)
  case atStart => exact ⟨0, Nat.zero_le _, rfl, MapG.made w, (Below.refl _ _).alloc (Nat.le_refl _) _⟩
  case round =>
    obtain ⟨k, hk, rfl, hM, hB⟩ := hrel
    by_cases hlt : k < n
    · have kx : k < us.length := by have := en.out; omega
      obtain ⟨b, off, rfl, hb, q1⟩ := HV.out k kx
      have q2 : wr.cell? ⟨b, off + k, none⟩ = some us[k] := (hB.cell (p := ⟨b, _, none⟩) hb).trans q1
      have et : Hid (us.take (k + 1) = us.take k ++ [us[k]]) := List.take_succ_eq_append_getElem kx
      obtain ⟨x, hx1, hx2, hx3, hx4⟩ := HU.out us[k] (List.getElem_mem kx)
      clear q1
      generalize us[k] = u at q2 et hx1
      have hgr : Hid (updG (grp w cs (us.take k)) (padK (picks x cs)) (grp w cs (us.take k) (padK (picks x cs)) ++ [u]) = grp w cs (us.take (k + 1))) := by
        have h := grp_more w cs (us.take k) u
        rw [rwOf_eq hx1, ← et.out] at h
        exact h
      have hpl : (picks x cs).length ≤ 8 := by rw [picks_len hx3]; exact hlc.out
      have hkb : ∀ v ∈ padK (picks x cs), Kb v := fun v hv => by
        rcases List.mem_append.1 hv with hv | hv
        · exact kb_of (hx2.picks cs v hv).1 (hx2.picks cs v hv).2
        · rw [List.eq_of_mem_replicate hv]; exact kb_val0
      obtain ⟨kl, hkl⟩ := keyV_key (padK_len hpl) hkb
      have ct1 : Hid (Calls Tryz.prog 51 #[u, .slice pc m cc] wr fun e w' => e = .returned (keyV (padK (picks x cs))) ∧ Below wr.heap.size wr w') := ct.out u x wr hB hx1 hx3 hx4
      have hk8 := padK_len hpl
      have hgl : Hid ((grp w cs (us.take k) (padK (picks x cs))).length ≤ k) := by
        have h := grp_len w cs (us.take k) (padK (picks x cs))
        rw [List.length_take] at h
        show _ ≤ _
        omega
      obtain ⟨pu, cu, rfl⟩ := hx1.form
      generalize padK (picks x cs) = ks at hgr hkl ct1 hk8 hgl
      clear hpl hkb et
      generalize x.length = nx at q2 hgr ct1
      clear hx1 hx2 hx3 hx4
      obtain ⟨G, eG⟩ : ∃ G, Hid (grp w cs (us.take k) = G) := ⟨_, rfl⟩
      rw [eG.out] at hgr hgl hM
      obtain ⟨G', eG'⟩ : ∃ G, Hid (grp w cs (us.take (k + 1)) = G) := ⟨_, rfl⟩
      go_wp2_with fail
      refine ct1.out.mono ?_
      rintro e w1 ⟨rfl, hb1⟩
      clear ct1 q2
      have hM1 := hM.out.below hb1
      have hB1 : Below w.heap.size w w1 := hB.trans (hb1.mono hB.size)
      obtain ⟨KS, eKS⟩ : ∃ KS, Hid (flat ks = KS) := ⟨_, rfl⟩
      have hl32 : KS.length = 32 := by rw [← eKS.out, flat_len, hk8]
      have h1c : KS.toArray.all (·.oneCell') = true := by
        rw [← eKS.out, List.all_toArray, List.all_eq_true]
        exact flat_one _
      have hsize : (Tryz.prog.info? 79).map (·.size) = some KS.length := by rw [hl32]; kernel_rfl
      have eK : keyV ks = .agg KS.toArray := by unfold keyV; rw [eKS.out]
      rw [eK]
      obtain ⟨hth, hld, hbs, hss⟩ := key_block w1 KS hl32
      have hM2 := hM1.below hbs
      have hB2 : Below w.heap.size w _ := hB1.trans (hbs.mono hB1.size)
      go_wp2_with (refine wpList_store_mid rfl 79 (.tmp 8) (.tmp 18) rfl w1.heap.size 0 KS.toArray rfl rfl ?h1 ?h2 h1c (wpList_stop ?st))
      case h1 => exact hth
      case h2 => simpa using hsize
      case st =>
        intro ws ews
        have ews : ws = (w1.alloc (.cells zeroK 79)).setCells w1.heap.size 0 KS := ews.out
        rw [← ews] at hld hbs hss hM2 hB2
        clear ews hss
        clear hth hM1 hB1 hbs
        have hM3 : MapG (ws.alloc (.cells #[.slice pu nx cu] 26)) w.heap.size (w.heap.size + 1) k G := hM2.below ((Below.refl _ _).alloc (Nat.le_refl _) _)
        obtain ⟨v, st, w2, hrun, hg2, hz2', hown, hback⟩ := hM3.entry (by unfold maxLen; omega) hk8 hkl
        have hB3 : Below w.heap.size w (ws.alloc (.cells #[.slice pu nx cu] 26)) := hB2.alloc hB2.size _
        have hB4 : Below w.heap.size w w2 := hB3.grown hg2 hB3.size (fun q hq => by injection hq with hq; omega)
        have hcell : w2.cell? ⟨ws.heap.size, 0, none⟩ = some (.slice pu nx cu) := by
          have h1 : (ws.alloc (.cells #[.slice pu nx cu] 26)).heap[ws.heap.size]? = some (.cells #[.slice pu nx cu] 26) := heap_alloc _ _
          have h2 : ws.heap.size ≠ w.heap.size := by have := hM2; obtain ⟨es, cl, hh, -⟩ := this; have := (Array.getElem?_eq_some_iff.1 hh).1; omega
          exact cell_of_heap ((hg2.block ws.heap.size (by simp) (fun e => h2 (by injection e with e))).trans h1) 0 rfl
        have HB : Hid (∀ (w3 : World) (v' : Value) (us : List Value), w2.grownBy w3 v.ownBlock → w3.ownsRow (w.heap.size + 1) 26 1 v' us.length us → (v'.ownBlock = v.ownBlock ∨ ∃ g, v'.ownBlock = some g ∧ w2.heap.size ≤ g) → ∃ w4, (Instr.entryStore 76 (.map (some w.heap.size)) (goInt st) v').run Tryz.prog w3 = .ok () w4 ∧ MapG w4 w.heap.size (w.heap.size + 1) (k + 1) (updG G ks us) ∧ w3.grownBy w4 (some w.heap.size)) := hback
        have HO : Hid (w2.ownsRow (w.heap.size + 1) 26 1 v (G ks).length (G ks)) := hown
        obtain ⟨pv, nv, cv, rfl⟩ : ∃ pv nv cv, v = .slice pv nv cv := by
          obtain ⟨-, ⟨e, -⟩ | ⟨g, cap, cur, e, -⟩⟩ := hown
          · exact ⟨_, _, _, e⟩
          · exact ⟨_, _, _, e⟩
        have HR : Hid ((Instr.mapEntry 76 (.map (some w.heap.size)) (keyV ks)).run Tryz.prog (ws.alloc (.cells #[.slice pu nx cu] 26)) = .ok (.tuple #[.slice pv nv cv, goInt st]) w2) := hrun
        have hsz2 : w.heap.size + 1 ≤ w2.heap.size := by
          have h1 := hB2.size
          rw [hz2']
          simp
          omega
        clear hrun hown hback hM3 hM2 hg2
        have hgl' := hgl.out
        have HR2 : Hid ((Instr.mapEntry 76 (.map (some w.heap.size)) (.agg KS.toArray)).run Tryz.prog (ws.alloc (.cells #[.slice pu nx cu] 26)) = .ok (.tuple #[.slice pv nv cv, goInt st]) w2) := by have h := HR.out; rw [eK] at h; exact h
        go_wp2_with (first | (refine wpList_load_mid rfl 79 (.tmp 8) rfl w1.heap.size 0 rfl KS _ hld Tryz.underlying79 rfl hsize ?_) | (refine wpList_mapEntry_run _ rfl (.tmp 19) (.tmp 20) 76 rfl (.map (some w.heap.size)) (.agg KS.toArray) rfl rfl (.tuple #[.slice pv nv cv, goInt st]) w2 ?hr ?_) | (at_builtin; refine wpList_append_own_at _ rfl (.tmp 21) (.tmp 23) 23 rfl (w.heap.size + 1) 26 i0 (.slice none 0 0) 1 24 Tryz.underlying23 hi hz0 hz1 hz2 rfl (by decide) _ _ _ rfl HO.out ⟨ws.heap.size, 0, none⟩ 1 1 [.slice pu nx cu] rfl rfl ?c1 ?c2 (by unfold maxLen; omega) (by omega) (by omega) ?grow))
        case hr => exact HR2.out
        case c1 => (intro j u hj; rw [Addr.add_lit]; (rcases j with _ | j) <;> simp at hj; subst hj; simpa using hcell)
        case c2 => (intro u hu; simp at hu; subst hu; rfl)
        case grow =>
          intro v' w3 h2 h3 _ hat
          obtain ⟨w4, hr4, hM4, hg4⟩ := HB.out w3 v' (G ks ++ [.slice pu nx cu]) h3 (by simpa using h2) (by
            rcases hat with h | h
            · exact Or.inl h
            · exact Or.inr ⟨_, h, by simp at hz2'; omega⟩)
          have hK3 : Below w.heap.size w w3 := hB4.grown h3 hB4.size (fun q hq => by
            have := (World.ownsRow.lt HO.out q hq).1
            omega)
          have hK4 : Below w.heap.size w w4 := hK3.grown hg4 hK3.size (fun q hq => by injection hq with hq; omega)
          obtain ⟨pv', nv', cv', rfl⟩ : ∃ pv nv cv, v' = .slice pv nv cv := by
            obtain ⟨-, ⟨e, -⟩ | ⟨g, cap, cur, e, -⟩⟩ := h2
            · exact ⟨_, _, _, e⟩
            · exact ⟨_, _, _, e⟩
          have HM : Hid (MapG w4 w.heap.size (w.heap.size + 1) (k + 1) (grp w cs (us.take (k + 1)))) := by
            rw [← hgr.out]
            exact hM4
          have HE : Hid ((Instr.entryStore 76 (.map (some w.heap.size)) (goInt st) (.slice pv' nv' cv')).run Tryz.prog w3 = .ok () w4) := hr4
          clear h2 h3 hat hr4 hM4 hg4 HB HO HR HR2
          go_wp2_with (refine wpList_entryStore_run _ rfl (.tmp 19) (.tmp 26) (.tmp 25) 76 rfl (.map (some w.heap.size)) (.int .i64 st) (.slice pv' nv' cv') rfl rfl rfl w4 ?he ?_)
          case he => exact HE.out
          exact ⟨⟨k + 1, by omega, by go_num, HM, hK4⟩, by simp [intOf]; omega⟩
    · have c2 : ¬ (k : Int) < n := by omega
      have HM : Hid (MapG wr w.heap.size (w.heap.size + 1) n (grp w cs us)) := by
        have h := hM.out
        rw [List.take_of_length_le (by have := en.out; omega)] at h
        obtain rfl : k = n := by omega
        exact h
      go_wp2
      go_ret
      exact ⟨rfl, HM.out, hB⟩

end Go.Proofs.YtiliaincniiijaaGreat

namespace Go.Proofs
open Go.Shelf
def Tryz.grV_ren : Go.Shelf.Ren := ⟨fun | 4 => 74 | n => n, fun | 22 => 26 | 25 => 45 | 3 => 3 | 4 => 4 | 9 => 9 | 20 => 20 | 0 => 0 | n => n, fun | n => n⟩
theorem Tryz.grV : Go.Proofs.Lays8.n4 Tryz.prog Tryz.grV_ren := {
  mixed := by kernel_rfl
  f4 := ⟨Tryz.f74.name, by decide, Tryz.func74.trans (congrArg some (by kernel_rfl))⟩
  t0 := Tryz.underlying0
  a0 := Tryz.isAgg0
  z0 := Tryz.sizeOf0
  v0 := Tryz.zeroValue0
  t3 := Tryz.underlying3
  a3 := Tryz.isAgg3
  z3 := Tryz.sizeOf3
  v3 := Tryz.zeroValue3
  t4 := Tryz.underlying4
  a4 := Tryz.isAgg4
  z4 := Tryz.sizeOf4
  v4 := Tryz.zeroValue4
  t9 := Tryz.underlying9
  a9 := Tryz.isAgg9
  z9 := Tryz.sizeOf9
  v9 := Tryz.zeroValue9
  t20 := Tryz.underlying20
  a20 := Tryz.isAgg20
  z20 := Tryz.sizeOf20
  v20 := Tryz.zeroValue20
  t22 := Tryz.underlying26
  a22 := Tryz.isAgg26
  z22 := Tryz.sizeOf26
  v22 := Tryz.zeroValue26 }
def Tryz.grR_ren : Go.Shelf.Ren := ⟨fun | 4 => 71 | n => n, fun | 22 => 23 | 25 => 26 | 3 => 3 | 4 => 4 | 9 => 9 | 20 => 20 | 0 => 0 | n => n, fun | n => n⟩
theorem Tryz.grR : Go.Proofs.Lays8.n4 Tryz.prog Tryz.grR_ren := {
  mixed := by kernel_rfl
  f4 := ⟨Tryz.f71.name, by decide, Tryz.func71.trans (congrArg some (by kernel_rfl))⟩
  t0 := Tryz.underlying0
  a0 := Tryz.isAgg0
  z0 := Tryz.sizeOf0
  v0 := Tryz.zeroValue0
  t3 := Tryz.underlying3
  a3 := Tryz.isAgg3
  z3 := Tryz.sizeOf3
  v3 := Tryz.zeroValue3
  t4 := Tryz.underlying4
  a4 := Tryz.isAgg4
  z4 := Tryz.sizeOf4
  v4 := Tryz.zeroValue4
  t9 := Tryz.underlying9
  a9 := Tryz.isAgg9
  z9 := Tryz.sizeOf9
  v9 := Tryz.zeroValue9
  t20 := Tryz.underlying20
  a20 := Tryz.isAgg20
  z20 := Tryz.sizeOf20
  v20 := Tryz.zeroValue20
  t22 := Tryz.underlying23
  a22 := Tryz.isAgg23
  z22 := Tryz.sizeOf23
  v22 := Tryz.zeroValue23 }
end Go.Proofs

namespace Go.Proofs.YtiliaincniiijaaGreat
open Go.RowKit Go.Shelf
set_option linter.unusedVariables false

theorem run_append_none {P : Program} (w : World) (t ty e : TypeId) (i : TypeInfo) (ht : P.underlying t = some (.slice e)) (hi : P.info? e = some i) (base : Option Addr) (sLen sCap : Nat) (p : Option Addr) (c : Nat) (h : sLen ≤ sCap) :
    (Builtin.append_ #[t, t] ty #[.slice base sLen sCap, .slice p 0 c]).run P w = .ok (.slice base sLen sCap) w := by
  cases base <;> cases p <;> simp [Builtin.append_, run_underlying ht, sizeOf, typeInfo, hi, Builtin.lenOf, Builtin.firstCells, loadCells, loadCellsFrom, storeCells, h]

/-- What a slice hands over to append: nothing, or as many cells as are told. -/
def Src (w : World) (size : Nat) (u : Value) (m : Nat) (news : List Value) : Prop := (∃ p c, u = .slice p 0 c ∧ m = 0 ∧ news = []) ∨ ∃ ad c, u = .slice (some ad) m c ∧ news.length = m * size ∧ ∀ j x, news[j]? = some x → w.cell? (ad.add j) = some x

theorem wpList_append_src {P : Program} {w : World} {ops : Array Oper} {rest : List Oper} {o : Oper} {a : Act} {Q : Exit → Act → World → Prop} (hgd : o.guard = none) (s x : Operand) (t : TypeId)
    (ho : o.op = .call { callee := .builtin .append, args := #[s, x], argTypes := #[t, t] })
    (base : Nat) (e : TypeId) (i : TypeInfo) (z : Value) (size bytes : Nat) (ht : P.underlying t = some (.slice e)) (hi : P.info? e = some i) (hz : i.zero = some z)
    (hsize : i.size = size) (hby : i.bytes = bytes) (hzs : z.cells.size = size) (hsz : 0 < size)
    (v : Value) (n : Nat) (xs : List Value) (hs : a.eval s = v) (hown : w.ownsRow base e size v n xs)
    (u : Value) (m : Nat) (news : List Value) (hx : a.eval x = u) (hsrc : Src w size u m news) (h1 : ∀ u ∈ news, u.oneCell' = true)
    (h63 : n + m ≤ maxLen) (hbytes : (n + m) * bytes ≤ 140737488355328) (hbase : base ≤ w.heap.size)
    (h : ∀ v' w', w'.ownsRow base e size v' (n + m) (xs ++ news) → w.grownBy w' v.ownBlock → (v'.ownBlock = v.ownBlock ∨ v'.ownBlock = some w.heap.size) → wpList P ops Q rest (a.put o.dst v') w') :
    wpList P ops Q (o :: rest) a w := by
  rcases hsrc with ⟨p, c, rfl, rfl, rfl⟩ | ⟨ad, c, rfl, hl, hnews⟩
  · obtain ⟨b0, n0, c0, rfl, hle⟩ : ∃ b0 n0 c0, v = .slice b0 n0 c0 ∧ n0 ≤ c0 := by
      obtain ⟨-, ⟨rfl, -⟩ | ⟨g, cap, cur, rfl, -, -, hn, -⟩⟩ := hown
      · exact ⟨_, _, _, rfl, Nat.le_refl _⟩
      · exact ⟨_, _, _, rfl, hn⟩
    exact Lib.wpList_append_run w hgd s x t t ho _ _ hs hx _ _ (run_append_none w t o.type e i ht hi b0 n0 c0 p c hle) (h _ _ (by simpa using hown) ⟨rfl, rfl, rfl, Nat.le_refl _, fun _ _ _ => rfl⟩ (Or.inl rfl))
  · exact wpList_append_own_at w hgd s x t ho base e i z size bytes ht hi hz hsize hby hzs hsz v n xs hs hown ad m c news hx hl hnews h1 h63 hbytes hbase (fun v' w' a1 a2 _ a4 => h v' w' a1 a2 a4)

theorem src_row {w : World} {u : Value} {xs : List Val} (h : RowAt w u xs) : Src w 4 u xs.length (flat xs) := by
  obtain ⟨p, c, rfl, rfl | ⟨b, off, rfl, hb, hl⟩⟩ := h
  · exact Or.inl ⟨p, c, rfl, rfl, rfl⟩
  · exact Or.inr ⟨_, c, rfl, flat_len xs, fun j x hj => by rw [Addr.add_lit]; exact lies_cells hl j x hj⟩
theorem src_vals {w : World} {u : Value} {xs : List Value} (h : ValsAt w u xs) : Src w 1 u xs.length xs := by
  rcases h with ⟨c, rfl, rfl⟩ | ⟨b, off, c, rfl, h1, h2⟩
  · exact Or.inl ⟨_, c, rfl, rfl, rfl⟩
  · refine Or.inr ⟨_, c, rfl, by simp, fun j x hj => ?_⟩
    rw [Addr.add_lit]
    obtain ⟨h3, h4⟩ := List.getElem?_eq_some_iff.1 hj
    rw [← h4]
    exact h2 j h3


/-- Room for values, and none there. -/
theorem growV_any (n : Nat) (w : World) (hn : n ≤ 1000000) : Calls Tryz.prog 74 #[.slice none 0 0, .int .i64 n] w fun e w' => ∃ v, e = .returned v ∧ OwnV w.heap.size v [] w' ∧ Below w.heap.size w w' := by
  obtain ⟨i0, hi, hz0, hz1, hz2⟩ := info_parts inV
  by_cases h0 : n = 0
  · subst h0
    refine (Any8.slices_Grow_room Tryz.grV none 0 0 0 w (by omega) (by omega) (by omega) (by omega)).mono ?_
    rintro e w' ⟨rfl, rfl⟩
    exact ⟨_, rfl, World.ownsRow_nil _ _ _ _, Below.refl _ _⟩
  · refine (Any8.slices_Grow_grow Tryz.grV i0 _ hi hz0 (by omega) none 0 0 n [] w (by omega) (by omega) (by rw [hz2]; omega) (by omega) (by simp) (fun _ => rfl) (by intro a h; cases h)).mono ?_
    rintro e w' ⟨rfl, rfl⟩
    refine ⟨_, rfl, ⟨rfl, Or.inr ⟨w.heap.size, _, _, rfl, Nat.le_refl _, heap_alloc _ _, Nat.zero_le _, ?_, ?_, by simp [flat]⟩⟩, ((Below.refl _ _).drew).alloc (Nat.le_refl _) _⟩
    · exact grownCap_le_maxLen w _ _ _ (by unfold maxLen; omega)
    · have hG := grownCap_ge w (0 + n) 0 (Tryz.grV_ren.t 25)
      simp only [Nat.zero_add] at hG
      simp [Builtin.zeroCells, Value.cells]
      omega

set_option maxRecDepth 100000 in
set_option maxHeartbeats 2000000 in
theorem concatV_any (A : Value) (us : List Value) (rs : List (List Val)) (w : World) (hA : ValsAt w A us) (hrs : RowsOf w us rs) (lt : rs.flatten.length ≤ 1000000) (lu : us.length ≤ 1000000) :
    Calls Tryz.prog 60 #[A] w fun e w' => ∃ v, e = .returned v ∧ OwnV w.heap.size v rs.flatten w' ∧ Below w.heap.size w w' := by
  obtain ⟨i0, hi, hz0, hz1, hz2⟩ := info_parts inV
  obtain ⟨p, c, rfl, HV0⟩ := hA.form
  have HV : Hid (∀ k (hk : k < us.length), ∃ b off, p = some ⟨b, off, none⟩ ∧ b < w.heap.size ∧ w.cell? ⟨b, off + k, none⟩ = some us[k]) := HV0
  have HR : Hid (RowsOf w us rs) := hrs
  have HT : Hid (rs.flatten.length ≤ 1000000) := lt
  have GR : Hid (∀ (n : Nat) (W : World), n ≤ 1000000 → Calls Tryz.prog 74 #[.slice none 0 0, .int .i64 n] W fun e w' => ∃ v, e = .returned v ∧ OwnV W.heap.size v [] w' ∧ Below W.heap.size W w') := growV_any
  obtain ⟨n, en⟩ : ∃ n : Nat, Hid (us.length = n) := ⟨_, rfl⟩
  have er : Hid (rs.length = n) := hrs.1.symm.trans en.out
  rw [en.out] at lu ⊢
  clear hA hrs HV0 lt
  go_enter Tryz.func60, Tryz.ntmps60
  go_wp2
  go_loopw [3, 11] (fun s i wr => ∃ (k T : Nat), k ≤ n ∧ i = .int .i64 k ∧ s = .int .i64 T ∧ Hid (T = (rs.take k).flatten.length) ∧ T ≤ 1000000 ∧ w = wr) (fun _ i _ => n - (intOf i).toNat)
  case atStart => exact ⟨0, 0, Nat.zero_le _, rfl, rfl, (show 0 = ((rs.take 0).flatten).length by simp), by omega, rfl⟩
  case round =>
    obtain ⟨k, T, hk, rfl, rfl, hT, lT, rfl⟩ := hrel
    by_cases hlt : k < n
    · have kx : k < us.length := by have := en.out; omega
      have ky : k < rs.length := by have := er.out; omega
      obtain ⟨b, off, rfl, hb, q1⟩ := HV.out k kx
      have hx := HR.out.2 k kx ky
      have hT2 : Hid (T + rs[k].length = (rs.take (k + 1)).flatten.length) := by
        show _ = _
        rw [List.take_succ_eq_append_getElem ky, List.flatten_append, List.length_append, ← hT.out]
        simp
      have hT3 : T + rs[k].length ≤ 1000000 := by
        have h := HT.out
        have h2 : (rs.take (k + 1)).flatten.length ≤ rs.flatten.length := by
          conv => rhs; rw [← List.take_append_drop (k + 1) rs]
          rw [List.flatten_append, List.length_append]
          omega
        have := hT2.out
        omega
      generalize us[k] = u at q1 hx
      obtain ⟨pu, cu, rfl⟩ := hx.form
      generalize rs[k].length = nx at q1 hT2 hT3
      clear hx
      go_wp2
      exact ⟨⟨k + 1, T + nx, by omega, by go_num, by go_num, hT2, hT3, by trivial⟩, by simp [intOf]; omega⟩
    · have c2 : ¬ (k : Int) < n := by omega
      have hT2 : Hid (T = rs.flatten.length) := by
        have h := hT.out
        rwa [List.take_of_length_le (by have := er.out; omega)] at h
      go_wp2_with fail
      refine (GR.out T _ lT).mono ?_
      rintro e w1 ⟨v, rfl, ho, hb1⟩
      have HO : Hid (OwnV w.heap.size v [] w1) := ho
      obtain ⟨pv, nv, cv, rfl⟩ : ∃ pv nv cv, v = .slice pv nv cv := by
        obtain ⟨-, ⟨e, -⟩ | ⟨g, cap, cur, e, -⟩⟩ := ho
        · exact ⟨_, _, _, e⟩
        · exact ⟨_, _, _, e⟩
      clear ho
      go_wp2
      go_loopw [6, 27] (fun v i wr => ∃ (k : Nat), k ≤ n ∧ i = .int .i64 k ∧ Hid (OwnV w.heap.size v (rs.take k).flatten wr) ∧ Below w.heap.size w wr) (fun _ i _ => n - (intOf i).toNat)
      case atStart => exact ⟨0, Nat.zero_le _, rfl, HO, hb1⟩
      case round =>
        obtain ⟨k2, hk2, rfl, HO2, hB2⟩ := hrel
        by_cases hlt2 : k2 < n
        · have kx : k2 < us.length := by have := en.out; omega
          have ky : k2 < rs.length := by have := er.out; omega
          obtain ⟨b, off, rfl, hb, q1⟩ := HV.out k2 kx
          have q2 : wr.cell? ⟨b, off + k2, none⟩ = some us[k2] := (hB2.cell (p := ⟨b, _, none⟩) hb).trans q1
          have hx := (HR.out.2 k2 kx ky).below hB2
          have hF : Hid ((rs.take (k2 + 1)).flatten = (rs.take k2).flatten ++ rs[k2]) := by
            show _ = _
            rw [List.take_succ_eq_append_getElem ky, List.flatten_append]
            simp
          have hT3 : ((rs.take k2).flatten).length + rs[k2].length ≤ 1000000 := by
            have h := HT.out
            have h2 : (rs.take (k2 + 1)).flatten.length ≤ rs.flatten.length := by
              conv => rhs; rw [← List.take_append_drop (k2 + 1) rs]
              rw [List.flatten_append, List.length_append]
              omega
            rw [hF.out, List.length_append] at h2
            omega
          clear q1
          generalize us[k2] = u at q2 hx
          generalize rs[k2] = x at hx hF hT3
          obtain ⟨F, eF⟩ : ∃ F, Hid ((rs.take k2).flatten = F) := ⟨_, rfl⟩
          rw [eF.out] at HO2 hF hT3
          have HX : Hid (Src wr 4 u x.length (flat x)) := src_row hx
          obtain ⟨pu, cu, rfl⟩ := hx.form
          have hK := hB2.size
          have HK : Hid (∀ q, u6.ownBlock = some q → w.heap.size ≤ q) := fun q hq => (World.ownsRow.lt HO2.out q hq).1
          clear hx
          go_wp2_with (at_builtin; refine wpList_append_src rfl (.tmp 31) (.tmp 32) 26 rfl w.heap.size 45 i0 _ 4 40 Tryz.underlying26 hi hz0 hz1 hz2 rfl (by decide) _ _ _ rfl HO2.out _ x.length (flat x) rfl HX.out (flat_one x) (by unfold maxLen; omega) (by omega) hK ?grow)
          case grow =>
            intro v' w3 h2 h3 _
            have O3 : Hid (OwnV w.heap.size v' (rs.take (k2 + 1)).flatten w3) := by
              show OwnV _ _ _ _
              rw [hF.out]
              unfold OwnV
              rw [List.length_append, flat, List.flatMap_append]
              exact h2
            have B3 : Below w.heap.size w w3 := hB2.grown h3 hK HK.out
            clear h2 h3 HX HO2 HK
            go_wp2
            exact ⟨⟨k2 + 1, by omega, by go_num, O3, B3⟩, by simp [intOf]; omega⟩
        · have c3 : ¬ (k2 : Int) < n := by omega
          have O3 : Hid (OwnV w.heap.size u6 rs.flatten wr) := by
            have h := HO2.out
            rwa [List.take_of_length_le (by have := er.out; omega)] at h
          go_wp2
          go_ret
          exact ⟨_, rfl, O3.out, hB2⟩

end Go.Proofs.YtiliaincniiijaaGreat

namespace Go.Proofs.YtiliaincniiijaaGreat
open Go.RowKit Go.Shelf Go.Sort
set_option linter.unusedVariables false

theorem OwnRs.below {B : Nat} {zs : List Value} {L : List (List Val)} {w w' : World} (h : OwnRs B zs L w) (hb : Below w.heap.size w w') : OwnRs B zs L w' := ⟨h.1, fun i h1 h2 => own_below (h.2 i h1 h2) hb⟩
theorem OwnRs.base {B B' : Nat} {zs : List Value} {L : List (List Val)} {w : World} (h : OwnRs B zs L w) (hB : B' ≤ B) : OwnRs B' zs L w := ⟨h.1, fun i h1 h2 => own_base (h.2 i h1 h2) hB⟩
theorem OwnRs.nil (B : Nat) (w : World) : OwnRs B [] [] w := ⟨rfl, fun i h => absurd h (Nat.not_lt_zero _)⟩
/-- One row more. -/
theorem rs_more {B : Nat} {zs : List Value} {L : List (List Val)} {v x : Value} {r : List Val} {n : Nat} {wx w2 : World} (h1 : wx.ownsRow B 26 1 v n zs) (h2 : OwnRs B zs L wx) (hx : OwnV B x r wx) (hg : (wx.alloc (.cells #[x] 26)).grownBy w2 v.ownBlock) : OwnRs B (zs ++ [x]) (L ++ [r]) w2 := by
  have keepV : ∀ (u : Value) (y : List Val), OwnV B u y wx → OwnV B u y w2 := fun u y h => by
    have a1 := World.ownsRow.alloc h (.cells #[x] 26)
    exact World.ownsRow.kept a1 hg (own_ne2 a1 (World.ownsRow.alloc h1 _) (by decide))
  obtain ⟨hl, hr⟩ := h2
  refine ⟨by simp [hl], fun i g1 g2 => ?_⟩
  by_cases hi : i < zs.length
  · rw [List.getElem_append_left hi, List.getElem_append_left (by omega)]
    exact keepV _ _ (hr i hi (by omega))
  · have e1 : i = zs.length := by simp at g1; omega
    subst e1
    rw [List.getElem_append_right (Nat.le_refl _), List.getElem_append_right (by omega)]
    simp only [Nat.sub_self, hl, List.getElem_cons_zero]
    exact keepV _ _ hx

theorem MapG.at2 {w : World} {b base n : Nat} {G : List Val → List Value} {ks : List Val} {kl : Lit} (h : MapG w b base n G) (hl : ks.length = 8) (hkey : keyOf Tryz.prog 79 (keyV ks) = some kl) :
    ∃ v, w.ownsRow base 26 1 v (G ks).length (G ks) ∧ ∀ W, Below w.heap.size w W → (Instr.lookup 76 (.map (some b)) (keyV ks) false).run Tryz.prog W = .ok v W := by
  obtain ⟨es, clock, hb, F, hs, hbb, hown, hnone, hap⟩ := h
  have hblt : b < w.heap.size := (Array.getElem?_eq_some_iff.1 hb).1
  have hW : ∀ W, Below w.heap.size w W → W.heap[b]? = some (.map es clock) := fun W hB => (hB.block b hblt).trans hb
  have uniq : ∀ x ∈ es.toList, ∀ y ∈ es.toList, x.key = y.key → x = y := by
    have hn := ((MapKept.stamped_iff es clock).1 F.stamped).2.2
    intro x hx y hy e
    obtain ⟨i, hi, rfl⟩ := List.getElem_of_mem hx
    obtain ⟨j, hj, rfl⟩ := List.getElem_of_mem hy
    have hp := List.pairwise_iff_getElem.1 hn
    rcases Nat.lt_trichotomy i j with g | g | g
    · exact absurd e (hp i j hi hj g)
    · subst g; rfl
    · exact absurd e.symm (hp j i hj hi g)
  by_cases hex : ∃ e0 ∈ es.toList, e0.key = keyV ks
  · obtain ⟨e0, hm0, h3⟩ := hex
    obtain ⟨js, h4, h5, h6⟩ := hown e0 hm0
    obtain rfl := keyV_inj (h5.symm.trans h3)
    refine ⟨e0.val, h6, fun W hB => ?_⟩
    rcases Maps.fit_look false key_law Tryz.underlying76 (zeroRs W) (hW W hB) F hkey with ⟨-, hno, -⟩ | ⟨e1, y, hm1, h7, hrun, -⟩
    · exact absurd h3 (hno e0 hm0)
    · rw [uniq e1 hm1 e0 hm0 (h7.trans h3.symm)] at hrun
      exact hrun
  · have hno : ∀ x ∈ es.toList, x.key ≠ keyV ks := fun x hx e => hex ⟨x, hx, e⟩
    refine ⟨.slice none 0 0, ?_, fun W hB => ?_⟩
    · rw [hnone ks hl hno]
      exact World.ownsRow_nil _ _ _ _
    · rcases Maps.fit_look false key_law Tryz.underlying76 (zeroRs W) (hW W hB) F hkey with ⟨hrun, -, -⟩ | ⟨e1, y, hm1, h7, hrun, -⟩
      · exact hrun
      · exact absurd h7 (hno e1 hm1)
theorem own_form {w : World} {B e n : Nat} {v : Value} {xs : List Value} (h : w.ownsRow B e 1 v n xs) : ∃ p c, v = .slice p n c ∧ ∀ j (hj : j < xs.length), ∃ g, p = some ⟨g, 0, none⟩ ∧ B ≤ g ∧ g < w.heap.size ∧ w.cell? ⟨g, j, none⟩ = some xs[j] := by
  have hl := h.1
  have hc := @World.ownsRow.cellAt
  rcases h.2 with ⟨rfl, rfl⟩ | ⟨g, cap, cur, rfl, hb, hg, hn⟩
  · exact ⟨none, 0, rfl, fun j hj => by omega⟩
  · refine ⟨_, cap, rfl, fun j hj => ⟨g, rfl, hb, (Array.getElem?_eq_some_iff.1 hg).1, ?_⟩⟩
    rw [World.ownsRow.cellAt h j (by omega)]
    exact List.getElem?_eq_getElem hj
theorem slice_of {w : World} {B e size n : Nat} {v : Value} {xs : List Value} (h : w.ownsRow B e size v n xs) : ∃ p m c, v = .slice p m c := by
  obtain ⟨-, ⟨e, -⟩ | ⟨g, cap, cur, e, -⟩⟩ := h
  · exact ⟨_, _, _, e⟩
  · exact ⟨_, _, _, e⟩

theorem bothL_mem {us : List ByteArray} : ∀ {l : List ByteArray} {k : Nat} {x : Nat × Nat}, x ∈ bothL us k l → k ≤ x.1 ∧ x.1 < k + l.length ∧ x.2 < us.length
  | [], k, x, h => by cases h
  | y :: l, k, x, h => by
    unfold bothL at h
    split at h
    · obtain ⟨a, b, c⟩ := bothL_mem h
      exact ⟨by omega, by simp; omega, c⟩
    · rename_i hn
      rcases List.mem_cons.1 h with rfl | h
      · exact ⟨Nat.le_refl _, by simp, (idx_lt hn).1⟩
      · obtain ⟨a, b, c⟩ := bothL_mem h
        exact ⟨by omega, by simp; omega, c⟩
theorem bothL_len {us : List ByteArray} : ∀ (l : List ByteArray) (k : Nat), (bothL us k l).length ≤ l.length
  | [], _ => Nat.le_refl _
  | y :: l, k => by
    have := bothL_len (us := us) l (k + 1)
    unfold bothL
    split <;> simp <;> omega
theorem grp_below {w w' : World} {cs : List Nat} {us : List Value} (h : ∀ u ∈ us, Fit w cs u) (hb : Below w.heap.size w w') : grp w' cs us = grp w cs us := by
  funext ks
  unfold grp
  refine List.filter_congr fun u hu => ?_
  rw [rwOf_below (h u hu) hb]
theorem rows_two {W : World} {u1 u2 : Value} {x y : List Val} (h1 : RowAt W u1 x) (h2 : RowAt W u2 y) : RowsOf W [u1, u2] [x, y] := ⟨rfl, fun i a b => by
  rcases i with _ | _ | i
  · exact h1
  · exact h2
  · simp at a; omega⟩

/-- The rows of a join: each row with what fits it. -/
def pairOf (G : List Val → List Value) (f : Value → List Val) (ours added : List Nat) (rs : List (List Val)) : List (List Val) := rs.flatMap fun r => (G (padK (picks r ours))).map fun u => r ++ picks (f u) added

set_option maxRecDepth 100000 in
set_option maxHeartbeats 8000000 in
theorem pair_any (Va Ra Vb Rb C : Value) (vs vs' : List ByteArray) (us us' : List Value) (rs qs : List (List Val)) (added : List Nat) (w : World) (hVa : StrsAt w Va vs) (hVb : StrsAt w Vb vs') (hRa : ValsAt w Ra us) (hRb : ValsAt w Rb us') (hrs : RowsOf w us rs) (hqs : RowsOf w us' qs) (hC : IntsAt w C added)
    (or : ∀ r ∈ rs, r.length = vs.length ∧ okR r) (oq : ∀ r ∈ qs, r.length = vs'.length ∧ okR r) (lv : vs.length ≤ 8) (lv' : vs'.length ≤ 8) (la : added.length ≤ 8) (ha : ∀ c ∈ added, c < vs'.length) (lu : us.length ≤ 5864062014805) (lu' : us'.length ≤ 5864062014805)
    (lp : (pairOf (grp w ((bothL vs' 0 vs).map (·.2)) us') (rwOf w) ((bothL vs' 0 vs).map (·.1)) added rs).length ≤ 5864062014805) :
    Calls Tryz.prog 32 #[.agg #[Va, Ra], .agg #[Vb, Rb], C] w fun e w' => ∃ v zs, e = .returned v ∧ w'.ownsRow w.heap.size 26 1 v zs.length zs ∧ OwnRs w.heap.size zs (pairOf (grp w ((bothL vs' 0 vs).map (·.2)) us') (rwOf w) ((bothL vs' 0 vs).map (·.1)) added rs) w' ∧ Below w.heap.size w w' := by
  obtain ⟨i0, hi, hz0, hz1, hz2⟩ := info_parts inR
  have hcs0 : ∀ c ∈ (bothL vs' 0 vs).map (·.1), c < vs.length := fun c hc => by
    obtain ⟨x, hx, rfl⟩ := List.mem_map.1 hc
    have := bothL_mem hx
    omega
  have hds0 : ∀ c ∈ (bothL vs' 0 vs).map (·.2), c < vs'.length := fun c hc => by
    obtain ⟨x, hx, rfl⟩ := List.mem_map.1 hc
    exact (bothL_mem hx).2.2
  have lcs0 : ((bothL vs' 0 vs).map (·.1)).length ≤ 8 := by rw [List.length_map]; have := bothL_len (us := vs') vs 0; omega
  have lds0 : ((bothL vs' 0 vs).map (·.2)).length ≤ 8 := by rw [List.length_map]; have := bothL_len (us := vs') vs 0; omega
  have hpk : Hid (∀ x : List Val, x.length = vs.length → (picks x ((bothL vs' 0 vs).map (·.1))).length ≤ 8) := fun x hx => by
    rw [picks_len (fun c hc => by rw [hx]; exact hcs0 c hc)]
    exact lcs0
  have cb : Hid (∀ W, Below w.heap.size w W → Calls Tryz.prog 49 #[Va, Vb] W fun e w' => ∃ v v', e = .returned (.tuple #[v, v']) ∧ OwnI W.heap.size v ((bothL vs' 0 vs).map (·.1)) w' ∧ OwnI W.heap.size v' ((bothL vs' 0 vs).map (·.2)) w' ∧ Below W.heap.size W w') := fun W hW => cboth_any Va Vb vs vs' W (hVa.below hW) (hVb.below hW) (by omega) (by omega)
  generalize (bothL vs' 0 vs).map (·.1) = cs at *
  generalize (bothL vs' 0 vs).map (·.2) = ds at *
  have hrowq : ∀ u ∈ us', RowAt w u (rwOf w u) ∧ okR (rwOf w u) ∧ (rwOf w u).length = vs'.length := fun u hu => by
    obtain ⟨i, hi, e⟩ := List.getElem_of_mem hu
    have g : i < qs.length := by have := hqs.1; omega
    have h := hqs.2 i hi g
    rw [e] at h
    rw [rwOf_eq h]
    exact ⟨h, (oq _ (List.getElem_mem g)).2, (oq _ (List.getElem_mem g)).1⟩
  have hfit : ∀ u ∈ us', Fit w ds u := fun u hu => by
    obtain ⟨a, b, c⟩ := hrowq u hu
    exact ⟨_, a, b, fun d hd => by rw [c]; exact hds0 d hd, by omega⟩
  have ix : Hid (∀ (W : World) (D : Value), Below w.heap.size w W → IntsAt W D ds → Calls Tryz.prog 50 #[Rb, D] W fun e w' => e = .returned (.map (some W.heap.size)) ∧ MapG w' W.heap.size (W.heap.size + 1) us'.length (grp w ds us') ∧ Below W.heap.size W w') := fun W D hW hD => by
    have h := index_any Rb D us' ds W (hRb.below hW) hD (fun u hu => (hfit u hu).below hW) lds0 lu'
    rw [grp_below hfit hW] at h
    exact h
  have kc : Hid (∀ (W : World) (u : Value) (x : List Val) (D : Value), RowAt W u x → IntsAt W D cs → x.length = vs.length → Calls Tryz.prog 51 #[u, D] W fun e w' => e = .returned (keyV (padK (picks x cs))) ∧ Below W.heap.size W w') := fun W u x D hu hD hx => keyOf_any u D x cs W hu hD (fun c hc => by rw [hx]; exact hcs0 c hc) (by omega) lcs0
  have pc : Hid (∀ (W : World) (u : Value), Below w.heap.size w W → u ∈ us' → Calls Tryz.prog 59 #[u, C] W fun e w' => ∃ v, e = .returned v ∧ OwnV W.heap.size v (picks (rwOf w u) added) w' ∧ Below W.heap.size W w') := fun W u hW hu => by
    obtain ⟨a, b, c⟩ := hrowq u hu
    refine (pickV_any u C _ added W (a.below hW) (hC.below hW) (fun d hd => by rw [c]; exact ha d hd) (by omega) (by omega)).mono ?_
    rintro e w' ⟨v, h1, h2, -, h3⟩
    exact ⟨v, h1, h2, h3⟩
  have cc : Hid (∀ (W : World) (A u1 u2 : Value) (x y : List Val), ValsAt W A [u1, u2] → RowAt W u1 x → RowAt W u2 y → x.length ≤ 8 → y.length ≤ 8 → Calls Tryz.prog 60 #[A] W fun e w' => ∃ v, e = .returned v ∧ OwnV W.heap.size v (x ++ y) w' ∧ Below W.heap.size W w') := fun W A u1 u2 x y hA h1 h2 l1 l2 => by
    have h := concatV_any A [u1, u2] [x, y] W hA (rows_two h1 h2) (by simp; omega) (by simp)
    rw [show [x, y].flatten = x ++ y by simp] at h
    exact h
  have HA : Hid (∀ c ∈ added, c < vs'.length) := ha
  have LA : Hid (∀ y : List Val, y.length = vs'.length → (picks y added).length ≤ 8) := fun y hy => by
    rw [picks_len (fun c hc => by rw [hy]; exact ha c hc)]
    exact la
  have HRQ : Hid (∀ u ∈ us', RowAt w u (rwOf w u) ∧ okR (rwOf w u) ∧ (rwOf w u).length = vs'.length) := hrowq
  have HOR : Hid (∀ r ∈ rs, r.length = vs.length ∧ okR r) := or
  obtain ⟨p1, k1, rfl⟩ := hVa.form
  obtain ⟨p2, k2, rfl⟩ := hVb.form
  obtain ⟨p3, k3, rfl, H3⟩ := hRa.form
  obtain ⟨p4, k4, rfl, -⟩ := hRb.form
  obtain ⟨p5, k5, rfl⟩ := hC.form
  have HV : Hid (∀ k (hk : k < us.length), ∃ b off, p3 = some ⟨b, off, none⟩ ∧ b < w.heap.size ∧ w.cell? ⟨b, off + k, none⟩ = some us[k]) := H3
  have HR : Hid (RowsOf w us rs) := hrs
  clear hVa hVb hRa hRb hC hrs hqs or oq ha la hrowq hfit H3
  obtain ⟨G, eG⟩ : ∃ G, Hid (grp w ds us' = G) := ⟨_, rfl⟩
  have HG : Hid (∀ ks, ∀ u ∈ G ks, u ∈ us') := fun ks u hu => by
    rw [← eG.out] at hu
    exact (List.mem_filter.1 hu).1
  rw [eG.out] at ix lp ⊢
  obtain ⟨F, eF⟩ : ∃ F, Hid (pairOf G (rwOf w) cs added rs = F) := ⟨_, rfl⟩
  rw [eF.out] at lp ⊢
  obtain ⟨n, en⟩ : ∃ n : Nat, Hid (us.length = n) := ⟨_, rfl⟩
  obtain ⟨m, em⟩ : ∃ n : Nat, Hid (us'.length = n) := ⟨_, rfl⟩
  rw [en.out] at lu ⊢
  rw [em.out] at lu' ix ⊢
  have lnv : Hid (vs.length ≤ 8) := lv
  have lnv' : Hid (vs'.length ≤ 8) := lv'
  generalize vs.length = n1 at *
  generalize vs'.length = n2 at *
  generalize added.length = n5 at *
  go_enter Tryz.func32, Tryz.ntmps32
  go_upto_region 1 with fail
  refine wp_world ?_
  intro W0 hW0
  have A0 : W0.cell? ⟨w.heap.size, 0, none⟩ = some (.slice p1 n1 k1) := by rw [hW0]; simp (maxDischargeDepth := 12) [go_sem]
  have A1 : W0.cell? ⟨w.heap.size, 1, none⟩ = some (.slice p3 n k3) := by rw [hW0]; simp (maxDischargeDepth := 12) [go_sem]
  have B0 : W0.cell? ⟨w.heap.size + 1, 0, none⟩ = some (.slice p2 n2 k2) := by rw [hW0]; simp (maxDischargeDepth := 12) [go_sem]
  have B1 : W0.cell? ⟨w.heap.size + 1, 1, none⟩ = some (.slice p4 m k4) := by rw [hW0]; simp (maxDischargeDepth := 12) [go_sem]
  have z0 : w.heap.size + 1 < W0.heap.size := by rw [hW0]; simp
  have K0 : Below w.heap.size w W0 := by rw [hW0]; go_grown
  clear hW0
  go_wp2_with fail
  refine (cb.out W0 K0).mono ?_
  rintro e w1 ⟨vo, vt, rfl, o1, o2, hb1⟩
  have a1 := (hb1.cell (p := ⟨w.heap.size, 1, none⟩) (by show w.heap.size < W0.heap.size; omega)).trans A1
  have b1 := (hb1.cell (p := ⟨w.heap.size + 1, 1, none⟩) (by show w.heap.size + 1 < W0.heap.size; omega)).trans B1
  have K1 : Below w.heap.size w w1 := K0.trans (hb1.mono K0.size)
  have z1 : w.heap.size + 1 < w1.heap.size := Nat.lt_of_lt_of_le z0 hb1.size
  have I1 : Hid (IntsAt w1 vo cs) := o1.ints
  have I2 : Hid (IntsAt w1 vt ds) := o2.ints
  obtain ⟨po, ko, eo⟩ := o1.ints.form
  obtain ⟨pt, kt, et⟩ := o2.ints.form
  generalize cs.length = no at *
  generalize ds.length = nt at *
  subst eo et
  clear A0 A1 B0 B1 o1 o2 cb K0 hb1
  go_wp2_with fail
  refine (ix.out w1 _ K1 I2.out).mono ?_
  rintro e w2 ⟨rfl, hM, hb2⟩
  have a2 := (hb2.cell (p := ⟨w.heap.size, 1, none⟩) (by show w.heap.size < w1.heap.size; omega)).trans a1
  have K2 : Below w.heap.size w w2 := K1.trans (hb2.mono K1.size)
  have J1 : Hid (IntsAt w2 (.slice po no ko) cs) := I1.out.below hb2
  have HM : Hid (MapG w2 w1.heap.size (w1.heap.size + 1) m G) := hM
  have z2 : w.heap.size + 1 < w2.heap.size := Nat.lt_of_lt_of_le z1 hb2.size
  clear a1 b1 I1 I2 ix hM hb2
  go_wp2
  go_loopw [10, 30] (fun v i wr => ∃ (k : Nat) (zs : List Value) (L : List (List Val)), k ≤ n ∧ i = .int .i64 k ∧ Hid (F = L ++ pairOf G (rwOf w) cs added (rs.drop k)) ∧ Hid (wr.ownsRow w2.heap.size 26 1 v zs.length zs) ∧ Hid (OwnRs w2.heap.size zs L wr) ∧ Below w2.heap.size w2 wr) (fun _ i _ => n - (intOf i).toNat)
  case atStart => exact ⟨0, [], [], Nat.zero_le _, rfl, (show F = [] ++ pairOf G (rwOf w) cs added (rs.drop 0) by simpa using eF.out.symm), World.ownsRow_nil _ _ _ _, OwnRs.nil _ _, Below.refl _ _⟩
  case round =>
    obtain ⟨k, zs, L, hk, rfl, hF, hO, hR2, hB⟩ := hrel
    have KW : Below w.heap.size w wr := K2.trans (hB.mono K2.size)
    by_cases hlt : k < n
    · have kx : k < us.length := by have := en.out; omega
      have ky : k < rs.length := by have := en.out; have := HR.out.1; omega
      obtain ⟨b, off, rfl, hb, q1⟩ := HV.out k kx
      have q2 : wr.cell? ⟨b, off + k, none⟩ = some us[k] := (KW.cell (p := ⟨b, _, none⟩) hb).trans q1
      have hx0 := HR.out.2 k kx ky
      have hx := hx0.below KW
      obtain ⟨hxl, hxo⟩ := HOR.out _ (List.getElem_mem ky)
      have hF2 : Hid (F = L ++ ((G (padK (picks rs[k] cs))).map fun u => rs[k] ++ picks (rwOf w u) added) ++ pairOf G (rwOf w) cs added (rs.drop (k + 1))) := by
        have h := hF.out
        rw [List.drop_eq_getElem_cons ky] at h
        show _ = _
        rw [h, List.append_assoc]
        rfl
      clear q1 hF
      generalize us[k] = u at q2 hx hx0
      generalize rs[k] = x at hx hx0 hxl hxo hF2
      have hpl : (picks x cs).length ≤ 8 := hpk.out x hxl
      have hkb : ∀ v ∈ padK (picks x cs), Kb v := fun v hv => by
        rcases List.mem_append.1 hv with hv | hv
        · exact kb_of (hxo.picks cs v hv).1 (hxo.picks cs v hv).2
        · rw [List.eq_of_mem_replicate hv]; exact kb_val0
      obtain ⟨kl, hkl⟩ := keyV_key (padK_len hpl) hkb
      obtain ⟨gv, hgo, hgr⟩ := HM.out.at2 (padK_len hpl) hkl
      have kcall : Hid (Calls Tryz.prog 51 #[u, .slice po no ko] wr fun e w' => e = .returned (keyV (padK (picks x cs))) ∧ Below wr.heap.size wr w') := kc.out wr u x _ hx (J1.out.below hB) hxl
      obtain ⟨pg, cg, rfl, hgc⟩ := own_form hgo
      obtain ⟨pu, cu, rfl⟩ := hx.form
      have HX : Hid (RowAt w (.slice pu x.length cu) x) := hx0
      have HG2 : Hid (∀ u ∈ G (padK (picks x cs)), u ∈ us') := HG.out _
      have HXL : Hid (x.length = n1) := hxl
      rw [hxl] at q2 kcall HX
      generalize padK (picks x cs) = ks at hF2 hgo hgr kcall hgc HG2 hkl
      clear hpl hkb hx hx0 hxo hxl
      obtain ⟨gs, egs⟩ : ∃ gs, Hid (G ks = gs) := ⟨_, rfl⟩
      rw [egs.out] at hF2 hgo hgc HG2
      rw [egs.out] at hgr
      have HGC : Hid (∀ j (hj : j < gs.length), ∃ g, pg = some ⟨g, 0, none⟩ ∧ w1.heap.size + 1 ≤ g ∧ g < w2.heap.size ∧ w2.cell? ⟨g, j, none⟩ = some gs[j]) := hgc
      obtain ⟨m2, em2⟩ : ∃ m2 : Nat, Hid (gs.length = m2) := ⟨_, rfl⟩
      rw [em2.out] at hgr
      have HGR : Hid (∀ W, Below w2.heap.size w2 W → (Instr.lookup 76 (.map (some w1.heap.size)) (keyV ks) false).run Tryz.prog W = .ok (.slice pg m2 cg) W) := hgr
      have lm2 : m2 ≤ 9223372036854775807 := by
        have h := em2.out
        have h2 := hF2.out
        have h3 : L.length + gs.length ≤ F.length := by rw [h2]; simp
        omega
      obtain ⟨KV, eKV⟩ : ∃ KV, Hid (keyV ks = KV) := ⟨_, rfl⟩
      rw [eKV.out] at kcall HGR
      clear hgo hgr hgc hkl
      go_wp2_with fail
      refine kcall.out.mono ?_
      rintro e w3 ⟨rfl, hb3⟩
      have hB3 : Below w2.heap.size w2 w3 := hB.trans (hb3.mono hB.size)
      have hO3 : Hid (w3.ownsRow w2.heap.size 26 1 u10 zs.length zs) := own_below hO.out hb3
      have hR3 : Hid (OwnRs w2.heap.size zs L w3) := hR2.out.below hb3
      have hrun := HGR.out w3 hB3
      clear kcall q2 hO hR2 hB HGR hb3 KW
      go_wp2_with (refine wpList_lookup_run _ rfl (.tmp 34) (.tmp 37) 76 rfl (.map (some w1.heap.size)) KV rfl rfl (.slice pg m2 cg) w3 ?hr ?_)
      case hr => exact hrun
      go_loopw [10, 40] (fun v i wr => ∃ (j : Nat) (zs : List Value) (L : List (List Val)), j ≤ m2 ∧ i = .int .i64 j ∧ Hid (F = L ++ ((gs.drop j).map fun u => x ++ picks (rwOf w u) added) ++ pairOf G (rwOf w) cs added (rs.drop (k + 1))) ∧ Hid (wr.ownsRow w2.heap.size 26 1 v zs.length zs) ∧ Hid (OwnRs w2.heap.size zs L wr) ∧ Below w2.heap.size w2 wr) (fun _ i _ => m2 - (intOf i).toNat)
      case atStart => exact ⟨0, zs, L, Nat.zero_le _, rfl, (show F = L ++ ((gs.drop 0).map fun u => x ++ picks (rwOf w u) added) ++ pairOf G (rwOf w) cs added (rs.drop (k + 1)) by simpa using hF2.out), hO3, hR3, hB3⟩
      case round =>
        obtain ⟨j, zs', L', hj, rfl, hF3, hO4, hR4, hB4⟩ := hrel
        have KI : Below w.heap.size w wr := K2.trans (hB4.mono K2.size)
        by_cases hlt2 : j < m2
        · have jx : j < gs.length := by have := em2.out; omega
          obtain ⟨g, rfl, hg1, hg2, q1⟩ := HGC.out j jx
          have q2 : wr.cell? ⟨g, j, none⟩ = some gs[j] := (hB4.cell (p := ⟨g, _, none⟩) hg2).trans q1
          have hmem := HG2.out gs[j] (List.getElem_mem jx)
          have hF4 : Hid (F = (L' ++ [x ++ picks (rwOf w gs[j]) added]) ++ ((gs.drop (j + 1)).map fun u => x ++ picks (rwOf w u) added) ++ pairOf G (rwOf w) cs added (rs.drop (k + 1))) := by
            have h := hF3.out
            rw [List.drop_eq_getElem_cons jx, List.map_cons] at h
            show _ = _
            rw [h]
            simp
          have hrow := HRQ.out gs[j] hmem
          have pcall : Hid (Calls Tryz.prog 59 #[gs[j], .slice p5 n5 k5] wr fun e w' => ∃ v, e = .returned v ∧ OwnV wr.heap.size v (picks (rwOf w gs[j]) added) w' ∧ Below wr.heap.size wr w') := pc.out wr gs[j] KI hmem
          have hbd : zs'.length + 1 ≤ 5864062014805 := by
            have h1 := hR4.out.1
            have h2 : (L' ++ [x ++ picks (rwOf w gs[j]) added]).length ≤ F.length := by rw [hF4.out]; simp
            simp at h2
            omega
          clear hF3 q1 hmem
          generalize gs[j] = uo at q2 hF4 hrow pcall
          obtain ⟨y, ey⟩ : ∃ y, Hid (rwOf w uo = y) := ⟨_, rfl⟩
          rw [ey.out] at hF4 hrow pcall
          obtain ⟨hy1, hy2, hy3⟩ := hrow
          obtain ⟨pp, cp, rfl⟩ := hy1.form
          rw [hy3] at q2 pcall
          have hpl2 : (picks y added).length ≤ 8 := LA.out y hy3
          clear hy1 hy2 hy3
          go_wp2_with fail
          refine pcall.out.mono ?_
          rintro e x1 ⟨vp, rfl, op, hbp⟩
          obtain ⟨pv, nv, cv, rfl⟩ := slice_of op
          have KX : Below w.heap.size w x1 := KI.trans (hbp.mono KI.size)
          have hr1 : RowAt x1 (.slice pu n1 cu) x := HX.out.below KX
          have hr2 : RowAt x1 (.slice pv nv cv) (picks y added) := op.row
          have hB5 : Below x1.heap.size x1 (x1.alloc (.cells #[.slice pu n1 cu, .slice pv nv cv] 26)) := (Below.refl _ _).alloc (Nat.le_refl _) _
          have hvals : ValsAt (x1.alloc (.cells #[.slice pu n1 cu, .slice pv nv cv] 26)) (.slice (some ⟨x1.heap.size, 0, none⟩) 2 2) [.slice pu n1 cu, .slice pv nv cv] := Or.inr ⟨x1.heap.size, 0, 2, rfl, Or.inr (by simp), fun i h => by
            rcases i with _ | _ | i
            · exact cell_of_heap (heap_alloc x1 _) 0 rfl
            · exact cell_of_heap (heap_alloc x1 _) 1 rfl
            · simp at h; omega⟩
          have ccall : Hid (Calls Tryz.prog 60 #[.slice (some ⟨x1.heap.size, 0, none⟩) 2 2] (x1.alloc (.cells #[.slice pu n1 cu, .slice pv nv cv] 26)) fun e w' => ∃ v, e = .returned v ∧ OwnV (x1.alloc (.cells #[.slice pu n1 cu, .slice pv nv cv] 26)).heap.size v (x ++ picks y added) w' ∧ Below (x1.alloc (.cells #[.slice pu n1 cu, .slice pv nv cv] 26)).heap.size (x1.alloc (.cells #[.slice pu n1 cu, .slice pv nv cv] 26)) w') := cc.out _ _ _ _ x (picks y added) hvals (hr1.below hB5) (hr2.below hB5) (by have := HXL.out; have := lnv.out; omega) hpl2
          have hO5 : Hid (x1.ownsRow w2.heap.size 26 1 u10 zs'.length zs') := own_below hO4.out hbp
          have hR5 : Hid (OwnRs w2.heap.size zs' L' x1) := hR4.out.below hbp
          have hB6 : Below w2.heap.size w2 x1 := hB4.trans (hbp.mono hB4.size)
          clear pcall q2 hO4 hR4 hB4 hbp op hr1 hr2 hvals KI
          go_wp2_with fail
          refine ccall.out.mono ?_
          rintro e x2 ⟨vc, rfl, oc, hbc⟩
          obtain ⟨pw, nw, cw, rfl⟩ := slice_of oc
          have hb6 : Below x1.heap.size x1 x2 := hB5.trans (hbc.mono hB5.size)
          have hO6 : Hid (x2.ownsRow w2.heap.size 26 1 u10 zs'.length zs') := own_below hO5.out hb6
          have hR6 : Hid (OwnRs w2.heap.size zs' L' x2) := hR5.out.below hb6
          have hB7 : Below w2.heap.size w2 x2 := hB6.trans (hb6.mono hB6.size)
          have OC : Hid (OwnV w2.heap.size (.slice pw nw cw) (x ++ picks y added) x2) := own_base oc (by have := hB6.size; simp; omega)
          have hK7 := hB7.size
          have HK : Hid (∀ q, u10.ownBlock = some q → w2.heap.size ≤ q) := fun q hq => (World.ownsRow.lt hO6.out q hq).1
          clear ccall hO5 hR5 hB6 hB5 hbc oc hb6 KX
          go_wp2_with (at_builtin; refine wpList_append_own_at _ rfl (.tmp 44) (.tmp 51) 23 rfl w2.heap.size 26 i0 (.slice none 0 0) 1 24 Tryz.underlying23 hi hz0 hz1 hz2 rfl (by decide) u10 zs'.length zs' rfl (World.ownsRow.alloc hO6.out _) ⟨x2.heap.size, 0, none⟩ 1 1 [.slice pw nw cw] rfl rfl ?d1 ?d2 (by unfold maxLen; omega) (by omega) (by simp; omega) ?grow)
          case d1 => (intro j u hj; rw [Addr.add_lit]; (rcases j with _ | j) <;> simp at hj; subst hj; simp (maxDischargeDepth := 12) [go_sem])
          case d2 => (intro u hu; simp at hu; subst hu; rfl)
          case grow =>
            intro v' w5 h2 h3 _ _
            have O7 : Hid (w5.ownsRow w2.heap.size 26 1 v' (zs' ++ [Value.slice pw nw cw]).length (zs' ++ [Value.slice pw nw cw])) := by
              show World.ownsRow _ _ _ _ _ _ _
              rw [List.length_append]
              exact h2
            have R7 : Hid (OwnRs w2.heap.size (zs' ++ [.slice pw nw cw]) (L' ++ [x ++ picks y added]) w5) := rs_more hO6.out hR6.out OC.out h3
            have B7 : Below w2.heap.size w2 w5 := Below.grown (hB7.alloc hB7.size _) h3 (by simp; omega) HK.out
            clear h2 h3 hO6 hR6 OC HK
            go_wp2
            exact ⟨⟨j + 1, _, _, by omega, by go_num, hF4, O7, R7, B7⟩, by simp [intOf]; omega⟩
        · have c3 : ¬ (j : Int) < m2 := by omega
          have hF5 : Hid (F = L' ++ pairOf G (rwOf w) cs added (rs.drop (k + 1))) := by
            have h := hF3.out
            rw [List.drop_eq_nil_of_le (by have := em2.out; omega)] at h
            show F = _
            simpa using h
          clear hF3
          go_wp2
          exact ⟨⟨k + 1, _, _, by omega, by go_num, hF5, hO4, hR4, hB4⟩, by simp [intOf]; omega⟩
    · have c2 : ¬ (k : Int) < n := by omega
      have hF5 : Hid (L = F) := by
        have h := hF.out
        rw [List.drop_eq_nil_of_le (by have := en.out; have := HR.out.1; omega)] at h
        show L = F
        simpa [pairOf] using h.symm
      have O7 := own_base hO.out (Nat.le_trans (Nat.le_of_lt (Nat.lt_of_succ_lt z2)) (Nat.le_refl _))
      have R7 := hR2.out.base (B' := w.heap.size) (by omega)
      rw [hF5.out] at R7
      have HO7 : Hid (wr.ownsRow w.heap.size 26 1 u10 zs.length zs) := O7
      have HR7 : Hid (OwnRs w.heap.size zs F wr) := R7
      clear O7 R7
      go_wp2
      go_ret
      first | exact ⟨_, zs, rfl, HO7.out, HR7.out, KW⟩ | exact ⟨_, rfl, zs, HO7.out, HR7.out, KW⟩

end Go.Proofs.YtiliaincniiijaaGreat

namespace Go.Proofs.YtiliaincniiijaaGreat
open Go.RowKit Go.Shelf
set_option linter.unusedVariables false

set_option maxRecDepth 100000 in
set_option maxHeartbeats 2000000 in
theorem eqfV_any (A B : Value) (xs ys : List Val) (w : World) (hA : RowAt w A xs) (hB : RowAt w B ys) (lx : xs.length ≤ 9223372036854775807) (ly : ys.length ≤ 9223372036854775807) :
    Calls Tryz.prog 45 #[A, B, .func (.func 46) #[] #[]] w fun e w' => e = .returned (.bool (rowS xs ys)) ∧ Below w.heap.size w w' := by
  have eg : ∀ args w, (callFunc 46 args).run Tryz.prog w = .ok (.enter 46 args) w := enters_of Tryz.func46 (by kernel_rfl) rfl
  obtain ⟨p, c, rfl⟩ := hA.form
  obtain ⟨p', c', rfl⟩ := hB.form
  by_cases hl : xs.length = ys.length
  · have HX : Hid (∀ i (hi : i < xs.length), ∃ b off, p = some ⟨b, off, none⟩ ∧ b < w.heap.size ∧ w.cell? ⟨b, off + i * 4, none⟩ = some (.int .i64 xs[i].k) ∧ w.cell? ⟨b, off + i * 4 + 1, none⟩ = some (.int .i64 xs[i].n) ∧ w.cell? ⟨b, off + i * 4 + 2, none⟩ = some (.int .i64 xs[i].d) ∧ w.cell? ⟨b, off + i * 4 + 3, none⟩ = some (.string xs[i].s)) := hA.get.2
    have HY : Hid (∀ i (hi : i < ys.length), ∃ b off, p' = some ⟨b, off, none⟩ ∧ b < w.heap.size ∧ w.cell? ⟨b, off + i * 4, none⟩ = some (.int .i64 ys[i].k) ∧ w.cell? ⟨b, off + i * 4 + 1, none⟩ = some (.int .i64 ys[i].n) ∧ w.cell? ⟨b, off + i * 4 + 2, none⟩ = some (.int .i64 ys[i].d) ∧ w.cell? ⟨b, off + i * 4 + 3, none⟩ = some (.string ys[i].s)) := hB.get.2
    obtain ⟨n, en⟩ : ∃ n : Nat, Hid (xs.length = n) := ⟨_, rfl⟩
    have em : Hid (ys.length = n) := hl.symm.trans en.out
    rw [en.out] at lx ⊢
    rw [em.out]
    clear hA hB hl ly
    go_enter Tryz.func45, Tryz.ntmps45
    go_wp2
    go_loopw [17] (fun i wr => ∃ k : Nat, k ≤ n ∧ i = .int .i64 k ∧ Hid (rowS xs ys = rowS (xs.drop k) (ys.drop k)) ∧ Below w.heap.size w wr) (fun i _ => n - (intOf i).toNat)
    case atStart => exact ⟨0, Nat.zero_le _, rfl, (show rowS xs ys = rowS (xs.drop 0) (ys.drop 0) by simp), Below.refl _ _⟩
    case round =>
      obtain ⟨k, hk, rfl, hr, hB⟩ := hrel
      by_cases hlt : k < n
      · have kx : k < xs.length := by have := en.out; omega
        have ky : k < ys.length := by have := em.out; omega
        obtain ⟨b, off, rfl, hb, r0, r1, r2, r3⟩ := HX.out k kx
        obtain ⟨b', off', rfl, hb', s0, s1, s2, s3⟩ := HY.out k ky
        have a0 := (hB.cell (p := ⟨b, off + k * 4, none⟩) hb).trans r0
        have a1 := (hB.cell (p := ⟨b, off + k * 4 + 1, none⟩) hb).trans r1
        have a2 := (hB.cell (p := ⟨b, off + k * 4 + 2, none⟩) hb).trans r2
        have a3 := (hB.cell (p := ⟨b, off + k * 4 + 3, none⟩) hb).trans r3
        have b0 := (hB.cell (p := ⟨b', off' + k * 4, none⟩) hb').trans s0
        have b1 := (hB.cell (p := ⟨b', off' + k * 4 + 1, none⟩) hb').trans s1
        have b2 := (hB.cell (p := ⟨b', off' + k * 4 + 2, none⟩) hb').trans s2
        have b3 := (hB.cell (p := ⟨b', off' + k * 4 + 3, none⟩) hb').trans s3
        have hbr : b < wr.heap.size := Nat.lt_of_lt_of_le hb hB.size
        have hbr' : b' < wr.heap.size := Nat.lt_of_lt_of_le hb' hB.size
        have hr2 : Hid (rowS xs ys = (xs[k].same ys[k] && rowS (xs.drop (k + 1)) (ys.drop (k + 1)))) := by
          have h := hr.out
          rw [List.drop_eq_getElem_cons kx, List.drop_eq_getElem_cons ky] at h
          exact h
        clear r0 r1 r2 r3 s0 s1 s2 s3 hr
        generalize xs[k] = X at a0 a1 a2 a3 hr2
        generalize ys[k] = Y at b0 b1 b2 b3 hr2
        obtain ⟨C, eC⟩ : ∃ C : Bool, Hid (X.same Y = C) := ⟨_, rfl⟩
        rw [eC.out] at hr2
        have ct : Hid (∀ W : World, Calls Tryz.prog 46 #[.agg #[.int .i64 X.k, .int .i64 X.n, .int .i64 X.d, .string X.s], .agg #[.int .i64 Y.k, .int .i64 Y.n, .int .i64 Y.d, .string Y.s]] W fun e w' => e = .returned (.bool C) ∧ Below W.heap.size W w') := fun W => by
          have h := vsame_any X.k X.n X.d X.s Y.k Y.n Y.d Y.s W
          rw [show sameB X.k X.n X.d X.s Y.k Y.n Y.d Y.s = C from eC.out] at h
          exact h
        clear eC
        go_wp2_with fail
        refine (ct.out _).mono ?_
        rintro e w1 ⟨rfl, hw1⟩
        obtain ⟨hw2, hn2⟩ := bg0 (n := wr.heap.size) (W0 := wr) (by go_grown) (by go_size) hw1
        have hB2 : Below w.heap.size w w1 := hB.trans (hw2.mono hB.size)
        clear a0 a1 a2 a3 b0 b1 b2 b3 ct hw1 hw2 hn2
        cases C with
        | true =>
          have hr3 : Hid (rowS xs ys = rowS (xs.drop (k + 1)) (ys.drop (k + 1))) := by have := hr2.out; rwa [Bool.true_and] at this
          go_wp2
          exact ⟨⟨k + 1, by omega, by go_num, hr3, hB2⟩, by simp [intOf]; omega⟩
        | false =>
          have hr3 : Hid (rowS xs ys = false) := by have := hr2.out; rwa [Bool.false_and] at this
          go_wp2
          go_ret
          exact ⟨ret_bool hr3.out.symm, hB2⟩
      · have c2 : ¬ (k : Int) < n := by omega
        have hr3 : Hid (rowS xs ys = true) := by
          have h := hr.out
          rw [List.drop_eq_nil_of_le (by have := en.out; omega), List.drop_eq_nil_of_le (by have := em.out; omega)] at h
          exact h
        go_wp2
        go_ret
        exact ⟨ret_bool hr3.out.symm, hB⟩
  · have hs := rowS_len hl
    have h2 : ((xs.length : Int) == ys.length) = false := by simp; omega
    have HS : Hid (rowS xs ys = false) := hs
    generalize xs.length = n at *
    generalize ys.length = m at *
    clear hs
    go_enter Tryz.func45, Tryz.ntmps45
    go_wp2
    go_ret
    exact ⟨ret_bool HS.out.symm, by go_grown⟩

set_option maxRecDepth 100000 in
theorem samerow_any (A B : Value) (xs ys : List Val) (w : World) (hA : RowAt w A xs) (hB : RowAt w B ys) (lx : xs.length ≤ 9223372036854775807) (ly : ys.length ≤ 9223372036854775807) :
    Calls Tryz.prog 24 #[A, B] w fun e w' => e = .returned (.bool (rowS xs ys)) ∧ Below w.heap.size w w' := by
  have ct : Hid (Calls Tryz.prog 45 #[A, B, .func (.func 46) #[] #[]] w fun e w' => e = .returned (.bool (rowS xs ys)) ∧ Below w.heap.size w w') := eqfV_any A B xs ys w hA hB lx ly
  obtain ⟨p, c, rfl⟩ := hA.form
  obtain ⟨p', c', rfl⟩ := hB.form
  generalize xs.length = n at *
  generalize ys.length = m at *
  generalize rowS xs ys = E at *
  clear hA hB
  go_enter Tryz.func24, Tryz.ntmps24
  go_wp2_with fail
  refine ct.out.mono ?_
  rintro e w1 ⟨rfl, hb⟩
  clear ct
  go_wp2
  go_ret
  exact ⟨rfl, hb⟩

theorem TabRows.form {w : World} {v : Value} {rs : List (List Val)} (h : TabRows w v rs) : ∃ p c, v = .slice p rs.length c ∧ ∀ k (hk : k < rs.length), ∃ b off u, p = some ⟨b, off, none⟩ ∧ b < w.heap.size ∧ w.cell? ⟨b, off + k, none⟩ = some u ∧ RowAt w u rs[k] := by
  obtain ⟨p, c, rfl, rfl | ⟨b, off, rfl, hb, hr⟩⟩ := h
  · exact ⟨p, c, rfl, fun k hk => absurd hk (Nat.not_lt_zero _)⟩
  · refine ⟨_, c, rfl, fun k hk => ?_⟩
    obtain ⟨u, h1, h2⟩ := hr k hk
    exact ⟨b, off, u, rfl, hb, h1, h2⟩
theorem TabRows.below {w w' : World} {v : Value} {rs : List (List Val)} (h : TabRows w v rs) (hb : Below w.heap.size w w') : TabRows w' v rs := by
  obtain ⟨p, c, e, h⟩ := h
  refine ⟨p, c, e, ?_⟩
  rcases h with h | ⟨b, off, h1, h2, h3⟩
  · exact Or.inl h
  · exact Or.inr ⟨b, off, h1, Nat.lt_of_lt_of_le h2 hb.size, h3.below hb h2⟩
theorem rowsS_len : ∀ {xs ys : List (List Val)}, xs.length ≠ ys.length → rowsS xs ys = false
  | [], [], h => absurd rfl h
  | [], _ :: _, _ => rfl
  | _ :: _, [], _ => rfl
  | x :: xs, y :: ys, h => by
    show (rowS x y && rowsS xs ys) = false
    rw [rowsS_len (fun e => h (by simp [e])), Bool.and_false]

set_option maxRecDepth 100000 in
set_option maxHeartbeats 2000000 in
theorem eqfR_any (A B : Value) (xs ys : List (List Val)) (w : World) (hA : TabRows w A xs) (hB : TabRows w B ys) (lx : xs.length ≤ 9223372036854775807) (ly : ys.length ≤ 9223372036854775807) (sx : ∀ r ∈ xs, r.length ≤ 9223372036854775807) (sy : ∀ r ∈ ys, r.length ≤ 9223372036854775807) :
    Calls Tryz.prog 43 #[A, B, .func (.func 24) #[] #[]] w fun e w' => e = .returned (.bool (rowsS xs ys)) ∧ Below w.heap.size w w' := by
  have eg : ∀ args w, (callFunc 24 args).run Tryz.prog w = .ok (.enter 24 args) w := enters_of Tryz.func24 (by kernel_rfl) rfl
  obtain ⟨p, c, rfl, HX0⟩ := hA.form
  obtain ⟨p', c', rfl, HY0⟩ := hB.form
  by_cases hl : xs.length = ys.length
  · have HX : Hid (∀ k (hk : k < xs.length), ∃ b off u, p = some ⟨b, off, none⟩ ∧ b < w.heap.size ∧ w.cell? ⟨b, off + k, none⟩ = some u ∧ RowAt w u xs[k]) := HX0
    have HY : Hid (∀ k (hk : k < ys.length), ∃ b off u, p' = some ⟨b, off, none⟩ ∧ b < w.heap.size ∧ w.cell? ⟨b, off + k, none⟩ = some u ∧ RowAt w u ys[k]) := HY0
    have SX : Hid (∀ r ∈ xs, r.length ≤ 9223372036854775807) := sx
    have SY : Hid (∀ r ∈ ys, r.length ≤ 9223372036854775807) := sy
    obtain ⟨n, en⟩ : ∃ n : Nat, Hid (xs.length = n) := ⟨_, rfl⟩
    have em : Hid (ys.length = n) := hl.symm.trans en.out
    rw [en.out] at lx ⊢
    rw [em.out]
    clear hA hB hl ly HX0 HY0 sx sy
    go_enter Tryz.func43, Tryz.ntmps43
    go_wp2
    go_loopw [17] (fun i wr => ∃ k : Nat, k ≤ n ∧ i = .int .i64 k ∧ Hid (rowsS xs ys = rowsS (xs.drop k) (ys.drop k)) ∧ Below w.heap.size w wr) (fun i _ => n - (intOf i).toNat)
    case atStart => exact ⟨0, Nat.zero_le _, rfl, (show rowsS xs ys = rowsS (xs.drop 0) (ys.drop 0) by simp), Below.refl _ _⟩
    case round =>
      obtain ⟨k, hk, rfl, hr, hB⟩ := hrel
      by_cases hlt : k < n
      · have kx : k < xs.length := by have := en.out; omega
        have ky : k < ys.length := by have := em.out; omega
        obtain ⟨b, off, U, rfl, hb, r0, r1⟩ := HX.out k kx
        obtain ⟨b', off', U', rfl, hb', s0, s1⟩ := HY.out k ky
        have a0 := (hB.cell (p := ⟨b, off + k, none⟩) hb).trans r0
        have b0 := (hB.cell (p := ⟨b', off' + k, none⟩) hb').trans s0
        have hr2 : Hid (rowsS xs ys = (rowS xs[k] ys[k] && rowsS (xs.drop (k + 1)) (ys.drop (k + 1)))) := by
          have h := hr.out
          rw [List.drop_eq_getElem_cons kx, List.drop_eq_getElem_cons ky] at h
          exact h
        have ct : Hid (Calls Tryz.prog 24 #[U, U'] wr fun e w' => e = .returned (.bool (rowS xs[k] ys[k])) ∧ Below wr.heap.size wr w') := samerow_any U U' _ _ wr (r1.below hB) (s1.below hB) (SX.out _ (List.getElem_mem kx)) (SY.out _ (List.getElem_mem ky))
        obtain ⟨pu, cu, rfl⟩ := r1.form
        obtain ⟨pv, cv, rfl⟩ := s1.form
        clear r0 s0 hr r1 s1
        generalize xs[k] = X at a0 hr2 ct
        generalize ys[k] = Y at b0 hr2 ct
        generalize rowS X Y = C at hr2 ct
        generalize X.length = nx at a0 ct
        generalize Y.length = ny at b0 ct
        go_wp2_with fail
        refine ct.out.mono ?_
        rintro e w1 ⟨rfl, hw1⟩
        have hB2 : Below w.heap.size w w1 := hB.trans (hw1.mono hB.size)
        clear a0 b0 ct hw1
        cases C with
        | true =>
          have hr3 : Hid (rowsS xs ys = rowsS (xs.drop (k + 1)) (ys.drop (k + 1))) := by have := hr2.out; rwa [Bool.true_and] at this
          go_wp2
          exact ⟨⟨k + 1, by omega, by go_num, hr3, hB2⟩, by simp [intOf]; omega⟩
        | false =>
          have hr3 : Hid (rowsS xs ys = false) := by have := hr2.out; rwa [Bool.false_and] at this
          go_wp2
          go_ret
          exact ⟨ret_bool hr3.out.symm, hB2⟩
      · have c2 : ¬ (k : Int) < n := by omega
        have hr3 : Hid (rowsS xs ys = true) := by
          have h := hr.out
          rw [List.drop_eq_nil_of_le (by have := en.out; omega), List.drop_eq_nil_of_le (by have := em.out; omega)] at h
          exact h
        go_wp2
        go_ret
        exact ⟨ret_bool hr3.out.symm, hB⟩
  · have hs := rowsS_len hl
    have h2 : ((xs.length : Int) == ys.length) = false := by simp; omega
    have HS : Hid (rowsS xs ys = false) := hs
    clear hA hB HX0 HY0 sx sy
    generalize xs.length = n at *
    generalize ys.length = m at *
    clear hs
    go_enter Tryz.func43, Tryz.ntmps43
    go_wp2
    go_ret
    exact ⟨ret_bool HS.out.symm, by go_grown⟩

theorem eqS_any (V U : Value) (vs us : List ByteArray) (w : World) (hV : StrsAt w V vs) (hU : StrsAt w U us) (lv : vs.length ≤ 9223372036854775807) (lu : us.length ≤ 9223372036854775807) :
    Calls Tryz.prog 42 #[V, U] w fun e w' => e = .returned (.bool (decide (vs = us))) ∧ ∃ q, w' = w.drewN q := by
  obtain ⟨p, c, rfl, h⟩ := hV
  obtain ⟨p', c', rfl, h'⟩ := hU
  by_cases hl : vs.length = us.length
  · rcases h with rfl | ⟨b, off, rfl, hb, hs⟩
    · refine (Tryz.slices_Equal_string_empty p p' c us.length c' w lu).mono ?_
      rintro e w' ⟨rfl, rfl⟩
      refine ⟨ret_bool ?_, 0, rfl⟩
      have : us = [] := List.eq_nil_of_length_eq_zero (by simpa using hl.symm)
      simp [this]
    · rcases h' with rfl | ⟨b', off', rfl, hb', hs'⟩
      · have : vs = [] := List.eq_nil_of_length_eq_zero (by simpa using hl)
        subst this
        refine (Tryz.slices_Equal_string_empty _ p' c 0 c' w (by omega)).mono ?_
        rintro e w' ⟨rfl, rfl⟩
        exact ⟨ret_bool (by simp), 0, rfl⟩
      · refine (Tryz.slices_Equal_string b off vs.length c b' off' us.length c' vs us w (Nat.le_refl _) (Nat.le_refl _) lv lu (fun j hj => ?_) (fun j hj => ?_)).mono ?_
        · rw [hs j hj]; simp [List.getD, hj]
        · rw [hs' j hj]; simp [List.getD, hj]
        · rintro e w' ⟨rfl, hq⟩
          exact ⟨ret_bool (by simp), hq⟩
  · refine (Tryz.slices_Equal_string_lens p p' vs.length c us.length c' w hl).mono ?_
    rintro e w' ⟨rfl, rfl⟩
    refine ⟨ret_bool ?_, 0, rfl⟩
    have : vs ≠ us := fun e => hl (by rw [e])
    simp [this]

set_option maxRecDepth 100000 in
set_option maxHeartbeats 2000000 in
theorem tabsame_any (V R U Q : Value) (vs us : List ByteArray) (xs ys : List (List Val)) (w : World) (hV : StrsAt w V vs) (hU : StrsAt w U us) (hA : TabRows w R xs) (hB : TabRows w Q ys) (lv : vs.length ≤ 9223372036854775807) (lu : us.length ≤ 9223372036854775807) (lx : xs.length ≤ 9223372036854775807) (ly : ys.length ≤ 9223372036854775807) (sx : ∀ r ∈ xs, r.length ≤ 9223372036854775807) (sy : ∀ r ∈ ys, r.length ≤ 9223372036854775807) :
    Calls Tryz.prog 19 #[.agg #[V, R], .agg #[U, Q]] w fun e w' => e = .returned (.bool (decide (vs = us) && rowsS xs ys)) ∧ Below w.heap.size w w' := by
  have c1 : Hid (∀ W : World, Below w.heap.size w W → Calls Tryz.prog 42 #[V, U] W fun e w' => e = .returned (.bool (decide (vs = us))) ∧ ∃ q, w' = W.drewN q) := fun W hW => eqS_any V U vs us W (hV.below hW) (hU.below hW) lv lu
  have c2 : Hid (∀ W : World, Below w.heap.size w W → Calls Tryz.prog 43 #[R, Q, .func (.func 24) #[] #[]] W fun e w' => e = .returned (.bool (rowsS xs ys)) ∧ Below W.heap.size W w') := fun W hW => eqfR_any R Q xs ys W (hA.below hW) (hB.below hW) lx ly sx sy
  obtain ⟨p1, k1, rfl⟩ := hV.form
  obtain ⟨p2, k2, rfl⟩ := hU.form
  obtain ⟨p3, k3, rfl, -⟩ := hA.form
  obtain ⟨p4, k4, rfl, -⟩ := hB.form
  clear hV hU hA hB sx sy
  generalize vs.length = n1 at *
  generalize us.length = n2 at *
  generalize xs.length = n3 at *
  generalize ys.length = n4 at *
  generalize decide (vs = us) = D at *
  generalize rowsS xs ys = E at *
  cases D with
  | true =>
    go_enter Tryz.func19, Tryz.ntmps19
    go_wp2_with fail
    refine (c1.out _ (by go_grown)).mono ?_
    rintro e w1 ⟨rfl, q, rfl⟩
    go_wp2_with fail
    refine (c2.out _ (by refine bdrewN _ ?_; go_grown)).mono ?_
    rintro e w2 ⟨rfl, hb⟩
    have hb2 : Below w.heap.size w w2 := by
      refine Below.trans ?_ (hb.mono ?_)
      · refine bdrewN _ ?_; go_grown
      · simp; omega
    clear hb c1 c2
    go_wp2
    go_ret
    exact ⟨ret_bool (by simp), hb2⟩
  | false =>
    go_enter Tryz.func19, Tryz.ntmps19
    go_wp2_with fail
    refine (c1.out _ (by go_grown)).mono ?_
    rintro e w1 ⟨rfl, q, rfl⟩
    go_wp2
    go_ret
    exact ⟨rfl, by refine bdrewN _ ?_; go_grown⟩

end Go.Proofs.YtiliaincniiijaaGreat

namespace Go.Proofs.YtiliaincniiijaaGreat
open Go.RowKit Go.Shelf Go.Sort
set_option linter.unusedVariables false

theorem rows_unique : ∀ {L M : List (List Val)}, (∀ r ∈ L, okR r) → (∀ r ∈ M, okR r) → L.Pairwise (fun a b => rowC a b < 0) → M.Pairwise (fun a b => rowC a b < 0) → (∀ r, r ∈ L ↔ r ∈ M) → L = M
  | [], [], _, _, _, _, _ => rfl
  | [], y :: M, _, _, _, _, h => by cases (h y).2 (List.mem_cons_self ..)
  | x :: L, [], _, _, _, _, h => by cases (h x).1 (List.mem_cons_self ..)
  | x :: L, y :: M, oL, oM, pL, pM, h => by
    obtain ⟨pL1, pL2⟩ := List.pairwise_cons.1 pL
    obtain ⟨pM1, pM2⟩ := List.pairwise_cons.1 pM
    have ox := oL x (List.mem_cons_self ..)
    have oy := oM y (List.mem_cons_self ..)
    have hxy : x = y := by
      rcases List.mem_cons.1 ((h x).1 (List.mem_cons_self ..)) with e | hx
      · exact e
      · rcases List.mem_cons.1 ((h y).2 (List.mem_cons_self ..)) with e | hy
        · exact e.symm
        · have a := pM1 x hx
          have b := pL1 y hy
          have c := rowC_turn ox oy
          omega
    subst hxy
    have self := rowC_self ox
    refine congrArg (x :: ·) (rows_unique (fun r hr => oL r (List.mem_cons_of_mem _ hr)) (fun r hr => oM r (List.mem_cons_of_mem _ hr)) pL2 pM2 fun r => ⟨fun hr => ?_, fun hr => ?_⟩)
    · rcases List.mem_cons.1 ((h r).1 (List.mem_cons_of_mem _ hr)) with e | hr'
      · subst e
        have := pL1 _ hr
        omega
      · exact hr'
    · rcases List.mem_cons.1 ((h r).2 (List.mem_cons_of_mem _ hr)) with e | hr'
      · subst e
        have := pM1 _ hr
        omega
      · exact hr'

theorem bcmp_self (a : ByteArray) : bcmp a a = 0 := by have := bcmp_turn a a; omega
theorem bcmp_lt {a b c : ByteArray} (h1 : bcmp a b < 0) (h2 : bcmp b c < 0) : bcmp a c < 0 := by
  have h := bcmp_on a b c (by omega) (by omega)
  by_cases h5 : bcmp a c = 0
  · have := (h.2.2 h5).1; omega
  · have := h.1; omega
theorem rise_pw : ∀ {l : List ByteArray}, riseB l = true → l.Pairwise (fun a b => bcmp a b < 0)
  | [], _ => List.Pairwise.nil
  | [x], _ => List.pairwise_singleton _ _
  | x :: y :: l, h => by
    have h' : (Op.bytesLess x.toList y.toList && riseB (y :: l)) = true := h
    rw [Bool.and_eq_true, less_bcmp] at h'
    have h1 : bcmp x y < 0 := of_decide_eq_true h'.1
    have ih := rise_pw h'.2
    refine List.pairwise_cons.2 ⟨fun z hz => ?_, ih⟩
    rcases List.mem_cons.1 hz with rfl | hz
    · exact h1
    · exact bcmp_lt h1 ((List.pairwise_cons.1 ih).1 z hz)
theorem names_unique : ∀ {L M : List ByteArray}, L.Pairwise (fun a b => bcmp a b < 0) → M.Pairwise (fun a b => bcmp a b < 0) → (∀ r, r ∈ L ↔ r ∈ M) → L = M
  | [], [], _, _, _ => rfl
  | [], y :: M, _, _, h => by cases (h y).2 (List.mem_cons_self ..)
  | x :: L, [], _, _, h => by cases (h x).1 (List.mem_cons_self ..)
  | x :: L, y :: M, pL, pM, h => by
    obtain ⟨pL1, pL2⟩ := List.pairwise_cons.1 pL
    obtain ⟨pM1, pM2⟩ := List.pairwise_cons.1 pM
    have hxy : x = y := by
      rcases List.mem_cons.1 ((h x).1 (List.mem_cons_self ..)) with e | hx
      · exact e
      · rcases List.mem_cons.1 ((h y).2 (List.mem_cons_self ..)) with e | hy
        · exact e.symm
        · have a := pM1 x hx
          have b := pL1 y hy
          have c := bcmp_turn x y
          omega
    subst hxy
    have self := bcmp_self x
    refine congrArg (x :: ·) (names_unique pL2 pM2 fun r => ⟨fun hr => ?_, fun hr => ?_⟩)
    · rcases List.mem_cons.1 ((h r).1 (List.mem_cons_of_mem _ hr)) with e | hr'
      · subst e
        have := pL1 _ hr
        omega
      · exact hr'
    · rcases List.mem_cons.1 ((h r).2 (List.mem_cons_of_mem _ hr)) with e | hr'
      · subst e
        have := pM1 _ hr
        omega
      · exact hr'

/-- A row laid among rows that rise, if it isn't there. -/
def putR (r : List Val) : List (List Val) → List (List Val)
  | [] => [r]
  | x :: l => if rowC r x < 0 then r :: x :: l else if rowC r x = 0 then x :: l else x :: putR r l
def madeR (rs : List (List Val)) : List (List Val) := rs.foldl (fun l r => putR r l) []
theorem mem_putR {r : List Val} (hr : okR r) : ∀ {l : List (List Val)}, (∀ x ∈ l, okR x) → ∀ z, z ∈ putR r l ↔ z = r ∨ z ∈ l
  | [], _, z => by simp [putR]
  | x :: l, ok, z => by
    unfold putR
    split
    · simp
    · split
      · rename_i h1 h2
        have e := rowC_eq hr (ok x (List.mem_cons_self ..)) h2
        subst e
        simp
      · have ih := mem_putR hr (fun y hy => ok y (List.mem_cons_of_mem _ hy)) z
        simp only [List.mem_cons, ih]
        constructor
        · rintro (h | h | h) <;> simp [h]
        · rintro (h | h | h) <;> simp [h]
theorem putR_rises {r : List Val} (hr : okR r) : ∀ {l : List (List Val)}, (∀ x ∈ l, okR x) → l.Pairwise (fun a b => rowC a b < 0) → (putR r l).Pairwise (fun a b => rowC a b < 0)
  | [], _, _ => List.pairwise_singleton _ _
  | x :: l, ok, h => by
    obtain ⟨h1, h2⟩ := List.pairwise_cons.1 h
    have ox := ok x (List.mem_cons_self ..)
    unfold putR
    split
    · rename_i hlt
      refine List.pairwise_cons.2 ⟨fun z hz => ?_, h⟩
      rcases List.mem_cons.1 hz with rfl | hz
      · exact hlt
      · exact rowC_lt hr ox (ok z (List.mem_cons_of_mem _ hz)) hlt (h1 z hz)
    · split
      · exact h
      · rename_i n1 n2
        refine List.pairwise_cons.2 ⟨fun z hz => ?_, putR_rises hr (fun y hy => ok y (List.mem_cons_of_mem _ hy)) h2⟩
        rcases (mem_putR hr (fun y hy => ok y (List.mem_cons_of_mem _ hy)) z).1 hz with rfl | hz
        · have := rowC_turn hr ox
          omega
        · exact h1 z hz
theorem made_go : ∀ (rs l : List (List Val)), (∀ r ∈ rs, okR r) → (∀ x ∈ l, okR x) → l.Pairwise (fun a b => rowC a b < 0) → (rs.foldl (fun l r => putR r l) l).Pairwise (fun a b => rowC a b < 0) ∧ ∀ z, z ∈ rs.foldl (fun l r => putR r l) l ↔ z ∈ l ∨ z ∈ rs
  | [], l, _, _, h => ⟨h, fun z => by simp⟩
  | r :: rs, l, ok, ol, h => by
    have hr := ok r (List.mem_cons_self ..)
    have o2 : ∀ x ∈ putR r l, okR x := fun x hx => by
      rcases (mem_putR hr ol x).1 hx with rfl | hx
      · exact hr
      · exact ol x hx
    obtain ⟨a, b⟩ := made_go rs (putR r l) (fun x hx => ok x (List.mem_cons_of_mem _ hx)) o2 (putR_rises hr ol h)
    refine ⟨a, fun z => ?_⟩
    rw [List.foldl_cons, b z, mem_putR hr ol z]
    simp only [List.mem_cons]
    constructor
    · rintro ((h | h) | h) <;> simp [h]
    · rintro (h | h | h) <;> simp [h]
theorem madeR_rises {rs : List (List Val)} (ok : ∀ r ∈ rs, okR r) : (madeR rs).Pairwise (fun a b => rowC a b < 0) := (made_go rs [] ok (by simp) List.Pairwise.nil).1
theorem mem_madeR {rs : List (List Val)} (ok : ∀ r ∈ rs, okR r) (z : List Val) : z ∈ madeR rs ↔ z ∈ rs := by
  have := (made_go rs [] ok (by simp) List.Pairwise.nil).2 z
  simpa [madeR] using this
theorem madeR_ok {rs : List (List Val)} (ok : ∀ r ∈ rs, okR r) : ∀ z ∈ madeR rs, okR z := fun z hz => ok z ((mem_madeR ok z).1 hz)
/-- Whatever rises and has the same rows is it. -/
theorem madeR_eq {rs L : List (List Val)} (ok : ∀ r ∈ rs, okR r) (h : L.Pairwise (fun a b => rowC a b < 0)) (hm : ∀ z, z ∈ L ↔ z ∈ rs) : L = madeR rs :=
  rows_unique (fun r hr => ok r ((hm r).1 hr)) (madeR_ok ok) h (madeR_rises ok) fun z => (hm z).trans (mem_madeR ok z).symm

/-- A name laid among names that rise. -/
def putS (x : ByteArray) : List ByteArray → List ByteArray
  | [] => [x]
  | y :: l => if bcmp y x < 0 then y :: putS x l else x :: y :: l
def madeS (vs : List ByteArray) : List ByteArray := vs.foldl (fun l x => putS x l) []
theorem mem_putS (x : ByteArray) : ∀ (l : List ByteArray) (z : ByteArray), z ∈ putS x l ↔ z = x ∨ z ∈ l
  | [], z => by simp [putS]
  | y :: l, z => by
    unfold putS
    split
    · have ih := mem_putS x l z
      simp only [List.mem_cons, ih]
      constructor
      · rintro (h | h | h) <;> simp [h]
      · rintro (h | h | h) <;> simp [h]
    · simp
theorem putS_rises (x : ByteArray) : ∀ {l : List ByteArray}, x ∉ l → l.Pairwise (fun a b => bcmp a b < 0) → (putS x l).Pairwise (fun a b => bcmp a b < 0)
  | [], _, _ => List.pairwise_singleton _ _
  | y :: l, hx, h => by
    obtain ⟨h1, h2⟩ := List.pairwise_cons.1 h
    unfold putS
    split
    · rename_i hlt
      refine List.pairwise_cons.2 ⟨fun z hz => ?_, putS_rises x (fun e => hx (List.mem_cons_of_mem _ e)) h2⟩
      rcases (mem_putS x l z).1 hz with rfl | hz
      · exact hlt
      · exact h1 z hz
    · rename_i hn
      have hne : bcmp y x ≠ 0 := fun e => hx (by rw [bcmp_zero e]; exact List.mem_cons_self ..)
      have ht := bcmp_turn y x
      refine List.pairwise_cons.2 ⟨fun z hz => ?_, h⟩
      rcases List.mem_cons.1 hz with rfl | hz
      · omega
      · exact bcmp_lt (by omega) (h1 z hz)
theorem madeS_go : ∀ (vs l : List ByteArray), vs.Nodup → (∀ x ∈ vs, x ∉ l) → l.Pairwise (fun a b => bcmp a b < 0) → (vs.foldl (fun l x => putS x l) l).Pairwise (fun a b => bcmp a b < 0) ∧ ∀ z, z ∈ vs.foldl (fun l x => putS x l) l ↔ z ∈ l ∨ z ∈ vs
  | [], l, _, _, h => ⟨h, fun z => by simp⟩
  | x :: vs, l, hn, hd, h => by
    obtain ⟨n1, n2⟩ := List.nodup_cons.1 hn
    obtain ⟨a, b⟩ := madeS_go vs (putS x l) n2 (fun y hy e => by
      rcases (mem_putS x l y).1 e with rfl | e
      · exact n1 hy
      · exact hd y (List.mem_cons_of_mem _ hy) e) (putS_rises x (hd x (List.mem_cons_self ..)) h)
    refine ⟨a, fun z => ?_⟩
    rw [List.foldl_cons, b z, mem_putS x l z]
    simp only [List.mem_cons]
    constructor
    · rintro ((h | h) | h) <;> simp [h]
    · rintro (h | h | h) <;> simp [h]
theorem madeS_eq {vs L : List ByteArray} (hn : vs.Nodup) (h : L.Pairwise (fun a b => bcmp a b < 0)) (hm : ∀ z, z ∈ L ↔ z ∈ vs) : L = madeS vs := by
  obtain ⟨a, b⟩ := madeS_go vs [] hn (by simp) List.Pairwise.nil
  exact names_unique h a fun z => (hm z).trans (by unfold madeS; rw [b z]; simp)
theorem mem_madeS {vs : List ByteArray} (hn : vs.Nodup) (z : ByteArray) : z ∈ madeS vs ↔ z ∈ vs := by
  have := (madeS_go vs [] hn (by simp) List.Pairwise.nil).2 z
  simpa [madeS] using this
theorem madeS_rises {vs : List ByteArray} (hn : vs.Nodup) : (madeS vs).Pairwise (fun a b => bcmp a b < 0) := (madeS_go vs [] hn (by simp) List.Pairwise.nil).1
theorem rises_nodup {l : List ByteArray} (h : l.Pairwise (fun a b => bcmp a b < 0)) : l.Nodup := h.imp fun {a b} hab e => by
  subst e
  have := bcmp_self a
  omega

/-- The places of names among others. -/
def colsAt (vs ws : List ByteArray) : List Nat := ws.map fun x => (Lib.idxOfS vs x).toNat
theorem idx_of_nodup {vs : List ByteArray} (hn : vs.Nodup) {c : Nat} (h : c < vs.length) : (Lib.idxOfS vs vs[c]).toNat = c := by
  have hx : ¬ Lib.idxOfS vs vs[c] < 0 := by
    intro hlt
    have := (Lib.idxOfS_nonneg_iff vs vs[c]).2 (List.getElem_mem h)
    omega
  obtain ⟨h1, h2⟩ := idx_lt hx
  rw [List.getElem?_eq_getElem h1] at h2
  injection h2 with h2
  have hp := List.pairwise_iff_getElem.1 hn
  rcases Nat.lt_trichotomy (Lib.idxOfS vs vs[c]).toNat c with g | g | g
  · exact absurd h2 (hp _ _ h1 h g)
  · exact g
  · exact absurd h2.symm (hp _ _ h h1 g)
theorem cols_of_picks {vs : List ByteArray} (hn : vs.Nodup) : ∀ {cs : List Nat}, (∀ c ∈ cs, c < vs.length) → cs = colsAt vs (picks vs cs)
  | [], _ => rfl
  | c :: cs, h => by
    have hc := h c (List.mem_cons_self ..)
    rw [picks_cons hc]
    show c :: cs = (Lib.idxOfS vs vs[c]).toNat :: colsAt vs (picks vs cs)
    rw [idx_of_nodup hn hc, ← cols_of_picks hn (fun x hx => h x (List.mem_cons_of_mem _ hx))]
theorem picks_perm {α : Type} {vs : List α} {cs : List Nat} (hp : cs.Perm (List.range vs.length)) (z : α) : z ∈ picks vs cs ↔ z ∈ vs := by
  unfold picks
  rw [List.mem_filterMap, List.mem_iff_getElem?]
  constructor
  · rintro ⟨c, -, h⟩
    exact ⟨c, h⟩
  · rintro ⟨c, h⟩
    exact ⟨c, hp.mem_iff.2 (List.mem_range.2 (List.getElem?_eq_some_iff.1 h).1), h⟩

/-- A table of unlike variables and rows that may be, as the document has it. -/
def ofRows (vs : List ByteArray) (rs : List (List Val)) : List (List Val) := madeR (rs.map fun r => picks r (colsAt vs (madeS vs)))
theorem Told.spec {B : Nat} {t : Value} {vs : List ByteArray} {rs : List (List Val)} {w : World} (h : Told B t vs rs w) (hn : vs.Nodup) (ok : ∀ r ∈ rs, okR r) : OwnT B t (madeS vs) (ofRows vs rs) w := by
  obtain ⟨cs, L, hp, hr, ho, hL, hm⟩ := h
  have hcs : ∀ c ∈ cs, c < vs.length := fun c hc => List.mem_range.1 (hp.mem_iff.1 hc)
  have e1 : picks vs cs = madeS vs := madeS_eq hn (rise_pw hr) (picks_perm hp)
  have e2 : cs = colsAt vs (madeS vs) := by rw [← e1]; exact cols_of_picks hn hcs
  have e3 : L = ofRows vs rs := by
    refine madeR_eq (fun r hr => ?_) hL fun z => ?_
    · obtain ⟨x, hx, rfl⟩ := List.mem_map.1 hr
      exact (ok x hx).picks _
    · rw [hm z, List.mem_map, ← e2]
      constructor
      · rintro ⟨x, hx, rfl⟩
        exact ⟨x, hx, rfl⟩
      · rintro ⟨x, hx, rfl⟩
        exact ⟨x, hx, rfl⟩
  rw [← e1, ← e3]
  exact ho

end Go.Proofs.YtiliaincniiijaaGreat

namespace Go.Proofs.YtiliaincniiijaaGreat
open Go.RowKit Go.Shelf Go.Sort
set_option linter.unusedVariables false

theorem tab_of_vals {w : World} {R : Value} {us : List Value} {rs : List (List Val)} (hR : ValsAt w R us) (hrs : RowsOf w us rs) : TabRows w R rs := by
  have hl := hrs.1
  rcases hR with ⟨c, rfl, rfl⟩ | ⟨b, off, c, rfl, h1, h2⟩
  · have : rs = [] := List.eq_nil_of_length_eq_zero (by simpa using hl.symm)
    subst this
    exact ⟨none, c, rfl, Or.inl rfl⟩
  · refine ⟨_, c, by rw [hl], ?_⟩
    rcases h1 with rfl | h1
    · exact Or.inl (List.eq_nil_of_length_eq_zero (by simpa using hl.symm))
    · exact Or.inr ⟨b, off, rfl, h1, fun i hi => ⟨us[i]'(by omega), h2 i (by omega), hrs.2 i (by omega) hi⟩⟩

theorem rowE_ok {r : List Val} (h : rowE r = 0) (f : ∀ v ∈ r, v.Fits) : okR r := fun v hv => ⟨rowE_may h v hv, f v hv⟩
theorem rowsO_ok {m : Nat} : ∀ {rs : List (List Val)} {x : List Val}, okR x → (∀ r ∈ rs, ∀ v ∈ r, v.Fits) → rowsO m (some x) rs = 0 → (∀ r ∈ rs, r.length = m ∧ okR r) ∧ (x :: rs).Pairwise (fun a b => rowC a b < 0)
  | [], x, hx, _, _ => ⟨by simp, List.pairwise_singleton _ _⟩
  | r :: l, x, hx, f, h => by
    unfold rowsO at h
    by_cases h1 : rowChk r m = 0
    · rw [if_pos h1] at h
      by_cases h2 : 0 ≤ rowC x r
      · rw [if_pos h2] at h; cases h
      · rw [if_neg h2] at h
        obtain ⟨h3, h4⟩ := rowChk_ok h1
        have hr := rowE_ok h4 (f r (List.mem_cons_self ..))
        obtain ⟨h5, h6⟩ := rowsO_ok hr (fun y hy => f y (List.mem_cons_of_mem _ hy)) h
        refine ⟨fun y hy => ?_, List.pairwise_cons.2 ⟨fun y hy => ?_, h6⟩⟩
        · rcases List.mem_cons.1 hy with rfl | hy
          · exact ⟨h3, hr⟩
          · exact h5 y hy
        · rcases List.mem_cons.1 hy with rfl | hy
          · omega
          · exact rowC_lt hx hr (h5 y hy).2 (by omega) ((List.pairwise_cons.1 h6).1 y hy)
    · rw [if_neg h1] at h; exact absurd h h1
/-- A table that may be. -/
structure OkT (vs : List ByteArray) (rs : List (List Val)) : Prop where
  few : vs.length ≤ 8
  rise : riseB vs = true
  rows : ∀ r ∈ rs, r.length = vs.length ∧ okR r
  sorted : rs.Pairwise (fun a b => rowC a b < 0)
theorem tabChk_ok {vs : List ByteArray} {rs : List (List Val)} (h : tabChk vs rs = 0) (f : ∀ r ∈ rs, ∀ v ∈ r, v.Fits) : OkT vs rs := by
  unfold tabChk at h
  by_cases hc : vs.length ≤ 8 ∧ riseB vs = true
  · rw [if_pos hc] at h
    cases rs with
    | nil => exact ⟨hc.1, hc.2, by simp, List.Pairwise.nil⟩
    | cons r l =>
      unfold rowsO at h
      by_cases h1 : rowChk r vs.length = 0
      · rw [if_pos h1] at h
        obtain ⟨h3, h4⟩ := rowChk_ok h1
        have hr := rowE_ok h4 (f r (List.mem_cons_self ..))
        obtain ⟨h5, h6⟩ := rowsO_ok hr (fun y hy => f y (List.mem_cons_of_mem _ hy)) h
        refine ⟨hc.1, hc.2, fun y hy => ?_, h6⟩
        rcases List.mem_cons.1 hy with rfl | hy
        · exact ⟨h3, hr⟩
        · exact h5 y hy
      · rw [if_neg h1] at h; exact absurd h h1
  · rw [if_neg hc] at h; cases h
theorem OkT.nodup {vs : List ByteArray} {rs : List (List Val)} (h : OkT vs rs) : vs.Nodup := rises_nodup (rise_pw h.rise)

/-- A slice, wherever it begins. -/
def Plain (V : Value) : Prop := ∃ p n c, V = .slice p n c
/-- A table in memory. -/
structure TabAt (w : World) (V R : Value) (vs : List ByteArray) (us : List Value) (rs : List (List Val)) : Prop where
  vars : StrsAt w V vs
  vals : ValsAt w R us
  rows : RowsOf w us rs
  fits : ∀ r ∈ rs, ∀ v ∈ r, v.Fits
  long : ∀ r ∈ rs, r.length ≤ 9223372036854775807
  names : vs.length ≤ 9223372036854775807
  many : us.length ≤ 5864062014805
  plain : ∀ u ∈ us, Plain u
theorem TabAt.below {w w' : World} {V R : Value} {vs : List ByteArray} {us : List Value} {rs : List (List Val)} (h : TabAt w V R vs us rs) (hb : Below w.heap.size w w') : TabAt w' V R vs us rs := ⟨h.vars.below hb, h.vals.below hb, h.rows.below hb, h.fits, h.long, h.names, h.many, h.plain⟩
theorem TabAt.check {w : World} {V R : Value} {vs : List ByteArray} {us : List Value} {rs : List (List Val)} (h : TabAt w V R vs us rs) : Calls Tryz.prog 4 #[.agg #[V, R]] w fun e w' => e = .returned (.int .i64 (tabChk vs rs)) ∧ Below w.heap.size w w' :=
  tcheck_any V R vs rs w h.vars h.names h.fits h.long (tab_of_vals h.vals h.rows) (by have := h.many; have := h.rows.1; omega)
theorem TabAt.forms {w : World} {V R : Value} {vs : List ByteArray} {us : List Value} {rs : List (List Val)} (h : TabAt w V R vs us rs) : ∃ p c p' c', V = .slice p vs.length c ∧ R = .slice p' us.length c' := by
  obtain ⟨p, c, rfl⟩ := h.vars.form
  obtain ⟨p', c', rfl, -⟩ := h.vals.form
  exact ⟨p, c, p', c', rfl, rfl⟩

def bothE (vs : List ByteArray) (rs : List (List Val)) (vs' : List ByteArray) (qs : List (List Val)) : Int := if tabChk vs rs = 0 then tabChk vs' qs else tabChk vs rs
theorem bothE_ok {vs vs' : List ByteArray} {rs qs : List (List Val)} (h : bothE vs rs vs' qs = 0) : tabChk vs rs = 0 ∧ tabChk vs' qs = 0 := by
  unfold bothE at h
  by_cases h1 : tabChk vs rs = 0
  · rw [if_pos h1] at h; exact ⟨h1, h⟩
  · rw [if_neg h1] at h; exact absurd h h1

set_option maxRecDepth 100000 in
set_option maxHeartbeats 2000000 in
theorem cboth2_any {Va Ra Vb Rb : Value} {vs vs' : List ByteArray} {us us' : List Value} {rs qs : List (List Val)} {w : World} (ha : TabAt w Va Ra vs us rs) (hb : TabAt w Vb Rb vs' us' qs) :
    Calls Tryz.prog 29 #[.agg #[Va, Ra], .agg #[Vb, Rb]] w fun e w' => e = .returned (.int .i64 (bothE vs rs vs' qs)) ∧ Below w.heap.size w w' := by
  have c1 : Hid (∀ W, Below w.heap.size w W → Calls Tryz.prog 4 #[.agg #[Va, Ra]] W fun e w' => e = .returned (.int .i64 (tabChk vs rs)) ∧ Below W.heap.size W w') := fun W hW => (ha.below hW).check
  have c2 : Hid (∀ W, Below w.heap.size w W → Calls Tryz.prog 4 #[.agg #[Vb, Rb]] W fun e w' => e = .returned (.int .i64 (tabChk vs' qs)) ∧ Below W.heap.size W w') := fun W hW => (hb.below hW).check
  obtain ⟨p1, k1, p2, k2, rfl, rfl⟩ := ha.forms
  obtain ⟨p3, k3, p4, k4, rfl, rfl⟩ := hb.forms
  unfold bothE
  generalize vs.length = n1 at *
  generalize us.length = n2 at *
  generalize vs'.length = n3 at *
  generalize us'.length = n4 at *
  generalize tabChk vs rs = E at *
  generalize tabChk vs' qs = D at *
  clear ha hb
  go_enter Tryz.func29, Tryz.ntmps29
  go_wp2_with fail
  refine (c1.out _ (by go_grown)).mono ?_
  rintro e w1 ⟨rfl, hb1⟩
  have b0 : w1.cell? ⟨w.heap.size + 1, 0, none⟩ = some (.slice p3 n3 k3) := (hb1.cell (p := ⟨w.heap.size + 1, 0, none⟩) (by simp)).trans (by simp (maxDischargeDepth := 8) [go_sem])
  have b1 : w1.cell? ⟨w.heap.size + 1, 1, none⟩ = some (.slice p4 n4 k4) := (hb1.cell (p := ⟨w.heap.size + 1, 1, none⟩) (by simp)).trans (by simp (maxDischargeDepth := 8) [go_sem])
  have hB1 : Below w.heap.size w w1 := by
    obtain ⟨hw1, -⟩ := bg0 (n := w.heap.size) (W0 := w) (by go_grown) (by go_size) hb1
    exact hw1
  clear hb1 c1
  by_cases hE : E = 0
  · subst hE
    go_wp2_with fail
    refine (c2.out _ hB1).mono ?_
    rintro e w2 ⟨rfl, hb2⟩
    have hB2 : Below w.heap.size w w2 := hB1.trans (hb2.mono hB1.size)
    clear b0 b1 c2 hb2 hB1
    go_wp2
    go_ret
    exact ⟨ret_int (by simp), hB2⟩
  · have hE2 : (E == 0) = false := by simpa using hE
    go_wp2
    go_ret
    exact ⟨ret_int (by simp), hB1⟩

theorem cloneS_any (V : Value) (vs : List ByteArray) (w : World) (hV : StrsAt w V vs) (lv : vs.length ≤ 1000000) :
    Calls Tryz.prog 26 #[V] w fun e w' => ∃ v, e = .returned v ∧ OwnS w.heap.size v vs w' ∧ Below w.heap.size w w' := by
  obtain ⟨p, c, rfl, h⟩ := hV
  rcases h with rfl | ⟨b, off, rfl, hb, hs⟩
  · cases p with
    | none =>
      refine (Tryz.slices_Clone_string_nil 0 c w).mono ?_
      rintro e w' ⟨rfl, rfl⟩
      exact ⟨_, rfl, World.ownsRow_nil _ _ _ _, Below.refl _ _⟩
    | some a =>
      refine (Tryz.slices_Clone_string_zero a c w).mono ?_
      rintro e w' ⟨v, rfl, h1, -, h2⟩
      exact ⟨v, rfl, h1, h2⟩
  · refine (Tryz.slices_Clone_string b off vs.length c vs w (Nat.le_refl _) (by omega) (fun j hj => ?_)).mono ?_
    · rw [hs j hj]; simp [List.getD, hj]
    · rintro e w' ⟨v, rfl, h1, -, h2⟩
      rw [List.take_length] at h1
      exact ⟨v, rfl, h1, h2⟩
set_option maxRecDepth 100000 in
theorem cloneV_zero (p : Option Addr) (c : Nat) (w : World) :
    Calls Tryz.prog 47 #[.slice p 0 c] w fun e w' => ∃ v, e = .returned v ∧ OwnV w.heap.size v [] w' ∧ Below w.heap.size w w' := by
  obtain ⟨i0, hi, hz0, hz1, hz2⟩ := info_parts inV
  cases p with
  | none =>
    refine (AnyE.slices_Clone_nil Tryz.clV 0 c w).mono ?_
    rintro e w' ⟨rfl, rfl⟩
    exact ⟨_, rfl, World.ownsRow_nil _ _ _ _, Below.refl _ _⟩
  | some a =>
    have HS : Hid (Src (w.alloc (.cells #[] 45)) 4 (.slice (some a) 0 c) 0 []) := Or.inl ⟨_, _, rfl, rfl, rfl⟩
    have HO : Hid ((w.alloc (.cells #[] 45)).ownsRow w.heap.size 45 4 (.slice (some ⟨w.heap.size, 0, none⟩) 0 0) 0 []) := ⟨rfl, Or.inr ⟨w.heap.size, 0, #[], rfl, Nat.le_refl _, heap_alloc _ _, Nat.le_refl _, Nat.zero_le _, rfl, rfl⟩⟩
    have hsz : w.heap.size ≤ (w.alloc (.cells #[] 45)).heap.size := by simp
    have HB : Hid (Below w.heap.size w (w.alloc (.cells #[] 45))) := (Below.refl _ _).alloc (Nat.le_refl _) _
    have q22 : ∀ (w : World) (a : Option Addr) (n c n' c' : Nat), (binOp .eql 26 (.slice a n c) (.slice none n' c')).run Tryz.prog w = .ok (.bool a.isNone) w := fun w a n c n' c' => Lib.run_eql_slice_nil w _ _ a n c n' c' Tryz.underlying26
    go_enter Tryz.func47, Tryz.ntmps47
    go_wp2_with (at_builtin; refine wpList_append_src rfl (.tmp 5) (.tmp 6) 26 rfl w.heap.size 45 i0 _ 4 40 Tryz.underlying26 hi hz0 hz1 hz2 rfl (by decide) (.slice (some ⟨w.heap.size, 0, none⟩) 0 0) 0 [] rfl HO.out (.slice (some a) 0 c) 0 [] rfl HS.out (by simp) (Nat.zero_le _) (by decide) hsz ?grow)
    case grow =>
      intro v' w3 h2 h3 _
      have O3 : Hid (OwnV w.heap.size v' [] w3) := h2
      have B3 : Hid (Below w.heap.size w w3) := HB.out.grown h3 hsz (fun q hq => (World.ownsRow.lt HO.out q hq).1)
      clear h2 h3 HS HO HB
      go_wp2
      go_ret
      exact ⟨_, rfl, O3.out, B3.out⟩
theorem cloneV_any (V : Value) (xs : List Val) (w : World) (hV : RowAt w V xs) (lv : xs.length ≤ 1000000) (hn : Plain V) :
    Calls Tryz.prog 47 #[V] w fun e w' => ∃ v, e = .returned v ∧ OwnV w.heap.size v xs w' ∧ Below w.heap.size w w' := by
  obtain ⟨i0, hi, hz0, hz1, hz2⟩ := info_parts inV
  by_cases h0 : xs = []
  · subst h0
    obtain ⟨p, n, c, rfl⟩ := hn
    obtain rfl : n = 0 := hV.get.1
    exact cloneV_zero p c w
  · obtain ⟨p, c, rfl, h | ⟨b, off, rfl, hb, hs⟩⟩ := hV
    · exact absurd h h0
    · refine (AnyE.slices_Clone Tryz.clV i0 _ 4 40 hi hz0 hz1 hz2 rfl (by decide) Tryz.sizeOf45 b off xs.length c (flat xs) w (flat_len xs) (by unfold maxLen; omega) (by omega) (fun j u hj => lies_cells hs j u hj) (flat_one xs)).mono ?_
      rintro e w' ⟨v, rfl, ho, -, hb⟩
      exact ⟨v, rfl, ho, hb⟩

end Go.Proofs.YtiliaincniiijaaGreat

namespace Go.Proofs.YtiliaincniiijaaGreat
open Go.RowKit Go.Shelf Go.Sort
set_option linter.unusedVariables false

theorem OwnS.strs {B : Nat} {v : Value} {vs : List ByteArray} {w : World} (h : OwnS B v vs w) : StrsAt w v vs := by
  obtain ⟨p, c, rfl, hc⟩ := own_form h
  refine ⟨p, c, rfl, ?_⟩
  by_cases h0 : vs = []
  · exact Or.inl h0
  · have hl : 0 < (vs.map Value.string).length := by rw [List.length_map]; exact List.length_pos_iff.2 h0
    obtain ⟨g, rfl, -, hg, -⟩ := hc 0 hl
    refine Or.inr ⟨g, 0, rfl, hg, fun i hi => ?_⟩
    obtain ⟨g', e, -, -, hx⟩ := hc i (by simpa using hi)
    injection e with e
    injection e with e _ _
    subst e
    rw [Nat.zero_add, hx]
    simp
theorem vals_own {B n : Nat} {v : Value} {us : List Value} {w : World} (h : w.ownsRow B 26 1 v n us) : ValsAt w v us := by
  have hl := h.1
  rcases h.2 with ⟨rfl, rfl⟩ | ⟨g, cap, cur, rfl, hb, hg, -⟩
  · exact Or.inl ⟨0, rfl, List.eq_nil_of_length_eq_zero (by simpa using hl)⟩
  · refine Or.inr ⟨g, 0, cap, by rw [show us.length = n by omega], Or.inr (Array.getElem?_eq_some_iff.1 hg).1, fun i hi => ?_⟩
    rw [Nat.zero_add, World.ownsRow.cellAt h i (by omega)]
    exact List.getElem?_eq_getElem hi
theorem OwnRs.rows {B : Nat} {us : List Value} {L : List (List Val)} {w : World} (h : OwnRs B us L w) : RowsOf w us L := ⟨h.1, fun i a b => (h.2 i a b).row⟩
theorem plain_own {B e size n : Nat} {v : Value} {xs : List Value} {w : World} (h : w.ownsRow B e size v n xs) : Plain v := by
  obtain ⟨-, ⟨e, -⟩ | ⟨g, cap, cur, e, -⟩⟩ := h
  · exact ⟨_, _, _, e⟩
  · exact ⟨_, _, _, e⟩
/-- A table of the call's own is one in memory. -/
theorem OwnT.tab {B : Nat} {t : Value} {vs : List ByteArray} {L : List (List Val)} {w : World} (h : OwnT B t vs L w) (f : ∀ r ∈ L, ∀ v ∈ r, v.Fits) (l1 : ∀ r ∈ L, r.length ≤ 9223372036854775807) (l2 : vs.length ≤ 9223372036854775807) (l3 : L.length ≤ 5864062014805) : ∃ V R us, t = .agg #[V, R] ∧ TabAt w V R vs us L := by
  obtain ⟨a, b, us, rfl, h1, h2, h3⟩ := h
  refine ⟨a, b, us, rfl, h1.strs, vals_own h2, h3.rows, f, l1, l2, by have := h3.1; omega, fun u hu => ?_⟩
  obtain ⟨i, hi, rfl⟩ := List.getElem_of_mem hu
  exact plain_own (h3.2 i hi (by have := h3.1; omega))

theorem outs_mem {us : List ByteArray} : ∀ {l : List ByteArray} {k c : Nat}, c ∈ outs us k l → k ≤ c ∧ c < k + l.length
  | [], k, c, h => by cases h
  | y :: l, k, c, h => by
    unfold outs at h
    split at h
    · obtain ⟨a, b⟩ := outs_mem h
      exact ⟨by omega, by simp; omega⟩
    · rcases List.mem_cons.1 h with rfl | h
      · exact ⟨Nat.le_refl _, by simp⟩
      · obtain ⟨a, b⟩ := outs_mem h
        exact ⟨by omega, by simp; omega⟩
theorem outs_len {us : List ByteArray} : ∀ (l : List ByteArray) (k : Nat), (outs us k l).length ≤ l.length
  | [], _ => Nat.le_refl _
  | y :: l, k => by
    have := outs_len (us := us) l (k + 1)
    unfold outs
    split <;> simp <;> omega
/-- Those of the names that others have not. -/
theorem picks_outs {us : List ByteArray} : ∀ (l pre : List ByteArray), picks (pre ++ l) (outs us pre.length l) = l.filter fun x => !Lib.containsS us x
  | [], pre => by simp [outs, picks]
  | y :: l, pre => by
    have ih := picks_outs (us := us) l (pre ++ [y])
    rw [List.append_assoc, List.length_append] at ih
    unfold outs
    by_cases h : Lib.containsS us y = true
    · rw [if_pos h, List.filter_cons_of_neg (by simp [h])]
      exact ih
    · rw [if_neg h, List.filter_cons_of_pos (by simp [h])]
      have hc : pre.length < (pre ++ y :: l).length := by simp
      rw [picks_cons hc]
      have e : (pre ++ y :: l)[pre.length] = y := by simp
      rw [e]
      exact congrArg (y :: ·) ih
def allV (vs vs' : List ByteArray) : List ByteArray := vs ++ picks vs' (outs vs 0 vs')
theorem allV_eq (vs vs' : List ByteArray) : allV vs vs' = vs ++ vs'.filter fun x => !Lib.containsS vs x := by
  have h := picks_outs (us := vs) vs' []
  unfold allV
  rw [← h]
  rfl
theorem allV_nodup {vs vs' : List ByteArray} (h : vs.Nodup) (h' : vs'.Nodup) : (allV vs vs').Nodup := by
  rw [allV_eq]
  refine List.nodup_append.2 ⟨h, h'.filter _, fun a ha b hb e => ?_⟩
  subst e
  have := (List.mem_filter.1 hb).2
  have h2 : Lib.containsS vs a = true := by
    simp only [Lib.containsS, decide_eq_true_eq]
    exact (Lib.idxOfS_nonneg_iff _ _).2 ha
  rw [h2] at this
  cases this

theorem rowS_iff : ∀ {x y : List Val}, rowS x y = true ↔ x = y
  | [], [] => by simp [rowS]
  | [], _ :: _ => by simp [rowS]
  | _ :: _, [] => by simp [rowS]
  | x :: xs, y :: ys => by
    show (x.same y && rowS xs ys) = true ↔ _
    rw [Bool.and_eq_true, rowS_iff (x := xs)]
    constructor
    · rintro ⟨h1, h2⟩
      rw [val_same h1, h2]
    · intro h
      injection h with h1 h2
      refine ⟨?_, h2⟩
      subst h1
      simp [Val.same, sameB]
/-- The rows of a join. -/
def joinR (cs ds added : List Nat) (rs qs : List (List Val)) : List (List Val) := rs.flatMap fun r => (qs.filter fun q => rowS (picks r cs) (picks q ds)).map fun q => r ++ picks q added
theorem padK_inj {x y : List Val} (h : x.length = y.length) (e : padK x = padK y) : x = y := (List.append_inj e h).1
theorem map_rw {w : World} {us : List Value} {qs : List (List Val)} (h : RowsOf w us qs) : us.map (rwOf w) = qs := by
  apply List.ext_getElem
  · rw [List.length_map, h.1]
  · intro i h1 h2
    rw [List.getElem_map]
    exact rwOf_eq (h.2 i (by simpa using h1) h2)
open Classical in
theorem pairOf_eq {w : World} {us : List Value} {rs qs : List (List Val)} {cs ds added : List Nat} (h : RowsOf w us qs) (hcs : ∀ r ∈ rs, ∀ c ∈ cs, c < r.length) (hds : ∀ r ∈ qs, ∀ c ∈ ds, c < r.length) (hl : cs.length = ds.length) : pairOf (grp w ds us) (rwOf w) cs added rs = joinR cs ds added rs qs := by
  unfold pairOf joinR
  have e1 : ∀ r ∈ rs, ((grp w ds us (padK (picks r cs))).map fun u => r ++ picks (rwOf w u) added) = (qs.filter fun q => rowS (picks r cs) (picks q ds)).map fun q => r ++ picks q added := fun r hr => by
    rw [← map_rw h, List.filter_map, List.map_map]
    have e2 : grp w ds us (padK (picks r cs)) = us.filter ((fun q => rowS (picks r cs) (picks q ds)) ∘ rwOf w) := by
      unfold grp
      refine List.filter_congr fun u hu => ?_
      have hq : rwOf w u ∈ qs := by rw [← map_rw h]; exact List.mem_map_of_mem hu
      have hlen : (picks (rwOf w u) ds).length = (picks r cs).length := by rw [picks_len (hds _ hq), picks_len (hcs r hr), hl]
      rw [Function.comp, Bool.eq_iff_iff, decide_eq_true_eq, rowS_iff]
      exact ⟨fun e => (padK_inj hlen e).symm, fun e => by rw [e]⟩
    rw [e2]
    rfl
  rw [List.flatMap_def, List.flatMap_def]
  exact congrArg List.flatten (List.map_congr_left e1)

end Go.Proofs.YtiliaincniiijaaGreat

namespace Go.Proofs.YtiliaincniiijaaGreat
open Go.RowKit Go.Shelf Go.Sort
set_option linter.unusedVariables false

/-- Two tables in variables of the call's own, and the variable of what is told. -/
structure Box3 (W : World) (h : Nat) (Va Ra Vb Rb : Value) : Prop where
  a : W.heap[h]? = some (.cells #[Va, Ra] 25 (0, 0))
  b : W.heap[h + 1]? = some (.cells #[Vb, Rb] 25 (0, 0))
  r : W.heap[h + 2]? = some (.cells #[.slice none 0 0, .slice none 0 0] 25 (0, 0))
theorem Box3.below {W W' : World} {h : Nat} {Va Ra Vb Rb : Value} (x : Box3 W h Va Ra Vb Rb) (hb : Below W.heap.size W W') : Box3 W' h Va Ra Vb Rb :=
  ⟨(hb.block _ (Array.getElem?_eq_some_iff.1 x.a).1).trans x.a, (hb.block _ (Array.getElem?_eq_some_iff.1 x.b).1).trans x.b, (hb.block _ (Array.getElem?_eq_some_iff.1 x.r).1).trans x.r⟩
theorem Box3.grown {W W' : World} {h k : Nat} {Va Ra Vb Rb : Value} (x : Box3 W h Va Ra Vb Rb) (hb : Below k W W') (hk : h + 3 ≤ k) : Box3 W' h Va Ra Vb Rb :=
  ⟨(hb.block _ (by omega)).trans x.a, (hb.block _ (by omega)).trans x.b, (hb.block _ (by omega)).trans x.r⟩
theorem Box3.made (w : World) (Va Ra Vb Rb : Value) : Box3 (((w.alloc (.cells #[Va, Ra] 25)).alloc (.cells #[Vb, Rb] 25)).alloc (.cells #[.slice none 0 0, .slice none 0 0] 25)) w.heap.size Va Ra Vb Rb := by
  refine ⟨?_, ?_, ?_⟩
  · rw [heap_alloc_lt _ _ (by simp; omega), heap_alloc_lt _ _ (by simp), heap_alloc]
  · rw [heap_alloc_lt _ _ (by simp)]
    have h := heap_alloc (w.alloc (.cells #[Va, Ra] 25)) (.cells #[Vb, Rb] 25)
    rwa [show (w.alloc (.cells #[Va, Ra] 25)).heap.size = w.heap.size + 1 by simp] at h
  · have h := heap_alloc ((w.alloc (.cells #[Va, Ra] 25)).alloc (.cells #[Vb, Rb] 25)) (.cells #[.slice none 0 0, .slice none 0 0] 25)
    rwa [show ((w.alloc (.cells #[Va, Ra] 25)).alloc (.cells #[Vb, Rb] 25)).heap.size = w.heap.size + 2 by simp] at h

/-- Why two tables can't be joined. -/
def joinE (vs : List ByteArray) (rs : List (List Val)) (vs' : List ByteArray) (qs : List (List Val)) : Int := if bothE vs rs vs' qs = 0 then (if (allV vs vs').length ≤ 8 then 0 else 30) else bothE vs rs vs' qs
def joinL (vs vs' : List ByteArray) (rs qs : List (List Val)) : List (List Val) := joinR ((bothL vs' 0 vs).map (·.1)) ((bothL vs' 0 vs).map (·.2)) (outs vs 0 vs') rs qs
theorem both_cs {vs vs' : List ByteArray} : (∀ c ∈ (bothL vs' 0 vs).map (·.1), c < vs.length) ∧ (∀ c ∈ (bothL vs' 0 vs).map (·.2), c < vs'.length) ∧ ((bothL vs' 0 vs).map (·.1)).length = ((bothL vs' 0 vs).map (·.2)).length := by
  refine ⟨fun c hc => ?_, fun c hc => ?_, by simp⟩
  · obtain ⟨x, hx, rfl⟩ := List.mem_map.1 hc
    have := bothL_mem hx
    omega
  · obtain ⟨x, hx, rfl⟩ := List.mem_map.1 hc
    exact (bothL_mem hx).2.2
theorem joinL_ok {vs vs' : List ByteArray} {rs qs : List (List Val)} (h : OkT vs rs) (h' : OkT vs' qs) : ∀ r ∈ joinL vs vs' rs qs, r.length = (allV vs vs').length ∧ okR r := fun r hr => by
  unfold joinL joinR at hr
  obtain ⟨x, hx, hr⟩ := List.mem_flatMap.1 hr
  obtain ⟨y, hy, rfl⟩ := List.mem_map.1 hr
  have hy := (List.mem_filter.1 hy).1
  obtain ⟨lx, ox⟩ := h.rows x hx
  obtain ⟨ly, oy⟩ := h'.rows y hy
  have hc : ∀ c ∈ outs vs 0 vs', c < vs'.length := fun c hc => by have := outs_mem hc; omega
  refine ⟨?_, fun v hv => ?_⟩
  · unfold allV
    rw [List.length_append, List.length_append, lx, picks_len hc, picks_len (fun c h => by rw [ly]; exact hc c h)]
  · rcases List.mem_append.1 hv with hv | hv
    · exact ox v hv
    · exact oy.picks _ v hv

set_option maxRecDepth 100000 in
set_option maxHeartbeats 8000000 in
theorem join_any {Va Ra Vb Rb : Value} {vs vs' : List ByteArray} {us us' : List Value} {rs qs : List (List Val)} {w : World} (ha : TabAt w Va Ra vs us rs) (hb : TabAt w Vb Rb vs' us' qs) (lp : (joinL vs vs' rs qs).length ≤ 5864062014805) :
    Calls Tryz.prog 9 #[.agg #[Va, Ra], .agg #[Vb, Rb]] w fun e w' => ∃ t, e = .returned (.tuple #[t, .int .i64 (joinE vs rs vs' qs)]) ∧ (joinE vs rs vs' qs = 0 → OwnT w.heap.size t (madeS (allV vs vs')) (ofRows (allV vs vs') (joinL vs vs' rs qs)) w') ∧ (joinE vs rs vs' qs ≠ 0 → t = .agg #[.slice none 0 0, .slice none 0 0]) ∧ Below w.heap.size w w' := by
  obtain ⟨i0, hi, hz0, hz1, hz2⟩ := info_parts inS
  have HA : Hid (TabAt w Va Ra vs us rs) := ha
  have HB : Hid (TabAt w Vb Rb vs' us' qs) := hb
  have cE : Hid (∀ W, Below w.heap.size w W → Calls Tryz.prog 29 #[.agg #[Va, Ra], .agg #[Vb, Rb]] W fun e w' => e = .returned (.int .i64 (bothE vs rs vs' qs)) ∧ Below W.heap.size W w') := fun W hW => cboth2_any (ha.below hW) (hb.below hW)
  have LP : Hid ((joinL vs vs' rs qs).length ≤ 5864062014805) := lp
  obtain ⟨p1, k1, p2, k2, rfl, rfl⟩ := ha.forms
  obtain ⟨p3, k3, p4, k4, rfl, rfl⟩ := hb.forms
  obtain ⟨E, eE⟩ : ∃ E, Hid (bothE vs rs vs' qs = E) := ⟨_, rfl⟩
  obtain ⟨n1, en1⟩ : ∃ n, Hid (vs.length = n) := ⟨_, rfl⟩
  obtain ⟨n2, en2⟩ : ∃ n, Hid (us.length = n) := ⟨_, rfl⟩
  obtain ⟨n3, en3⟩ : ∃ n, Hid (vs'.length = n) := ⟨_, rfl⟩
  obtain ⟨n4, en4⟩ : ∃ n, Hid (us'.length = n) := ⟨_, rfl⟩
  obtain ⟨Q, eQ⟩ : ∃ Q, Hid (joinE vs rs vs' qs = Q) := ⟨_, rfl⟩
  have hQ : Hid (Q = if E = 0 then (if (allV vs vs').length ≤ 8 then 0 else 30) else E) := by
    show Q = _
    rw [← eQ.out, ← eE.out]
    rfl
  rw [eQ.out]
  rw [eE.out] at cE
  rw [en1.out] at HA cE ⊢
  rw [en2.out] at HA cE ⊢
  rw [en3.out] at HB cE ⊢
  rw [en4.out] at HB cE ⊢
  clear ha hb lp
  go_enter Tryz.func9, Tryz.ntmps9
  go_upto_region 1 with fail
  refine wp_world ?_
  intro W0 hW0
  have bx0 : Hid (Box3 W0 w.heap.size (.slice p1 n1 k1) (.slice p2 n2 k2) (.slice p3 n3 k3) (.slice p4 n4 k4)) := by rw [hW0]; exact Box3.made _ _ _ _ _
  have K0 : Below w.heap.size w W0 := by rw [hW0]; go_grown
  have z0 : W0.heap.size = w.heap.size + 3 := by rw [hW0]; simp
  clear hW0
  have A0 := cell_of_heap bx0.out.a 0 rfl
  have A1 := cell_of_heap bx0.out.a 1 rfl
  have B0 := cell_of_heap bx0.out.b 0 rfl
  have B1 := cell_of_heap bx0.out.b 1 rfl
  go_wp2_with fail
  refine (cE.out W0 K0).mono ?_
  rintro e w1 ⟨rfl, hb1⟩
  have bx1 : Hid (Box3 w1 w.heap.size (.slice p1 n1 k1) (.slice p2 n2 k2) (.slice p3 n3 k3) (.slice p4 n4 k4)) := bx0.out.below hb1
  have K1 : Below w.heap.size w w1 := K0.trans (hb1.mono K0.size)
  have z1 : w.heap.size + 3 ≤ w1.heap.size := by have := hb1.size; omega
  clear A0 A1 B0 B1 bx0 K0 hb1 z0
  have HSET : Hid (∀ W, Below w.heap.size w W → ∀ x y, Below w.heap.size w ((W.setCell ⟨w.heap.size + 2, 0, none⟩ x).setCell ⟨w.heap.size + 2, 1, none⟩ y)) := fun W h x y => by
    have b2 := h.grown (grownBy_setCell W (w.heap.size + 2) 0 x) h.size (fun q hq => by injection hq with hq; omega)
    exact b2.grown (grownBy_setCell _ (w.heap.size + 2) 1 y) b2.size (fun q hq => by injection hq with hq; omega)
  by_cases hE : E = 0
  · subst hE
    have okA : OkT vs rs := tabChk_ok (bothE_ok eE.out).1 HA.out.fits
    have okB : OkT vs' qs := tabChk_ok (bothE_ok eE.out).2 HB.out.fits
    have hn1 : n1 ≤ 8 := by have := okA.few; have := en1.out; omega
    have hn3 : n3 ≤ 8 := by have := okB.few; have := en3.out; omega
    have OKA : Hid (OkT vs rs) := okA
    have OKB : Hid (OkT vs' qs) := okB
    obtain ⟨ad, ead⟩ : ∃ ad, Hid (outs vs 0 vs' = ad) := ⟨_, rfl⟩
    have had : Hid (∀ c ∈ ad, c < vs'.length) := fun c hc => by
      rw [← ead.out] at hc
      have := outs_mem hc
      omega
    have lad : Hid (ad.length ≤ 8) := by
      show _ ≤ _
      have h := outs_len (us := vs) vs' 0
      rw [ead.out] at h
      have := okB.few
      omega
    have cC : Hid (Calls Tryz.prog 26 #[.slice p1 n1 k1] w1 fun e w' => ∃ v, e = .returned v ∧ OwnS w1.heap.size v vs w' ∧ Below w1.heap.size w1 w') := cloneS_any _ vs w1 (HA.out.vars.below K1) (by have := okA.few; omega)
    have cO : Hid (∀ W, Below w.heap.size w W → Calls Tryz.prog 30 #[.slice p3 n3 k3, .slice p1 n1 k1] W fun e w' => ∃ v, e = .returned v ∧ OwnI W.heap.size v ad w' ∧ Below W.heap.size W w') := fun W hW => by
      have h := cout_any _ _ vs' vs W (HB.out.vars.below hW) (HA.out.vars.below hW) (by have := okB.few; omega) (by have := okA.few; omega)
      rw [ead.out] at h
      exact h
    clear okA okB cE
    have a0 := cell_of_heap bx1.out.a 0 rfl
    go_wp2_with fail
    refine cC.out.mono ?_
    rintro e w2 ⟨vv, rfl, ov, hb2⟩
    obtain ⟨pv, nv, cv, rfl⟩ := slice_of ov
    have bx2 : Hid (Box3 w2 w.heap.size (.slice p1 n1 k1) (.slice p2 n2 k2) (.slice p3 n3 k3) (.slice p4 n4 k4)) := bx1.out.below hb2
    have K2 : Below w.heap.size w w2 := K1.trans (hb2.mono K1.size)
    clear a0 cC
    have a0 := cell_of_heap bx2.out.a 0 rfl
    have b0 := cell_of_heap bx2.out.b 0 rfl
    go_wp2_with fail
    refine (cO.out w2 K2).mono ?_
    rintro e w3 ⟨va, rfl, oa, hb3⟩
    have bx3 : Hid (Box3 w3 w.heap.size (.slice p1 n1 k1) (.slice p2 n2 k2) (.slice p3 n3 k3) (.slice p4 n4 k4)) := bx2.out.below hb3
    have OV : Hid (OwnS w1.heap.size (.slice pv nv cv) vs w3) := own_below ov hb3
    have OA : Hid (OwnI w2.heap.size va ad w3) := oa
    have KB : Below w1.heap.size w1 w3 := hb2.trans (hb3.mono hb2.size)
    obtain ⟨pa, ka, rfl⟩ := oa.ints.form
    obtain ⟨n5, en5⟩ : ∃ n, Hid (ad.length = n) := ⟨_, rfl⟩
    rw [en5.out] at OA ⊢
    have hn5 : n5 ≤ 8 := by have := lad.out; have := en5.out; omega
    clear a0 b0 cO oa ov hb2 hb3 bx2 bx3 K2
    go_wp2
    go_loopw [7, 28] (fun v i wr => ∃ (k : Nat), k ≤ n5 ∧ i = .int .i64 k ∧ Hid (OwnS w1.heap.size v (vs ++ picks vs' (ad.take k)) wr) ∧ Hid (OwnI w2.heap.size (.slice pa n5 ka) ad wr) ∧ Below w1.heap.size w1 wr) (fun _ i _ => n5 - (intOf i).toNat)
    case atStart => exact ⟨0, Nat.zero_le _, rfl, (show OwnS _ _ (vs ++ picks vs' (ad.take 0)) _ by simpa [picks] using OV.out), OA, KB⟩
    case round =>
      obtain ⟨k, hk, rfl, hO, hI, hB⟩ := hrel
      have KW : Below w.heap.size w wr := K1.trans (hB.mono K1.size)
      by_cases hlt : k < n5
      · have kx : k < ad.length := by have := en5.out; omega
        obtain ⟨b, off, rfl, hb, q1⟩ := hI.out.ints.get.2 k kx
        have cx : ad[k] < vs'.length := had.out _ (List.getElem_mem kx)
        obtain ⟨b', off', rfl, hb', r1⟩ := HB.out.vars.get.2 ad[k] cx
        have r2 := (KW.cell (p := ⟨b', off' + ad[k], none⟩) hb').trans r1
        have hS : Hid (vs ++ picks vs' (ad.take (k + 1)) = (vs ++ picks vs' (ad.take k)) ++ [vs'[ad[k]]]) := by
          show _ = _
          rw [List.take_succ_eq_append_getElem kx, List.append_assoc]
          congr 1
          unfold picks
          rw [List.filterMap_append]
          simp [List.getElem?_eq_getElem cx]
        have hcn : ad[k] < n3 := by have := en3.out; omega
        have hlen : (vs ++ picks vs' (ad.take k)).length ≤ 16 := by
          rw [List.length_append, picks_len (fun c hc => had.out c (List.mem_of_mem_take hc)), List.length_take]
          have := en1.out
          have := lad.out
          omega
        generalize vs'[ad[k]] = X at r2 hS
        generalize ad[k] = C at q1 r2 hcn
        obtain ⟨F, eF⟩ : ∃ F, Hid (vs ++ picks vs' (ad.take k) = F) := ⟨_, rfl⟩
        rw [eF.out] at hO hS hlen
        have b0 := cell_of_heap (bx1.out.grown hB z1).b 0 rfl
        have hK := hB.size
        have HK : Hid (∀ q, u7.ownBlock = some q → w1.heap.size ≤ q) := fun q hq => (World.ownsRow.lt hO.out q hq).1
        clear r1
        go_wp2_with (at_builtin; refine wpList_append_own_at _ rfl (.tmp 32) (.tmp 38) 22 rfl w1.heap.size 9 i0 (.string ⟨#[]⟩) 1 16 Tryz.underlying22 hi hz0 hz1 hz2 rfl (by decide) u7 F.length (F.map Value.string) rfl (World.ownsRow.alloc hO.out _) ⟨wr.heap.size, 0, none⟩ 1 1 [.string X] rfl rfl ?d1 ?d2 (by unfold maxLen; omega) (by omega) (by simp; omega) ?grow)
        case d1 => (intro j u hj; rw [Addr.add_lit]; (rcases j with _ | j) <;> simp at hj; subst hj; simp (maxDischargeDepth := 12) [go_sem])
        case d2 => (intro u hu; simp at hu; subst hu; rfl)
        case grow =>
          intro v' w5 h2 h3 _ _
          have O5 : Hid (OwnS w1.heap.size v' (vs ++ picks vs' (ad.take (k + 1))) w5) := by
            show OwnS _ _ _ _
            rw [hS.out]
            unfold OwnS
            rw [List.length_append, List.map_append]
            exact h2
          have I5 : Hid (OwnI w2.heap.size (.slice (some ⟨b, off, none⟩) n5 ka) ad w5) := World.ownsRow.kept (World.ownsRow.alloc hI.out _) h3 (own_ne2 hI.out hO.out (by decide))
          have B5 : Below w1.heap.size w1 w5 := Below.grown (hB.alloc hB.size _) h3 (by simp; omega) HK.out
          clear h2 h3 hO hI HK
          go_wp2
          exact ⟨⟨k + 1, by omega, by go_num, O5, I5, B5⟩, by simp [intOf]; omega⟩
      · have c2 : ¬ (k : Int) < n5 := by omega
        have hO2 : OwnS w1.heap.size u7 (allV vs vs') wr := by
          have h := hO.out
          rw [List.take_of_length_le (by have := en5.out; omega)] at h
          unfold allV
          rw [ead.out]
          exact h
        obtain ⟨n6, en6⟩ : ∃ n, Hid ((allV vs vs').length = n) := ⟨_, rfl⟩
        have hStr := hO2.strs
        obtain ⟨pw, cw, rfl⟩ := hStr.form
        have HS : Hid (StrsAt wr (.slice pw (allV vs vs').length cw) (allV vs vs')) := hStr
        have HI2 : Hid (IntsAt wr (.slice pa n5 ka) ad) := hI.out.ints
        rw [en6.out] at HS ⊢
        have bx : Hid (Box3 wr w.heap.size (.slice p1 n1 k1) (.slice p2 n2 k2) (.slice p3 n3 k3) (.slice p4 n4 k4)) := bx1.out.grown hB z1
        have zr : w.heap.size + 3 ≤ wr.heap.size := Nat.le_trans z1 hB.size
        have hl6 : n6 ≤ 16 := by
          have h := en6.out
          unfold allV at h
          rw [List.length_append, picks_len (fun c hc => by have := outs_mem hc; omega)] at h
          have := outs_len (us := vs) vs' 0
          have := en1.out
          have := en3.out
          omega
        have hQ2 : Hid (Q = if n6 ≤ 8 then 0 else 30) := by
          have h := hQ.out
          rw [if_pos trivial, en6.out] at h
          exact h
        clear hO hO2 hI hStr hQ
        by_cases h8 : n6 ≤ 8
        · have c3 : ¬ (8 : Int) < n6 := by omega
          have hQ3 : Hid (Q = 0) := by show Q = 0; rw [hQ2.out, if_pos h8]
          clear hQ2
          have hv6 : (allV vs vs').length ≤ 8 := by have := en6.out; omega
          have HND : Hid ((allV vs vs').Nodup) := allV_nodup OKA.out.nodup OKB.out.nodup
          have pcall : Hid (Calls Tryz.prog 32 #[.agg #[.slice p1 n1 k1, .slice p2 n2 k2], .agg #[.slice p3 n3 k3, .slice p4 n4 k4], .slice pa n5 ka] wr fun e w' => ∃ v zs, e = .returned v ∧ w'.ownsRow wr.heap.size 26 1 v zs.length zs ∧ OwnRs wr.heap.size zs (joinL vs vs' rs qs) w' ∧ Below wr.heap.size wr w') := by
            have hA := HA.out.below KW
            have hBt := HB.out.below KW
            have hpe : pairOf (grp wr ((bothL vs' 0 vs).map (·.2)) us') (rwOf wr) ((bothL vs' 0 vs).map (·.1)) ad rs = joinL vs vs' rs qs := by
              unfold joinL
              rw [ead.out]
              exact pairOf_eq hBt.rows (fun r hr c hc => by rw [(OKA.out.rows r hr).1]; exact both_cs.1 c hc) (fun r hr c hc => by rw [(OKB.out.rows r hr).1]; exact both_cs.2.1 c hc) both_cs.2.2
            have h := pair_any _ _ _ _ _ vs vs' us us' rs qs ad wr hA.vars hBt.vars hA.vals hBt.vals hA.rows hBt.rows HI2.out OKA.out.rows OKB.out.rows OKA.out.few OKB.out.few lad.out had.out hA.many hBt.many (by rw [hpe]; exact LP.out)
            rw [hpe] at h
            exact h
          have rcall : Hid (∀ W, Below wr.heap.size wr W → Calls Tryz.prog 33 #[.slice pw n6 cw] W fun e w' => ∃ v cs, e = .returned v ∧ OwnI W.heap.size v cs w' ∧ cs.Perm (List.range (allV vs vs').length) ∧ riseB (picks (allV vs vs') cs) = true ∧ Below W.heap.size W w') := fun W hW => rising_any _ _ W (HS.out.below hW) (by omega) HND.out
          have acall : Hid (∀ W R C us cs, Below wr.heap.size wr W → ValsAt W R us → RowsOf W us (joinL vs vs' rs qs) → IntsAt W C cs → cs.Perm (List.range (allV vs vs').length) → riseB (picks (allV vs vs') cs) = true → Calls Tryz.prog 31 #[.slice pw n6 cw, R, C] W fun e w' => ∃ t, e = .returned t ∧ Told W.heap.size t (allV vs vs') (joinL vs vs' rs qs) w' ∧ Below W.heap.size W w') := fun W R C us cs hW hR hr hC hp hri => of_last _ R C _ us _ cs W (HS.out.below hW) hR hC hr hp (joinL_ok OKA.out OKB.out) hv6 (by have := hr.1; have := LP.out; omega) hri
          have a0 := cell_of_heap bx.out.a 0 rfl
          have a1 := cell_of_heap bx.out.a 1 rfl
          have b0 := cell_of_heap bx.out.b 0 rfl
          have b1 := cell_of_heap bx.out.b 1 rfl
          go_wp2_with fail
          refine pcall.out.mono ?_
          rintro e w4 ⟨vr, zs, rfl, or4, rr4, hb4⟩
          obtain ⟨pr, nr, cr, rfl⟩ := slice_of or4
          clear a0 a1 b0 b1 pcall
          go_wp2_with fail
          refine (rcall.out w4 hb4).mono ?_
          rintro e w5 ⟨vc, cs, rfl, oc, hp, hri, hb5⟩
          have hb45 : Below wr.heap.size wr w5 := hb4.trans (hb5.mono hb4.size)
          have ac2 := acall.out w5 (.slice pr nr cr) vc zs cs hb45 ((vals_own or4).below hb5) (rr4.rows.below hb5) oc.ints hp hri
          obtain ⟨pc, kc, rfl⟩ := oc.ints.form
          have AC : Hid (Calls Tryz.prog 31 #[.slice pw n6 cw, .slice pr nr cr, .slice pc cs.length kc] w5 fun e w' => ∃ t, e = .returned t ∧ Told w5.heap.size t (allV vs vs') (joinL vs vs' rs qs) w' ∧ Below w5.heap.size w5 w') := ac2
          generalize cs.length = nc at AC
          clear ac2 acall rcall or4 rr4 oc hp hri
          go_wp2_with fail
          refine AC.out.mono ?_
          rintro e w6 ⟨t, rfl, ht, hb6⟩
          have hb46 : Below wr.heap.size wr w6 := hb45.trans (hb6.mono hb45.size)
          have bx6 := bx.out.below hb46
          have ht2 := ht.spec HND.out (fun r hr => (joinL_ok OKA.out OKB.out r hr).2)
          obtain ⟨ta, tb, zt, rfl, t1, t2, t3⟩ := ht2
          obtain ⟨pta, nta, cta, rfl⟩ := slice_of t1
          obtain ⟨ptb, ntb, ctb, rfl⟩ := slice_of t2
          have HT : Hid (OwnT w5.heap.size (.agg #[.slice pta nta cta, .slice ptb ntb ctb]) (madeS (allV vs vs')) (ofRows (allV vs vs') (joinL vs vs' rs qs)) w6) := ⟨_, _, zt, rfl, t1, t2, t3⟩
          have K6 : Below w.heap.size w w6 := KW.trans (hb46.mono KW.size)
          have z5 : w.heap.size + 3 ≤ w5.heap.size := Nat.le_trans zr hb45.size
          have r0 := cell_of_heap bx6.r 0 rfl
          have r1 := cell_of_heap bx6.r 1 rfl
          have f0 := frozen_of_heap bx6.r 0
          have f1 := frozen_of_heap bx6.r 1
          have x0 : (w6.setCell ⟨w.heap.size + 2, 0, none⟩ (.slice pta nta cta)).cell? ⟨w.heap.size + 2, 0, none⟩ = some (.slice pta nta cta) := set_same r0
          have x1 : ((w6.setCell ⟨w.heap.size + 2, 0, none⟩ (.slice pta nta cta)).setCell ⟨w.heap.size + 2, 1, none⟩ (.slice ptb ntb ctb)).cell? ⟨w.heap.size + 2, 1, none⟩ = some (.slice ptb ntb ctb) := set_same ((set_other (by simp)).trans r1)
          clear AC t1 t2 t3 ht hb6 hb45 hb46 bx6
          go_wp2
          (try simp only [Exit.inBlock, Exit.then])
          refine bodyPost_ret (by simp [results, Tryz.results9, go_sem, x0, x1]; try rfl) rfl ?_
          exact ⟨_, by rw [hQ3.out], fun _ => ((HT.out.set (by omega)).set (by omega)).base (by omega), fun h => absurd hQ3.out h, HSET.out _ K6 _ _⟩
        · have c3 : (8 : Int) < n6 := by omega
          have hQ3 : Hid (Q = 30) := by show Q = 30; rw [hQ2.out, if_neg h8]
          clear hQ2
          have r0 := cell_of_heap bx.out.r 0 rfl
          have r1 := cell_of_heap bx.out.r 1 rfl
          have f0 := frozen_of_heap bx.out.r 0
          have f1 := frozen_of_heap bx.out.r 1
          have x0 : (wr.setCell ⟨w.heap.size + 2, 0, none⟩ (.slice none 0 0)).cell? ⟨w.heap.size + 2, 0, none⟩ = some (.slice none 0 0) := set_same r0
          have x1 : ((wr.setCell ⟨w.heap.size + 2, 0, none⟩ (.slice none 0 0)).setCell ⟨w.heap.size + 2, 1, none⟩ (.slice none 0 0)).cell? ⟨w.heap.size + 2, 1, none⟩ = some (.slice none 0 0) := set_same ((set_other (by simp)).trans r1)
          go_wp2
          (try simp only [Exit.inBlock, Exit.then])
          refine bodyPost_ret (by simp [results, Tryz.results9, go_sem, x0, x1]; try rfl) rfl ?_
          exact ⟨_, by rw [hQ3.out], fun h => absurd h (by rw [hQ3.out]; decide), fun _ => rfl, HSET.out _ KW _ _⟩
  · have hE2 : (E == 0) = false := by simpa using hE
    have hQE : Q = E := by rw [hQ.out, if_neg hE]
    subst hQE
    have r0 := cell_of_heap bx1.out.r 0 rfl
    have r1 := cell_of_heap bx1.out.r 1 rfl
    have f0 := frozen_of_heap bx1.out.r 0
    have f1 := frozen_of_heap bx1.out.r 1
    have x0 : (w1.setCell ⟨w.heap.size + 2, 0, none⟩ (.slice none 0 0)).cell? ⟨w.heap.size + 2, 0, none⟩ = some (.slice none 0 0) := set_same r0
    have x1 : ((w1.setCell ⟨w.heap.size + 2, 0, none⟩ (.slice none 0 0)).setCell ⟨w.heap.size + 2, 1, none⟩ (.slice none 0 0)).cell? ⟨w.heap.size + 2, 1, none⟩ = some (.slice none 0 0) := set_same ((set_other (by simp)).trans r1)
    clear hQ
    go_wp2
    (try simp only [Exit.inBlock, Exit.then])
    refine bodyPost_ret (by simp [results, Tryz.results9, go_sem, x0, x1]; try rfl) rfl ?_
    exact ⟨_, rfl, fun h => absurd h hE, fun _ => rfl, HSET.out _ K1 _ _⟩

end Go.Proofs.YtiliaincniiijaaGreat
