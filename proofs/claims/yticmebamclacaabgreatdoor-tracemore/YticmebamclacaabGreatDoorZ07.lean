/- A signature's size, and a declaration, that came in. -/
import Derived.Test.YticmebamclacaabGreatDoorZ02
import Derived.ProofKit
import Derived.OpenShut
import Derived.Lib.SmallJoins
import Derived.Deep.Slices
import Derived.OwnWalk
import Derived.Laws.OwnMore
import Derived.Deep.RegionLaw
import Derived.Lib.AppendZeros
import Derived.SizedLaws

namespace Go.Proofs.YticmebamclacaabGreatDoor
open Go.Joins Go.ChangeShapes Go.WideShapes Go.ChangeAt Go.RowKit Go.Deep
set_option linter.unusedVariables false
set_option maxRecDepth 100000

theorem cellsDecl : Tryz.prog.cellsOf 42 = 2 := by kernel_rfl
theorem cells2X {w : World} {a : Addr} {cs : List Value} (h : w.cells? 0 a 2 = some cs) : ∃ c0 c1, cs = [c0, c1] ∧ w.cell? (a.add 0) = some c0 ∧ w.cell? (a.add 1) = some c1 := by
  unfold World.cells? at h
  rw [if_pos (Nat.zero_le _), show List.range 2 = [0, 1] from rfl] at h
  simp only [List.mapM_cons, List.mapM_nil, Option.pure_def, Option.bind_eq_bind, Option.bind_eq_some_iff, Option.some.injEq] at h
  obtain ⟨c0, h0, r0, ⟨c1, h1, r1, rfl, e1⟩, e0⟩ := h
  subst e1 e0
  exact ⟨c0, c1, rfl, h0, h1⟩
theorem row_memX {b off n : Nat} (h : 0 < n) : MemPlace.cell b off ∈ MemPlace.row ⟨b, off, none⟩ n := by
  unfold MemPlace.row
  exact List.mem_map.2 ⟨0, by simp; omega, rfl⟩
instance : Inhabited Dec := ⟨⟨⟨#[]⟩, []⟩⟩

theorem open_kinds {H : Type} {enc : TypeId × Value → H} {w : World} {sp : Nat → Bool} {held : Bool} {n : Nat} {v : Value} {x : DataW H × List MemPlace} (h : DataW.trod enc Tryz.prog w 0 sp held n 40 [v] = some x) (hlt : ∀ y ∈ x.2, y.block < w.heap.size) :
    ∃ ks : List Int, KAt w v ks ∧ ks.length ≤ 9223372036854775807 := by
  rcases open_slice1 Tryz.underlying40 (by kernel_rfl) h with ⟨hcs, hx⟩ | ⟨a, len, cap, m, n', V, D, Pl, hcs, hb, hl, hm, em, hx, he⟩
  · injection hcs with hcs
    subst hcs
    exact ⟨[], ⟨none, 0, rfl, Or.inl rfl⟩, by simp⟩
  · injection hcs with hcs
    subst hcs hx
    have hlm : len ≤ m := by rw [em]; split <;> omega
    have each : ∀ i, i < len → ∃ s : Int, w.cell? (a.add i) = some (.int .i64 s) := fun i hi => by
      obtain ⟨h1, h2⟩ := he i (by omega)
      obtain ⟨s, e3, _, _⟩ := DataW.trod_int Tryz.underlying3 h2
      injection e3 with e3
      exact ⟨s, e3 ▸ h1⟩
    obtain ⟨f, hf⟩ := choose_lt each
    refine ⟨(List.range len).map f, ⟨some a, cap, by simp, ?_⟩, by simp; unfold maxLen at hm; omega⟩
    by_cases h0 : len = 0
    · exact Or.inl (by simp [h0])
    · right
      obtain ⟨b, off, spot⟩ := a
      have hspot : spot = none := by simpa [Addr.add] using World.cell?_spot (hf 0 (by omega))
      subst hspot
      refine ⟨b, off, rfl, hlt (.cell b off) (List.mem_append_left _ (row_memX (by omega))), ?_⟩
      intro i hi
      have hi' : i < len := by simpa using hi
      have c0 := hf i hi'
      simp only [add_plain] at c0
      simpa using c0

theorem open_sig {H : Type} {enc : TypeId × Value → H} {w : World} {sp : Nat → Bool} {held : Bool} {n : Nat} {v : Value} {x : DataW H × List MemPlace} (h : DataW.trod enc Tryz.prog w 0 sp held n 22 [v] = some x) (hlt : ∀ y ∈ x.2, y.block < w.heap.size) :
    ∃ L : List Dec, SigAt w v L ∧ L.length ≤ 9223372036854775807 ∧ ∀ d ∈ L, d.kinds.length ≤ 9223372036854775807 := by
  rcases open_slice Tryz.underlying22 h with ⟨hcs, hx⟩ | ⟨a, len, cap, m, n', D, Pl, hcs, hb, hl, hm, em, hx, he⟩
  · injection hcs with hcs
    subst hcs
    exact ⟨[], ⟨none, 0, rfl, by simp, Or.inl rfl⟩, by simp, by simp⟩
  · injection hcs with hcs
    subst hcs hx
    have hlm : len ≤ m := by rw [em]; split <;> omega
    have each : ∀ i, i < len → ∃ d : Dec, ∃ u, w.cell? ((a.add (i * 2)).add 0) = some (.string d.name) ∧ w.cell? ((a.add (i * 2)).add 1) = some u ∧ KAt w u d.kinds ∧ d.kinds.length ≤ 9223372036854775807 := fun i hi => by
      obtain ⟨cs, h1, h2⟩ := he i (by omega)
      rw [cellsDecl] at h1
      obtain ⟨c0, c1, rfl, k0, k1⟩ := cells2X h1
      obtain ⟨y0, y1, m', ex, _, t0, t1⟩ := trod_struct2 Tryz.underlying42 h2
      obtain ⟨s, e0, _, _⟩ := DataW.trod_string Tryz.underlying9 t0
      have f0 : Tryz.prog.cellsOf 9 = 1 := by kernel_rfl
      have f1 : Tryz.prog.cellsOf 40 = 1 := by kernel_rfl
      simp [f0] at e0
      simp [f1] at t1
      subst e0
      have ex2 : Pl i = y0.2 ++ y1.2 := congrArg Prod.snd ex
      obtain ⟨ks, hk, lk⟩ := open_kinds t1 (fun y hy => hlt y (List.mem_append_right _ (List.mem_flatMap.2 ⟨i, List.mem_range.2 (by omega), by rw [ex2]; exact List.mem_append_right _ hy⟩)))
      exact ⟨⟨s, ks⟩, c1, k0, k1, hk, lk⟩
    obtain ⟨f, hf⟩ := choose_lt each
    refine ⟨(List.range len).map f, ⟨some a, cap, by simp, by simpa using hl, ?_⟩, by simp; unfold maxLen at hm; omega, ?_⟩
    · by_cases h0 : len = 0
      · exact Or.inl (by simp [h0])
      · right
        obtain ⟨b, off, spot⟩ := a
        have hspot : spot = none := by
          obtain ⟨u, c0, _⟩ := hf 0 (by omega)
          simpa [Addr.add] using World.cell?_spot c0
        subst hspot
        refine ⟨b, off, rfl, hlt (.cell b off) (List.mem_append_left _ (row_memX (by rw [cellsDecl]; omega))), ?_⟩
        intro i hi
        have hi' : i < len := by simpa using hi
        obtain ⟨u, c0, c1, c2, _⟩ := hf i hi'
        simp only [add_plain, Nat.add_zero] at c0 c1
        simp only [List.getElem_map, List.getElem_range]
        exact ⟨u, c0, c1, c2⟩
    · intro y hy
      simp at hy
      obtain ⟨i, hi, rfl⟩ := hy
      obtain ⟨u, _, _, _, c3⟩ := hf i hi
      exact c3

end Go.Proofs.YticmebamclacaabGreatDoor

namespace Go.Proofs.YticmebamclacaabGreatDoor
open Go.RowKit LX Go.Shelf
set_option linter.unusedVariables false

/-- The cells of declarations that lie where they lie. -/
def DcA (w : World) : List Dec → List Value → Prop
  | [], [] => True
  | e :: es, a :: b :: zs => a = .string e.name ∧ KAt w b e.kinds ∧ DcA w es zs
  | _, _ => False
theorem DcA.app {w : World} {L M : List Dec} {xs ys : List Value} (h : DcA w L xs) (k : DcA w M ys) : DcA w (L ++ M) (xs ++ ys) := by
  induction L generalizing xs with
  | nil =>
    match xs, h with
    | [], _ => exact k
  | cons x es ih =>
    match xs, h with
    | a :: b' :: zs, h => exact ⟨h.1, h.2.1, ih h.2.2⟩
theorem DcA.below {w w' : World} {L : List Dec} {zs : List Value} (h : DcA w L zs) (hb : Below w.heap.size w w') : DcA w' L zs := by
  induction L generalizing zs with
  | nil =>
    match zs, h with
    | [], _ => trivial
  | cons x es ih =>
    match zs, h with
    | a :: b' :: zs, h => exact ⟨h.1, h.2.1.below hb, ih h.2.2⟩
theorem DcA.len {w : World} {L : List Dec} {zs : List Value} (h : DcA w L zs) : zs.length = L.length * 2 := by
  induction L generalizing zs with
  | nil =>
    match zs, h with
    | [], _ => rfl
  | cons x es ih =>
    match zs, h with
    | a :: b' :: zs, h => simp only [List.length_cons, ih h.2.2]; omega
theorem DcA.get {w : World} {L : List Dec} {zs : List Value} (h : DcA w L zs) (i : Nat) (hi : i < L.length) : zs[i * 2]? = some (.string L[i].name) ∧ ∃ u, zs[i * 2 + 1]? = some u ∧ KAt w u L[i].kinds := by
  induction L generalizing zs i with
  | nil => simp at hi
  | cons x es ih =>
    match zs, h with
    | a :: b' :: zs, h =>
      cases i with
      | zero => exact ⟨by rw [h.1]; rfl, b', rfl, h.2.1⟩
      | succ i =>
        have g := ih h.2.2 i (by simpa using hi)
        rw [show (i + 1) * 2 = i * 2 + 2 by omega]
        exact g
theorem DcA.one {w : World} {L : List Dec} {zs : List Value} (h : DcA w L zs) : ∀ u ∈ zs, u.oneCell' = true := by
  induction L generalizing zs with
  | nil =>
    match zs, h with
    | [], _ => simp
  | cons x es ih =>
    match zs, h with
    | a :: b' :: zs, h =>
      intro u hu
      rcases List.mem_cons.1 hu with rfl | hu
      · rw [h.1]; rfl
      rcases List.mem_cons.1 hu with rfl | hu
      · obtain ⟨p, c, e, -⟩ := h.2.1
        rw [e]; rfl
      · exact ih h.2.2 u hu
/-- A row of one's own with such cells is a signature. -/
theorem sig_of_own {w : World} {B n : Nat} {v : Value} {L : List Dec} {zs : List Value} (h : w.ownsRow B 42 2 v n zs) (hd : DcA w L zs) : SigAt w v L := by
  have hl := hd.len
  have h' := h
  obtain ⟨hn, ⟨e, h0⟩ | ⟨g, cap, cur, rfl, hg1, hg2, hg3, -⟩⟩ := h
  · have : L = [] := List.length_eq_zero_iff.1 (by omega)
    subst this
    exact ⟨none, 0, e, Nat.le_refl _, Or.inl rfl⟩
  · have hnL : n = L.length := by omega
    subst hnL
    refine ⟨_, _, rfl, hg3, Or.inr ⟨g, 0, rfl, (Array.getElem?_eq_some_iff.1 hg2).1, fun i hi => ?_⟩⟩
    obtain ⟨c0, u, c1, ho⟩ := hd.get i hi
    refine ⟨u, ?_, ?_, ho⟩
    · rw [Nat.zero_add, h'.cellAt _ (by omega)]; exact c0
    · rw [Nat.zero_add, h'.cellAt _ (by omega)]; exact c1
theorem gather {P : Nat → Value → Value → Prop} : ∀ n, (∀ i, i < n → ∃ a b, P i a b) → ∃ zs : List Value, zs.length = n * 2 ∧ ∀ i, i < n → ∃ a b, zs[i * 2]? = some a ∧ zs[i * 2 + 1]? = some b ∧ P i a b
  | 0, _ => ⟨[], rfl, fun i hi => by omega⟩
  | n + 1, h => by
    obtain ⟨zs, h1, h2⟩ := gather n (fun i hi => h i (by omega))
    obtain ⟨a, b, hab⟩ := h n (by omega)
    refine ⟨zs ++ [a, b], by simp [h1]; omega, fun i hi => ?_⟩
    by_cases e : i = n
    · subst e
      exact ⟨a, b, by rw [List.getElem?_append_right (by omega), h1]; simp, by rw [List.getElem?_append_right (by omega), h1]; simp, hab⟩
    · obtain ⟨a', b', q1, q2, q3⟩ := h2 i (by omega)
      exact ⟨a', b', by rw [List.getElem?_append_left (by omega)]; exact q1, by rw [List.getElem?_append_left (by omega)]; exact q2, q3⟩
theorem dcA_of {w : World} : ∀ {L : List Dec} {zs : List Value}, zs.length = L.length * 2 → (∀ i (h : i < L.length), zs[i * 2]? = some (.string L[i].name) ∧ ∃ u, zs[i * 2 + 1]? = some u ∧ KAt w u L[i].kinds) → DcA w L zs
  | [], [], _, _ => trivial
  | [], a :: zs, h, _ => by simp at h
  | d :: L, [], h, _ => by simp at h
  | d :: L, [a], h, _ => by simp at h; omega
  | d :: L, a :: b :: zs, h, k => by
    obtain ⟨k0, u, k1, k2⟩ := k 0 (by simp)
    simp at k0 k1
    subst k0 k1
    refine ⟨rfl, k2, dcA_of (by simp at h; omega) (fun i hi => ?_)⟩
    have g := k (i + 1) (by simpa using hi)
    rw [show (i + 1) * 2 = i * 2 + 2 by omega] at g
    exact g
/-- What a signature hands over to append. -/
theorem sig_src {w : World} {v : Value} {L : List Dec} (h : SigAt w v L) : ∃ zs, DcA w L zs ∧ ((∃ p c, v = .slice p 0 c ∧ L = [] ∧ zs = []) ∨ ∃ b off c, v = .slice (some ⟨b, off, none⟩) L.length c ∧ b < w.heap.size ∧ ∀ j x, zs[j]? = some x → w.cell? ⟨b, off + j, none⟩ = some x) := by
  obtain ⟨p, c, rfl, hc, rfl | ⟨b, off, rfl, hb, hX⟩⟩ := h
  · exact ⟨[], trivial, Or.inl ⟨p, c, rfl, rfl, rfl⟩⟩
  · obtain ⟨zs, h1, h2⟩ := gather (P := fun i a b' => w.cell? ⟨b, off + i * 2, none⟩ = some a ∧ w.cell? ⟨b, off + i * 2 + 1, none⟩ = some b' ∧ ∀ (hi : i < L.length), a = .string L[i].name ∧ KAt w b' L[i].kinds) L.length (fun i hi => by
      obtain ⟨u, a1, a2, a3⟩ := hX i hi
      exact ⟨_, u, a1, a2, fun _ => ⟨rfl, a3⟩⟩)
    refine ⟨zs, dcA_of h1 (fun i hi => ?_), Or.inr ⟨b, off, c, rfl, hb, fun j x hj => ?_⟩⟩
    · obtain ⟨a, b', q1, q2, q3, q4, q5⟩ := h2 i hi
      obtain ⟨r1, r2⟩ := q5 hi
      exact ⟨by rw [q1, r1], b', q2, r2⟩
    · have hjl : j < zs.length := (List.getElem?_eq_some_iff.1 hj).1
      obtain ⟨a, b', q1, q2, q3, q4, q5⟩ := h2 (j / 2) (by omega)
      rcases Nat.mod_two_eq_zero_or_one j with h0 | h0
      · rw [show j / 2 * 2 = j by omega] at q1 q3
        rw [q1] at hj
        injection hj with hj
        rw [← hj]; exact q3
      · rw [show j / 2 * 2 + 1 = j by omega] at q2
        rw [show off + j / 2 * 2 + 1 = off + j by omega] at q4
        rw [q2] at hj
        injection hj with hj
        rw [← hj]; exact q4

end Go.Proofs.YticmebamclacaabGreatDoor

namespace Go.Proofs.YticmebamclacaabGreatDoor
open Go.RowKit LX Go.Shelf
set_option linter.unusedVariables false

theorem run_append_noneX {P : Program} (w : World) (t ty e : TypeId) (i : TypeInfo) (ht : P.underlying t = some (.slice e)) (hi : P.info? e = some i) (base : Option Addr) (sLen sCap : Nat) (p : Option Addr) (c : Nat) (h : sLen ≤ sCap) :
    (Builtin.append_ #[t, t] ty #[.slice base sLen sCap, .slice p 0 c]).run P w = .ok (.slice base sLen sCap) w := by
  cases base <;> cases p <;> simp [Builtin.append_, run_underlying ht, sizeOf, typeInfo, hi, Builtin.lenOf, Builtin.firstCells, loadCells, loadCellsFrom, storeCells, h]
/-- What a slice hands over to append: nothing, or as many cells as are told. -/
def SrcX (w : World) (size : Nat) (u : Value) (m : Nat) (news : List Value) : Prop := (∃ p c, u = .slice p 0 c ∧ m = 0 ∧ news = []) ∨ ∃ ad c, u = .slice (some ad) m c ∧ news.length = m * size ∧ ∀ j x, news[j]? = some x → w.cell? (ad.add j) = some x
theorem own_sliceX {w : World} {B e size n : Nat} {v : Value} {xs : List Value} (h : w.ownsRow B e size v n xs) : ∃ b0 n0 c0, v = .slice b0 n0 c0 ∧ n0 ≤ c0 := by
  obtain ⟨-, ⟨rfl, -⟩ | ⟨g, cap, cur, rfl, -, -, hn, -⟩⟩ := h
  · exact ⟨_, _, _, rfl, Nat.le_refl _⟩
  · exact ⟨_, _, _, rfl, hn⟩
theorem step_append_src {P : Program} {ops : Array Oper} {o : Oper} {a : Act} {w : World} {K : Act → World → Prop} {Q : Exit → Act → World → Prop} {E : Prop}
    (hg : o.guard = none) (s x : Operand) (t : TypeId) (ho : o.op = Op.call { callee := Callee.builtin Builtin.append, args := #[s, x], argTypes := #[t, t] })
    (base : Nat) (e : TypeId) (i : TypeInfo) (z : Value) (size bytes : Nat) (ht : P.underlying t = some (.slice e)) (hi : P.info? e = some i) (hz : i.zero = some z) (hsize : i.size = size) (hby : i.bytes = bytes) (hzs : z.cells.size = size) (hsz : 0 < size)
    (v : Value) (n : Nat) (xs : List Value) (hs : a.eval s = v) (hown : w.ownsRow base e size v n xs)
    (u : Value) (m : Nat) (news : List Value) (hx : a.eval x = u) (hsrc : SrcX w size u m news) (h1 : ∀ u ∈ news, u.oneCell' = true)
    (h63 : n + m ≤ maxLen) (hbytes : (n + m) * bytes ≤ 140737488355328) (hbase : base ≤ w.heap.size)
    (h : ∀ v' w', w'.ownsRow base e size v' (n + m) (xs ++ news) → w.grownBy w' v.ownBlock → K (a.put o.dst v') w') :
    if Region.wanted o (yielded ops a.tmps) = true then Oper.wp P o a w K Q else E := by
  rcases hsrc with ⟨p, c, rfl, rfl, rfl⟩ | ⟨ad, c, rfl, hl, hnews⟩
  · obtain ⟨b0, n0, c0, rfl, hle⟩ := own_sliceX hown
    have hw : Region.wanted o (yielded ops a.tmps) = true := by simp [Region.wanted, hg]
    rw [if_pos hw]
    have hrun := run_append_noneX (P := P) w t o.type e i ht hi b0 n0 c0 p c hle
    unfold Oper.wp
    simp [execOp, ho, resolve, invoke, builtin, hs, hx, hrun, Result.andThen]
    exact h _ _ (by simpa using hown) ⟨rfl, rfl, rfl, Nat.le_refl _, fun _ _ _ => rfl⟩
  · exact step_append_own hg s x t ho base e i z size bytes ht hi hz hsize hby hzs hsz v n xs hs hown ad m c news hx hl hnews h1 h63 hbytes hbase h
theorem wpList_append_srcX {P : Program} {w : World} {ops : Array Oper} {rest : List Oper} {o : Oper} {a : Act} {Q : Exit → Act → World → Prop} (hgd : o.guard = none) (s x : Operand) (t : TypeId)
    (ho : o.op = .call { callee := .builtin .append, args := #[s, x], argTypes := #[t, t] })
    (base : Nat) (e : TypeId) (i : TypeInfo) (z : Value) (size bytes : Nat) (ht : P.underlying t = some (.slice e)) (hi : P.info? e = some i) (hz : i.zero = some z)
    (hsize : i.size = size) (hby : i.bytes = bytes) (hzs : z.cells.size = size) (hsz : 0 < size)
    (v : Value) (n : Nat) (xs : List Value) (hs : a.eval s = v) (hown : w.ownsRow base e size v n xs)
    (u : Value) (m : Nat) (news : List Value) (hx : a.eval x = u) (hsrc : SrcX w size u m news) (h1 : ∀ u ∈ news, u.oneCell' = true)
    (h63 : n + m ≤ maxLen) (hbytes : (n + m) * bytes ≤ 140737488355328) (hbase : base ≤ w.heap.size)
    (h : ∀ v' w', w'.ownsRow base e size v' (n + m) (xs ++ news) → w.grownBy w' v.ownBlock → wpList P ops Q rest (a.put o.dst v') w') :
    wpList P ops Q (o :: rest) a w := by
  rcases hsrc with ⟨p, c, rfl, rfl, rfl⟩ | ⟨ad, c, rfl, hl, hnews⟩
  · obtain ⟨b0, n0, c0, rfl, hle⟩ := own_sliceX hown
    exact Lib.wpList_append_run w hgd s x t t ho _ _ hs hx _ _ (run_append_noneX w t o.type e i ht hi b0 n0 c0 p c hle) (h _ _ (by simpa using hown) ⟨rfl, rfl, rfl, Nat.le_refl _, fun _ _ _ => rfl⟩)
  · exact wpList_append_own w hgd s x t ho base e i z size bytes ht hi hz hsize hby hzs hsz v n xs hs hown ad m c news hx hl hnews h1 h63 hbytes hbase (fun v' w' a1 a2 _ => h v' w' a1 a2)
theorem inDX : (Tryz.prog.info? 42).map (fun i => (i.zero, i.size, i.bytes)) = some (some (.agg #[.string ⟨#[]⟩, .slice none 0 0]), 2, 40) := by kernel_rfl
theorem hA1X (w : World) (o : Obj) : (w.alloc o).heap[w.heap.size]? = some o := by
  show (w.heap.push o)[w.heap.size]? = _
  rw [Array.getElem?_push, if_pos rfl]
theorem hA2X (w : World) (o o2 : Obj) : ((w.alloc o).alloc o2).heap[w.heap.size]? = some o := by
  show ((w.heap.push o).push o2)[w.heap.size]? = _
  rw [Array.getElem?_push, if_neg (by simp), Array.getElem?_push, if_pos rfl]
theorem hA3X (w : World) (o o2 : Obj) : ((w.alloc o2).alloc o).heap[w.heap.size + 1]? = some o := by
  show ((w.heap.push o2).push o)[w.heap.size + 1]? = _
  rw [Array.getElem?_push, if_pos (by simp)]
theorem own_litX {w : World} {B e size g : Nat} (hB : B ≤ g) (hg : w.heap[g]? = some (.cells #[] e (0, 0))) : w.ownsRow B e size (.slice (some ⟨g, 0, none⟩) 0 0) 0 [] := ⟨by simp, Or.inr ⟨g, 0, #[], rfl, hB, hg, Nat.le_refl _, Nat.zero_le _, by simp, by simp⟩⟩

set_option maxRecDepth 100000 in
set_option maxHeartbeats 8000000 in
theorem trmore_walk (A U V : Value) (L : List Dec) (d : Dec) (t : Int) (es : List Evt) (w : World) (hg : ErrT w) (c5 : Hid (∀ W : World, Below w.heap.size w W → Calls Tryz.prog 11 #[] W fun r w' => r = .returned (.bool true) ∧ Below W.heap.size W w')) (hA : SigAt w A L) (lL : L.length * 40 ≤ 140737488351232) (lk : ∀ d ∈ L, d.kinds.length ≤ 9223372036854775807) (hU : KAt w U d.kinds) (lU : d.kinds.length ≤ 9223372036854775807) (hV : EvsAt w V es) (fx : ∀ e ∈ es, ∀ v ∈ e.args, v.Fits) (lv : ∀ e ∈ es, e.args.length ≤ 9223372036854775807) (le : es.length ≤ 9223372036854775807) :
    Calls Tryz.prog 4 #[A, .agg #[.string d.name, U], .agg #[.int .i64 t, V]] w fun r w' => r = .returned (.bool true) ∧ Below w.heap.size w w' := by
  obtain ⟨i0, hi, hz0, hz1, hz2⟩ := info_parts inDX
  obtain ⟨zs, hd, hsrc⟩ := sig_src hA
  have cP : Hid (∀ (W : World) (B : Value) (M : List Dec), Below w.heap.size w W → SigAt W B M → M.length ≤ 9223372036854775807 → (∀ d ∈ M, d.kinds.length ≤ 9223372036854775807) → Calls Tryz.prog 12 #[B, .agg #[.int .i64 t, V]] W fun e w' => e = .returned (.int .i64 (pointE M t es)) ∧ Below W.heap.size W w') := fun W B M hW hB l1 l2 => checkpoint_any B V M t es W (hg.below hW) hB (hV.below hW) fx l1 l2 lv le
  have cS : Hid (∀ (W : World) (B : Value) (M : List Dec), Below w.heap.size w W → SigAt W B M → M.length ≤ 9223372036854775807 → (∀ d ∈ M, d.kinds.length ≤ 9223372036854775807) → Calls Tryz.prog 13 #[B] W fun e w' => e = .returned (.int .i64 (sigE M)) ∧ Below W.heap.size W w') := fun W B M hW hB l1 l2 => checksig_any B M W (hg.below hW) hB l1 l2
  have c0 : Hid (∀ W : World, Below w.heap.size w W → Calls Tryz.prog 12 #[.slice none 0 0, .agg #[.int .i64 t, .slice none 0 0]] W fun e w' => e = .returned (.int .i64 (pointE [] t [])) ∧ Below W.heap.size W w') := fun W hW => checkpoint_any _ _ [] t [] W (hg.below hW) ⟨none, 0, rfl, Nat.le_refl _, Or.inl rfl⟩ ⟨none, 0, rfl, Or.inl rfl⟩ (by simp) (by simp) (by simp) (by simp) (by simp)
  have SRC : Hid (∀ W : World, Below w.heap.size w W → SrcX W 2 A L.length zs) := fun W hW => by
    rcases hsrc with ⟨p, c, h1, h2, h3⟩ | ⟨b, off, c, h1, h2, h3⟩
    · exact Or.inl ⟨p, c, h1, by rw [h2]; rfl, h3⟩
    · exact Or.inr ⟨_, c, h1, hd.len, fun j x hj => by rw [Addr.add_lit]; exact (hW.cell (p := ⟨b, off + j, none⟩) h2).trans (h3 j x hj)⟩
  have ONE : Hid (∀ u ∈ zs, u.oneCell' = true) := hd.one
  have ct1 : Hid (∀ W : World, Below w.heap.size w W → Calls Tryz.prog 12 #[A, .agg #[.int .i64 t, V]] W fun e w' => e = .returned (.int .i64 (pointE L t es)) ∧ Below W.heap.size W w') := fun W hW => cP.out W A L hW (hA.below hW) (by omega) lk
  have lkA : Hid (∀ e ∈ L ++ [d], e.kinds.length ≤ 9223372036854775807) := fun e he => by
    rcases List.mem_append.1 he with he | he
    · exact lk e he
    · rw [List.mem_singleton.1 he]; exact lU
  have lkB : Hid (∀ e ∈ d :: L, e.kinds.length ≤ 9223372036854775807) := fun e he => by
    rcases List.mem_cons.1 he with rfl | he
    · exact lU
    · exact lk e he
  have HD : Hid (∀ W : World, Below w.heap.size w W → DcA W (L ++ [d]) (zs ++ [.string d.name, U]) ∧ DcA W (d :: L) ([.string d.name, U] ++ zs)) := fun W hW => ⟨(hd.below hW).app ⟨rfl, hU.below hW, trivial⟩, ⟨rfl, hU.below hW, hd.below hW⟩⟩
  obtain ⟨pU, cU, eU, -⟩ := hU.form
  obtain ⟨pV, cV, eV, -⟩ := hV.form
  obtain ⟨pA, cA, eA, -⟩ := hA.form
  subst eU eV eA
  obtain ⟨n, en⟩ : ∃ n : Nat, Hid (L.length = n) := ⟨_, rfl⟩
  rw [en.out] at lL SRC ct1
  have hlA : Hid ((L ++ [d]).length ≤ 9223372036854775807 ∧ (d :: L).length ≤ 9223372036854775807) := ⟨by simp [en.out]; omega, by simp [en.out]; omega⟩
  have PL : Hid (pointE L t es = 0 → sigE (L ++ [d]) = 0 → pointE (L ++ [d]) t es = 0 ∧ pointE (d :: L) t es = 0 ∧ pointE [] t [] = 0) := fun h1 h2 => more_fits h1 h2
  clear hA hV hU hd hsrc lk lU fx lv
  rw [en.out]
  generalize es.length = me at *
  generalize d.kinds.length = mk at *
  generalize d.name = X at *
  obtain ⟨E1, eE1⟩ : ∃ E : Int, Hid (pointE L t es = E) := ⟨_, rfl⟩
  rw [eE1.out] at ct1 PL
  go_enter Tryz.func4, Tryz.ntmps4
  go_wp2_with fail
  refine (ct1.out _ (by go_grown)).mono ?_
  rintro r w1 ⟨rfl, hb1⟩
  have a0 : w1.cell? ⟨w.heap.size, 0, none⟩ = some (.string X) := (hb1.cell (p := ⟨w.heap.size, 0, none⟩) (by simp; omega)).trans (by simp [go_sem])
  have a1 : w1.cell? ⟨w.heap.size, 1, none⟩ = some (.slice pU mk cU) := (hb1.cell (p := ⟨w.heap.size, 1, none⟩) (by simp; omega)).trans (by simp [go_sem])
  have b0 : w1.cell? ⟨w.heap.size + 1, 0, none⟩ = some (.int .i64 t) := (hb1.cell (p := ⟨w.heap.size + 1, 0, none⟩) (by simp)).trans (by simp [go_sem])
  have b1 : w1.cell? ⟨w.heap.size + 1, 1, none⟩ = some (.slice pV me cV) := (hb1.cell (p := ⟨w.heap.size + 1, 1, none⟩) (by simp)).trans (by simp [go_sem])
  have hs1 : w.heap.size + 1 < w1.heap.size := by have := hb1.size; simp at this; omega
  obtain ⟨hB1, -⟩ := bgX (n := w.heap.size) (W0 := w) (by go_grown) (by go_size) hb1
  clear hb1 ct1
  go_upto_region 2 with fail
  have SR : Hid (∀ W : World, Below w1.heap.size w1 W → SrcX W 2 (.slice pA n cA) n zs) := fun W hW => SRC.out W (hB1.trans (hW.mono hB1.size))
  have hn0 : w.heap.size < w1.heap.size := by omega
  have hn1 : w.heap.size ≠ w1.heap.size := by omega
  have hn2 : w.heap.size ≠ w1.heap.size + 1 := by omega
  have lB : (0 + n) * 40 ≤ 140737488355328 := by omega
  have lB2 : (0 + n + 1) * 40 ≤ 140737488355328 := by omega
  have lM : 0 + n ≤ maxLen := by unfold maxLen; omega
  have lM2 : 0 + n + 1 ≤ maxLen := by unfold maxLen; omega
  go_region_law (first
    | (refine step_append_src rfl (.tmp 16) (.tmp 17) 22 rfl w1.heap.size 42 i0 (.agg #[.string ⟨#[]⟩, .slice none 0 0]) 2 40 Tryz.underlying22 hi hz0 hz1 hz2 rfl (by decide) (.slice (some ⟨w1.heap.size, 0, none⟩) 0 0) 0 [] (by simp [Act.eval]) (own_litX (Nat.le_refl _) (hA1X _ _)) (.slice pA n cA) n zs (by simp [Act.eval]) (SR.out _ (by go_grown)) ONE.out lM lB (by simp; try omega) (fun v' w2 h2 h3 => ?_); have h3' : (w1.drew.alloc (.cells #[] 42)).grownBy w2 (some (w1.heap.size)) := h3; have B2 : Below w1.heap.size w1 w2 := Below.grown (by go_grown) h3' (by simp; try omega) (fun q hq => by injection hq with hq; omega); have y0 := (B2.cell (p := ⟨w.heap.size, 0, none⟩) (by show w.heap.size < w1.heap.size; omega)).trans a0; have y1 := (B2.cell (p := ⟨w.heap.size, 1, none⟩) (by show w.heap.size < w1.heap.size; omega)).trans a1; have O2 : Hid (w2.ownsRow w1.heap.size 42 2 v' (0 + n) ([] ++ zs)) := h2;  clear h2 h3 h3')
    | (refine step_append_src rfl (.tmp 16) (.tmp 17) 22 rfl w1.heap.size 42 i0 (.agg #[.string ⟨#[]⟩, .slice none 0 0]) 2 40 Tryz.underlying22 hi hz0 hz1 hz2 rfl (by decide) (.slice (some ⟨w1.heap.size, 0, none⟩) 0 0) 0 [] (by simp [Act.eval]) (own_litX (Nat.le_refl _) (hA2X _ _ _)) (.slice pA n cA) n zs (by simp [Act.eval]) (SR.out _ (by go_grown)) ONE.out lM lB (by simp; try omega) (fun v' w2 h2 h3 => ?_); have h3' : ((w1.drew.alloc (.cells #[] 42)).alloc (.cells #[.string X, .slice pU mk cU] 42)).grownBy w2 (some (w1.heap.size)) := h3; have B2 : Below w1.heap.size w1 w2 := Below.grown (by go_grown) h3' (by simp; try omega) (fun q hq => by injection hq with hq; omega); have y0 := (B2.cell (p := ⟨w.heap.size, 0, none⟩) (by show w.heap.size < w1.heap.size; omega)).trans a0; have y1 := (B2.cell (p := ⟨w.heap.size, 1, none⟩) (by show w.heap.size < w1.heap.size; omega)).trans a1; have O2 : Hid (w2.ownsRow w1.heap.size 42 2 v' (0 + n) ([] ++ zs)) := h2; have hk := (h3'.block (w1.heap.size + 1) (by simp; try omega) (fun e => by injection e with e; omega)); have k20 : w2.heap[w1.heap.size + 1]? = some (.cells #[.string X, .slice pU mk cU] 42 (0, 0)) := hk.trans (by first | exact hA1X _ _ | exact hA2X _ _ _ | exact hA3X _ _ _); have e0 : w2.cell? ⟨w1.heap.size + 1, 0, none⟩ = some (.string X) := (Lib.cell_of_heap k20 0).trans rfl; have e1 : w2.cell? ⟨w1.heap.size + 1, 1, none⟩ = some (.slice pU mk cU) := (Lib.cell_of_heap k20 1).trans rfl; have sz2 : w1.heap.size + 1 < w2.heap.size := (Array.getElem?_eq_some_iff.1 k20).1; clear hk k20; clear h2 h3 h3')
    | (refine step_append_src rfl (.tmp 16) (.tmp 17) 22 rfl w1.heap.size 42 i0 (.agg #[.string ⟨#[]⟩, .slice none 0 0]) 2 40 Tryz.underlying22 hi hz0 hz1 hz2 rfl (by decide) (.slice (some ⟨w1.heap.size + 1, 0, none⟩) 0 0) 0 [] (by simp [Act.eval]) (own_litX (Nat.le_succ _) (hA3X _ _ _)) (.slice pA n cA) n zs (by simp [Act.eval]) (SR.out _ (by go_grown)) ONE.out lM lB (by simp; try omega) (fun v' w2 h2 h3 => ?_); have h3' : ((w1.drew.alloc (.cells #[.string X, .slice pU mk cU] 42)).alloc (.cells #[] 42)).grownBy w2 (some (w1.heap.size + 1)) := h3; have B2 : Below w1.heap.size w1 w2 := Below.grown (by go_grown) h3' (by simp; try omega) (fun q hq => by injection hq with hq; omega); have y0 := (B2.cell (p := ⟨w.heap.size, 0, none⟩) (by show w.heap.size < w1.heap.size; omega)).trans a0; have y1 := (B2.cell (p := ⟨w.heap.size, 1, none⟩) (by show w.heap.size < w1.heap.size; omega)).trans a1; have O2 : Hid (w2.ownsRow w1.heap.size 42 2 v' (0 + n) ([] ++ zs)) := h2; have hk := (h3'.block (w1.heap.size) (by simp; try omega) (fun e => by injection e with e; omega)); have k20 : w2.heap[w1.heap.size]? = some (.cells #[.string X, .slice pU mk cU] 42 (0, 0)) := hk.trans (by first | exact hA1X _ _ | exact hA2X _ _ _ | exact hA3X _ _ _); have e0 : w2.cell? ⟨w1.heap.size, 0, none⟩ = some (.string X) := (Lib.cell_of_heap k20 0).trans rfl; have e1 : w2.cell? ⟨w1.heap.size, 1, none⟩ = some (.slice pU mk cU) := (Lib.cell_of_heap k20 1).trans rfl; have sz2 : w1.heap.size < w2.heap.size := (Array.getElem?_eq_some_iff.1 k20).1; clear hk k20; clear h2 h3 h3')
    | (refine step_append_own rfl (.tmp 18) (.tmp 20) 22 rfl w1.heap.size 42 i0 (.agg #[.string ⟨#[]⟩, .slice none 0 0]) 2 40 Tryz.underlying22 hi hz0 hz1 hz2 rfl (by decide) v' (0 + n) ([] ++ zs) (by simp [Act.eval]) (World.ownsRow.alloc O2.out _) ⟨w2.heap.size, 0, none⟩ 1 1 [.string X, .slice pU mk cU] (by simp [Act.eval]) rfl (by intro j u hj; rw [Addr.add_lit]; (rcases j with _ | _ | j) <;> simp at hj <;> subst hj <;> simp (maxDischargeDepth := 12) [go_sem]) (by intro u hu; simp at hu; rcases hu with rfl | rfl <;> rfl) lM2 lB2 (by have := B2.size; simp; try omega) (fun v3 w3 k2 k3 => ?_); have B4 : Below w1.heap.size w1 w3 := Below.grown (B2.alloc B2.size _) k3 (by have := B2.size; simp; try omega) (fun q hq => (World.ownsRow.lt O2.out q hq).1); have O4 : Hid (w3.ownsRow w1.heap.size 42 2 v3 (0 + n + 1) ([] ++ zs ++ [.string X, .slice pU mk cU])) := k2; clear k2 k3 O2 y0 y1 B2)
    | (have h21 : w2.cell? ⟨w1.heap.size + 1, 0, none⟩ = some (.string X) := e0; refine step_append_own rfl (.tmp 18) (.tmp 20) 22 rfl w1.heap.size 42 i0 (.agg #[.string ⟨#[]⟩, .slice none 0 0]) 2 40 Tryz.underlying22 hi hz0 hz1 hz2 rfl (by decide) v' (0 + n) ([] ++ zs) (by simp [Act.eval]) (O2.out) ⟨w1.heap.size + 1, 0, none⟩ 1 1 [.string X, .slice pU mk cU] (by simp [Act.eval]) rfl (by intro j u hj; rw [Addr.add_lit]; (rcases j with _ | _ | j) <;> simp at hj <;> subst hj <;> first | exact e0 | exact e1) (by intro u hu; simp at hu; rcases hu with rfl | rfl <;> rfl) lM2 lB2 (by have := B2.size; simp; try omega) (fun v3 w3 k2 k3 => ?_); have B4 : Below w1.heap.size w1 w3 := Below.grown (B2) k3 (by have := B2.size; simp; try omega) (fun q hq => (World.ownsRow.lt O2.out q hq).1); have O4 : Hid (w3.ownsRow w1.heap.size 42 2 v3 (0 + n + 1) ([] ++ zs ++ [.string X, .slice pU mk cU])) := k2; clear k2 k3 O2 y0 y1 B2)
    | (have h21 : w2.cell? ⟨w1.heap.size, 0, none⟩ = some (.string X) := e0; refine step_append_own rfl (.tmp 18) (.tmp 20) 22 rfl w1.heap.size 42 i0 (.agg #[.string ⟨#[]⟩, .slice none 0 0]) 2 40 Tryz.underlying22 hi hz0 hz1 hz2 rfl (by decide) v' (0 + n) ([] ++ zs) (by simp [Act.eval]) (O2.out) ⟨w1.heap.size, 0, none⟩ 1 1 [.string X, .slice pU mk cU] (by simp [Act.eval]) rfl (by intro j u hj; rw [Addr.add_lit]; (rcases j with _ | _ | j) <;> simp at hj <;> subst hj <;> first | exact e0 | exact e1) (by intro u hu; simp at hu; rcases hu with rfl | rfl <;> rfl) lM2 lB2 (by have := B2.size; simp; try omega) (fun v3 w3 k2 k3 => ?_); have B4 : Below w1.heap.size w1 w3 := Below.grown (B2) k3 (by have := B2.size; simp; try omega) (fun q hq => (World.ownsRow.lt O2.out q hq).1); have O4 : Hid (w3.ownsRow w1.heap.size 42 2 v3 (0 + n + 1) ([] ++ zs ++ [.string X, .slice pU mk cU])) := k2; clear k2 k3 O2 y0 y1 B2))
  all_goals (
    have K3 : Below w.heap.size w w3 := hB1.trans (B4.mono hB1.size)
    have O5 : Hid (SigAt w3 v3 (L ++ [d])) := sig_of_own O4.out (HD.out w3 K3).1
    obtain ⟨p3, n3, c3, rfl, -⟩ := own_sliceX O4.out
    have a0' := (B4.cell (p := ⟨w.heap.size, 0, none⟩) hn0).trans a0
    have a1' := (B4.cell (p := ⟨w.heap.size, 1, none⟩) hn0).trans a1
    have b0' := (B4.cell (p := ⟨w.heap.size + 1, 0, none⟩) hs1).trans b0
    have b1' := (B4.cell (p := ⟨w.heap.size + 1, 1, none⟩) hs1).trans b1
    have hs3 : w.heap.size + 1 < w3.heap.size := Nat.lt_of_lt_of_le hs1 B4.size
    clear a0 a1 b0 b1 O4 SR B4 hs1 hn0 hn1 hn2
    by_cases hE : E1 = 0
    case neg =>
      have hE' : (E1 != 0) = true := by simp [hE]
      have hE'' : ¬ E1 = 0 := hE
      go_wp2_with fail
      refine (c5.out _ K3).mono ?_
      rintro r w4 ⟨rfl, hb4⟩
      have K4 : Below w.heap.size w w4 := K3.trans (hb4.mono K3.size)
      clear hb4 c5
      go_wp2
      go_ret
      exact ⟨by first | rfl | simp, K4⟩
    subst hE
    have ctS : Hid (Calls Tryz.prog 13 #[.slice p3 n3 c3] w3 fun e w' => e = .returned (.int .i64 (sigE (L ++ [d]))) ∧ Below w3.heap.size w3 w') := cS.out w3 _ (L ++ [d]) K3 O5.out hlA.out.1 lkA.out
    have PL2 := PL.out rfl
    generalize sigE (L ++ [d]) = E2 at ctS PL2
    go_wp2_with fail
    refine ctS.out.mono ?_
    rintro r w4 ⟨rfl, hb4⟩
    have K4 : Below w.heap.size w w4 := K3.trans (hb4.mono K3.size)
    by_cases hE2 : E2 = 0
    case neg =>
      have hE2' : (E2 != 0) = true := by simp [hE2]
      have hE2'' : ¬ E2 = 0 := hE2
      clear ctS PL2
      go_wp2_with fail
      refine (c5.out _ K4).mono ?_
      rintro r w5 ⟨rfl, hb5⟩
      have K5 : Below w.heap.size w w5 := K4.trans (hb5.mono K4.size)
      clear hb5 c5
      go_wp2
      go_ret
      exact ⟨by first | rfl | simp, K5⟩
    obtain ⟨y1, y2, y3⟩ := PL2 hE2
    subst hE2
    have ctP : Hid (Calls Tryz.prog 12 #[.slice p3 n3 c3, .agg #[.int .i64 t, .slice pV me cV]] w4 fun e w' => e = .returned (.int .i64 0) ∧ Below w4.heap.size w4 w') := by
      have h := cP.out w4 (.slice p3 n3 c3) (L ++ [d]) K4 (O5.out.below hb4) hlA.out.1 lkA.out
      rwa [y1] at h
    have d0 := (hb4.cell (p := ⟨w.heap.size, 0, none⟩) (by show w.heap.size < w3.heap.size; omega)).trans a0'
    have d1 := (hb4.cell (p := ⟨w.heap.size, 1, none⟩) (by show w.heap.size < w3.heap.size; omega)).trans a1'
    have g0 := (hb4.cell (p := ⟨w.heap.size + 1, 0, none⟩) hs3).trans b0'
    have g1 := (hb4.cell (p := ⟨w.heap.size + 1, 1, none⟩) hs3).trans b1'
    have hs4 : w.heap.size + 1 < w4.heap.size := Nat.lt_of_lt_of_le hs3 hb4.size
    clear ctS PL2 hb4 a0' a1' b0' b1' O5 cS
    go_wp2_with fail
    refine ctP.out.mono ?_
    rintro r w5 ⟨rfl, hb5⟩
    have K5 : Below w.heap.size w w5 := K4.trans (hb5.mono K4.size)
    have d0' := (hb5.cell (p := ⟨w.heap.size, 0, none⟩) (by show w.heap.size < w4.heap.size; omega)).trans d0
    have d1' := (hb5.cell (p := ⟨w.heap.size, 1, none⟩) (by show w.heap.size < w4.heap.size; omega)).trans d1
    have g0' := (hb5.cell (p := ⟨w.heap.size + 1, 0, none⟩) hs4).trans g0
    have g1' := (hb5.cell (p := ⟨w.heap.size + 1, 1, none⟩) hs4).trans g1
    have hs5 : w.heap.size + 1 < w5.heap.size := Nat.lt_of_lt_of_le hs4 hb5.size
    clear ctP hb5 d0 d1 g0 g1
    have hn5 : w.heap.size < w5.heap.size := by omega
    have SR5 : Hid (∀ W : World, Below w5.heap.size w5 W → SrcX W 2 (.slice pA n cA) n zs) := fun W hW => SRC.out W (K5.trans (hW.mono K5.size))
    go_wp2_with (at_builtin; refine wpList_append_srcX rfl _ _ 22 rfl w5.heap.size 42 i0 (.agg #[.string ⟨#[]⟩, .slice none 0 0]) 2 40 Tryz.underlying22 hi hz0 hz1 hz2 rfl (by decide) (.slice (some ⟨w5.heap.size, 0, none⟩) 1 1) 1 [.string X, .slice pU mk cU] rfl ⟨rfl, Or.inr ⟨w5.heap.size, 1, #[.string X, .slice pU mk cU], rfl, Nat.le_refl _, hA1X _ _, Nat.le_refl _, by unfold maxLen; omega, rfl, rfl⟩⟩ (.slice pA n cA) n zs rfl (SR5.out _ (by go_grown)) ONE.out (by unfold maxLen; omega) (by omega) (by simp) ?_)
    intro v6 w6 h6 g6
    have B6 : Below w5.heap.size w5 w6 := Below.grown ((Below.refl _ _).alloc (Nat.le_refl _) _) g6 (by simp) (fun q hq => by have hq : some w5.heap.size = some q := hq; injection hq with hq; omega)
    have K6 : Below w.heap.size w w6 := K5.trans (B6.mono K5.size)
    have O6 : SigAt w6 v6 (d :: L) := sig_of_own h6 (HD.out w6 K6).2
    obtain ⟨p6, n6, c6, rfl, -⟩ := own_sliceX h6
    have ctQ : Hid (Calls Tryz.prog 12 #[.slice p6 n6 c6, .agg #[.int .i64 t, .slice pV me cV]] w6 fun e w' => e = .returned (.int .i64 0) ∧ Below w6.heap.size w6 w') := by
      have h := cP.out w6 (.slice p6 n6 c6) (d :: L) K6 O6 hlA.out.2 lkB.out
      rwa [y2] at h
    have m0 := (B6.cell (p := ⟨w.heap.size + 1, 0, none⟩) hs5).trans g0'
    have m1 := (B6.cell (p := ⟨w.heap.size + 1, 1, none⟩) hs5).trans g1'
    have hs6 : w.heap.size + 1 < w6.heap.size := Nat.lt_of_lt_of_le hs5 B6.size
    clear h6 g6 B6 O6 SR5 d0' d1' g0' g1' cP
    go_wp2_with fail
    refine ctQ.out.mono ?_
    rintro r w7 ⟨rfl, hb7⟩
    have K7 : Below w.heap.size w w7 := K6.trans (hb7.mono K6.size)
    have m0' := (hb7.cell (p := ⟨w.heap.size + 1, 0, none⟩) hs6).trans m0
    clear ctQ hb7 m0 m1
    have ct0 : Hid (Calls Tryz.prog 12 #[.slice none 0 0, .agg #[.int .i64 t, .slice none 0 0]] w7 fun e w' => e = .returned (.int .i64 0) ∧ Below w7.heap.size w7 w') := by
      have h := c0.out w7 K7
      rwa [y3] at h
    go_wp2_with fail
    refine ct0.out.mono ?_
    rintro r w8 ⟨rfl, hb8⟩
    have K8 : Below w.heap.size w w8 := K7.trans (hb8.mono K7.size)
    clear ct0 hb8 m0' c0
    go_wp2_with fail
    refine (c5.out _ K8).mono ?_
    rintro r w9 ⟨rfl, hb9⟩
    have K9 : Below w.heap.size w w9 := K8.trans (hb9.mono K8.size)
    clear hb9 c5
    go_wp2
    go_ret
    exact ⟨by first | rfl | simp, K9⟩)


end Go.Proofs.YticmebamclacaabGreatDoor

namespace Go.Proofs.YticmebamclacaabGreatDoor
open Go.Joins Go.ChangeShapes Go.WideShapes Go.ChangeAt Go.RowKit Go.Deep
set_option linter.unusedVariables false
set_option maxRecDepth 100000

theorem cellsEvent : Tryz.prog.cellsOf 68 = 2 := by kernel_rfl
theorem cellsValX : Tryz.prog.cellsOf 71 = 4 := by kernel_rfl
theorem bdsX {x : Int} (h : (Lit.int .i64 x).wf = true) : -9223372036854775808 ≤ x ∧ x ≤ 9223372036854775807 := by
  simp [Lit.wf, IntKind.min, IntKind.max, IntKind.signed, IntKind.bits] at h
  omega
theorem cells4X {w : World} {a : Addr} {cs : List Value} (h : w.cells? 0 a 4 = some cs) : ∃ c0 c1 c2 c3, cs = [c0, c1, c2, c3] ∧ w.cell? (a.add 0) = some c0 ∧ w.cell? (a.add 1) = some c1 ∧ w.cell? (a.add 2) = some c2 ∧ w.cell? (a.add 3) = some c3 := by
  unfold World.cells? at h
  rw [if_pos (Nat.zero_le _), show List.range 4 = [0, 1, 2, 3] from rfl] at h
  simp only [List.mapM_cons, List.mapM_nil, Option.pure_def, Option.bind_eq_bind, Option.bind_eq_some_iff, Option.some.injEq] at h
  obtain ⟨c0, h0, r0, ⟨c1, h1, r1, ⟨c2, h2, r2, ⟨c3, h3, r3, rfl, e3⟩, e2⟩, e1⟩, e0⟩ := h
  subst e3 e2 e1 e0
  exact ⟨c0, c1, c2, c3, rfl, h0, h1, h2, h3⟩
instance : Inhabited Val := ⟨⟨0, 0, 0, ⟨#[]⟩⟩⟩
instance : Inhabited Evt := ⟨⟨⟨#[]⟩, []⟩⟩

/-- One value, read off its four cells. -/
theorem open_valX {H : Type} {enc : TypeId × Value → H} {w : World} {sp : Nat → Bool} {held : Bool} {n : Nat} {a : Addr} {cs : List Value} {x : DataW H × List MemPlace} (hc : w.cells? 0 a 4 = some cs) (h : DataW.trod enc Tryz.prog w 0 sp held n 71 cs = some x) :
    ∃ X : Val, X.Fits ∧ w.cell? (a.add 0) = some (.int .i64 X.k) ∧ w.cell? (a.add 1) = some (.int .i64 X.n) ∧ w.cell? (a.add 2) = some (.int .i64 X.d) ∧ w.cell? (a.add 3) = some (.string X.s) := by
  obtain ⟨c0, c1, c2, c3, rfl, h0, h1, h2, h3⟩ := cells4X hc
  obtain ⟨y0, y1, y2, y3, m, _, _, t0, t1, t2, t3⟩ := trod_struct4 Tryz.underlying71 h
  obtain ⟨k, e0, _, w0⟩ := DataW.trod_int Tryz.underlying3 t0
  obtain ⟨p, e1, _, w1⟩ := DataW.trod_int Tryz.underlying2 t1
  obtain ⟨q, e2, _, w2⟩ := DataW.trod_int Tryz.underlying2 t2
  obtain ⟨s, e3, _, w3⟩ := DataW.trod_string Tryz.underlying9 t3
  have f0 : Tryz.prog.cellsOf 3 = 1 := by kernel_rfl
  have f1 : Tryz.prog.cellsOf 2 = 1 := by kernel_rfl
  have f3 : Tryz.prog.cellsOf 9 = 1 := by kernel_rfl
  simp [f0] at e0
  simp [f1] at e1 e2
  simp [f3] at e3
  subst e0 e1 e2 e3
  exact ⟨⟨k, p, q, s⟩, ⟨(bdsX w1).1, (bdsX w1).2, (bdsX w2).1, (bdsX w2).2⟩, h0, h1, h2, h3⟩

theorem open_vals {H : Type} {enc : TypeId × Value → H} {w : World} {sp : Nat → Bool} {held : Bool} {n : Nat} {v : Value} {x : DataW H × List MemPlace} (h : DataW.trod enc Tryz.prog w 0 sp held n 66 [v] = some x) (hlt : ∀ y ∈ x.2, y.block < w.heap.size) :
    ∃ xs : List Val, RowAt w v xs ∧ (∀ y ∈ xs, y.Fits) ∧ xs.length ≤ 9223372036854775807 := by
  rcases open_slice Tryz.underlying66 h with ⟨hcs, hx⟩ | ⟨a, len, cap, m, n', D, Pl, hcs, hb, hl, hm, em, hx, he⟩
  · injection hcs with hcs
    subst hcs
    exact ⟨[], ⟨none, 0, rfl, Or.inl rfl⟩, by simp, by simp⟩
  · injection hcs with hcs
    subst hcs hx
    have hlm : len ≤ m := by rw [em]; split <;> omega
    have each : ∀ i, i < len → ∃ X : Val, X.Fits ∧ w.cell? ((a.add (i * 4)).add 0) = some (.int .i64 X.k) ∧ w.cell? ((a.add (i * 4)).add 1) = some (.int .i64 X.n) ∧ w.cell? ((a.add (i * 4)).add 2) = some (.int .i64 X.d) ∧ w.cell? ((a.add (i * 4)).add 3) = some (.string X.s) := fun i hi => by
      obtain ⟨cs, h1, h2⟩ := he i (by omega)
      rw [cellsValX] at h1
      exact open_valX h1 h2
    obtain ⟨f, hf⟩ := choose_lt each
    refine ⟨(List.range len).map f, ⟨some a, cap, by simp, ?_⟩, ?_, by simp; unfold maxLen at hm; omega⟩
    · by_cases h0 : len = 0
      · exact Or.inl (by simp [h0])
      · right
        obtain ⟨b, off, spot⟩ := a
        have hspot : spot = none := by simpa [Addr.add] using World.cell?_spot (hf 0 (by omega)).2.1
        subst hspot
        refine ⟨b, off, rfl, hlt (.cell b off) (List.mem_append_left _ (row_memX (by rw [cellsValX]; omega))), ?_⟩
        intro i hi
        have hi' : i < len := by simpa using hi
        obtain ⟨_, c0, c1, c2, c3⟩ := hf i hi'
        simp only [add_plain, Nat.add_zero] at c0 c1 c2 c3
        simp only [List.getElem_map, List.getElem_range]
        exact ⟨c0, c1, c2, c3⟩
    · intro y hy
      simp at hy
      obtain ⟨i, hi, rfl⟩ := hy
      exact (hf i hi).1

theorem open_evs {H : Type} {enc : TypeId × Value → H} {w : World} {sp : Nat → Bool} {held : Bool} {n : Nat} {v : Value} {x : DataW H × List MemPlace} (h : DataW.trod enc Tryz.prog w 0 sp held n 23 [v] = some x) (hlt : ∀ y ∈ x.2, y.block < w.heap.size) :
    ∃ L : List Evt, EvsAt w v L ∧ (∀ e ∈ L, ∀ v ∈ e.args, v.Fits) ∧ (∀ e ∈ L, e.args.length ≤ 9223372036854775807) ∧ L.length ≤ 9223372036854775807 := by
  rcases open_slice Tryz.underlying23 h with ⟨hcs, hx⟩ | ⟨a, len, cap, m, n', D, Pl, hcs, hb, hl, hm, em, hx, he⟩
  · injection hcs with hcs
    subst hcs
    exact ⟨[], ⟨none, 0, rfl, Or.inl rfl⟩, by simp, by simp, by simp⟩
  · injection hcs with hcs
    subst hcs hx
    have hlm : len ≤ m := by rw [em]; split <;> omega
    have each : ∀ i, i < len → ∃ d : Evt, ∃ u, w.cell? ((a.add (i * 2)).add 0) = some (.string d.name) ∧ w.cell? ((a.add (i * 2)).add 1) = some u ∧ RowAt w u d.args ∧ (∀ v ∈ d.args, v.Fits) ∧ d.args.length ≤ 9223372036854775807 := fun i hi => by
      obtain ⟨cs, h1, h2⟩ := he i (by omega)
      rw [cellsEvent] at h1
      obtain ⟨c0, c1, rfl, k0, k1⟩ := cells2X h1
      obtain ⟨y0, y1, m', ex, _, t0, t1⟩ := trod_struct2 Tryz.underlying68 h2
      obtain ⟨s, e0, _, _⟩ := DataW.trod_string Tryz.underlying9 t0
      have f0 : Tryz.prog.cellsOf 9 = 1 := by kernel_rfl
      have f1 : Tryz.prog.cellsOf 66 = 1 := by kernel_rfl
      simp [f0] at e0
      simp [f1] at t1
      subst e0
      have ex2 : Pl i = y0.2 ++ y1.2 := congrArg Prod.snd ex
      obtain ⟨xs, hk, fx, lk⟩ := open_vals t1 (fun y hy => hlt y (List.mem_append_right _ (List.mem_flatMap.2 ⟨i, List.mem_range.2 (by omega), by rw [ex2]; exact List.mem_append_right _ hy⟩)))
      exact ⟨⟨s, xs⟩, c1, k0, k1, hk, fx, lk⟩
    obtain ⟨f, hf⟩ := choose_lt each
    refine ⟨(List.range len).map f, ⟨some a, cap, by simp, ?_⟩, ?_, ?_, by simp; unfold maxLen at hm; omega⟩
    · by_cases h0 : len = 0
      · exact Or.inl (by simp [h0])
      · right
        obtain ⟨b, off, spot⟩ := a
        have hspot : spot = none := by
          obtain ⟨u, c0, _⟩ := hf 0 (by omega)
          simpa [Addr.add] using World.cell?_spot c0
        subst hspot
        refine ⟨b, off, rfl, hlt (.cell b off) (List.mem_append_left _ (row_memX (by rw [cellsEvent]; omega))), ?_⟩
        intro i hi
        have hi' : i < len := by simpa using hi
        obtain ⟨u, c0, c1, c2, _⟩ := hf i hi'
        simp only [add_plain, Nat.add_zero] at c0 c1
        simp only [List.getElem_map, List.getElem_range]
        exact ⟨u, c0, c1, c2⟩
    · intro y hy
      simp at hy
      obtain ⟨i, hi, rfl⟩ := hy
      obtain ⟨u, _, _, _, c3, _⟩ := hf i hi
      exact c3
    · intro y hy
      simp at hy
      obtain ⟨i, hi, rfl⟩ := hy
      obtain ⟨u, _, _, _, _, c4⟩ := hf i hi
      exact c4

theorem open_point {H : Type} {enc : TypeId × Value → H} {W : World} {r : Reach} {b0 : Nat} {v : Value} {d : DataW H} {p : List MemPlace} (hv : Value.okWide Tryz.prog W r b0 25 v) (h : DataW.Trod enc Tryz.prog W 0 (fun _ => true) true 25 v d p) (hlt : ∀ y ∈ p, y.block < W.heap.size) :
    ∃ (t : Int) (V : Value) (L : List Evt), v = .agg #[.int .i64 t, V] ∧ -9223372036854775808 ≤ t ∧ t ≤ 9223372036854775807 ∧ EvsAt W V L ∧ (∀ e ∈ L, ∀ v ∈ e.args, v.Fits) ∧ (∀ e ∈ L, e.args.length ≤ 9223372036854775807) ∧ L.length ≤ 9223372036854775807 := by
  obtain ⟨T, V, y0, y1, n, rfl, -, rfl, h0, h1⟩ := open_agg2 Tryz.underlying25 (by kernel_rfl) (by kernel_rfl) hv h
  obtain ⟨t, e0, _, w0⟩ := DataW.trod_int Tryz.underlying2 h0
  injection e0 with e0
  subst e0
  obtain ⟨L, a1, a2, a3, a4⟩ := open_evs h1 (fun y hy => hlt y (List.mem_append_right _ hy))
  exact ⟨t, V, L, rfl, (bdsX w0).1, (bdsX w0).2, a1, a2, a3, a4⟩

end Go.Proofs.YticmebamclacaabGreatDoor

namespace Go.Proofs.YticmebamclacaabGreatDoor
open Go.Joins Go.ChangeShapes Go.WideShapes Go.ChangeAt Go.RowKit Go.Deep
set_option linter.unusedVariables false
set_option maxRecDepth 100000

theorem sig_size {H : Type} {enc : TypeId × Value → H} {w : World} {sp : Nat → Bool} {held : Bool} {n : Nat} {v : Value} {x : DataW H × List MemPlace} {L : List Dec} (h : DataW.trod enc Tryz.prog w 0 sp held n 22 [v] = some x) (hs : SigAt w v L) : L.length = 0 ∨ ∃ elems spare, x.1 = .slice elems spare ∧ elems.length = L.length := by
  obtain ⟨p, c, e, -⟩ := hs
  rcases open_slice Tryz.underlying22 h with ⟨hcs, hx⟩ | ⟨a, len, cap, m, n', D, Pl, hcs, hb, hl, hm, em, hx, he⟩
  · injection hcs with hcs
    rw [e] at hcs
    injection hcs with _ hcs _
    exact Or.inl hcs
  · injection hcs with hcs
    rw [e] at hcs
    injection hcs with _ hcs _
    exact Or.inr ⟨_, _, by rw [hx], by simp [hcs]⟩
theorem bytesDecl : Tryz.prog.bytesOf 42 = 40 := by kernel_rfl
theorem open_decl {H : Type} {enc : TypeId × Value → H} {W : World} {r : Reach} {b0 : Nat} {v : Value} {d : DataW H} {p : List MemPlace} (hv : Value.okWide Tryz.prog W r b0 42 v) (h : DataW.Trod enc Tryz.prog W 0 (fun _ => true) true 42 v d p) (hlt : ∀ y ∈ p, y.block < W.heap.size) :
    ∃ (e : Dec) (U : Value), v = .agg #[.string e.name, U] ∧ KAt W U e.kinds ∧ e.kinds.length ≤ 9223372036854775807 := by
  obtain ⟨T, V, y0, y1, n, rfl, -, rfl, h0, h1⟩ := open_agg2 Tryz.underlying42 (by kernel_rfl) (by kernel_rfl) hv h
  obtain ⟨s, e0, _, _⟩ := DataW.trod_string Tryz.underlying9 h0
  injection e0 with e0
  subst e0
  obtain ⟨ks, a1, a2⟩ := open_kinds h1 (fun y hy => hlt y (List.mem_append_right _ hy))
  exact ⟨⟨s, ks⟩, V, rfl, a1, a2⟩

end Go.Proofs.YticmebamclacaabGreatDoor
