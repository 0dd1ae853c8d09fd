/- turn over texts: what holds between its rounds. -/
import Derived.Test.YtondchfhdhllhaaZ01
import Derived.Test.YtondchfhdhllhaaZ02
import Derived.ArgAppend
import Derived.Laws.EntriesVeiled

namespace Go.Proofs.Ytondchfhdhllhaa
open Go.RowKit Go.Shelf
set_option linter.unusedVariables false

/-- Texts put together. -/
def catF (x y : ByteArray) : ByteArray := x ++ y
def catOk (i : Nat) (x : ByteArray) : Prop := x.size ≤ i * 1000
theorem cat_assoc (a b c : ByteArray) : catF (catF a b) c = catF a (catF b c) := by simp [catF, ByteArray.append_assoc]
theorem cat_okf (i j : Nat) (x y : ByteArray) (hx : catOk i x) (hy : catOk j y) (_ : i + j ≤ 8192) : catOk (i + j) (catF x y) := by
  simp only [catOk, catF, ByteArray.size_append] at *
  omega
set_option maxRecDepth 100000 in
theorem cat_live (x y : ByteArray) (w : World) (h : ¬ 9223372036854775807 < x.size + y.size) : Calls Try.prog 31 #[.string x, .string y] w fun e w' => e = .returned (.string (catF x y)) ∧ w' = w := by
  go_enter Try.func31, Try.ntmps31
  go_wp2
  go_ret
  exact ⟨rfl, rfl⟩
theorem opS_live : OpS (.func (.func 31) #[] #[]) catF catOk (fun _ => False) (fun _ _ => True) where
  form := ⟨_, _, rfl, enters_of Try.func31 (by kernel_rfl) rfl, fun n i j x y w hx hy hij _ => (cat_live x y w (by unfold catOk at hx hy; omega)).mono fun e w' h => ⟨h.1, trivial, by rw [h.2]; exact Fr.refl _ _⟩⟩
  okf := cat_okf
  stay := fun _ _ _ _ _ _ _ => trivial
  glt := fun _ _ _ _ h => h.elim
/-- The document's operation. -/
def thF (x y : Int × Int) : Int × Int := (IntKind.u64.wrap (y.1 * x.1), IntKind.u64.wrap (IntKind.u64.wrap (y.1 * x.2) + y.2))
def thOk (_ : Nat) (_ : Int × Int) : Prop := True
set_option maxRecDepth 100000 in
set_option maxHeartbeats 4000000 in
theorem op_any (x y : Int × Int) (w : World) : Calls Try.prog 8 #[.agg #[.int .u64 x.1, .int .u64 x.2], .agg #[.int .u64 y.1, .int .u64 y.2]] w fun e w' => e = .returned (.agg #[.int .u64 (thF x y).1, .int .u64 (thF x y).2]) ∧ Below w.heap.size w w' := by
  show Calls Try.prog 8 #[.agg #[.int .u64 x.1, .int .u64 x.2], .agg #[.int .u64 y.1, .int .u64 y.2]] w fun e w' => e = .returned (.agg #[.int .u64 (IntKind.u64.wrap (y.1 * x.1)), .int .u64 (IntKind.u64.wrap (IntKind.u64.wrap (y.1 * x.2) + y.2))]) ∧ Below w.heap.size w w'
  go_enter Try.func8, Try.ntmps8
  go_wp2
  refine bodyPost_ret (by simp [results, Try.results8, go_sem]; try rfl) rfl ?_
  exact ⟨rfl, by go_grown⟩
theorem opT_ref : OpT (.func (.func 8) #[] #[]) thF thOk (fun _ => False) (fun _ _ => True) where
  form := ⟨_, _, rfl, enters_of Try.func8 (by kernel_rfl) rfl, fun n i j x y w _ _ _ _ => (op_any x y w).mono fun e w' h => ⟨h.1, trivial, Fr.of_below h.2⟩⟩
  okf := fun _ _ _ _ _ _ _ => trivial
  stay := fun _ _ _ _ _ _ _ => trivial
  glt := fun _ _ _ _ h => h.elim
theorem wrapU (z : Int) : IntKind.u64.wrap z = z % 18446744073709551616 := by
  simp [IntKind.wrap, IntKind.signed, IntKind.bits]
theorem th_assoc (a b c : Int × Int) : thF (thF a b) c = thF a (thF b c) := by
  simp only [thF, wrapU]
  refine Prod.ext ?_ ?_
  · show (c.1 * (b.1 * a.1 % 18446744073709551616)) % 18446744073709551616 = (c.1 * b.1 % 18446744073709551616 * a.1) % 18446744073709551616
    rw [Int.mul_emod, Int.emod_emod, ← Int.mul_emod, ← Int.mul_assoc, Int.mul_emod (c.1 * b.1 % 18446744073709551616), Int.emod_emod, ← Int.mul_emod]
  · show (c.1 * ((b.1 * a.2 % 18446744073709551616 + b.2) % 18446744073709551616) % 18446744073709551616 + c.2) % 18446744073709551616 = (c.1 * b.1 % 18446744073709551616 * a.2 % 18446744073709551616 + (c.1 * b.2 % 18446744073709551616 + c.2) % 18446744073709551616) % 18446744073709551616
    have A : ∀ x z : Int, (x * (z % 18446744073709551616)) % 18446744073709551616 = (x * z) % 18446744073709551616 := fun x z => by rw [Int.mul_emod, Int.emod_emod, ← Int.mul_emod]
    have B : ∀ x z : Int, ((z % 18446744073709551616) * x) % 18446744073709551616 = (z * x) % 18446744073709551616 := fun x z => by rw [Int.mul_emod, Int.emod_emod, ← Int.mul_emod]
    have C : ∀ x y : Int, (x % 18446744073709551616 + y) % 18446744073709551616 = (x + y) % 18446744073709551616 := fun x y => by omega
    rw [C (b.1 * a.2), A, C, B, C (c.1 * b.2), ← Int.add_emod, Int.mul_add, Int.mul_assoc, Int.add_assoc]
end Go.Proofs.Ytondchfhdhllhaa

namespace Go.Proofs.Ytondchfhdhllhaa
open Go.RowKit Go.Shelf
set_option linter.unusedVariables false

theorem setCells_at (b : Nat) : ∀ (vs : List Value) (o : Nat) (w : World) (cs : Array Value) (t : TypeId) (fr : Nat × Nat), w.heap[b]? = some (.cells cs t fr) →
    ∃ cs', (w.setCells b o vs).heap[b]? = some (.cells cs' t fr) ∧ cs'.size = cs.size ∧ (∀ j, j < vs.length → o + j < cs.size → cs'[o + j]? = vs[j]?) ∧ (∀ j, (j < o ∨ o + vs.length ≤ j) → cs'[j]? = cs[j]?)
  | [], o, w, cs, t, fr, h => ⟨cs, h, rfl, fun j hj => absurd hj (by simp), fun _ _ => rfl⟩
  | v :: vs, o, w, cs, t, fr, h => by
    obtain ⟨cs', h1, h2, h3, h4⟩ := setCells_at b vs (o + 1) (w.setCell ⟨b, o, none⟩ v) _ t fr (set_heap h v)
    refine ⟨cs', h1, by rw [h2]; simp, fun j hj hs => ?_, fun j hj => ?_⟩
    · cases j with
      | zero =>
        rw [h4 (o + 0) (Or.inl (by omega))]
        simp at hs ⊢
        simp [hs]
      | succ j =>
        have := h3 j (by simpa using hj) (by simp; omega)
        rw [show o + (j + 1) = o + 1 + j by omega, this]
        simp
    · rw [h4 j (by simp at hj; omega)]
      rw [Array.getElem?_setIfInBounds_ne]
      simp at hj
      omega

/-- The slice v has the cells xs; where they lie is of F. -/
def OffRow (w : World) (e : TypeId) (size : Nat) (v : Value) (n : Nat) (xs : List Value) (F : Nat → Prop) : Prop :=
  xs.length = n * size ∧ ∃ p c, v = .slice p n c ∧ n ≤ c ∧ c ≤ maxLen ∧ (c = 0 ∨ ∃ g off cur, p = some ⟨g, off, none⟩ ∧ F g ∧ w.heap[g]? = some (.cells cur e (0, 0)) ∧ off + c * size ≤ cur.size ∧ ∀ j u, xs[j]? = some u → cur[off + j]? = some u)
theorem OffRow.nil (w : World) (e : TypeId) (size : Nat) (F : Nat → Prop) : OffRow w e size (.slice none 0 0) 0 [] F := ⟨by simp, none, 0, rfl, Nat.le_refl _, Nat.zero_le _, Or.inl rfl⟩
theorem OffRow.fr {w w' : World} {e : TypeId} {size : Nat} {v : Value} {n : Nat} {xs : List Value} {F P : Nat → Prop} (h : OffRow w e size v n xs F) (hf : Fr P w w') (hp : ∀ k, F k → ¬ P k) : OffRow w' e size v n xs F := by
  obtain ⟨h1, p, c, h2, h3, h4, h5⟩ := h
  refine ⟨h1, p, c, h2, h3, h4, ?_⟩
  rcases h5 with h5 | ⟨g, off, cur, e1, e2, e3, e4⟩
  · exact Or.inl h5
  · exact Or.inr ⟨g, off, cur, e1, e2, hf.heap e3 (hp g e2), e4⟩
theorem OffRow.wide {w : World} {e : TypeId} {size : Nat} {v : Value} {n : Nat} {xs : List Value} {F F' : Nat → Prop} (h : OffRow w e size v n xs F) (hp : ∀ k, F k → F' k) : OffRow w e size v n xs F' := by
  obtain ⟨h1, p, c, h2, h3, h4, h5⟩ := h
  refine ⟨h1, p, c, h2, h3, h4, ?_⟩
  rcases h5 with h5 | ⟨g, off, cur, e1, e2, e3, e4⟩
  · exact Or.inl h5
  · exact Or.inr ⟨g, off, cur, e1, hp g e2, e3, e4⟩
theorem offrow_of {w : World} {B : Nat} {e : TypeId} {size : Nat} {v : Value} {n : Nat} {xs : List Value} {F : Nat → Prop} (h : w.ownsRow B e size v (n + 1) xs) (hF : ∀ k, B ≤ k → k < w.heap.size → F k) : OffRow w e size v (n + 1) xs F := by
  obtain ⟨h1, ⟨-, h2⟩ | ⟨g, cap, cur, rfl, h3, hh, h4, h5, h6, h7⟩⟩ := h
  · omega
  · refine ⟨h1, _, _, rfl, h4, h5, Or.inr ⟨g, 0, cur, rfl, hF g h3 (lt_heap hh), hh, by omega, fun j u hj => ?_⟩⟩
    rw [← h7, List.getElem?_take] at hj
    split at hj
    · rw [Nat.zero_add, ← Array.getElem?_toList]; exact hj
    · cases hj
theorem run_append_off {P : Program} (w : World) (t ty e : TypeId) (i : TypeInfo) (z : Value) (size bytes : Nat) (ht : P.underlying t = some (.slice e)) (hi : P.info? e = some i) (hz : i.zero = some z) (hsize : i.size = size) (hby : i.bytes = bytes) (hzs : z.cells.size = size) (hsz : 0 < size)
    (v : Value) (n : Nat) (xs : List Value) (F : Nat → Prop) (h : OffRow w e size v n xs F) (hFt : ∀ k, F k → k < w.heap.size) (ad : Addr) (news : List Value) (hl : news.length = 1 * size) (hnews : ∀ j u, news[j]? = some u → w.cell? (ad.add j) = some u) (h1 : ∀ u ∈ news, u.oneCell' = true)
    (h63 : n + 1 ≤ maxLen) (hbytes : (n + 1) * bytes ≤ 140737488355328) :
    ∃ v' w', (Builtin.append_ #[t, t] ty #[v, .slice (some ad) 1 1]).run P w = .ok v' w' ∧ OffRow w' e size v' (n + 1) (xs ++ news) (FF F w w') ∧ Fr F w w' := by
  obtain ⟨hxl, p, c, rfl, hnc, hcm, hor⟩ := h
  by_cases hroom : n + 1 ≤ c
  · obtain ⟨g, off, cur, rfl, hF, hg, hoc, hx⟩ : ∃ g off cur, p = some ⟨g, off, none⟩ ∧ F g ∧ w.heap[g]? = some (.cells cur e (0, 0)) ∧ off + c * size ≤ cur.size ∧ ∀ j u, xs[j]? = some u → cur[off + j]? = some u := hor.resolve_left (by omega)
    subst hsize
    have hms : (n + 1) * i.size ≤ c * i.size := Nat.mul_le_mul_right _ hroom
    have hms2 : (n + 1) * i.size = n * i.size + i.size := by rw [Nat.add_mul, Nat.one_mul]
    have hrun := run_append_room_cells (P := P) w t ty e i ht hi g off n c ad 1 1 news hl hnews h1 hroom (fun j hj => by
        rw [Lib.cell_of_heap hg, Array.getElem?_eq_getElem (by omega)]; rfl) (fun j hj => Lib.frozen_of_heap hg _)
    obtain ⟨cs', hh, hs, hin, hout⟩ := setCells_at g news (off + n * i.size) w cur e (0, 0) hg
    refine ⟨_, _, hrun, ⟨by rw [List.length_append, hxl, hl, Nat.add_mul], _, _, rfl, hroom, hcm, Or.inr ⟨g, off, cs', rfl, Or.inl hF, hh, by omega, fun j u hj => ?_⟩⟩, ((setCells_fr g news (off + n * i.size) w cur e (0, 0) hg).1).mono (fun k q => Or.inl (by subst q; exact hF))⟩
    by_cases hj2 : j < xs.length
    · rw [List.getElem?_append_left hj2] at hj
      rw [hout (off + j) (Or.inl (by omega))]
      exact hx j u hj
    · rw [List.getElem?_append_right (by omega)] at hj
      have hj3 := (List.getElem?_eq_some_iff.1 hj).1
      have := hin (j - xs.length) hj3 (by omega)
      rw [show off + n * i.size + (j - xs.length) = off + j by omega] at this
      rw [this]
      exact hj
  · have conv : ∀ v' w', w'.ownsRow w.heap.size e size v' (n + 1) (xs ++ news) → w.grownBy w' none → OffRow w' e size v' (n + 1) (xs ++ news) (FF F w w') ∧ Fr F w w' := fun v' w' a1 a2 =>
      ⟨offrow_of a1 (fun k q1 q2 => Or.inr ⟨q1, q2⟩), (Fr.refl F w).grown a2 (fun k q => by cases q)⟩
    cases p with
    | some b =>
      obtain ⟨v', w', hrun, r1, r2⟩ := run_append_arg_grows (P := P) w t ty e i z size bytes ht hi hz hsize hby hzs hsz b n c xs hxl (fun j u hj => by
        rcases hor with hc0 | ⟨g, off, cur, e1, hF, hg, hoc, hx⟩
        · have hx0 : xs = [] := List.eq_nil_of_length_eq_zero (by rw [hxl, show n = 0 by omega]; simp)
          rw [hx0] at hj
          cases hj
        · cases e1
          rw [Addr.add_lit, Lib.cell_of_heap hg]
          exact hx j u hj) ad 1 1 news hl hnews (by omega) h63 hbytes
      exact ⟨v', w', hrun, conv v' w' r1 r2⟩
    | none =>
      have hc0 : c = 0 := by
        rcases hor with hc0 | ⟨g, off, cur, e1, -⟩
        · exact hc0
        · cases e1
      subst hc0
      have hn0 : n = 0 := by omega
      subst hn0
      have hx0 : xs = [] := List.eq_nil_of_length_eq_zero (by rw [hxl]; simp)
      subst hx0
      obtain ⟨v', w', hrun, r1, r2, _⟩ := run_append_own (P := P) w w.heap.size t ty e i z size bytes ht hi hz hsize hby hzs hsz (.slice none 0 0) 0 [] (World.ownsRow_nil w _ e size) ad 1 1 news hl hnews h1 h63 hbytes (Nat.le_refl _)
      exact ⟨v', w', hrun, conv v' w' r1 r2⟩
theorem OffRow.form {w : World} {e : TypeId} {size : Nat} {v : Value} {n : Nat} {xs : List Value} {F : Nat → Prop} (h : OffRow w e size v n xs F) : ∃ p c, v = .slice p n c := by
  obtain ⟨h1, p, c, h2, -⟩ := h
  exact ⟨p, c, h2⟩
theorem step_append_off {P : Program} (w : World) {ops : Array Oper} {o : Oper} {a : Act} {K : Act → World → Prop} {Q : Exit → Act → World → Prop} {E : Prop} (hg : o.guard = none) (s x : Operand) (t : TypeId) (ho : o.op = Op.call { callee := Callee.builtin Builtin.append, args := #[s, x], argTypes := #[t, t] })
    (e : TypeId) (i : TypeInfo) (z : Value) (size bytes : Nat) (ht : P.underlying t = some (.slice e)) (hi : P.info? e = some i) (hz : i.zero = some z) (hsize : i.size = size) (hby : i.bytes = bytes) (hzs : z.cells.size = size) (hsz : 0 < size)
    (v : Value) (n : Nat) (xs : List Value) (F : Nat → Prop) (hs : a.eval s = v) (h : OffRow w e size v n xs F) (hFt : ∀ k, F k → k < w.heap.size) (ad : Addr) (news : List Value) (hx : a.eval x = .slice (some ad) 1 1) (hl : news.length = 1 * size) (hnews : ∀ j u, news[j]? = some u → w.cell? (ad.add j) = some u) (h1 : ∀ u ∈ news, u.oneCell' = true)
    (h63 : n + 1 ≤ maxLen) (hbytes : (n + 1) * bytes ≤ 140737488355328)
    (hK : ∀ p c w', OffRow w' e size (.slice p (n + 1) c) (n + 1) (xs ++ news) (FF F w w') → Fr F w w' → K (a.put o.dst (.slice p (n + 1) c)) w') :
    if Region.wanted o (yielded ops a.tmps) = true then Oper.wp P o a w K Q else E := by
  have hw : Region.wanted o (yielded ops a.tmps) = true := by simp [Region.wanted, hg]
  rw [if_pos hw]
  obtain ⟨v', w', hrun, r1, r2⟩ := run_append_off (P := P) w t o.type e i z size bytes ht hi hz hsize hby hzs hsz v n xs F h hFt ad news hl hnews h1 h63 hbytes
  obtain ⟨p, c, rfl⟩ := r1.form
  unfold Oper.wp execOp
  simp only [ho, resolve, invoke, builtin, Sem.run_bind, Sem.run_pure, Result.andThen_ok, List.map_toArray, List.map_cons, List.map_nil, hs, hx, hrun]
  exact hK p c w' r1 r2
/-- The first element cut off. -/
theorem OffRow.one {w : World} {e : TypeId} {size : Nat} {p : Option Addr} {n c : Nat} {A xs : List Value} {F : Nat → Prop} (h : OffRow w e size (.slice p (n + 1) c) (n + 1) (A ++ xs) F) (hA : A.length = size) :
    ∃ g off, p = some ⟨g, off, none⟩ ∧ n + 1 ≤ c ∧ c ≤ maxLen ∧ F g ∧ (∀ j u, (A ++ xs)[j]? = some u → w.cell? ⟨g, off + j, none⟩ = some u) ∧ OffRow w e size (.slice (some ⟨g, off + size, none⟩) n (c - 1)) n xs F ∧ (c = 1 → OffRow w e size (.slice (some ⟨g, off, none⟩) 0 0) 0 xs F ∧ n = 0) := by
  obtain ⟨h1, p', c', h2, h3, h4, h5⟩ := h
  cases h2
  obtain ⟨g, off, cur, rfl, hF, hg, hoc, hx⟩ := h5.resolve_left (by omega)
  have hxl : xs.length = n * size := by rw [List.length_append, hA, Nat.add_mul] at h1; omega
  have hms : c * size = (c - 1) * size + size := by
    obtain ⟨c1, rfl⟩ : ∃ c1, c = c1 + 1 := ⟨c - 1, by omega⟩
    rw [Nat.add_sub_cancel, Nat.add_mul, Nat.one_mul]
  refine ⟨g, off, rfl, h3, h4, hF, fun j u hj => (Lib.cell_of_heap hg _).trans (hx j u hj), ⟨hxl, _, _, rfl, by omega, by omega, Or.inr ⟨g, off + size, cur, rfl, hF, hg, by omega, fun j u hj => ?_⟩⟩, fun hc => ?_⟩
  · have := hx (size + j) u (by rw [List.getElem?_append_right (by omega), hA, Nat.add_sub_cancel_left]; exact hj)
    rw [show off + size + j = off + (size + j) by omega]
    exact this
  · have hn : n = 0 := by omega
    subst hn
    exact ⟨⟨hxl, _, _, rfl, Nat.le_refl _, Nat.zero_le _, Or.inl rfl⟩, rfl⟩
theorem OffRow.cell {w : World} {e : TypeId} {p : Option Addr} {c n : Nat} {L : List ByteArray} {F : Nat → Prop} (h : OffRow w e 1 (.slice p n c) L.length (L.map Value.string) F) (j : Nat) (hj : j < L.length) : ∃ g off, p = some ⟨g, off, none⟩ ∧ F g ∧ w.cell? ⟨g, off + j, none⟩ = some (.string L[j]) := by
  obtain ⟨h1, p', c', h2, h3, h4, h5⟩ := h
  cases h2
  rcases h5 with h5 | ⟨g, off, cur, e1, e2, e3, e4, e5⟩
  · omega
  · exact ⟨g, off, e1, e2, (Lib.cell_of_heap e3 _).trans (e5 j _ (by simp [hj]))⟩
end Go.Proofs.Ytondchfhdhllhaa

namespace Go.Proofs.Ytondchfhdhllhaa
open Go.RowKit Go.Shelf
set_option linter.unusedVariables false

/-- The document's window in block br has the things L; its blocks are of F. -/
def RQ (w : World) (br : Nat) (nt : Int × Int) (L : List (Int × Int)) (F : Nat → Prop) : Prop := ∃ p c F5, w.heap[br]? = some (.cells #[.slice p L.length c, .int .u64 nt.1, .int .u64 nt.2] 39 (0, 0)) ∧ OffRow w 26 2 (.slice p L.length c) L.length (flT L) F5 ∧ (∀ k, F5 k → F k ∧ ¬ k = br) ∧ F br ∧ (∀ k, F k → k < w.heap.size) ∧ L.length ≤ 4096
def RN (w w' : World) (br : Nat) (nt : Int × Int) (L : List (Int × Int)) (F : Nat → Prop) : Prop := ∃ F', RQ w' br nt L F' ∧ (∀ k, F' k → F k ∨ w.heap.size ≤ k) ∧ Fr F w w'
theorem RQ.fr {w : World} {br : Nat} {nt : Int × Int} {L : List (Int × Int)} {F : Nat → Prop} {w' : World} {P : Nat → Prop} (H : RQ w br nt L F) (h : Fr P w w') (hp : ∀ k, F k → ¬ P k) : RQ w' br nt L F := by
  obtain ⟨p, c, F5, h1, h2, h3, h4, h5, h6⟩ := H
  exact ⟨p, c, F5, h.heap h1 (hp _ h4), h2.fr h (fun k q => hp k (h3 k q).1), h3, h4, fun k q => Nat.lt_of_lt_of_le (h5 k q) h.size, h6⟩
theorem RQ.len {w : World} {br : Nat} {nt : Int × Int} {L : List (Int × Int)} {F : Nat → Prop} (H : RQ w br nt L F) : L.length ≤ 4096 := by obtain ⟨p, c, F5, h1, h2, h3, h4, h5, h6⟩ := H; exact h6
theorem RQ.lt {w : World} {br : Nat} {nt : Int × Int} {L : List (Int × Int)} {F : Nat → Prop} (H : RQ w br nt L F) : ∀ k, F k → k < w.heap.size := by obtain ⟨p, c, F5, h1, h2, h3, h4, h5, h6⟩ := H; exact h5
theorem rn_below {w : World} {br : Nat} {nt : Int × Int} {L : List (Int × Int)} {F : Nat → Prop} {w' : World} (H : RQ w br nt L F) (h : Below w.heap.size w w') : RN w w' br nt L F := ⟨F, H.fr (Fr.of_below (P := fun _ => False) h) (fun _ _ h => h), fun _ h => Or.inl h, Fr.of_below h⟩

theorem flAt (d : Int × Int) : ∀ (L : List (Int × Int)) (j : Nat), j < L.length → (flT L)[j * 2]? = some (.int .u64 (L[j]?.getD d).1) ∧ (flT L)[j * 2 + 1]? = some (.int .u64 (L[j]?.getD d).2) := flT_at d

set_option maxRecDepth 100000 in
set_option maxHeartbeats 4000000 in
theorem rfull {w : World} {br : Nat} {nt : Int × Int} {L : List (Int × Int)} {F : Nat → Prop} (H : RQ w br nt L F) (x : Int × Int) (hl : L.length = 4096) :
    Calls Try.prog 34 #[.pointer (some ⟨br, 0, none⟩), .agg #[.int .u64 x.1, .int .u64 x.2]] w fun e w' => e = .returned (.int .i64 3) ∧ Hid (RN w w' br nt L F) := by
  have H0 : Hid (RQ w br nt L F) := H
  obtain ⟨p, c, F5, h1, h2, h3, h4, h5, h6⟩ := H
  have y0 : w.cell? ⟨br, 0, none⟩ = some (.slice p L.length c) := (Lib.cell_of_heap h1 _).trans rfl
  have hlt : br < w.heap.size := lt_heap h1
  have hl1 : (4096 : Int) ≤ (L.length : Int) := by omega
  clear h1 h2 h3 h4 h5 h6 hl
  go_enter Try.func34, Try.ntmps34
  go_wp2
  go_ret
  exact ⟨rfl, rn_below H0.out (by go_grown)⟩
theorem rpush_end {w : World} {br : Nat} {nt : Int × Int} {L : List (Int × Int)} {F : Nat → Prop} {W w2 : World} {p p2 : Option Addr} {c c2 : Nat} {F5 : Nat → Prop} {x : Int × Int} (hF : ∀ k, F k → k < w.heap.size) (h4 : F br) (h3 : ∀ k, F5 k → F k ∧ ¬ k = br) (hl : L.length < 4096) (hs : w.heap.size ≤ W.heap.size) (hb : W.heap[br]? = some (.cells #[.slice p L.length c, .int .u64 nt.1, .int .u64 nt.2] 39 (0, 0)))
    (r1 : OffRow w2 26 2 (.slice p2 (L.length + 1) c2) (L.length + 1) (flT L ++ [.int .u64 x.1, .int .u64 x.2]) (FF F5 (W.alloc (.cells #[.int .u64 x.1, .int .u64 x.2] 26)) w2)) (r2 : Fr F5 (W.alloc (.cells #[.int .u64 x.1, .int .u64 x.2] 26)) w2) (hw : Below w.heap.size w W) :
    w2.cell? ⟨br, 0, none⟩ = some (.slice p L.length c) ∧ w2.frozen? ⟨br, 0, none⟩ = false ∧ Hid (RN w (w2.setCell ⟨br, 0, none⟩ (.slice p2 (L.length + 1) c2)) br nt (L ++ [x]) F) := by
  have hb1 := ((Fr.refl (fun _ => False) W).alloc (.cells #[.int .u64 x.1, .int .u64 x.2] 26)).heap hb (fun h => h)
  have hb2 := r2.heap hb1 (fun q => (h3 br q).2 rfl)
  have hs3 : Fr (fun k => k = br) w2 (w2.setCell ⟨br, 0, none⟩ (.slice p2 (L.length + 1) c2)) := (Fr.refl (fun k => k = br) w2).setCell (p := ⟨br, 0, none⟩) (Or.inl rfl) _
  have hbw := hF _ h4
  have hz := r2.size
  have hz3 := hs3.size
  simp only [World.size_alloc] at hz
  refine ⟨(Lib.cell_of_heap hb2 _).trans rfl, Lib.frozen_of_heap hb2 _, ⟨fun k => F k ∨ (w.heap.size ≤ k ∧ k < (w2.setCell ⟨br, 0, none⟩ (.slice p2 (L.length + 1) c2)).heap.size), ⟨p2, c2, FF F5 (W.alloc (.cells #[.int .u64 x.1, .int .u64 x.2] 26)) w2, ?_, ?_, ?_, Or.inl h4, ?_, by simp; omega⟩, fun k q => q.elim Or.inl (fun q => Or.inr q.1), ?_⟩⟩
  · rw [set_heap hb2, List.length_append]; rfl
  · rw [List.length_append, flT_snoc]
    refine r1.fr hs3 (fun k q e => ?_)
    subst e
    rcases q with q | q
    · exact (h3 _ q).2 rfl
    · have := q.1; simp only [World.size_alloc] at this; omega
  · intro k q
    rcases q with q | q
    · exact ⟨Or.inl (h3 k q).1, (h3 k q).2⟩
    · have := q.1
      have := q.2
      simp only [World.size_alloc] at *
      exact ⟨Or.inr ⟨by omega, by omega⟩, by omega⟩
  · intro k q
    rcases q with q | q
    · have := hF k q; omega
    · exact q.2
  · exact ((((Fr.of_below hw).alloc (.cells #[.int .u64 x.1, .int .u64 x.2] 26)).trans r2 (fun i q => Or.inl (h3 i q).1)).trans hs3 (fun i q => Or.inl (q ▸ h4)))
set_option maxRecDepth 100000 in
set_option maxHeartbeats 4000000 in
theorem rpush {w : World} {br : Nat} {nt : Int × Int} {L : List (Int × Int)} {F : Nat → Prop} (H : RQ w br nt L F) (x : Int × Int) (hl : L.length < 4096) :
    Calls Try.prog 34 #[.pointer (some ⟨br, 0, none⟩), .agg #[.int .u64 x.1, .int .u64 x.2]] w fun e w' => e = .returned (.int .i64 0) ∧ Hid (RN w w' br nt (L ++ [x]) F) := by
  obtain ⟨p, c, F5, h1, h2, h3, h4, h5, h6⟩ := H
  obtain ⟨i0, hi, hz0, hz1, hz2⟩ := info_parts inET
  have y0 : w.cell? ⟨br, 0, none⟩ = some (.slice p L.length c) := (Lib.cell_of_heap h1 _).trans rfl
  have hlt : br < w.heap.size := lt_heap h1
  have hl1 : ¬ (4096 : Int) ≤ (L.length : Int) := by omega
  have HH : Hid (_ ∧ _ ∧ _ ∧ _ ∧ _) := ⟨h1, h2, h3, h4, h5⟩
  clear h1 h2 h3 h4 h5 h6
  go_enter Try.func34, Try.ntmps34
  go_upto_region 3 with fail
  refine wp_world ?_
  intro W hW
  have hb : Below w.heap.size w W := by rw [hW]; exact (Below.refl _ w).alloc (Nat.le_refl _) _
  have hx : W.heap[w.heap.size]? = some (.cells #[.int .u64 x.1, .int .u64 x.2] 26 (0, 0)) := by rw [hW]; exact World.alloc_heap_new w _
  have hbr : W.heap[br]? = some (.cells #[.slice p L.length c, .int .u64 nt.1, .int .u64 nt.2] 39 (0, 0)) := (hb.block _ hlt).trans HH.out.1
  have z0 : W.cell? ⟨br, 0, none⟩ = some (.slice p L.length c) := (Lib.cell_of_heap hbr _).trans rfl
  have x0 : W.cell? ⟨w.heap.size, 0, none⟩ = some (.int .u64 x.1) := (Lib.cell_of_heap hx _).trans rfl
  have x1 : W.cell? ⟨w.heap.size, 1, none⟩ = some (.int .u64 x.2) := (Lib.cell_of_heap hx _).trans rfl
  have lw : w.heap.size < W.heap.size := lt_heap hx
  have lb : br < W.heap.size := lt_heap hbr
  have HO : Hid (OffRow (W.drew.alloc (.cells #[.int .u64 x.1, .int .u64 x.2] 26)) 26 2 (.slice p L.length c) L.length (flT L) F5) := (HH.out.2.1.fr ((Fr.of_below (P := fun _ => False) hb).trans ((Fr.refl (fun _ => False) W).drew.alloc _) (fun _ q => q.elim)) (fun _ _ h => h))
  have HF5 : Hid (∀ k, F5 k → k < (W.drew.alloc (.cells #[.int .u64 x.1, .int .u64 x.2] 26)).heap.size) := fun k q => by
    have h1 := HH.out.2.2.2.2 k (HH.out.2.2.1 k q).1
    have h2 := hb.size
    show k < (W.alloc _).heap.size
    simp only [World.size_alloc]
    omega
  have HB : Hid (_ ∧ _) := And.intro hbr hb
  clear hW hx hbr hb y0
  go_region_law (refine step_append_off _ rfl (.tmp 15) (.tmp 17) 37 rfl 26 i0 (.agg #[.int .u64 0, .int .u64 0]) 2 16 Try.underlying37 hi hz0 hz1 hz2 rfl (by decide) (.slice p L.length c) _ _ F5 (by simp [Act.eval]) HO.out HF5.out ⟨W.heap.size, 0, none⟩ [.int .u64 x.1, .int .u64 x.2] (by simp [Act.eval]) rfl (by intro j u hj; rw [Addr.add_lit]; (rcases j with _ | _ | j) <;> simp at hj <;> subst hj <;> simp (maxDischargeDepth := 12) [go_sem]) (by intro u hu; simp at hu; rcases hu with rfl | rfl <;> rfl) (by unfold maxLen; omega) (by omega) (fun p2 c2 w2 r1 r2 => ?_); obtain ⟨k1, k2, HE⟩ := rpush_end (W := W.drew) HH.out.2.2.2.2 HH.out.2.2.2.1 HH.out.2.2.1 hl HB.out.2.size HB.out.1 r1 r2 HB.out.2.drew; clear r1 r2)
  all_goals (
    go_wp2
    go_ret
    exact ⟨rfl, HE⟩)

set_option maxRecDepth 100000 in
set_option maxHeartbeats 4000000 in
theorem rpop0 {w : World} {br : Nat} {nt : Int × Int} {F : Nat → Prop} (H : RQ w br nt [] F) :
    Calls Try.prog 35 #[.pointer (some ⟨br, 0, none⟩)] w fun e w' => e = .returned (.tuple #[.agg #[.int .u64 0, .int .u64 0], .int .i64 110]) ∧ Hid (RN w w' br nt [] F) := by
  have H0 : Hid (RQ w br nt [] F) := H
  obtain ⟨p, c, F5, h1, h2, h3, h4, h5, h6⟩ := H
  have y0 : w.cell? ⟨br, 0, none⟩ = some (.slice p 0 c) := (Lib.cell_of_heap h1 _).trans rfl
  have hlt : br < w.heap.size := lt_heap h1
  clear h1 h2 h3 h4 h5 h6
  go_enter Try.func35, Try.ntmps35
  go_wp2
  refine bodyPost_ret (by simp [results, Try.results35, go_sem]; try rfl) rfl ?_
  exact ⟨rfl, rn_below H0.out (by go_grown)⟩
theorem rpop_end {w : World} {br : Nat} {nt : Int × Int} {L : List (Int × Int)} {F : Nat → Prop} {W' : World} {p2 : Option Addr} {c2 : Nat} {F5 : Nat → Prop} (hF : ∀ k, F k → k < w.heap.size) (h4 : F br) (h3 : ∀ k, F5 k → F k ∧ ¬ k = br) (hl : L.length ≤ 4096) (hb : W'.heap[br]? = some (.cells #[.slice p2 L.length c2, .int .u64 nt.1, .int .u64 nt.2] 39 (0, 0))) (hf : Fr (fun k => k = br) w W') (ho : OffRow w 26 2 (.slice p2 L.length c2) L.length (flT L) F5) : RN w W' br nt L F :=
  ⟨F, ⟨p2, c2, F5, hb, ho.fr hf (fun k q e => (h3 k q).2 e), h3, h4, fun k q => Nat.lt_of_lt_of_le (hF k q) hf.size, hl⟩, fun k q => Or.inl q, hf.mono (fun i q => Or.inl (q ▸ h4))⟩
set_option maxRecDepth 100000 in
set_option maxHeartbeats 4000000 in
theorem rpop {w : World} {br : Nat} {nt : Int × Int} {L : List (Int × Int)} {F : Nat → Prop} {x : Int × Int} (H : RQ w br nt (x :: L) F) :
    Calls Try.prog 35 #[.pointer (some ⟨br, 0, none⟩)] w fun e w' => e = .returned (.tuple #[.agg #[.int .u64 x.1, .int .u64 x.2], .int .i64 0]) ∧ Hid (RN w w' br nt L F) := by
  obtain ⟨p, c, F5, h1, h2, h3, h4, h5, h6⟩ := H
  obtain ⟨g, off, rfl, hc1, hc2, hg, hce, hO, hO1⟩ := OffRow.one (A := celT x) (xs := flT L) (n := L.length) h2 rfl
  have y0 : w.cell? ⟨br, 0, none⟩ = some (.slice (some ⟨g, off, none⟩) (L.length + 1) c) := (Lib.cell_of_heap h1 _).trans rfl
  have yf : w.frozen? ⟨br, 0, none⟩ = false := Lib.frozen_of_heap h1 _
  have a0 : w.cell? ⟨g, off, none⟩ = some (.int .u64 x.1) := hce 0 _ rfl
  have a1 : w.cell? ⟨g, off + 1, none⟩ = some (.int .u64 x.2) := hce 1 _ rfl
  have hlt : br < w.heap.size := lt_heap h1
  have hgl : g < w.heap.size := h5 g (h3 g hg).1
  have hgb : ¬ g = br := (h3 g hg).2
  have l1 : br < w.heap.size + 1 := by omega
  have l2 : g < w.heap.size + 1 := by omega
  have n1 : (0 : Int) < (L.length : Int) + 1 := by omega
  have n2 : ¬ ((L.length : Int) + 1 = 0) := by omega
  have n3 : (1 : Int) ≤ (c : Int) := by omega
  have n5 : (1 : Int) ≤ (L.length : Int) + 1 := by omega
  have n6 : (L.length : Int) + 1 ≤ (c : Int) := by omega
  have HH : Hid (_ ∧ _ ∧ _ ∧ _ ∧ _) := ⟨h1, h3, h4, h5, hO⟩
  have H6 : L.length ≤ 4096 := by simp at h6; omega
  have HO1 : Hid (_) := hO1
  clear h1 h2 h3 h4 h5 h6 hce hO hO1
  by_cases hc : c = 1
  · subst hc
    obtain ⟨o1, o2⟩ := HO1.out rfl
    have O2 : Hid (L.length = 0) := o2
    have O1 : Hid (_) := o1
    clear o1 o2
    go_enter Try.func35, Try.ntmps35
    go_wp2
    refine bodyPost_ret (by simp [results, Try.results35, go_sem]; try rfl) rfl ?_
    refine ⟨rfl, rpop_end (p2 := some ⟨g, off, none⟩) (c2 := 0) HH.out.2.2.2.1 HH.out.2.2.1 HH.out.2.1 H6 ?_ ((((Fr.refl (fun k => k = br) w).setCell (p := ⟨br, 0, none⟩) (Or.inl rfl) _).alloc _).alloc _) (by rw [O2.out]; exact O1.out)⟩
    rw [O2.out]
    exact (Below.heap_alloc _ _ _ (by simp; omega)).trans ((Below.heap_alloc _ _ _ (by simp; omega)).trans (set_heap HH.out.1 _))
  · have n4 : (1 : Int) < (c : Int) := by omega
    go_enter Try.func35, Try.ntmps35
    go_wp2
    refine bodyPost_ret (by simp [results, Try.results35, go_sem]; try rfl) rfl ?_
    refine ⟨rfl, rpop_end (p2 := some ⟨g, off + 2, none⟩) (c2 := c - 1) HH.out.2.2.2.1 HH.out.2.2.1 HH.out.2.1 H6 ?_ ((((Fr.refl (fun k => k = br) w).setCell (p := ⟨br, 0, none⟩) (Or.inl rfl) _).alloc _).alloc _) HH.out.2.2.2.2⟩
    exact (Below.heap_alloc _ _ _ (by simp; omega)).trans ((Below.heap_alloc _ _ _ (by simp; omega)).trans (set_heap HH.out.1 _))
set_option maxRecDepth 100000 in
set_option maxHeartbeats 4000000 in
theorem rall0 {w : World} {br : Nat} {nt : Int × Int} {F : Nat → Prop} (H : RQ w br nt [] F) :
    Calls Try.prog 16 #[.pointer (some ⟨br, 0, none⟩)] w fun e w' => e = .returned (.agg #[.int .u64 nt.1, .int .u64 nt.2]) ∧ Hid (RN w w' br nt [] F) := by
  have H0 : Hid (RQ w br nt [] F) := H
  obtain ⟨p, c, F5, h1, h2, h3, h4, h5, h6⟩ := H
  have y0 : w.cell? ⟨br, 0, none⟩ = some (.slice p 0 c) := (Lib.cell_of_heap h1 _).trans rfl
  have y1 : w.cell? ⟨br, 1, none⟩ = some (.int .u64 nt.1) := (Lib.cell_of_heap h1 _).trans rfl
  have y2 : w.cell? ⟨br, 2, none⟩ = some (.int .u64 nt.2) := (Lib.cell_of_heap h1 _).trans rfl
  have hlt : br < w.heap.size := lt_heap h1
  clear h1 h2 h3 h4 h5 h6
  go_enter Try.func16, Try.ntmps16
  go_wp2
  refine bodyPost_ret (by simp [results, Try.results16, go_sem]; try rfl) rfl ?_
  exact ⟨rfl, rn_below H0.out (by go_grown)⟩
set_option maxRecDepth 100000 in
set_option maxHeartbeats 8000000 in
theorem rall {w : World} {br : Nat} {nt : Int × Int} {L : List (Int × Int)} {F : Nat → Prop} {x : Int × Int} (H : RQ w br nt (x :: L) F) :
    Calls Try.prog 16 #[.pointer (some ⟨br, 0, none⟩)] w fun e w' => e = .returned (.agg #[.int .u64 (sumL thF x L).1, .int .u64 (sumL thF x L).2]) ∧ Hid (RN w w' br nt (x :: L) F) := by
  have H0 : Hid (RQ w br nt (x :: L) F) := H
  obtain ⟨p, c, F5, h1, h2, h3, h4, h5, h6⟩ := H
  obtain ⟨g, off, rfl, hc1, hc2, hg, hce, hO, hO1⟩ := OffRow.one (A := celT x) (xs := flT L) (n := L.length) h2 rfl
  have hgl : g < w.heap.size := h5 g (h3 g hg).1
  have hlt : br < w.heap.size := lt_heap h1
  have y0 : w.cell? ⟨br, 0, none⟩ = some (.slice (some ⟨g, off, none⟩) (L.length + 1) c) := (Lib.cell_of_heap h1 _).trans rfl
  have HC : Hid (∀ j (h : j < L.length), w.cell? ⟨g, off + (j + 1) * 2, none⟩ = some (.int .u64 (L[j]).1) ∧ w.cell? ⟨g, off + (j + 1) * 2 + 1, none⟩ = some (.int .u64 (L[j]).2)) := fun j hj => by
    have e := flAt x (x :: L) (j + 1) (by simpa using hj)
    simp only [List.getElem?_cons_succ, List.getElem?_eq_getElem hj, Option.getD_some] at e
    exact ⟨hce _ _ e.1, by rw [Nat.add_assoc]; exact hce _ _ e.2⟩
  have a0 : w.cell? ⟨g, off, none⟩ = some (.int .u64 x.1) := hce 0 _ rfl
  have a1 : w.cell? ⟨g, off + 1, none⟩ = some (.int .u64 x.2) := hce 1 _ rfl
  have l1 : br < w.heap.size + 1 := by omega
  have l2 : g < w.heap.size + 1 := by omega
  have n1 : (0 : Int) < (L.length : Int) + 1 := by omega
  have n2 : ¬ ((L.length : Int) + 1 = 0) := by omega
  have H6 : L.length ≤ 4096 := by simp at h6; omega
  clear h1 h2 h3 h4 h5 h6 hce hO hO1 hc1 hc2 hg
  go_enter Try.func16, Try.ntmps16
  go_wp2
  go_loopw [4] (fun vi wr => ∃ j : Nat, j ≤ L.length ∧ vi = .int .i64 ((j + 1 : Nat) : Int) ∧ Hid (wr.heap[w.heap.size]? = some (.cells #[.int .u64 0, .int .u64 0] 26 (0, 0)) ∧ wr.heap[w.heap.size + 1]? = some (.cells #[.int .u64 (sumL thF x (L.take j)).1, .int .u64 (sumL thF x (L.take j)).2] 26 (0, 0)) ∧ Below w.heap.size w wr)) (fun vi _ => L.length + 1 - (intOf vi).toNat)
  case atStart => exact ⟨0, Nat.zero_le _, rfl, (Below.heap_alloc _ _ _ (by simp)).trans (World.alloc_heap_new w _), second w _ _, by go_grown⟩
  case round =>
    obtain ⟨j, hj, rfl, HB⟩ := hrel
    have b0 : wr.cell? ⟨br, 0, none⟩ = some (.slice (some ⟨g, off, none⟩) (L.length + 1) c) := (HB.out.2.2.cell (p := ⟨br, 0, none⟩) hlt).trans y0
    have q0 : wr.cell? ⟨w.heap.size + 1, 0, none⟩ = some (.int .u64 (sumL thF x (L.take j)).1) := (Lib.cell_of_heap HB.out.2.1 _).trans rfl
    have q1 : wr.cell? ⟨w.heap.size + 1, 1, none⟩ = some (.int .u64 (sumL thF x (L.take j)).2) := (Lib.cell_of_heap HB.out.2.1 _).trans rfl
    have lq : w.heap.size + 1 < wr.heap.size := lt_heap HB.out.2.1
    by_cases hjt : j < L.length
    · have c0 := (HB.out.2.2.cell (p := ⟨g, off + (j + 1) * 2, none⟩) hgl).trans (HC.out j hjt).1
      have c1 := (HB.out.2.2.cell (p := ⟨g, off + (j + 1) * 2 + 1, none⟩) hgl).trans (HC.out j hjt).2
      have hjt1 : (j : Int) < (L.length : Int) := by omega
      have hj0 : (0 : Int) ≤ (j : Int) := by omega
      have hst : Hid (sumL thF x (L.take (j + 1)) = thF (sumL thF x (L.take j)) L[j]) := by
        unfold Hid
        rw [List.take_add_one, List.getElem?_eq_getElem hjt]
        exact sumL_snoc _ _ _ _
      generalize L[j] = z at *
      generalize sumL thF x (L.take j) = sm at *
      go_wp2
      have k1 : (0 : Int) ≤ (j : Int) + 1 := by omega
      have k2 : (j : Int) + 1 < (L.length : Int) + 1 := by omega
      have k3 : ((j : Int) + 1).toNat = j + 1 := by omega
      go_region_with (go_at_call 8; refine (op_any sm z _).mono ?_; rintro e w2 ⟨rfl, hb2⟩; have e2 := (hb2.block (w.heap.size + 1) lq).trans HB.out.2.1; have e1 := (hb2.block (w.heap.size) (show w.heap.size < wr.heap.size by omega)).trans HB.out.1; have u0 : w2.cell? ⟨w.heap.size + 1, 0, none⟩ = some (.int .u64 sm.1) := (Lib.cell_of_heap e2 _).trans rfl; have u1 : w2.cell? ⟨w.heap.size + 1, 1, none⟩ = some (.int .u64 sm.2) := (Lib.cell_of_heap e2 _).trans rfl; have v0 : w2.frozen? ⟨w.heap.size + 1, 0, none⟩ = false := Lib.frozen_of_heap e2 _; have v1 : w2.frozen? ⟨w.heap.size + 1, 1, none⟩ = false := Lib.frozen_of_heap e2 _; have HE : Hid (_ ∧ _ ∧ _) := ⟨e1, e2, hb2⟩; clear e1 e2 hb2)
      all_goals (
        go_wp2
        refine ⟨⟨_, _, _, _, _, _, _, _, _, _, _, _, _, _, _, _, _, _, _, ⟨j + 1, by omega, ?e1, ?e2⟩, rfl⟩, ?e3⟩
        case e1 => go_num
        case e3 => (simp [intOf]; omega)
        case e2 =>
          have hw2 : Below w.heap.size w w2 := HB.out.2.2.trans ((show Below wr.heap.size wr w2 from ⟨HE.out.2.2.os, HE.out.2.2.tape, HE.out.2.2.output, HE.out.2.2.size, HE.out.2.2.block⟩).mono HB.out.2.2.size)
          refine ⟨?_, ?_, (hw2.setCell (p := ⟨w.heap.size + 1, 0, none⟩) (Nat.le_succ _) _).setCell (p := ⟨w.heap.size + 1, 1, none⟩) (Nat.le_succ _) _⟩
          · exact (Below.heap_setCell _ _ _ _ (by show w.heap.size ≠ w.heap.size + 1; omega)).trans ((Below.heap_setCell _ _ _ _ (by show w.heap.size ≠ w.heap.size + 1; omega)).trans HE.out.1)
          · rw [hst.out]
            exact set_heap (set_heap HE.out.2.1 _) _)
    · obtain rfl : j = L.length := by omega
      have hjt1 : ¬ ((L.length : Int) + 1 < (L.length : Int) + 1) := by omega
      rw [List.take_length] at q0 q1
      have r0 : wr.cell? ⟨w.heap.size, 0, none⟩ = some (.int .u64 0) := (Lib.cell_of_heap HB.out.1 _).trans rfl
      have r1 : wr.cell? ⟨w.heap.size, 1, none⟩ = some (.int .u64 0) := (Lib.cell_of_heap HB.out.1 _).trans rfl
      have rf0 : wr.frozen? ⟨w.heap.size, 0, none⟩ = false := Lib.frozen_of_heap HB.out.1 _
      have rf1 : wr.frozen? ⟨w.heap.size, 1, none⟩ = false := Lib.frozen_of_heap HB.out.1 _
      go_wp2
      refine bodyPost_ret (by simp [results, Try.results16, go_sem, r0, r1]; try rfl) rfl ?_
      exact ⟨rfl, rn_below H0.out ((HB.out.2.2.setCell (p := ⟨w.heap.size, 0, none⟩) (Nat.le_refl _) _).setCell (p := ⟨w.heap.size, 1, none⟩) (Nat.le_refl _) _)⟩
end Go.Proofs.Ytondchfhdhllhaa

namespace Go.Proofs.Ytondchfhdhllhaa
open Go.RowKit Go.Shelf
set_option linter.unusedVariables false

set_option maxRecDepth 100000 in
set_option maxHeartbeats 4000000 in
theorem cloneTl {w : World} {v : Value} {n : Nat} {xs : List Value} (h : w.ownsRow 0 63 4 v n xs) (hn : n ≤ 8192) (h1 : ∀ u ∈ xs, u.oneCell' = true) :
    Calls Try.prog 32 #[v] w fun e w' => ∃ p c, e = .returned (.slice p n c) ∧ Hid (w'.ownsRow w.heap.size 63 4 (.slice p n c) n xs ∧ Below w.heap.size w w') := by
  obtain ⟨i0, hi, hz0, hz1, hz2⟩ := info_parts inTT
  have h0 := h
  obtain ⟨hl, ⟨rfl, rfl⟩ | ⟨g, cap, cur, rfl, -, hg, hc1, hc2, hc3, hc4⟩⟩ := h
  · have hnl : ∀ W : World, (binOp .eql 58 (.slice none 0 0) (.slice none 0 0)).run Try.prog W = .ok (.bool true) W := fun W => Lib.run_eql_slice_nil W 58 63 none 0 0 0 0 Try.underlying58
    go_enter Try.func32, Try.ntmps32
    go_wp2
    go_ret
    exact ⟨none, 0, rfl, ⟨hl, .inl ⟨rfl, rfl⟩⟩, Below.refl _ _⟩
  · have hgl : g < w.heap.size := lt_heap hg
    have HC : Hid (∀ j u, xs[j]? = some u → (w.alloc (.cells #[] 63)).cell? ⟨g, j, none⟩ = some u) := fun j u hj => by
      refine Lib.cell?_alloc_some _ ?_
      have hj2 := (List.getElem?_eq_some_iff.1 hj).1
      rw [h0.cellAt j (by rw [← hl]; exact hj2)]
      exact hj
    have HO : Hid ((w.alloc (.cells #[] 63)).ownsRow w.heap.size 63 4 (.slice (some ⟨w.heap.size, 0, none⟩) 0 0) 0 []) := ⟨rfl, .inr ⟨w.heap.size, 0, #[], rfl, Nat.le_refl _, World.alloc_heap_new w _, Nat.le_refl _, Nat.zero_le _, rfl, rfl⟩⟩
    have HL : Hid (xs.length = n * 4) := hl
    clear h0 hg hc1 hc2 hc3 hc4 hl
    have hnl : ∀ W : World, (binOp .eql 58 (.slice (some ⟨g, 0, none⟩) n cap) (.slice none 0 0)).run Try.prog W = .ok (.bool false) W := fun W => Lib.run_eql_slice_nil W 58 63 (some ⟨g, 0, none⟩) n cap 0 0 Try.underlying58
    go_enter Try.func32, Try.ntmps32
    go_wp2_with (at_builtin; refine wpList_append_own _ rfl _ _ 58 rfl w.heap.size 63 i0 (.agg #[.int .u64 0, .int .u64 0, .int .u64 0, .int .u64 0]) 4 32 Try.underlying58 hi hz0 hz1 hz2 rfl (by decide) _ _ _ rfl HO.out ⟨g, 0, none⟩ n cap xs rfl HL.out ?cc1 h1 ?cc3 ?cc4 ?cc5 ?_)
    case cc1 => (intro j u hj; rw [Addr.add_lit, Nat.zero_add]; exact HC.out j u hj)
    case cc3 => unfold maxLen; omega
    case cc4 => omega
    case cc5 => (simp; try omega)
    intro v' w3 h2 h3 _
    obtain ⟨p2, c2, hv⟩ := row_form h2
    subst hv
    have HE : Hid (w3.ownsRow w.heap.size 63 4 (.slice p2 n c2) n xs ∧ Below w.heap.size w w3) := ⟨by simpa using h2, Below.grown ((Below.refl _ w).alloc (Nat.le_refl _) _) h3 (by simp) (fun q e => by cases e; exact Nat.le_refl _)⟩
    clear h2 h3
    go_wp2
    go_ret
    exact ⟨_, _, rfl, HE⟩
set_option maxRecDepth 100000 in
set_option maxHeartbeats 4000000 in
theorem cloneTh {w : World} {v : Value} {n : Nat} {xs : List Value} (h : w.ownsRow 0 26 2 v n xs) (hn : n ≤ 8192) (h1 : ∀ u ∈ xs, u.oneCell' = true) :
    Calls Try.prog 33 #[v] w fun e w' => ∃ p c, e = .returned (.slice p n c) ∧ Hid (w'.ownsRow w.heap.size 26 2 (.slice p n c) n xs ∧ Below w.heap.size w w') := by
  obtain ⟨i0, hi, hz0, hz1, hz2⟩ := info_parts inET
  have h0 := h
  obtain ⟨hl, ⟨rfl, rfl⟩ | ⟨g, cap, cur, rfl, -, hg, hc1, hc2, hc3, hc4⟩⟩ := h
  · have hnl : ∀ W : World, (binOp .eql 37 (.slice none 0 0) (.slice none 0 0)).run Try.prog W = .ok (.bool true) W := fun W => Lib.run_eql_slice_nil W 37 26 none 0 0 0 0 Try.underlying37
    go_enter Try.func33, Try.ntmps33
    go_wp2
    go_ret
    exact ⟨none, 0, rfl, ⟨hl, .inl ⟨rfl, rfl⟩⟩, Below.refl _ _⟩
  · have hgl : g < w.heap.size := lt_heap hg
    have HC : Hid (∀ j u, xs[j]? = some u → (w.alloc (.cells #[] 26)).cell? ⟨g, j, none⟩ = some u) := fun j u hj => by
      refine Lib.cell?_alloc_some _ ?_
      have hj2 := (List.getElem?_eq_some_iff.1 hj).1
      rw [h0.cellAt j (by rw [← hl]; exact hj2)]
      exact hj
    have HO : Hid ((w.alloc (.cells #[] 26)).ownsRow w.heap.size 26 2 (.slice (some ⟨w.heap.size, 0, none⟩) 0 0) 0 []) := ⟨rfl, .inr ⟨w.heap.size, 0, #[], rfl, Nat.le_refl _, World.alloc_heap_new w _, Nat.le_refl _, Nat.zero_le _, rfl, rfl⟩⟩
    have HL : Hid (xs.length = n * 2) := hl
    clear h0 hg hc1 hc2 hc3 hc4 hl
    have hnl : ∀ W : World, (binOp .eql 37 (.slice (some ⟨g, 0, none⟩) n cap) (.slice none 0 0)).run Try.prog W = .ok (.bool false) W := fun W => Lib.run_eql_slice_nil W 37 26 (some ⟨g, 0, none⟩) n cap 0 0 Try.underlying37
    go_enter Try.func33, Try.ntmps33
    go_wp2_with (at_builtin; refine wpList_append_own _ rfl _ _ 37 rfl w.heap.size 26 i0 (.agg #[.int .u64 0, .int .u64 0]) 2 16 Try.underlying37 hi hz0 hz1 hz2 rfl (by decide) _ _ _ rfl HO.out ⟨g, 0, none⟩ n cap xs rfl HL.out ?cc1 h1 ?cc3 ?cc4 ?cc5 ?_)
    case cc1 => (intro j u hj; rw [Addr.add_lit, Nat.zero_add]; exact HC.out j u hj)
    case cc3 => unfold maxLen; omega
    case cc4 => omega
    case cc5 => (simp; try omega)
    intro v' w3 h2 h3 _
    obtain ⟨p2, c2, hv⟩ := row_form h2
    subst hv
    have HE : Hid (w3.ownsRow w.heap.size 26 2 (.slice p2 n c2) n xs ∧ Below w.heap.size w w3) := ⟨by simpa using h2, Below.grown ((Below.refl _ w).alloc (Nat.le_refl _) _) h3 (by simp) (fun q e => by cases e; exact Nat.le_refl _)⟩
    clear h2 h3
    go_wp2
    go_ret
    exact ⟨_, _, rfl, HE⟩
theorem one_fl (L : List (Int × Int)) : ∀ u ∈ flT L, u.oneCell' = true := by
  intro u hu
  simp only [flT, celT, List.mem_flatMap] at hu
  obtain ⟨x, -, hu⟩ := hu
  simp at hu
  rcases hu with rfl | rfl <;> rfl
theorem one_tfl (L : List ((Int × Int) × (Int × Int))) : ∀ u ∈ tflT L, u.oneCell' = true := by
  intro u hu
  simp only [tflT, tcT, celT, List.mem_flatMap] at hu
  obtain ⟨x, -, hu⟩ := hu
  simp at hu
  rcases hu with rfl | rfl | rfl | rfl <;> rfl
set_option maxRecDepth 100000 in
set_option maxHeartbeats 4000000 in
theorem thing_any (sk sa sb sn : Int) (w : World) : Calls Try.prog 12 #[.agg #[.int .i64 sk, .int .u64 sa, .int .u64 sb, .int .i64 sn]] w fun e w' => e = .returned (.agg #[.int .u64 sa, .int .u64 sb]) ∧ Below w.heap.size w w' := by
  go_enter Try.func12, Try.ntmps12
  go_wp2
  refine bodyPost_ret (by simp [results, Try.results12, go_sem]; try rfl) rfl ?_
  exact ⟨rfl, by go_grown⟩
set_option maxRecDepth 100000 in
set_option maxHeartbeats 8000000 in
theorem cloneQ {f : Int × Int → Int × Int → Int × Int} {K : FuncId} {caps : Array Value} {nt : Int × Int} {ok : Nat → Int × Int → Prop} {w : World} {bw : Nat} {L : List (Int × Int)} {F : Nat → Prop} (O : OpT (.func (.func K) #[] caps) f ok (fun _ => False) (fun _ _ => True)) (H : PQT f (.func (.func K) #[] caps) nt ok w bw L F) :
    Calls Try.prog 13 #[.pointer (some ⟨bw, 0, none⟩)] w fun e w' => ∃ bc, e = .returned (.pointer (some ⟨bc, 0, none⟩)) ∧ Hid (w.heap.size ≤ bc ∧ Below w.heap.size w w' ∧ ∃ F', PQT f (.func (.func K) #[] caps) nt ok w' bc L F' ∧ ∀ k, F' k → w.heap.size ≤ k) := by
  obtain ⟨X, Y, c, n, e, H2⟩ := H
  obtain ⟨va, vb, sm, H1⟩ := H2.win
  obtain ⟨pa, ca, rfl⟩ := row_form H1.ra
  obtain ⟨pb, cb, rfl⟩ := row_form H1.rb
  have hb := H1.blk
  have y0 : w.cell? ⟨bw, 0, none⟩ = some (.func (.func K) #[] caps) := (Lib.cell_of_heap hb _).trans rfl
  have y1 : w.cell? ⟨bw, 1, none⟩ = some (.int .u64 nt.1) := (Lib.cell_of_heap hb _).trans rfl
  have y2 : w.cell? ⟨bw, 2, none⟩ = some (.int .u64 nt.2) := (Lib.cell_of_heap hb _).trans rfl
  have y3 : w.cell? ⟨bw, 3, none⟩ = some (.int .i64 c) := (Lib.cell_of_heap hb _).trans rfl
  have y4 : w.cell? ⟨bw, 4, none⟩ = some (.slice pa X.length ca) := (Lib.cell_of_heap hb _).trans rfl
  have y5 : w.cell? ⟨bw, 5, none⟩ = some (.slice pb Y.length cb) := (Lib.cell_of_heap hb _).trans rfl
  have y6 : w.cell? ⟨bw, 6, none⟩ = some (.int .u64 sm.1) := (Lib.cell_of_heap hb _).trans rfl
  have y7 : w.cell? ⟨bw, 7, none⟩ = some (.int .u64 sm.2) := (Lib.cell_of_heap hb _).trans rfl
  have hlt : bw < w.heap.size := lt_heap hb
  have hlim := H1.lim
  clear hb
  go_enter Try.func13, Try.ntmps13
  go_upto_region 2 with fail
  refine wp_world ?_
  intro W hW
  have hbW : Below w.heap.size w W := by rw [hW]; exact (Below.refl _ w).alloc (Nat.le_refl _) _
  have hB0 : W.heap[w.heap.size]? = some (.cells #[(.func (.func K) #[] caps), .int .u64 nt.1, .int .u64 nt.2, .int .i64 c, (.slice pa X.length ca), (.slice pb Y.length cb), .int .u64 sm.1, .int .u64 sm.2] 60 (0, 0)) := by rw [hW]; exact World.alloc_heap_new w _
  have HW1 : Hid (WinT f W bw (.func (.func K) #[] caps) nt c X Y F (.slice pa X.length ca) (.slice pb Y.length cb) sm) := H1.fr (Fr.of_below (P := fun _ => False) hbW) (fun _ _ h => h)
  have z4 : W.cell? ⟨bw, 4, none⟩ = some (.slice pa X.length ca) := (Lib.cell_of_heap HW1.out.blk _).trans rfl
  have lW : w.heap.size < W.heap.size := lt_heap hB0
  have lb : bw < W.heap.size := by omega
  have HB0 : Hid (_) := hB0
  clear hW hB0 y0 y1 y2 y3 y4 y5 y6 y7
  go_wp2_with fail
  refine (cloneTl HW1.out.ra (by omega) (one_tfl _)).mono ?_
  rintro e' w1 ⟨p1, c1, rfl, h1⟩
  have b1 : w1.heap[w.heap.size]? = _ := (h1.out.2.block _ lW).trans HB0.out
  have f1 : w1.cell? ⟨w.heap.size, 4, none⟩ = some (.slice pa X.length ca) := (Lib.cell_of_heap b1 _).trans rfl
  have g1 : w1.frozen? ⟨w.heap.size, 4, none⟩ = false := Lib.frozen_of_heap b1 _
  have HB1 : Hid (_) := b1
  clear b1
  go_upto_region 3 with fail
  refine wp_world ?_
  intro W2 hW2
  have F2 : Hid (Fr (fun k => k = w.heap.size) w1 W2) := by rw [hW2]; exact (Fr.refl (fun k => k = w.heap.size) w1).setCell (p := ⟨w.heap.size, 4, none⟩) (Or.inl rfl) _
  have hB2 : W2.heap[w.heap.size]? = some (.cells #[(.func (.func K) #[] caps), .int .u64 nt.1, .int .u64 nt.2, .int .i64 c, (.slice p1 X.length c1), (.slice pb Y.length cb), .int .u64 sm.1, .int .u64 sm.2] 60 (0, 0)) := by rw [hW2]; exact set_heap HB1.out _
  have HW2 : Hid (WinT f W2 bw (.func (.func K) #[] caps) nt c X Y F (.slice pa X.length ca) (.slice pb Y.length cb) sm) := (HW1.out.fr (Fr.of_below (P := fun _ => False) h1.out.2) (fun _ _ h => h)).fr F2.out (fun k q e => by have := H1.ft k q; omega)
  have R2 : Hid (W2.ownsRow W.heap.size 63 4 (.slice p1 X.length c1) X.length (tflT (tls f X).reverse)) := F2.out.row h1.out.1 (fun k q e => by have := (World.ownsRow.lt h1.out.1 k q).1; omega)
  have z5 : W2.cell? ⟨bw, 5, none⟩ = some (.slice pb Y.length cb) := (Lib.cell_of_heap HW2.out.blk _).trans rfl
  have l2 : w.heap.size < W2.heap.size := lt_heap hB2
  have HB2 : Hid (_) := hB2
  clear hW2 hB2 f1 g1 z4
  go_wp2_with fail
  refine (cloneTh HW2.out.rb (by omega) (one_fl _)).mono ?_
  rintro e' w3 ⟨p3, c3, rfl, h3⟩
  have b3 : w3.heap[w.heap.size]? = _ := (h3.out.2.block _ l2).trans HB2.out
  have f3 : w3.cell? ⟨w.heap.size, 5, none⟩ = some (.slice pb Y.length cb) := (Lib.cell_of_heap b3 _).trans rfl
  have g3 : w3.frozen? ⟨w.heap.size, 5, none⟩ = false := Lib.frozen_of_heap b3 _
  have HB3 : Hid (_) := b3
  clear b3 z5
  go_wp2
  go_ret
  have F4 : Fr (fun k => k = w.heap.size) w3 (w3.setCell ⟨w.heap.size, 5, none⟩ (.slice p3 Y.length c3)) := (Fr.refl (fun k => k = w.heap.size) w3).setCell (p := ⟨w.heap.size, 5, none⟩) (Or.inl rfl) _
  have FA : Fr (fun k => k = w.heap.size) w (w3.setCell ⟨w.heap.size, 5, none⟩ (.slice p3 Y.length c3)) := ((((Fr.of_below (P := fun k => k = w.heap.size) hbW).trans (Fr.of_below (P := fun _ => False) h1.out.2) (fun _ q => q.elim)).trans F2.out (fun _ q => Or.inl q)).trans (Fr.of_below (P := fun _ => False) h3.out.2) (fun _ q => q.elim)).trans F4 (fun _ q => Or.inl q)
  have ra4 := F4.row ((Fr.of_below (P := fun _ => False) h3.out.2).row R2.out (fun _ _ h => h)) (fun k q e => by have := (World.ownsRow.lt R2.out k q).1; omega)
  have rb4 := F4.row h3.out.1 (fun k q e => by have := (World.ownsRow.lt h3.out.1 k q).1; omega)
  refine ⟨w.heap.size, rfl, Nat.le_refl _, ⟨FA.os, FA.tape, FA.output, FA.size, fun k hk => FA.block k hk (by omega)⟩, fun k => w.heap.size ≤ k ∧ k < (w3.setCell ⟨w.heap.size, 5, none⟩ (.slice p3 Y.length c3)).heap.size, ⟨X, Y, c, n, e, ⟨⟨_, _, sm, ⟨set_heap HB3.out _, ?_, ?_, H1.sum, H1.lim, ⟨Nat.le_refl _, ?_⟩, ?_, ?_, fun k q => q.2⟩⟩, trivial, H2.okX, H2.okY, fun _ _ h => h, H2.lim⟩⟩, fun k q => q.1⟩
  · exact ⟨ra4.1, ra4.2.imp (fun h => h) (fun ⟨g, cap, cur, a, _, b⟩ => ⟨g, cap, cur, a, Nat.zero_le _, b⟩)⟩
  · exact ⟨rb4.1, rb4.2.imp (fun h => h) (fun ⟨g, cap, cur, a, _, b⟩ => ⟨g, cap, cur, a, Nat.zero_le _, b⟩)⟩
  · have := h3.out.2.size; have := F4.size; omega
  · intro k q
    have h := World.ownsRow.lt ra4 k q
    exact ⟨by omega, h.2⟩
  · intro k q
    have h := World.ownsRow.lt rb4 k q
    exact ⟨by omega, h.2⟩
end Go.Proofs.Ytondchfhdhllhaa

namespace Go.Proofs.Ytondchfhdhllhaa
open Go.RowKit Go.Shelf
set_option linter.unusedVariables false

def P2 (B : Nat) (w W : World) (bw br : Nat) (nt : Int × Int) (Lw Lr : List (Int × Int)) (K : Nat → Prop) : Prop :=
  ∃ F G, PQT thF (.func (.func 8) #[] #[]) nt thOk W bw Lw F ∧ RQ W br nt Lr G ∧ (∀ k, F k → ¬ G k ∧ B ≤ k) ∧ (∀ k, G k → B ≤ k) ∧ Below B w W ∧ B ≤ W.heap.size ∧ (∀ k, K k → k < W.heap.size ∧ ¬ F k ∧ ¬ G k)
def pushE (L : List (Int × Int)) : Int := if L.length < 4096 then 0 else 3
def pushL (L : List (Int × Int)) (x : Int × Int) : List (Int × Int) := if L.length < 4096 then L ++ [x] else L
def popV : List (Int × Int) → Int × Int
  | [] => (0, 0)
  | x :: _ => x
def popE : List (Int × Int) → Int
  | [] => 110
  | _ :: _ => 0
def allV (nt : Int × Int) : List (Int × Int) → Int × Int
  | [] => nt
  | x :: r => sumL thF x r
section
variable {B : Nat} {w W W' : World} {bw br : Nat} {nt : Int × Int} {Lw Lr L' : List (Int × Int)} {K F G : Nat → Prop}
theorem P2.below (H : P2 B w W bw br nt Lw Lr K) : Below B w W := by obtain ⟨F, G, h1, h2, h3, h4, h5, h6, h7⟩ := H; exact h5
theorem P2.only {K' : Nat → Prop} (H : P2 B w W bw br nt Lw Lr K) (h : ∀ k, K' k → K k) : P2 B w W bw br nt Lw Lr K' := by
  obtain ⟨F, G, h1, h2, h3, h4, h5, h6, h7⟩ := H
  exact ⟨F, G, h1, h2, h3, h4, h5, h6, fun k q => h7 k (h k q)⟩
theorem P2.later (H : P2 B w W bw br nt Lw Lr K) (h : Below W.heap.size W W') : P2 B w W' bw br nt Lw Lr K := by
  obtain ⟨F, G, h1, h2, h3, h4, h5, h6, h7⟩ := H
  have hf : Fr (fun _ => False) W W' := Fr.of_below h
  exact ⟨F, G, h1.fr opT_ref hf (fun _ _ h => h), h2.fr hf (fun _ _ h => h), h3, h4, h5.trans (h.mono h6), Nat.le_trans h6 h.size, fun k q => ⟨Nat.lt_of_lt_of_le (h7 k q).1 h.size, (h7 k q).2⟩⟩
theorem P2.alloc (H : P2 B w W bw br nt Lw Lr K) (o : Obj) : P2 B w (W.alloc o) bw br nt Lw Lr (fun k => K k ∨ k = W.heap.size) := by
  have H0 := H.later ((Below.refl W.heap.size W).alloc (Nat.le_refl _) o)
  obtain ⟨F, G, h1, h2, h3, h4, h5, h6, h7⟩ := H
  have l1 := h1.lt.1
  have l2 := h2.lt
  have hf : Fr (fun _ => False) W (W.alloc o) := (Fr.refl _ W).alloc o
  exact ⟨F, G, h1.fr opT_ref hf (fun _ _ h => h), h2.fr hf (fun _ _ h => h), h3, h4, h5.alloc h6 o, by simp; omega, fun k q => q.elim (fun q => ⟨by have := (h7 k q).1; simp; omega, (h7 k q).2⟩) (fun q => ⟨by simp; omega, fun a => by have := l1 k a; omega, fun a => by have := l2 k a; omega⟩)⟩
theorem p2_w (h1 : PQT thF (.func (.func 8) #[] #[]) nt thOk W bw Lw F) (h2 : RQ W br nt Lr G) (h3 : ∀ k, F k → ¬ G k ∧ B ≤ k) (h4 : ∀ k, G k → B ≤ k) (h5 : Below B w W) (h6 : B ≤ W.heap.size) (h7 : ∀ k, K k → k < W.heap.size ∧ ¬ F k ∧ ¬ G k) (q : QNT thF (.func (.func 8) #[] #[]) nt thOk W W' bw L' F) : P2 B w W' bw br nt L' Lr K ∧ Fr (fun k => ¬ K k) W W' := by
  obtain ⟨F', q1, q2, q3⟩ := q
  have l2 := h2.lt
  exact ⟨⟨F', G, q1, h2.fr q3 (fun k a b => (h3 k b).1 a), fun k a => (q2 k a).elim (h3 k) (fun a => ⟨fun b => by have := l2 k b; omega, Nat.le_trans h6 a⟩), h4, h5.trans (q3.below h6 (fun k a => (h3 k a).2)), Nat.le_trans h6 q3.size, fun k a => ⟨Nat.lt_of_lt_of_le (h7 k a).1 q3.size, fun b => (q2 k b).elim (h7 k a).2.1 (fun b => by have := (h7 k a).1; omega), (h7 k a).2.2⟩⟩, q3.mono (fun i a => Or.inl (fun b => (h7 i b).2.1 a))⟩
theorem p2_r (h1 : PQT thF (.func (.func 8) #[] #[]) nt thOk W bw Lw F) (h2 : RQ W br nt Lr G) (h3 : ∀ k, F k → ¬ G k ∧ B ≤ k) (h4 : ∀ k, G k → B ≤ k) (h5 : Below B w W) (h6 : B ≤ W.heap.size) (h7 : ∀ k, K k → k < W.heap.size ∧ ¬ F k ∧ ¬ G k) (q : RN W W' br nt L' G) : P2 B w W' bw br nt Lw L' K ∧ Fr (fun k => ¬ K k) W W' := by
  obtain ⟨G', q1, q2, q3⟩ := q
  have l1 := h1.lt.1
  exact ⟨⟨F, G', h1.fr opT_ref q3 (fun k a b => (h3 k a).1 b), q1, fun k a => ⟨fun b => (q2 k b).elim (h3 k a).1 (fun b => by have := l1 k a; omega), (h3 k a).2⟩, fun k a => (q2 k a).elim (h4 k) (fun a => Nat.le_trans h6 a), h5.trans (q3.below h6 h4), Nat.le_trans h6 q3.size, fun k a => ⟨Nat.lt_of_lt_of_le (h7 k a).1 q3.size, (h7 k a).2.1, fun b => (q2 k b).elim (h7 k a).2.2 (fun b => by have := (h7 k a).1; omega)⟩⟩, q3.mono (fun i a => Or.inl (fun b => (h7 i b).2.2 a))⟩
theorem wPush (H : P2 B w W bw br nt Lw Lr K) (x : Int × Int) : Calls Try.prog 9 #[.pointer (some ⟨bw, 0, none⟩), .agg #[.int .u64 x.1, .int .u64 x.2]] W fun e w' => e = .returned (.int .i64 (pushE Lw)) ∧ Hid (P2 B w w' bw br nt (pushL Lw x) Lr K ∧ Fr (fun k => ¬ K k) W w') := by
  obtain ⟨F, G, h1, h2, h3, h4, h5, h6, h7⟩ := H
  by_cases hl : Lw.length < 4096
  · rw [show pushE Lw = 0 by simp [pushE, hl], show pushL Lw x = Lw ++ [x] by simp [pushL, hl]]
    exact (qpushT opT_ref h1 x trivial hl).mono fun e w' h => ⟨h.1, p2_w h1 h2 h3 h4 h5 h6 h7 h.2.out⟩
  · rw [show pushE Lw = 3 by simp [pushE, hl], show pushL Lw x = Lw by simp [pushL, hl]]
    exact (qfullT opT_ref h1 x (by have := h1.len; omega)).mono fun e w' h => ⟨h.1, p2_w h1 h2 h3 h4 h5 h6 h7 h.2.out⟩
theorem rPush (H : P2 B w W bw br nt Lw Lr K) (x : Int × Int) : Calls Try.prog 34 #[.pointer (some ⟨br, 0, none⟩), .agg #[.int .u64 x.1, .int .u64 x.2]] W fun e w' => e = .returned (.int .i64 (pushE Lr)) ∧ Hid (P2 B w w' bw br nt Lw (pushL Lr x) K ∧ Fr (fun k => ¬ K k) W w') := by
  obtain ⟨F, G, h1, h2, h3, h4, h5, h6, h7⟩ := H
  by_cases hl : Lr.length < 4096
  · rw [show pushE Lr = 0 by simp [pushE, hl], show pushL Lr x = Lr ++ [x] by simp [pushL, hl]]
    exact (rpush h2 x hl).mono fun e w' h => ⟨h.1, p2_r h1 h2 h3 h4 h5 h6 h7 h.2.out⟩
  · rw [show pushE Lr = 3 by simp [pushE, hl], show pushL Lr x = Lr by simp [pushL, hl]]
    exact (rfull h2 x (by have := h2.len; omega)).mono fun e w' h => ⟨h.1, p2_r h1 h2 h3 h4 h5 h6 h7 h.2.out⟩
theorem wPop (H : P2 B w W bw br nt Lw Lr K)  : Calls Try.prog 20 #[.pointer (some ⟨bw, 0, none⟩)] W fun e w' => e = .returned (.tuple #[.agg #[.int .u64 (popV Lw).1, .int .u64 (popV Lw).2], .int .i64 (popE Lw)]) ∧ Hid (P2 B w w' bw br nt Lw.tail Lr K ∧ Fr (fun k => ¬ K k) W w') := by
  obtain ⟨F, G, h1, h2, h3, h4, h5, h6, h7⟩ := H
  cases Lw with
  | nil => exact (qpop0T opT_ref h1).mono fun e w' h => ⟨h.1, p2_w h1 h2 h3 h4 h5 h6 h7 h.2.out⟩
  | cons x r => exact (qpopT opT_ref h1).mono fun e w' h => ⟨h.1, p2_w h1 h2 h3 h4 h5 h6 h7 h.2.out⟩
theorem rPop (H : P2 B w W bw br nt Lw Lr K)  : Calls Try.prog 35 #[.pointer (some ⟨br, 0, none⟩)] W fun e w' => e = .returned (.tuple #[.agg #[.int .u64 (popV Lr).1, .int .u64 (popV Lr).2], .int .i64 (popE Lr)]) ∧ Hid (P2 B w w' bw br nt Lw Lr.tail K ∧ Fr (fun k => ¬ K k) W w') := by
  obtain ⟨F, G, h1, h2, h3, h4, h5, h6, h7⟩ := H
  cases Lr with
  | nil => exact (rpop0 h2).mono fun e w' h => ⟨h.1, p2_r h1 h2 h3 h4 h5 h6 h7 h.2.out⟩
  | cons x r => exact (rpop h2).mono fun e w' h => ⟨h.1, p2_r h1 h2 h3 h4 h5 h6 h7 h.2.out⟩
theorem wAll (H : P2 B w W bw br nt Lw Lr K)  : Calls Try.prog 10 #[.pointer (some ⟨bw, 0, none⟩)] W fun e w' => e = .returned (.agg #[.int .u64 (allV nt Lw).1, .int .u64 (allV nt Lw).2]) ∧ Hid (P2 B w w' bw br nt Lw Lr K ∧ Fr (fun k => ¬ K k) W w') := by
  obtain ⟨F, G, h1, h2, h3, h4, h5, h6, h7⟩ := H
  cases Lw with
  | nil => exact (qall0T opT_ref h1).mono fun e w' h => ⟨h.1, p2_w h1 h2 h3 h4 h5 h6 h7 h.2.out⟩
  | cons x r => exact (qallT opT_ref th_assoc h1).mono fun e w' h => ⟨h.1, p2_w h1 h2 h3 h4 h5 h6 h7 h.2.out⟩
theorem rAll (H : P2 B w W bw br nt Lw Lr K)  : Calls Try.prog 16 #[.pointer (some ⟨br, 0, none⟩)] W fun e w' => e = .returned (.agg #[.int .u64 (allV nt Lr).1, .int .u64 (allV nt Lr).2]) ∧ Hid (P2 B w w' bw br nt Lw Lr K ∧ Fr (fun k => ¬ K k) W w') := by
  obtain ⟨F, G, h1, h2, h3, h4, h5, h6, h7⟩ := H
  cases Lr with
  | nil => exact (rall0 h2).mono fun e w' h => ⟨h.1, p2_r h1 h2 h3 h4 h5 h6 h7 h.2.out⟩
  | cons x r => exact (rall h2).mono fun e w' h => ⟨h.1, p2_r h1 h2 h3 h4 h5 h6 h7 h.2.out⟩
theorem wLen (H : P2 B w W bw br nt Lw Lr K)  : Calls Try.prog 17 #[.pointer (some ⟨bw, 0, none⟩)] W fun e w' => e = .returned (.int .i64 (Lw.length : Nat)) ∧ Hid (P2 B w w' bw br nt Lw Lr K ∧ Fr (fun k => ¬ K k) W w') := by
  obtain ⟨F, G, h1, h2, h3, h4, h5, h6, h7⟩ := H
  exact (qlenT opT_ref h1).mono fun e w' h => ⟨h.1, p2_w h1 h2 h3 h4 h5 h6 h7 h.2.out⟩
theorem P2.row (H : P2 B w W bw br nt Lw Lr K) : ∃ p c, W.cell? ⟨br, 0, none⟩ = some (.slice p Lr.length c) := by
  obtain ⟨F, G, h1, h2, h3, h4, h5, h6, h7⟩ := H
  obtain ⟨p, c, F5, a1, -⟩ := h2
  exact ⟨p, c, (Lib.cell_of_heap a1 _).trans rfl⟩
/-- What is left of a window that is stirred: its blocks alone are changed. -/
def QA (W W1 : World) (bw : Nat) (nt : Int × Int) (F : Nat → Prop) : Prop := ∃ L, QNT thF (.func (.func 8) #[] #[]) nt thOk W W1 bw L F
theorem sPush77 {W1 : World} (H : QA W W1 bw nt F) : Calls Try.prog 9 #[.pointer (some ⟨bw, 0, none⟩), .agg #[.int .u64 77, .int .u64 0]] W1 fun e w' => ∃ v, e = .returned v ∧ Hid (QA W w' bw nt F) := by
  obtain ⟨L, F1, a1, a2, a3⟩ := H
  by_cases hl : L.length < 4096
  · exact (qpushT opT_ref a1 (77, 0) trivial hl).mono fun e w' h => ⟨_, h.1, _, QNT.trans a2 a3 h.2.out⟩
  · exact (qfullT opT_ref a1 (77, 0) (by have := a1.len; omega)).mono fun e w' h => ⟨_, h.1, _, QNT.trans a2 a3 h.2.out⟩
theorem sPush78 {W1 : World} (H : QA W W1 bw nt F) : Calls Try.prog 9 #[.pointer (some ⟨bw, 0, none⟩), .agg #[.int .u64 78, .int .u64 0]] W1 fun e w' => ∃ v, e = .returned v ∧ Hid (QA W w' bw nt F) := by
  obtain ⟨L, F1, a1, a2, a3⟩ := H
  by_cases hl : L.length < 4096
  · exact (qpushT opT_ref a1 (78, 0) trivial hl).mono fun e w' h => ⟨_, h.1, _, QNT.trans a2 a3 h.2.out⟩
  · exact (qfullT opT_ref a1 (78, 0) (by have := a1.len; omega)).mono fun e w' h => ⟨_, h.1, _, QNT.trans a2 a3 h.2.out⟩
theorem sPop {W1 : World} (H : QA W W1 bw nt F) : Calls Try.prog 20 #[.pointer (some ⟨bw, 0, none⟩)] W1 fun e w' => ∃ v, e = .returned v ∧ Hid (QA W w' bw nt F) := by
  obtain ⟨L, F1, a1, a2, a3⟩ := H
  cases L with
  | nil => exact (qpop0T opT_ref a1).mono fun e w' h => ⟨_, h.1, _, QNT.trans a2 a3 h.2.out⟩
  | cons x r => exact (qpopT opT_ref a1).mono fun e w' h => ⟨_, h.1, _, QNT.trans a2 a3 h.2.out⟩
theorem sAll {W1 : World} (H : QA W W1 bw nt F) : Calls Try.prog 10 #[.pointer (some ⟨bw, 0, none⟩)] W1 fun e w' => ∃ v, e = .returned v ∧ Hid (QA W w' bw nt F) := by
  obtain ⟨L, F1, a1, a2, a3⟩ := H
  cases L with
  | nil => exact (qall0T opT_ref a1).mono fun e w' h => ⟨_, h.1, _, QNT.trans a2 a3 h.2.out⟩
  | cons x r => exact (qallT opT_ref th_assoc a1).mono fun e w' h => ⟨_, h.1, _, QNT.trans a2 a3 h.2.out⟩
end
set_option maxRecDepth 100000 in
set_option maxHeartbeats 4000000 in
theorem stir_any {W : World} {bw : Nat} {nt : Int × Int} {L : List (Int × Int)} {F : Nat → Prop} (H : PQT thF (.func (.func 8) #[] #[]) nt thOk W bw L F) : Calls Try.prog 14 #[.pointer (some ⟨bw, 0, none⟩)] W fun e w' => (∃ v, e = .returned v) ∧ Hid (Fr F W w') := by
  have q0 : Hid (QA W W bw nt F) := ⟨L, F, H, fun _ h => Or.inl h, Fr.refl _ _⟩
  clear H
  go_enter Try.func14, Try.ntmps14
  go_wp2_with fail
  refine (sPop q0.out).mono ?_
  rintro e y0 ⟨v0, rfl, q1⟩
  clear q0
  go_wp2_with fail
  refine (sPop q1.out).mono ?_
  rintro e y1 ⟨v1, rfl, q2⟩
  clear q1
  go_wp2_with fail
  refine (sPush77 q2.out).mono ?_
  rintro e y2 ⟨v2, rfl, q3⟩
  clear q2
  go_wp2_with fail
  refine (sAll q3.out).mono ?_
  rintro e y3 ⟨v3, rfl, q4⟩
  clear q3
  go_wp2_with fail
  refine (sPush78 q4.out).mono ?_
  rintro e y4 ⟨v4, rfl, q5⟩
  clear q4
  go_wp2
  go_end0
  exact ⟨⟨_, rfl⟩, by obtain ⟨L, F1, a1, a2, a3⟩ := q5.out; exact a3⟩
end Go.Proofs.Ytondchfhdhllhaa

namespace Go.Proofs.Ytondchfhdhllhaa
open Go.RowKit Go.Shelf
set_option linter.unusedVariables false

def coF (x y : Int × Int) : Int × Int := (1, (x.2 + y.2) % 4611686018427387904)
def coOk (_ : Nat) (x : Int × Int) : Prop := x.1 = 1 ∧ 0 ≤ x.2 ∧ x.2 < 4611686018427387904
def coI (bc bs bn : Nat) (k : Nat) (w : World) : Prop := w.heap[bc]? = some (.cells #[.int .i64 (cw 0 k)] 3 (0, 0)) ∧ w.heap[bs]? = some (.cells #[.bool false] 4 (0, 0)) ∧ w.heap[bn]? = some (.cells #[.int .u64 3, .int .u64 9223372036854775808] 26 (0, 0))
def coG (bc bs bn : Nat) (k : Nat) : Prop := k = bc ∨ k = bs ∨ k = bn

set_option maxRecDepth 100000 in
set_option maxHeartbeats 4000000 in
theorem co_any (bc bs bn k : Nat) (x y : Int × Int) (w : World) (hx : coOk 1 x) (hy : coOk 1 y) (h : coI bc bs bn k w) : Calls Try.prog 18 #[.agg #[.int .u64 x.1, .int .u64 x.2], .agg #[.int .u64 y.1, .int .u64 y.2], .pointer (some ⟨bc, 0, none⟩), .pointer (some ⟨bs, 0, none⟩), .pointer (some ⟨bn, 0, none⟩)] w fun e w' => e = .returned (.agg #[.int .u64 (coF x y).1, .int .u64 (coF x y).2]) ∧ coI bc bs bn (k + 1) w' ∧ Fr (coG bc bs bn) w w' := by
  obtain ⟨x1, x2⟩ := x
  obtain ⟨y1, y2⟩ := y
  obtain ⟨hx1, hx2, hx3⟩ := hx
  obtain ⟨hy1, hy2, hy3⟩ := hy
  dsimp only at hx1 hy1 hx2 hx3 hy2 hy3
  subst hx1 hy1
  have c0 : w.cell? ⟨bc, 0, none⟩ = some (.int .i64 (cw 0 k)) := (Lib.cell_of_heap h.1 _).trans rfl
  have c1 : w.cell? ⟨bs, 0, none⟩ = some (.bool false) := (Lib.cell_of_heap h.2.1 _).trans rfl
  have c2 : w.cell? ⟨bn, 0, none⟩ = some (.int .u64 3) := (Lib.cell_of_heap h.2.2 _).trans rfl
  have c3 : w.cell? ⟨bn, 1, none⟩ = some (.int .u64 9223372036854775808) := (Lib.cell_of_heap h.2.2 _).trans rfl
  have f0 : w.frozen? ⟨bc, 0, none⟩ = false := Lib.frozen_of_heap h.1 _
  have f1 : w.frozen? ⟨bs, 0, none⟩ = false := Lib.frozen_of_heap h.2.1 _
  have l0 : bc < w.heap.size := lt_heap h.1
  have l1 : bs < w.heap.size := lt_heap h.2.1
  have l2 : bn < w.heap.size := lt_heap h.2.2
  have n1 : bc ≠ bs := fun q => by have e1 := h.1; rw [q, h.2.1] at e1; cases e1
  have n2 : bc ≠ bn := fun q => by have e1 := h.1; rw [q, h.2.2] at e1; cases e1
  have n3 : bs ≠ bn := fun q => by have e1 := h.2.1; rw [q, h.2.2] at e1; cases e1
  have la0 : bc < w.heap.size + 1 := by omega
  have la1 : bs < w.heap.size + 1 := by omega
  have la2 : bn < w.heap.size + 1 := by omega
  have lb0 : bc < w.heap.size + 1 + 1 := by omega
  have lb1 : bs < w.heap.size + 1 + 1 := by omega
  have lb2 : bn < w.heap.size + 1 + 1 := by omega
  have HH : Hid (coI bc bs bn k w) := h
  clear h
  go_enter Try.func18, Try.ntmps18
  go_wp2
  refine bodyPost_ret (by simp [results, Try.results18, go_sem]; try rfl) rfl ?_
  have g1 : Fr (fun k => k = bc) w (w.setCell ⟨bc, 0, none⟩ (.int .i64 (wrap64 (cw 0 k + 1)))) := (Fr.refl (fun k => k = bc) w).setCell (p := ⟨bc, 0, none⟩) (Or.inl rfl) _
  have g2 : Fr (fun k => k = bs) (w.setCell ⟨bc, 0, none⟩ (.int .i64 (wrap64 (cw 0 k + 1)))) ((w.setCell ⟨bc, 0, none⟩ (.int .i64 (wrap64 (cw 0 k + 1)))).setCell ⟨bs, 0, none⟩ (.bool false)) := (Fr.refl (fun k => k = bs) _).setCell (p := ⟨bs, 0, none⟩) (Or.inl rfl) _
  have g3 := (((Fr.refl (fun _ => False) ((w.setCell ⟨bc, 0, none⟩ (.int .i64 (wrap64 (cw 0 k + 1)))).setCell ⟨bs, 0, none⟩ (.bool false))).alloc (.cells #[.int .u64 1, .int .u64 x2] 26)).alloc (.cells #[.int .u64 1, .int .u64 y2] 26)).alloc (.cells #[.int .u64 1, .int .u64 ((x2 + y2) % 4611686018427387904)] 26)
  refine ⟨rfl, ⟨?_, ?_, ?_⟩, ((g1.mono (fun i e => Or.inl (Or.inl e))).trans g2 (fun i e => Or.inl (Or.inr (Or.inl e)))).trans g3 (fun i e => e.elim)⟩
  · exact g3.heap (g2.heap (set_heap HH.out.1 _) n1) (fun h => h)
  · exact g3.heap (set_heap (g1.heap HH.out.2.1 n1.symm) _) (fun h => h)
  · exact g3.heap (g2.heap (g1.heap HH.out.2.2 n2.symm) n3.symm) (fun h => h)
theorem opT_co (bc bs bn : Nat) : OpT (.func (.func 18) #[] #[.pointer (some ⟨bc, 0, none⟩), .pointer (some ⟨bs, 0, none⟩), .pointer (some ⟨bn, 0, none⟩)]) coF coOk (coG bc bs bn) (coI bc bs bn) where
  form := ⟨_, _, rfl, enters_of Try.func18 (by kernel_rfl) rfl, fun n i j x y w hx hy _ h => co_any bc bs bn n x y w hx hy h⟩
  okf := fun i j x y hx hy _ => ⟨rfl, by show 0 ≤ (x.2 + y.2) % _; omega, by show (x.2 + y.2) % _ < _; omega⟩
  stay := fun n w w' P h hf hp => ⟨hf.heap h.1 (hp _ (Or.inl rfl)), hf.heap h.2.1 (hp _ (Or.inr (Or.inl rfl))), hf.heap h.2.2 (hp _ (Or.inr (Or.inr rfl)))⟩
  glt := fun n w k h g => by
    rcases g with rfl | rfl | rfl
    · exact lt_heap h.1
    · exact lt_heap h.2.1
    · exact lt_heap h.2.2
end Go.Proofs.Ytondchfhdhllhaa

namespace Go.Proofs.Ytondchfhdhllhaa
open Go.RowKit Go.Shelf
set_option linter.unusedVariables false

def coOp (bc bs bn : Nat) : Value := .func (.func 18) #[] #[.pointer (some ⟨bc, 0, none⟩), .pointer (some ⟨bs, 0, none⟩), .pointer (some ⟨bn, 0, none⟩)]
def coN : Int × Int := (3, 9223372036854775808)
/-- The window, n calls so far, y things behind; what is of K is no block of it. -/
def CQ (bc bs bn B : Nat) (w W : World) (bw n y : Nat) (K : Nat → Prop) : Prop := ∃ X Y F, Y.length = y ∧ StT coF (coOp bc bs bn) coN coOk (coG bc bs bn) (coI bc bs bn) W bw (cw 0 n) n X Y F ∧ (∀ k, F k → B ≤ k) ∧ (B ≤ bc ∧ B ≤ bs ∧ B ≤ bn) ∧ Below B w W ∧ B ≤ W.heap.size ∧ (∀ k, K k → k < W.heap.size ∧ ¬ F k ∧ ¬ coG bc bs bn k)
section
variable {bc bs bn B bw n y : Nat} {w W W' : World} {K : Nat → Prop}
theorem CQ.below (H : CQ bc bs bn B w W bw n y K) : Below B w W := by obtain ⟨X, Y, F, h1, h2, h3, h4, h5, h6, h7⟩ := H; exact h5
theorem CQ.st (H : CQ bc bs bn B w W bw n y K) : coI bc bs bn n W := by obtain ⟨X, Y, F, h1, h2, h3, h4, h5, h6, h7⟩ := H; exact h2.st
theorem CQ.later (H : CQ bc bs bn B w W bw n y K) (h : Below W.heap.size W W') : CQ bc bs bn B w W' bw n y K := by
  obtain ⟨X, Y, F, h1, h2, h3, h4, h5, h6, h7⟩ := H
  exact ⟨X, Y, F, h1, h2.fr (opT_co bc bs bn) (Fr.of_below (P := fun _ => False) h) (fun _ _ h => h) (fun _ _ h => h), h3, h4, h5.trans (h.mono h6), Nat.le_trans h6 h.size, fun k hk => ⟨Nat.lt_of_lt_of_le (h7 k hk).1 h.size, (h7 k hk).2⟩⟩
theorem CQ.only (H : CQ bc bs bn B w W bw n y K) {K' : Nat → Prop} (h : ∀ k, K' k → K k) : CQ bc bs bn B w W bw n y K' := by
  obtain ⟨X, Y, F, h1, h2, h3, h4, h5, h6, h7⟩ := H
  exact ⟨X, Y, F, h1, h2, h3, h4, h5, h6, fun k hk => h7 k (h k hk)⟩
theorem CQ.alloc (H : CQ bc bs bn B w W bw n y K) (o : Obj) : CQ bc bs bn B w (W.alloc o) bw n y (fun k => k = W.heap.size) := by
  have H0 := H.later ((Below.refl W.heap.size W).alloc (Nat.le_refl _) o)
  obtain ⟨X, Y, F, h1, h2, h3, h4, h5, h6, h7⟩ := H
  obtain ⟨va, vb, sm, hw⟩ := h2.win
  have h2' := h2.fr (opT_co bc bs bn) (Fr.of_below (P := fun _ => False) ((Below.refl W.heap.size W).alloc (Nat.le_refl _) o)) (fun _ _ h => h) (fun _ _ h => h)
  exact ⟨X, Y, F, h1, h2', h3, h4, h5.alloc h6 o, by simp; omega, fun k hk => by
    subst hk
    exact ⟨by simp, fun q => by have := hw.ft _ q; omega, fun g => by have := (opT_co bc bs bn).glt _ _ _ h2.st g; omega⟩⟩
theorem cq_of {n' y' : Nat} {X Y : List (Int × Int)} {F : Nat → Prop} (h3 : ∀ k, F k → B ≤ k) (h4 : B ≤ bc ∧ B ≤ bs ∧ B ≤ bn) (h5 : Below B w W) (h6 : B ≤ W.heap.size) (h7 : ∀ k, K k → k < W.heap.size ∧ ¬ F k ∧ ¬ coG bc bs bn k)
    (e : Y.length = y') (h : StT coF (coOp bc bs bn) coN coOk (coG bc bs bn) (coI bc bs bn) W' bw (cw 0 n') n' X Y (FF F W W') ∧ Fr (fun k => F k ∨ coG bc bs bn k) W W') : CQ bc bs bn B w W' bw n' y' K ∧ Fr (fun k => ¬ K k) W W' := by
  refine ⟨⟨X, Y, _, e, h.1, fun k hk => hk.elim (h3 k) (fun q => Nat.le_trans h6 q.1), h4, h5.trans (h.2.below h6 (fun k hk => hk.elim (h3 k) (fun g => by rcases g with rfl | rfl | rfl; exact h4.1; exact h4.2.1; exact h4.2.2))), Nat.le_trans h6 h.2.size, fun k hk => ⟨Nat.lt_of_lt_of_le (h7 k hk).1 h.2.size, fun q => q.elim (h7 k hk).2.1 (fun q => by have := (h7 k hk).1; omega), (h7 k hk).2.2⟩⟩, h.2.mono (fun i q => Or.inl (fun hk => q.elim (h7 i hk).2.1 (h7 i hk).2.2))⟩
theorem call (H : CQ bc bs bn B w W bw n y K) :
    Calls Try.prog 10 #[.pointer (some ⟨bw, 0, none⟩)] W fun e w' => ∃ v, e = .returned v ∧ Hid (∃ n' y', n' + y' ≤ n + y + 1 ∧ CQ bc bs bn B w w' bw n' y' K ∧ Fr (fun k => ¬ K k) W w') := by
  have H0 := H
  obtain ⟨X, Y, F, e, h2, h3, h4, h5, h6, h7⟩ := H
  cases X with
  | nil =>
    cases Y with
    | nil => exact (allT_none (opT_co bc bs bn) h2).mono fun e' w' h => ⟨_, h.1, n, y, by omega, H0.later h.2, Fr.of_below h.2⟩
    | cons a r => exact (allT_b (opT_co bc bs bn) h2).mono fun e' w' h => ⟨_, h.1, n, y, by omega, H0.later h.2, Fr.of_below h.2⟩
  | cons a X =>
    cases Y with
    | nil => exact (allT_a (opT_co bc bs bn) h2).mono fun e' w' h => ⟨_, h.1, n, y, by omega, H0.later h.2, Fr.of_below h.2⟩
    | cons b r => exact (allT_ab (opT_co bc bs bn) h2).mono fun e' w' h => ⟨_, h.1, n + 1, y, by omega, cq_of h3 h4 h5 h6 h7 e h.2.out⟩
end
end Go.Proofs.Ytondchfhdhllhaa

namespace Go.Proofs.Ytondchfhdhllhaa
open Go.RowKit Go.Shelf
set_option linter.unusedVariables false

/-- What step leaves. -/
def SO1 (B : Nat) (w0 w' : World) (bw br : Nat) (nt : Int × Int) (K : Nat → Prop) : Prop := ∃ L, P2 B w0 w' bw br nt L L K
set_option maxRecDepth 100000 in
set_option maxHeartbeats 8000000 in
theorem step_push {B : Nat} {w0 w : World} {bw br : Nat} {nt : Int × Int} {L : List (Int × Int)} (sa sb sn : Int)  (H : P2 B w0 w bw br nt L L (fun _ => False)) :
    Calls Try.prog 15 #[.pointer (some ⟨bw, 0, none⟩), .pointer (some ⟨br, 0, none⟩), .agg #[.int .i64 1, .int .u64 sa, .int .u64 sb, .int .i64 sn]] w fun e w' => e = .returned (.bool true) ∧ Hid (SO1 B w0 w' bw br nt (fun _ => False)) := by
  have BO : Hid ((w.alloc (.cells #[.int .i64 1, .int .u64 sa, .int .u64 sb, .int .i64 sn] 33)).heap[w.heap.size]? = some (.cells #[.int .i64 1, .int .u64 sa, .int .u64 sb, .int .i64 sn] 33 (0, 0))) := World.alloc_heap_new w _
  have HP : Hid (P2 B w0 (w.alloc (.cells #[.int .i64 1, .int .u64 sa, .int .u64 sb, .int .i64 sn] 33)) bw br nt L L (fun k => k = w.heap.size)) := (H.alloc _).only (fun k q => Or.inr q)
  clear H
  go_enter Try.func15, Try.ntmps15
  go_wp2
  replace BO : Hid ((w.alloc (.cells #[.int .i64 1, .int .u64 sa, .int .u64 sb, .int .i64 sn] 33)).drew.heap[w.heap.size]? = some (.cells #[.int .i64 1, .int .u64 sa, .int .u64 sb, .int .i64 sn] 33 (0, 0))) := BO.out
  replace HP : Hid (P2 B w0 (w.alloc (.cells #[.int .i64 1, .int .u64 sa, .int .u64 sb, .int .i64 sn] 33)).drew bw br nt L L (fun k => k = w.heap.size)) := HP.out.later (Below.refl _ _).drew
  go_region_with (first | (go_at_call 12; refine (thing_any 1 sa sb sn _).mono ?_; rintro e u ⟨rfl, hb⟩; have BO' : Hid (u.heap[w.heap.size]? = some (.cells #[.int .i64 1, .int .u64 sa, .int .u64 sb, .int .i64 sn] 33 (0, 0))) := (hb.block _ (lt_heap BO.out)).trans BO.out; clear BO; have BO := BO'; clear BO'; have o0 : u.cell? ⟨w.heap.size, 0, none⟩ = some (.int .i64 1) := (Lib.cell_of_heap BO.out _).trans rfl; have o1 : u.cell? ⟨w.heap.size, 1, none⟩ = some (.int .u64 sa) := (Lib.cell_of_heap BO.out _).trans rfl; have o2 : u.cell? ⟨w.heap.size, 2, none⟩ = some (.int .u64 sb) := (Lib.cell_of_heap BO.out _).trans rfl; have o3 : u.cell? ⟨w.heap.size, 3, none⟩ = some (.int .i64 sn) := (Lib.cell_of_heap BO.out _).trans rfl; have HP' : Hid (P2 _ _ u _ _ _ _ _ _) := HP.out.later hb; clear HP hb; have HP := HP'; clear HP') | (go_at_call 9; refine (wPush HP.out (sa, sb)).mono ?_; rintro e u ⟨rfl, HQ⟩; have BO' : Hid (u.heap[w.heap.size]? = some (.cells #[.int .i64 1, .int .u64 sa, .int .u64 sb, .int .i64 sn] 33 (0, 0))) := HQ.out.2.heap BO.out (fun h => h rfl); clear BO; have BO := BO'; clear BO'; have o0 : u.cell? ⟨w.heap.size, 0, none⟩ = some (.int .i64 1) := (Lib.cell_of_heap BO.out _).trans rfl; have o1 : u.cell? ⟨w.heap.size, 1, none⟩ = some (.int .u64 sa) := (Lib.cell_of_heap BO.out _).trans rfl; have o2 : u.cell? ⟨w.heap.size, 2, none⟩ = some (.int .u64 sb) := (Lib.cell_of_heap BO.out _).trans rfl; have o3 : u.cell? ⟨w.heap.size, 3, none⟩ = some (.int .i64 sn) := (Lib.cell_of_heap BO.out _).trans rfl; have HP' : Hid (P2 _ _ u _ _ _ _ _ _) := HQ.out.1; clear HP HQ; have HP := HP'; clear HP') | (go_at_call 34; refine (rPush HP.out (sa, sb)).mono ?_; rintro e u ⟨rfl, HQ⟩; have BO' : Hid (u.heap[w.heap.size]? = some (.cells #[.int .i64 1, .int .u64 sa, .int .u64 sb, .int .i64 sn] 33 (0, 0))) := HQ.out.2.heap BO.out (fun h => h rfl); clear BO; have BO := BO'; clear BO'; have o0 : u.cell? ⟨w.heap.size, 0, none⟩ = some (.int .i64 1) := (Lib.cell_of_heap BO.out _).trans rfl; have o1 : u.cell? ⟨w.heap.size, 1, none⟩ = some (.int .u64 sa) := (Lib.cell_of_heap BO.out _).trans rfl; have o2 : u.cell? ⟨w.heap.size, 2, none⟩ = some (.int .u64 sb) := (Lib.cell_of_heap BO.out _).trans rfl; have o3 : u.cell? ⟨w.heap.size, 3, none⟩ = some (.int .i64 sn) := (Lib.cell_of_heap BO.out _).trans rfl; have HP' : Hid (P2 _ _ u _ _ _ _ _ _) := HQ.out.1; clear HP HQ; have HP := HP'; clear HP'))
  all_goals (
    go_wp2
    go_ret
    exact ⟨rfl, _, HP.out.only (fun _ q => q.elim)⟩)
end Go.Proofs.Ytondchfhdhllhaa

namespace Go.Proofs.Ytondchfhdhllhaa
open Go.RowKit Go.Shelf
set_option linter.unusedVariables false

/-- What step leaves. -/
def SO2 (B : Nat) (w0 w' : World) (bw br : Nat) (nt : Int × Int) (K : Nat → Prop) : Prop := ∃ L, P2 B w0 w' bw br nt L L K
set_option maxRecDepth 100000 in
set_option maxHeartbeats 8000000 in
theorem step_pop {B : Nat} {w0 w : World} {bw br : Nat} {nt : Int × Int} {L : List (Int × Int)} (sa sb sn : Int)  (H : P2 B w0 w bw br nt L L (fun _ => False)) :
    Calls Try.prog 15 #[.pointer (some ⟨bw, 0, none⟩), .pointer (some ⟨br, 0, none⟩), .agg #[.int .i64 2, .int .u64 sa, .int .u64 sb, .int .i64 sn]] w fun e w' => e = .returned (.bool true) ∧ Hid (SO2 B w0 w' bw br nt (fun _ => False)) := by
  have BO : Hid ((w.alloc (.cells #[.int .i64 2, .int .u64 sa, .int .u64 sb, .int .i64 sn] 33)).heap[w.heap.size]? = some (.cells #[.int .i64 2, .int .u64 sa, .int .u64 sb, .int .i64 sn] 33 (0, 0))) := World.alloc_heap_new w _
  have HP : Hid (P2 B w0 (w.alloc (.cells #[.int .i64 2, .int .u64 sa, .int .u64 sb, .int .i64 sn] 33)) bw br nt L L (fun k => k = w.heap.size)) := (H.alloc _).only (fun k q => Or.inr q)
  clear H
  go_enter Try.func15, Try.ntmps15
  go_wp2_with fail
  refine (wPop HP.out).mono ?_
  rintro e u ⟨rfl, HQ⟩
  obtain ⟨xv, hxv⟩ : ∃ xv, Hid (popV L = xv) := ⟨_, rfl⟩
  obtain ⟨ev, hev⟩ : ∃ ev, Hid (popE L = ev) := ⟨_, rfl⟩
  rw [hxv.out, hev.out]
  have HA : Hid (P2 B w0 (u.alloc (.cells #[.int .u64 xv.1, .int .u64 xv.2] 26)) bw br nt L.tail L (fun k => k = u.heap.size)) := (HQ.out.1.alloc _).only (fun k q => Or.inr q)
  have BX : Hid ((u.alloc (.cells #[.int .u64 xv.1, .int .u64 xv.2] 26)).heap[u.heap.size]? = some (.cells #[.int .u64 xv.1, .int .u64 xv.2] 26 (0, 0))) := World.alloc_heap_new u _
  clear HP HQ BO
  go_wp2_with fail
  have H2 := rPop HA.out
  rw [hxv.out, hev.out] at H2
  refine H2.mono ?_
  rintro e u2 ⟨rfl, HQ2⟩
  have bx := HQ2.out.2.heap BX.out (fun h => h rfl)
  have x0 : u2.cell? ⟨u.heap.size, 0, none⟩ = some (.int .u64 xv.1) := (Lib.cell_of_heap bx _).trans rfl
  have x1 : u2.cell? ⟨u.heap.size, 1, none⟩ = some (.int .u64 xv.2) := (Lib.cell_of_heap bx _).trans rfl
  have lx : u.heap.size < u2.heap.size := lt_heap bx
  clear H2 bx
  go_wp2
  go_ret
  refine ⟨rfl, L.tail, (HQ2.out.1.only (fun _ q => q.elim)).later ?_⟩
  go_grown
set_option maxRecDepth 100000 in
set_option maxHeartbeats 8000000 in
theorem step_other {B : Nat} {w0 w : World} {bw br : Nat} {nt : Int × Int} {L : List (Int × Int)} (sk sa sb sn : Int) (h1 : ¬ sk = 1) (h2 : ¬ sk = 2) (h3 : ¬ sk = 3) (h4 : ¬ sk = 4) (h5 : ¬ sk = 5) (H : P2 B w0 w bw br nt L L (fun _ => False)) :
    Calls Try.prog 15 #[.pointer (some ⟨bw, 0, none⟩), .pointer (some ⟨br, 0, none⟩), .agg #[.int .i64 sk, .int .u64 sa, .int .u64 sb, .int .i64 sn]] w fun e w' => e = .returned (.bool true) ∧ Hid (SO2 B w0 w' bw br nt (fun _ => False)) := by
  have BO : Hid ((w.alloc (.cells #[.int .i64 sk, .int .u64 sa, .int .u64 sb, .int .i64 sn] 33)).heap[w.heap.size]? = some (.cells #[.int .i64 sk, .int .u64 sa, .int .u64 sb, .int .i64 sn] 33 (0, 0))) := World.alloc_heap_new w _
  have HP : Hid (P2 B w0 (w.alloc (.cells #[.int .i64 sk, .int .u64 sa, .int .u64 sb, .int .i64 sn] 33)) bw br nt L L (fun k => k = w.heap.size)) := (H.alloc _).only (fun k q => Or.inr q)
  clear H
  have hb1 : (sk == 1) = false := by simpa using h1
  have hb2 : (sk == 2) = false := by simpa using h2
  have hb3 : (sk == 3) = false := by simpa using h3
  have hb4 : (sk == 4) = false := by simpa using h4
  have hb5 : (sk == 5) = false := by simpa using h5
  go_enter Try.func15, Try.ntmps15
  go_wp2
  go_ret
  exact ⟨rfl, _, HP.out.only (fun _ q => q.elim)⟩
end Go.Proofs.Ytondchfhdhllhaa

namespace Go.Proofs.Ytondchfhdhllhaa
open Go.RowKit Go.Shelf
set_option linter.unusedVariables false

/-- What step leaves. -/
def SO3 (B : Nat) (w0 w' : World) (bw br : Nat) (nt : Int × Int) (K : Nat → Prop) : Prop := ∃ L, P2 B w0 w' bw br nt L L K
set_option maxRecDepth 100000 in
set_option maxHeartbeats 8000000 in
theorem step_all {B : Nat} {w0 w : World} {bw br : Nat} {nt : Int × Int} {L : List (Int × Int)} (sa sb sn : Int)  (H : P2 B w0 w bw br nt L L (fun _ => False)) :
    Calls Try.prog 15 #[.pointer (some ⟨bw, 0, none⟩), .pointer (some ⟨br, 0, none⟩), .agg #[.int .i64 3, .int .u64 sa, .int .u64 sb, .int .i64 sn]] w fun e w' => e = .returned (.bool true) ∧ Hid (SO3 B w0 w' bw br nt (fun _ => False)) := by
  have BO : Hid ((w.alloc (.cells #[.int .i64 3, .int .u64 sa, .int .u64 sb, .int .i64 sn] 33)).heap[w.heap.size]? = some (.cells #[.int .i64 3, .int .u64 sa, .int .u64 sb, .int .i64 sn] 33 (0, 0))) := World.alloc_heap_new w _
  have HP : Hid (P2 B w0 (w.alloc (.cells #[.int .i64 3, .int .u64 sa, .int .u64 sb, .int .i64 sn] 33)) bw br nt L L (fun k => k = w.heap.size)) := (H.alloc _).only (fun k q => Or.inr q)
  clear H
  go_enter Try.func15, Try.ntmps15
  go_wp2
  replace BO : Hid ((w.alloc (.cells #[.int .i64 3, .int .u64 sa, .int .u64 sb, .int .i64 sn] 33)).drew.heap[w.heap.size]? = some (.cells #[.int .i64 3, .int .u64 sa, .int .u64 sb, .int .i64 sn] 33 (0, 0))) := BO.out
  replace HP : Hid (P2 B w0 (w.alloc (.cells #[.int .i64 3, .int .u64 sa, .int .u64 sb, .int .i64 sn] 33)).drew bw br nt L L (fun k => k = w.heap.size)) := HP.out.later (Below.refl _ _).drew
  go_region_with (first | (go_at_call 10; refine (wAll HP.out).mono ?_; rintro e u ⟨rfl, HQ⟩; have BO' : Hid (u.heap[w.heap.size]? = some (.cells #[.int .i64 3, .int .u64 sa, .int .u64 sb, .int .i64 sn] 33 (0, 0))) := HQ.out.2.heap BO.out (fun h => h rfl); clear BO; have BO := BO'; clear BO'; have o0 : u.cell? ⟨w.heap.size, 0, none⟩ = some (.int .i64 3) := (Lib.cell_of_heap BO.out _).trans rfl; have o1 : u.cell? ⟨w.heap.size, 1, none⟩ = some (.int .u64 sa) := (Lib.cell_of_heap BO.out _).trans rfl; have o2 : u.cell? ⟨w.heap.size, 2, none⟩ = some (.int .u64 sb) := (Lib.cell_of_heap BO.out _).trans rfl; have o3 : u.cell? ⟨w.heap.size, 3, none⟩ = some (.int .i64 sn) := (Lib.cell_of_heap BO.out _).trans rfl; obtain ⟨pr, cr, hrow⟩ := HQ.out.1.row; have HP' : Hid (P2 _ _ u _ _ _ _ _ _) := HQ.out.1; clear HP HQ; have HP := HP'; clear HP') | (go_at_call 16; refine (rAll HP.out).mono ?_; rintro e u ⟨rfl, HQ⟩; have BO' : Hid (u.heap[w.heap.size]? = some (.cells #[.int .i64 3, .int .u64 sa, .int .u64 sb, .int .i64 sn] 33 (0, 0))) := HQ.out.2.heap BO.out (fun h => h rfl); clear BO; have BO := BO'; clear BO'; have o0 : u.cell? ⟨w.heap.size, 0, none⟩ = some (.int .i64 3) := (Lib.cell_of_heap BO.out _).trans rfl; have o1 : u.cell? ⟨w.heap.size, 1, none⟩ = some (.int .u64 sa) := (Lib.cell_of_heap BO.out _).trans rfl; have o2 : u.cell? ⟨w.heap.size, 2, none⟩ = some (.int .u64 sb) := (Lib.cell_of_heap BO.out _).trans rfl; have o3 : u.cell? ⟨w.heap.size, 3, none⟩ = some (.int .i64 sn) := (Lib.cell_of_heap BO.out _).trans rfl; obtain ⟨pr, cr, hrow⟩ := HQ.out.1.row; have HP' : Hid (P2 _ _ u _ _ _ _ _ _) := HQ.out.1; clear HP HQ; have HP := HP'; clear HP') | (go_at_call 17; refine (wLen HP.out).mono ?_; rintro e u ⟨rfl, HQ⟩; have BO' : Hid (u.heap[w.heap.size]? = some (.cells #[.int .i64 3, .int .u64 sa, .int .u64 sb, .int .i64 sn] 33 (0, 0))) := HQ.out.2.heap BO.out (fun h => h rfl); clear BO; have BO := BO'; clear BO'; have o0 : u.cell? ⟨w.heap.size, 0, none⟩ = some (.int .i64 3) := (Lib.cell_of_heap BO.out _).trans rfl; have o1 : u.cell? ⟨w.heap.size, 1, none⟩ = some (.int .u64 sa) := (Lib.cell_of_heap BO.out _).trans rfl; have o2 : u.cell? ⟨w.heap.size, 2, none⟩ = some (.int .u64 sb) := (Lib.cell_of_heap BO.out _).trans rfl; have o3 : u.cell? ⟨w.heap.size, 3, none⟩ = some (.int .i64 sn) := (Lib.cell_of_heap BO.out _).trans rfl; obtain ⟨pr, cr, hrow⟩ := HQ.out.1.row; have HP' : Hid (P2 _ _ u _ _ _ _ _ _) := HQ.out.1; clear HP HQ; have HP := HP'; clear HP'))
  all_goals (
    go_wp2
    go_ret
    exact ⟨rfl, _, HP.out.only (fun _ q => q.elim)⟩)
end Go.Proofs.Ytondchfhdhllhaa

namespace Go.Proofs.Ytondchfhdhllhaa
open Go.RowKit Go.Shelf
set_option linter.unusedVariables false

/-- What step leaves. -/
def SO4 (B : Nat) (w0 w' : World) (bw br : Nat) (nt : Int × Int) (K : Nat → Prop) : Prop := ∃ L, P2 B w0 w' bw br nt L L K
set_option maxRecDepth 100000 in
theorem limit_eq4 (m : Int) : ∃ q : Nat, q ≤ 5000 ∧ ∀ W : World, Calls Try.prog 19 #[.int .i64 m] W fun e w' => e = .returned (.int .i64 (q : Nat)) ∧ w' = W := by
  by_cases h0 : m < 0
  · refine ⟨0, by omega, fun W => ?_⟩
    go_enter Try.func19, Try.ntmps19
    go_wp2
    go_ret
    exact ⟨rfl, rfl⟩
  · by_cases h1 : 5000 < m
    · refine ⟨5000, by omega, fun W => ?_⟩
      go_enter Try.func19, Try.ntmps19
      go_wp2
      go_ret
      exact ⟨rfl, rfl⟩
    · obtain ⟨q, rfl⟩ : ∃ q : Nat, m = (q : Int) := ⟨m.toNat, by omega⟩
      refine ⟨q, by omega, fun W => ?_⟩
      go_enter Try.func19, Try.ntmps19
      go_wp2
      go_ret
      exact ⟨rfl, rfl⟩
set_option maxRecDepth 100000 in
set_option maxHeartbeats 8000000 in
theorem step_many {B : Nat} {w0 w : World} {bw br : Nat} {nt : Int × Int} {L : List (Int × Int)} (sa sb sn : Int)  (H : P2 B w0 w bw br nt L L (fun _ => False)) :
    Calls Try.prog 15 #[.pointer (some ⟨bw, 0, none⟩), .pointer (some ⟨br, 0, none⟩), .agg #[.int .i64 4, .int .u64 sa, .int .u64 sb, .int .i64 sn]] w fun e w' => e = .returned (.bool true) ∧ Hid (SO4 B w0 w' bw br nt (fun _ => False)) := by
  have BO : Hid ((w.alloc (.cells #[.int .i64 4, .int .u64 sa, .int .u64 sb, .int .i64 sn] 33)).heap[w.heap.size]? = some (.cells #[.int .i64 4, .int .u64 sa, .int .u64 sb, .int .i64 sn] 33 (0, 0))) := World.alloc_heap_new w _
  have HP : Hid (P2 B w0 (w.alloc (.cells #[.int .i64 4, .int .u64 sa, .int .u64 sb, .int .i64 sn] 33)) bw br nt L L (fun k => k = w.heap.size)) := (H.alloc _).only (fun k q => Or.inr q)
  clear H
  obtain ⟨q, hq5, HLQ0⟩ := limit_eq4 sn
  have HLQ : Hid (∀ W : World, Calls Try.prog 19 #[.int .i64 sn] W fun e w' => e = .returned (.int .i64 (q : Nat)) ∧ w' = W) := HLQ0
  clear HLQ0
  go_enter Try.func15, Try.ntmps15
  go_wp2
  go_loopw [11] (fun vj wr => ∃ (j : Nat) (L1 : List (Int × Int)), j ≤ q ∧ vj = .int .i64 (j : Nat) ∧ Hid (P2 B w0 wr bw br nt L1 L1 (fun k => k = w.heap.size)) ∧ Hid (wr.heap[w.heap.size]? = some (.cells #[.int .i64 4, .int .u64 sa, .int .u64 sb, .int .i64 sn] 33 (0, 0)))) (fun vj _ => q - (intOf vj).toNat)
  case atStart => exact ⟨0, L, Nat.zero_le _, rfl, HP, BO⟩
  case round =>
    clear HP BO
    obtain ⟨j, L1, hj, rfl, HP, BO⟩ := hrel
    have o1 : wr.cell? ⟨w.heap.size, 1, none⟩ = some (.int .u64 sa) := (Lib.cell_of_heap BO.out _).trans rfl
    have o2 : wr.cell? ⟨w.heap.size, 2, none⟩ = some (.int .u64 sb) := (Lib.cell_of_heap BO.out _).trans rfl
    have o3 : wr.cell? ⟨w.heap.size, 3, none⟩ = some (.int .i64 sn) := (Lib.cell_of_heap BO.out _).trans rfl
    by_cases hjt : j < q
    · have hjt1 : (j : Int) < (q : Int) := by omega
      have hj0 : (0 : Int) ≤ (j : Int) := by omega
      go_wp2_with fail
      refine (HLQ.out _).mono ?_
      rintro e uu ⟨rfl, rfl⟩
      go_upto_region 15 with fail
      obtain ⟨xa, hxa⟩ : ∃ xa, Hid (IntKind.u64.wrap (sa + (j : Int)) = xa) := ⟨_, rfl⟩
      rw [hxa.out]
      have BX : Hid ((uu.alloc (.cells #[.int .u64 xa, .int .u64 sb] 26)).drew.heap[uu.heap.size]? = some (.cells #[.int .u64 xa, .int .u64 sb] 26 (0, 0))) := World.alloc_heap_new uu _
      replace BO : Hid ((uu.alloc (.cells #[.int .u64 xa, .int .u64 sb] 26)).drew.heap[w.heap.size]? = some (.cells #[.int .i64 4, .int .u64 sa, .int .u64 sb, .int .i64 sn] 33 (0, 0))) := (Below.heap_alloc _ _ _ (lt_heap BO.out)).trans BO.out
      replace HP : Hid (P2 B w0 (uu.alloc (.cells #[.int .u64 xa, .int .u64 sb] 26)).drew bw br nt L1 L1 (fun k => k = w.heap.size ∨ k = uu.heap.size)) := (HP.out.alloc _).later (Below.refl _ _).drew
      clear o1 o2 o3 hxa
      go_region_with (first | (go_at_call 9; refine (wPush HP.out (xa, sb)).mono ?_; rintro e u ⟨rfl, HQ⟩; have bx' := HQ.out.2.heap BX.out (fun h => h (Or.inr rfl)); have bo' := HQ.out.2.heap BO.out (fun h => h (Or.inl rfl)); clear BX BO; have x0 : u.cell? ⟨uu.heap.size, 0, none⟩ = some (.int .u64 xa) := (Lib.cell_of_heap bx' _).trans rfl; have x1 : u.cell? ⟨uu.heap.size, 1, none⟩ = some (.int .u64 sb) := (Lib.cell_of_heap bx' _).trans rfl; have BX : Hid (u.heap[uu.heap.size]? = _) := bx'; have BO : Hid (u.heap[w.heap.size]? = _) := bo'; clear bx' bo'; have HP' : Hid (P2 _ _ u _ _ _ _ _ _) := HQ.out.1; clear HP HQ; have HP := HP'; clear HP') | (go_at_call 34; refine (rPush HP.out (xa, sb)).mono ?_; rintro e u ⟨rfl, HQ⟩; have bx' := HQ.out.2.heap BX.out (fun h => h (Or.inr rfl)); have bo' := HQ.out.2.heap BO.out (fun h => h (Or.inl rfl)); clear BX BO; have x0 : u.cell? ⟨uu.heap.size, 0, none⟩ = some (.int .u64 xa) := (Lib.cell_of_heap bx' _).trans rfl; have x1 : u.cell? ⟨uu.heap.size, 1, none⟩ = some (.int .u64 sb) := (Lib.cell_of_heap bx' _).trans rfl; have BX : Hid (u.heap[uu.heap.size]? = _) := bx'; have BO : Hid (u.heap[w.heap.size]? = _) := bo'; clear bx' bo'; have HP' : Hid (P2 _ _ u _ _ _ _ _ _) := HQ.out.1; clear HP HQ; have HP := HP'; clear HP'))
      all_goals (
        go_wp2
        refine ⟨⟨j + 1, pushL L1 (xa, sb), by omega, ?e1, HP.out.only (fun _ q => Or.inl q), BO⟩, ?e3⟩
        case e1 => go_num
        case e3 => (simp [intOf]; omega))
    · have hjt1 : ¬ (j : Int) < (q : Int) := by omega
      go_wp2_with fail
      refine (HLQ.out _).mono ?_
      rintro e u ⟨rfl, rfl⟩
      go_wp2
      go_ret
      exact ⟨rfl, _, HP.out.only (fun _ q => q.elim)⟩
end Go.Proofs.Ytondchfhdhllhaa

namespace Go.Proofs.Ytondchfhdhllhaa
open Go.RowKit Go.Shelf
set_option linter.unusedVariables false

/-- What step leaves. -/
def SO5 (B : Nat) (w0 w' : World) (bw br : Nat) (nt : Int × Int) (K : Nat → Prop) : Prop := ∃ L, P2 B w0 w' bw br nt L L K
set_option maxRecDepth 100000 in
theorem limit_eq5 (m : Int) : ∃ q : Nat, q ≤ 5000 ∧ ∀ W : World, Calls Try.prog 19 #[.int .i64 m] W fun e w' => e = .returned (.int .i64 (q : Nat)) ∧ w' = W := by
  by_cases h0 : m < 0
  · refine ⟨0, by omega, fun W => ?_⟩
    go_enter Try.func19, Try.ntmps19
    go_wp2
    go_ret
    exact ⟨rfl, rfl⟩
  · by_cases h1 : 5000 < m
    · refine ⟨5000, by omega, fun W => ?_⟩
      go_enter Try.func19, Try.ntmps19
      go_wp2
      go_ret
      exact ⟨rfl, rfl⟩
    · obtain ⟨q, rfl⟩ : ∃ q : Nat, m = (q : Int) := ⟨m.toNat, by omega⟩
      refine ⟨q, by omega, fun W => ?_⟩
      go_enter Try.func19, Try.ntmps19
      go_wp2
      go_ret
      exact ⟨rfl, rfl⟩
set_option maxRecDepth 100000 in
set_option maxHeartbeats 8000000 in
theorem step_few {B : Nat} {w0 w : World} {bw br : Nat} {nt : Int × Int} {L : List (Int × Int)} (sa sb sn : Int)  (H : P2 B w0 w bw br nt L L (fun _ => False)) :
    Calls Try.prog 15 #[.pointer (some ⟨bw, 0, none⟩), .pointer (some ⟨br, 0, none⟩), .agg #[.int .i64 5, .int .u64 sa, .int .u64 sb, .int .i64 sn]] w fun e w' => e = .returned (.bool true) ∧ Hid (SO5 B w0 w' bw br nt (fun _ => False)) := by
  have BO : Hid ((w.alloc (.cells #[.int .i64 5, .int .u64 sa, .int .u64 sb, .int .i64 sn] 33)).heap[w.heap.size]? = some (.cells #[.int .i64 5, .int .u64 sa, .int .u64 sb, .int .i64 sn] 33 (0, 0))) := World.alloc_heap_new w _
  have HP : Hid (P2 B w0 (w.alloc (.cells #[.int .i64 5, .int .u64 sa, .int .u64 sb, .int .i64 sn] 33)) bw br nt L L (fun k => k = w.heap.size)) := (H.alloc _).only (fun k q => Or.inr q)
  clear H
  obtain ⟨q, hq5, HLQ0⟩ := limit_eq5 sn
  have HLQ : Hid (∀ W : World, Calls Try.prog 19 #[.int .i64 sn] W fun e w' => e = .returned (.int .i64 (q : Nat)) ∧ w' = W) := HLQ0
  clear HLQ0
  go_enter Try.func15, Try.ntmps15
  go_wp2
  go_loopw [13] (fun vj wr => ∃ (j : Nat) (L1 : List (Int × Int)), j ≤ q ∧ vj = .int .i64 (j : Nat) ∧ Hid (P2 B w0 wr bw br nt L1 L1 (fun k => k = w.heap.size)) ∧ Hid (wr.heap[w.heap.size]? = some (.cells #[.int .i64 5, .int .u64 sa, .int .u64 sb, .int .i64 sn] 33 (0, 0)))) (fun vj _ => q - (intOf vj).toNat)
  case atStart => exact ⟨0, L, Nat.zero_le _, rfl, HP, BO⟩
  case round =>
    clear HP BO
    obtain ⟨j, L1, hj, rfl, HP, BO⟩ := hrel
    have o1 : wr.cell? ⟨w.heap.size, 1, none⟩ = some (.int .u64 sa) := (Lib.cell_of_heap BO.out _).trans rfl
    have o2 : wr.cell? ⟨w.heap.size, 2, none⟩ = some (.int .u64 sb) := (Lib.cell_of_heap BO.out _).trans rfl
    have o3 : wr.cell? ⟨w.heap.size, 3, none⟩ = some (.int .i64 sn) := (Lib.cell_of_heap BO.out _).trans rfl
    by_cases hjt : j < q
    · have hjt1 : (j : Int) < (q : Int) := by omega
      have hj0 : (0 : Int) ≤ (j : Int) := by omega
      go_wp2_with fail
      refine (HLQ.out _).mono ?_
      rintro e uu ⟨rfl, rfl⟩
      go_wp2_with fail
      refine (wPop HP.out).mono ?_
      rintro e u ⟨rfl, HQ⟩
      obtain ⟨xv, hxv⟩ : ∃ xv, Hid (popV L1 = xv) := ⟨_, rfl⟩
      obtain ⟨ev, hev⟩ : ∃ ev, Hid (popE L1 = ev) := ⟨_, rfl⟩
      rw [hxv.out, hev.out]
      have HA : Hid (P2 B w0 (u.alloc (.cells #[.int .u64 xv.1, .int .u64 xv.2] 26)) bw br nt L1.tail L1 (fun k => k = w.heap.size ∨ k = u.heap.size)) := HQ.out.1.alloc _
      have BX : Hid ((u.alloc (.cells #[.int .u64 xv.1, .int .u64 xv.2] 26)).heap[u.heap.size]? = some (.cells #[.int .u64 xv.1, .int .u64 xv.2] 26 (0, 0))) := World.alloc_heap_new u _
      have bo := HQ.out.2.heap BO.out (fun h => h rfl)
      have BO2 : Hid ((u.alloc (.cells #[.int .u64 xv.1, .int .u64 xv.2] 26)).heap[w.heap.size]? = some (.cells #[.int .i64 5, .int .u64 sa, .int .u64 sb, .int .i64 sn] 33 (0, 0))) := (Below.heap_alloc _ _ _ (lt_heap bo)).trans bo
      clear HP HQ BO bo
      go_wp2_with fail
      have H2 := rPop HA.out
      rw [hxv.out, hev.out] at H2
      refine H2.mono ?_
      rintro e u2 ⟨rfl, HQ2⟩
      have bx := HQ2.out.2.heap BX.out (fun h => h (Or.inr rfl))
      have bo := HQ2.out.2.heap BO2.out (fun h => h (Or.inl rfl))
      have x0 : u2.cell? ⟨u.heap.size, 0, none⟩ = some (.int .u64 xv.1) := (Lib.cell_of_heap bx _).trans rfl
      have x1 : u2.cell? ⟨u.heap.size, 1, none⟩ = some (.int .u64 xv.2) := (Lib.cell_of_heap bx _).trans rfl
      have lx : u.heap.size < u2.heap.size := lt_heap bx
      have BO3 : Hid (_) := bo
      clear H2 bx bo
      go_wp2
      exact ⟨⟨j + 1, L1.tail, by omega, by go_num, (HQ2.out.1.only (fun _ q => Or.inl q)).later (by go_grown), (Below.heap_alloc _ _ _ (lt_heap BO3.out)).trans BO3.out⟩, by simp [intOf]; omega⟩
    · have hjt1 : ¬ (j : Int) < (q : Int) := by omega
      go_wp2_with fail
      refine (HLQ.out _).mono ?_
      rintro e u ⟨rfl, rfl⟩
      go_wp2
      go_ret
      exact ⟨rfl, _, HP.out.only (fun _ q => q.elim)⟩
end Go.Proofs.Ytondchfhdhllhaa

namespace Go.Proofs.Ytondchfhdhllhaa
open Go.RowKit Go.Shelf
set_option linter.unusedVariables false

/-- A window as it stands, with its operation's state. -/
structure StS (f : ByteArray → ByteArray → ByteArray) (op : Value) (nt : ByteArray) (ok : Nat → ByteArray → Prop) (G : Nat → Prop) (I : Nat → World → Prop) (w : World) (bw : Nat) (c : Int) (n : Nat) (X Y : List (ByteArray)) (F : Nat → Prop) : Prop where
  win : ∃ va vb sm, WinS f w bw op nt c X Y F va vb sm
  st : I n w
  okX : ∀ x ∈ X, ok 1 x
  okY : ∀ x ∈ Y, ok 1 x
  dis : ∀ k, F k → ¬ G k
  lim : X.length + Y.length ≤ 4096
theorem inTS : (Try.prog.info? 69).map (fun i => (i.zero, i.size, i.bytes)) = some (some (.agg #[.string ByteArray.empty, .string ByteArray.empty]), 2, 32) := by kernel_rfl
theorem inES : (Try.prog.info? 9).map (fun i => (i.zero, i.size, i.bytes)) = some (some (.string ByteArray.empty), 1, 16) := by kernel_rfl
theorem StS.fr {f : ByteArray → ByteArray → ByteArray} {w : World} {bw : Nat} {op : Value} {nt : ByteArray} {c : Int} {X Y : List (ByteArray)} {F : Nat → Prop} {ok : Nat → ByteArray → Prop} {G : Nat → Prop} {I : Nat → World → Prop} {n : Nat} {w' : World} {P : Nat → Prop} (O : OpS op f ok G I) (H : StS f op nt ok G I w bw c n X Y F) (h : Fr P w w') (hp : ∀ k, F k → ¬ P k) (hg : ∀ k, G k → ¬ P k) : StS f op nt ok G I w' bw c n X Y F := by
  obtain ⟨va, vb, sm, H1⟩ := H.win
  exact ⟨⟨va, vb, sm, H1.fr h hp⟩, O.stay _ _ _ _ H.st h hg, H.okX, H.okY, H.dis, H.lim⟩

set_option maxRecDepth 100000 in
set_option maxHeartbeats 4000000 in
theorem newS_any (f : ByteArray → ByteArray → ByteArray) (K : FuncId) (caps : Array Value) (nt : ByteArray) (w : World) :
    Calls Try.prog 22 #[.func (.func K) #[] caps, (.string nt)] w fun e w' => ∃ bw, e = .returned (.pointer (some ⟨bw, 0, none⟩)) ∧ w.heap.size ≤ bw ∧ Below w.heap.size w w' ∧ WinS f w' bw (.func (.func K) #[] caps) nt 0 [] [] (fun k => k = bw) (.slice none 0 0) (.slice none 0 0) ⟨#[]⟩ := by
  go_enter Try.func22, Try.ntmps22
  go_wp2
  go_ret
  refine ⟨w.heap.size, rfl, by omega, by go_grown, ⟨?_, ⟨rfl, .inl ⟨rfl, rfl⟩⟩, ⟨rfl, .inl ⟨rfl, rfl⟩⟩, (fun x r h => by cases h), by simp, rfl, (fun k h => by cases h), (fun k h => by cases h), (fun k h => by subst h; simp)⟩⟩
  exact World.alloc_heap_new w _

theorem pushS_end {f : ByteArray → ByteArray → ByteArray} {w W w2 : World} {bw : Nat} {op : Value} {nt : ByteArray} {c : Int} {X Y : List (ByteArray)} {F : Nat → Prop} {va vb v' : Value} {sm x : ByteArray} (hF : ∀ k, F k → k < w.heap.size) (hs : w.heap.size ≤ W.heap.size)
    (blk : W.heap[bw]? = some (.cells #[op, .string nt, .int .i64 c, va, vb, .string sm] 67 (0, 0))) (ra : W.ownsRow 0 69 2 va X.length (tflS (tls f X).reverse)) (rb : W.ownsRow 0 9 1 vb Y.length (flS Y))
    (fw : F bw) (fa : ∀ k, va.ownBlock = some k → F k) (fb : ∀ k, vb.ownBlock = some k → F k) (lim : X.length + Y.length < 4096) (hsum : ∀ y r, Y ++ [x] = y :: r → sm = sumL f y r)
    (h2 : w2.ownsRow 0 9 1 v' (Y.length + 1) (flS Y ++ [.string x])) (h3 : (W.alloc (.cells #[.string x] 9)).grownBy w2 vb.ownBlock) (h5 : v'.ownBlock = vb.ownBlock ∨ v'.ownBlock = some (W.heap.size + 1)) :
    ∃ p c2, v' = .slice p (Y.length + 1) c2 ∧ w2.cell? ⟨bw, 4, none⟩ = some vb ∧ w2.frozen? ⟨bw, 4, none⟩ = false ∧
      Hid (WinS f (w2.setCell ⟨bw, 4, none⟩ v') bw op nt c X (Y ++ [x]) (FF F w (w2.setCell ⟨bw, 4, none⟩ v')) va v' sm ∧ Fr F W (w2.setCell ⟨bw, 4, none⟩ v')) := by
  obtain ⟨p, c2, hv⟩ := row_form h2
  have ha1 := (Fr.refl (fun _ => False) W).alloc (.cells #[.string x] 9)
  have blk1 := ha1.heap blk (fun h => h)
  have rb1 := ha1.row rb (fun _ _ h => h)
  have ra1 := ha1.row ra (fun _ _ h => h)
  have hg2 : Fr (fun k => vb.ownBlock = some k) (W.alloc (.cells #[.string x] 9)) w2 := (Fr.refl _ _).grown h3 (fun k e => Or.inl e)
  have blk2 := hg2.heap blk1 (row_ne rb1 blk1 (by decide))
  have ra2 := hg2.row ra1 (fun k e e' => row_ne2 ra1 rb1 (by decide) k e e')
  have hs3 : Fr (fun k => k = bw) w2 (w2.setCell ⟨bw, 4, none⟩ v') := (Fr.refl (fun k => k = bw) w2).setCell (p := ⟨bw, 4, none⟩) (Or.inl rfl) _
  have ra3 := hs3.row ra2 (fun k e e' => row_ne ra2 blk2 (by decide) (e' ▸ e))
  have rb3 := hs3.row h2 (fun k e e' => row_ne h2 blk2 (by decide) (e' ▸ e))
  have hz1 : W.heap.size + 1 ≤ w2.heap.size := by have := h3.size; simpa using this
  have hz3 := hs3.size
  refine ⟨p, c2, hv, (Lib.cell_of_heap blk2 _).trans rfl, Lib.frozen_of_heap blk2 _, ⟨⟨?_, ra3, ?_, hsum, ?_, Or.inl fw, fun k e => Or.inl (fa k e), ?_, ?_⟩, ?_⟩⟩
  · rw [set_heap blk2]; rfl
  · rw [List.length_append, flS_snoc]; exact rb3
  · simp; omega
  · intro k e
    have hlt := (World.ownsRow.lt rb3 k e).2
    rcases h5 with h5 | h5
    · exact Or.inl (fb k (by rw [← h5]; exact e))
    · rw [h5] at e
      injection e with e
      refine Or.inr ⟨?_, hlt⟩
      omega
  · intro k hk
    rcases hk with hk | hk
    · have := hF k hk; omega
    · exact hk.2
  · exact (((ha1.mono (fun i h => h.elim)).trans hg2 (fun k e => Or.inl (fb k e))).trans hs3 (fun k e => Or.inl (e ▸ fw)))
end Go.Proofs.Ytondchfhdhllhaa

namespace Go.Proofs.Ytondchfhdhllhaa
open Go.RowKit Go.Shelf
set_option linter.unusedVariables false

theorem pushS_fin {f : ByteArray → ByteArray → ByteArray} {w : World} {bw : Nat} {op : Value} {nt : ByteArray} {c : Int} {X Y : List (ByteArray)} {F : Nat → Prop} {ok : Nat → ByteArray → Prop} {G : Nat → Prop} {I : Nat → World → Prop} {n : Nat} {c' : Int} {n' : Nat} {W w4 : World} {x sm' : ByteArray} {va' vb' : Value} (O : OpS op f ok G I) (H : StS f op nt ok G I w bw c n X Y F) (hx : ok 1 x) (hl : X.length + Y.length < 4096) (HFW : Fr (fun k => F k ∨ G k) w W) (IW : I n' W)
    (HE : WinS f w4 bw op nt c' X (Y ++ [x]) (FF F w w4) va' vb' sm' ∧ Fr F W w4) : Hid (StS f op nt ok G I w4 bw c' n' X (Y ++ [x]) (FF F w w4) ∧ Fr (fun k => F k ∨ G k) w w4) := by
  refine ⟨⟨⟨_, _, _, HE.1⟩, O.stay _ _ _ _ IW HE.2 (fun k g h => H.dis k h g), H.okX, ?_, ?_, by simp; omega⟩, HFW.trans HE.2 (fun i h => Or.inl (Or.inl h))⟩
  · intro z hz
    rcases List.mem_append.1 hz with hz | hz
    · exact H.okY z hz
    · simp at hz; subst hz; exact hx
  · intro k hk g
    rcases hk with hk | hk
    · exact H.dis k hk g
    · have := O.glt _ _ _ H.st g; omega

set_option maxRecDepth 100000 in
set_option maxHeartbeats 8000000 in
theorem pushS_first {f : ByteArray → ByteArray → ByteArray} {w : World} {bw : Nat} {op : Value} {nt : ByteArray} {c : Int} {X : List (ByteArray)} {F : Nat → Prop} {ok : Nat → ByteArray → Prop} {G : Nat → Prop} {I : Nat → World → Prop} {n : Nat}  (O : OpS op f ok G I) (x : ByteArray) (hx : ok 1 x) (H : StS f op nt ok G I w bw c n X [] F) (hl : X.length + 0 < 4096) :
    Calls Try.prog 24 #[.pointer (some ⟨bw, 0, none⟩), (.string x)] w fun e w' => e = .returned (.int .i64 0) ∧ Hid (StS f op nt ok G I w' bw c n X ([] ++ [x]) (FF F w w') ∧ Fr (fun k => F k ∨ G k) w w') := by
  obtain ⟨va, vb, sm, H1⟩ := H.win
  obtain ⟨pa, ca, rfl⟩ := row_form H1.ra
  obtain ⟨pb, cb, rfl⟩ := row_form H1.rb
  obtain ⟨i0, hi, hz0, hz1, hz2⟩ := info_parts inES
  have hlt := lt_heap H1.blk
  have HL : Hid (∀ W, Below w.heap.size w W → Calls Try.prog 28 #[.pointer (some ⟨bw, 0, none⟩)] W fun e w' => e = .returned (.int .i64 ((X.length + 0 : Nat) : Int)) ∧ Below W.heap.size W w') := fun W hW =>
    (lenS_any (H1.fr (Fr.of_below (P := fun _ => False) hW) (fun _ _ h => h))).mono (fun e w' h => ⟨h.1, by obtain ⟨q, rfl⟩ := h.2; exact Below.drewN (Below.refl _ _) q⟩)
  have hl1 : ¬ (4096 : Int) ≤ ((X.length + 0 : Nat) : Int) := by omega
  obtain ⟨m, hm⟩ : ∃ m, Hid (X.length + 0 = m) := ⟨_, rfl⟩
  rw [hm.out] at HL hl1
  go_enter Try.func24, Try.ntmps24
  go_wp2_with fail
  refine (HL.out _ (by go_grown)).mono ?_
  rintro e w1 ⟨rfl, hb1⟩
  have hb0 : Below w.heap.size w w1 := hb1
  have H2 : Hid (WinS f w1 bw op nt c X [] F (.slice pa X.length ca) (.slice pb 0 cb) sm) := H1.fr (Fr.of_below (P := fun _ => False) hb0) (fun _ _ h => h)
  have hI1 : Hid (I n w1) := O.stay _ _ _ _ H.st (Fr.of_below (P := fun _ => False) hb0) (fun _ _ h => h)
  have hlt1 := lt_heap H2.out.blk
  have hsz1 := hb0.size
  have gv : w1.cell? ⟨bw, 4, none⟩ = some (.slice pb 0 cb) := (Lib.cell_of_heap H2.out.blk _).trans rfl
  have g5 : w1.cell? ⟨bw, 5, none⟩ = some (.string sm) := (Lib.cell_of_heap H2.out.blk _).trans rfl
  have gf5 : w1.frozen? ⟨bw, 5, none⟩ = false := Lib.frozen_of_heap H2.out.blk _
  clear hb1 HL
  go_upto_region 6 with fail
  refine wp_world ?_
  intro W hW
  have HF1 : Hid (Fr (fun k => k = bw ∨ G k) w1 W) := by rw [hW]; exact ((Fr.refl (fun k => k = bw) w1).setCell (p := ⟨bw, 5, none⟩) (Or.inl rfl) _).mono (fun i e => Or.inl (Or.inl e))
  have blkW : W.heap[bw]? = some (.cells #[op, .string nt, .int .i64 c, (.slice pa X.length ca), (.slice pb 0 cb), .string x] 67 (0, 0)) := by rw [hW, (set_heap H2.out.blk _)]; rfl
  have IW : Hid (I n W) := by rw [hW]; exact O.stay _ _ _ _ hI1.out ((Fr.refl (fun k => k = bw) w1).setCell (p := ⟨bw, 5, none⟩) (Or.inl rfl) _) (fun k hk e => H.dis bw H1.fw (e ▸ hk))
  have hW0 : Hid (∀ k, F k → ¬ k = bw → ¬ (k = bw ∨ G k)) := fun k hk hn h => h.elim hn (H.dis k hk)
  have raW : Hid (W.ownsRow 0 69 2 (.slice pa X.length ca) X.length (tflS (tls f X).reverse)) := HF1.out.row H2.out.ra (fun k e => hW0.out k (H1.fa k e) (fun h => row_ne H2.out.ra H2.out.blk (by decide) (h ▸ e)))
  have rbW : Hid (W.ownsRow 0 9 1 (.slice pb 0 cb) 0 (flS [])) := HF1.out.row H2.out.rb (fun k e => hW0.out k (H1.fb k e) (fun h => row_ne H2.out.rb H2.out.blk (by decide) (h ▸ e)))
  have HFW : Hid (Fr (fun k => F k ∨ G k) w W) := (Fr.of_below hb0).trans HF1.out (fun i h => h.elim (fun e => Or.inl (Or.inl (e ▸ H1.fw))) (fun g => Or.inl (Or.inr g)))
  have hszW : w.heap.size ≤ W.heap.size := HFW.out.size
  have HSUM : Hid (∀ y' r', [] ++ [x] = y' :: r' → x = sumL f y' r') := fun y' r' h => by cases h; rfl
  have yv : W.cell? ⟨bw, 4, none⟩ = some (.slice pb 0 cb) := (Lib.cell_of_heap blkW _).trans rfl
  have hbw : bw < W.heap.size := lt_heap blkW
  have BW : Hid (_) := blkW
  clear hW blkW gv g5 gf5 hI1 HF1 hb0 hlt1 hsz1 hW0
  go_wp2_with (at_builtin; refine wpList_append_own_at _ rfl _ _ 52 rfl 0 9 i0 (.string ByteArray.empty) 1 16 Try.underlying52 hi hz0 hz1 hz2 rfl (by decide) _ _ _ rfl (World.ownsRow.alloc rbW.out _) ⟨W.heap.size, 0, none⟩ 1 1 [.string x] rfl rfl ?cc1 ?cc2 ?cc3 ?cc4 (Nat.zero_le _) ?_)
  case cc1 => (intro j u hj; rw [Addr.add_lit]; (rcases j with _ | j) <;> simp at hj <;> subst hj <;> simp (maxDischargeDepth := 12) [go_sem])
  case cc2 => (intro u hu; simp at hu; subst hu; rfl)
  case cc3 => unfold maxLen; omega
  case cc4 => omega
  intro v' w3 h2 h3 _ h5
  obtain ⟨pv, cv, rfl, k1, k2, HE⟩ := pushS_end H1.ft hszW BW.out raW.out rbW.out H1.fw H1.fa H1.fb (by simpa using hl) HSUM.out h2 h3 h5
  clear h2 h3 h5
  go_wp2
  go_ret
  exact ⟨rfl, pushS_fin O H hx (by simpa using hl) HFW.out IW.out HE.out⟩

set_option maxRecDepth 100000 in
set_option maxHeartbeats 8000000 in
theorem pushS_more {f : ByteArray → ByteArray → ByteArray} {w : World} {bw : Nat} {op : Value} {nt : ByteArray} {c : Int} {X : List (ByteArray)} {F : Nat → Prop} {ok : Nat → ByteArray → Prop} {G : Nat → Prop} {I : Nat → World → Prop} {n : Nat} {y : ByteArray} {r : List (ByteArray)} (O : OpS op f ok G I) (x : ByteArray) (hx : ok 1 x) (H : StS f op nt ok G I w bw c n X (y :: r) F) (hl : X.length + (r.length + 1) < 4096) :
    Calls Try.prog 24 #[.pointer (some ⟨bw, 0, none⟩), (.string x)] w fun e w' => e = .returned (.int .i64 0) ∧ Hid (StS f op nt ok G I w' bw (wrap64 (c + 1)) (n + 1) X ((y :: r) ++ [x]) (FF F w w') ∧ Fr (fun k => F k ∨ G k) w w') := by
  obtain ⟨va, vb, sm, H1⟩ := H.win
  obtain ⟨pa, ca, rfl⟩ := row_form H1.ra
  obtain ⟨pb, cb, rfl⟩ := row_form H1.rb
  obtain ⟨i0, hi, hz0, hz1, hz2⟩ := info_parts inES
  have hlt := lt_heap H1.blk
  have HL : Hid (∀ W, Below w.heap.size w W → Calls Try.prog 28 #[.pointer (some ⟨bw, 0, none⟩)] W fun e w' => e = .returned (.int .i64 ((X.length + (r.length + 1) : Nat) : Int)) ∧ Below W.heap.size W w') := fun W hW =>
    (lenS_any (H1.fr (Fr.of_below (P := fun _ => False) hW) (fun _ _ h => h))).mono (fun e w' h => ⟨h.1, by obtain ⟨q, rfl⟩ := h.2; exact Below.drewN (Below.refl _ _) q⟩)
  have hl1 : ¬ (4096 : Int) ≤ ((X.length + (r.length + 1) : Nat) : Int) := by omega
  obtain ⟨m, hm⟩ : ∃ m, Hid (X.length + (r.length + 1) = m) := ⟨_, rfl⟩
  rw [hm.out] at HL hl1
  go_enter Try.func24, Try.ntmps24
  go_wp2_with fail
  refine (HL.out _ (by go_grown)).mono ?_
  rintro e w1 ⟨rfl, hb1⟩
  have hb0 : Below w.heap.size w w1 := hb1
  have H2 : Hid (WinS f w1 bw op nt c X (y :: r) F (.slice pa X.length ca) (.slice pb (r.length + 1) cb) sm) := H1.fr (Fr.of_below (P := fun _ => False) hb0) (fun _ _ h => h)
  have hI1 : Hid (I n w1) := O.stay _ _ _ _ H.st (Fr.of_below (P := fun _ => False) hb0) (fun _ _ h => h)
  have hlt1 := lt_heap H2.out.blk
  have hsz1 := hb0.size
  have gv : w1.cell? ⟨bw, 4, none⟩ = some (.slice pb (r.length + 1) cb) := (Lib.cell_of_heap H2.out.blk _).trans rfl
  have g5 : w1.cell? ⟨bw, 5, none⟩ = some (.string sm) := (Lib.cell_of_heap H2.out.blk _).trans rfl
  have gf5 : w1.frozen? ⟨bw, 5, none⟩ = false := Lib.frozen_of_heap H2.out.blk _
  clear hb1 HL
  have gy : ¬ ((r.length : Int) + 1 = 0) := by omega
  have hsm : Hid (sm = sumL f y r) := H1.sum y r rfl
  have hoks : ok (1 + r.length) sm := by rw [hsm.out]; exact ok_sumL O.okf r y 1 (H.okY y (by simp)) (fun z hz => H.okY z (by simp [hz])) (by omega)
  have HJ : Hid (∀ W, Below w1.heap.size w1 W → Calls Try.prog 37 #[.pointer (some ⟨bw, 0, none⟩), (.string sm), (.string x)] W fun e w' => e = .returned (.string (f sm x)) ∧ Hid (I (n + 1) w' ∧ Fr (fun k => k = bw ∨ G k) W w' ∧
      w'.heap[bw]? = some (.cells #[op, .string nt, .int .i64 (wrap64 (c + 1)), (.slice pa X.length ca), (.slice pb (r.length + 1) cb), .string sm] 67 (0, 0)))) := fun W hW => joinS_any O sm x hoks hx (by omega) (H2.out.fr (Fr.of_below (P := fun _ => False) hW) (fun _ _ h => h)) (O.stay _ _ _ _ hI1.out (Fr.of_below (P := fun _ => False) hW) (fun _ _ h => h)) H.dis
  go_upto_region 5 with fail
  go_wp2_with fail
  refine (HJ.out _ (by first | exact (Below.refl _ w1).drew | exact Below.refl _ w1)).mono ?_
  rintro e w2 ⟨rfl, hJ⟩
  have e2 := hJ.out.2.2
  have k5 : w2.cell? ⟨bw, 5, none⟩ = some (.string sm) := (Lib.cell_of_heap e2 _).trans rfl
  have kf5 : w2.frozen? ⟨bw, 5, none⟩ = false := Lib.frozen_of_heap e2 _
  clear e2
  go_upto_region 6 with fail
  refine wp_world ?_
  intro W hW
  have HF1 : Hid (Fr (fun k => k = bw ∨ G k) w1 W) := by rw [hW]; exact hJ.out.2.1.trans ((Fr.refl (fun k => k = bw) w2).setCell (p := ⟨bw, 5, none⟩) (Or.inl rfl) _) (fun i e => Or.inl (Or.inl e))
  have blkW : W.heap[bw]? = some (.cells #[op, .string nt, .int .i64 (wrap64 (c + 1)), (.slice pa X.length ca), (.slice pb (r.length + 1) cb), .string (f sm x)] 67 (0, 0)) := by rw [hW, (set_heap hJ.out.2.2 _)]; rfl
  have IW : Hid (I (n + 1) W) := by rw [hW]; exact O.stay _ _ _ _ hJ.out.1 ((Fr.refl (fun k => k = bw) w2).setCell (p := ⟨bw, 5, none⟩) (Or.inl rfl) _) (fun k hk e => H.dis bw H1.fw (e ▸ hk))
  have hW0 : Hid (∀ k, F k → ¬ k = bw → ¬ (k = bw ∨ G k)) := fun k hk hn h => h.elim hn (H.dis k hk)
  have raW : Hid (W.ownsRow 0 69 2 (.slice pa X.length ca) X.length (tflS (tls f X).reverse)) := HF1.out.row H2.out.ra (fun k e => hW0.out k (H1.fa k e) (fun h => row_ne H2.out.ra H2.out.blk (by decide) (h ▸ e)))
  have rbW : Hid (W.ownsRow 0 9 1 (.slice pb (r.length + 1) cb) (r.length + 1) (flS (y :: r))) := HF1.out.row H2.out.rb (fun k e => hW0.out k (H1.fb k e) (fun h => row_ne H2.out.rb H2.out.blk (by decide) (h ▸ e)))
  have HFW : Hid (Fr (fun k => F k ∨ G k) w W) := (Fr.of_below hb0).trans HF1.out (fun i h => h.elim (fun e => Or.inl (Or.inl (e ▸ H1.fw))) (fun g => Or.inl (Or.inr g)))
  have hszW : w.heap.size ≤ W.heap.size := HFW.out.size
  have HSUM : Hid (∀ y' r', (y :: r) ++ [x] = y' :: r' → (f sm x) = sumL f y' r') := fun y' r' h => by rw [List.cons_append] at h; injection h with h1 h2; subst h1; subst h2; rw [sumL_snoc, hsm.out]
  have yv : W.cell? ⟨bw, 4, none⟩ = some (.slice pb (r.length + 1) cb) := (Lib.cell_of_heap blkW _).trans rfl
  have hbw : bw < W.heap.size := lt_heap blkW
  have BW : Hid (_) := blkW
  clear hW blkW gv g5 gf5 k5 kf5 hI1 HF1 hb0 hlt1 hsz1 hW0
  go_wp2_with (at_builtin; refine wpList_append_own_at _ rfl _ _ 52 rfl 0 9 i0 (.string ByteArray.empty) 1 16 Try.underlying52 hi hz0 hz1 hz2 rfl (by decide) _ _ _ rfl (World.ownsRow.alloc rbW.out _) ⟨W.heap.size, 0, none⟩ 1 1 [.string x] rfl rfl ?cc1 ?cc2 ?cc3 ?cc4 (Nat.zero_le _) ?_)
  case cc1 => (intro j u hj; rw [Addr.add_lit]; (rcases j with _ | j) <;> simp at hj <;> subst hj <;> simp (maxDischargeDepth := 12) [go_sem])
  case cc2 => (intro u hu; simp at hu; subst hu; rfl)
  case cc3 => unfold maxLen; omega
  case cc4 => omega
  intro v' w3 h2 h3 _ h5
  obtain ⟨pv, cv, rfl, k1, k2, HE⟩ := pushS_end H1.ft hszW BW.out raW.out rbW.out H1.fw H1.fa H1.fb (by simpa using hl) HSUM.out h2 h3 h5
  clear h2 h3 h5
  go_wp2
  go_ret
  exact ⟨rfl, pushS_fin O H hx (by simpa using hl) HFW.out IW.out HE.out⟩
end Go.Proofs.Ytondchfhdhllhaa

namespace Go.Proofs.Ytondchfhdhllhaa
open Go.RowKit Go.Shelf
set_option linter.unusedVariables false
attribute [local go_sem] Oper.semAt_some

set_option maxHeartbeats 1000000 in
theorem backS_in (n : Nat) (a : Option Addr) (len cap : Nat) (w : World) :
    CallsIn Fence.wide n Try.prog 41 #[.slice a len cap] w fun e w' => e = .returned (.func (.func 43) #[] #[.pointer (some ⟨w.heap.size, 0, none⟩)]) ∧ w' = w.alloc (.cells #[.slice a len cap] 52) := by
  refine callsIn_of_wp Try.func41 rfl trivial ?_ rfl
  simp only [Try.ntmps41, List.size_toArray, List.length_cons, List.length_nil, Nat.reduceAdd, Nat.reduceSub, Array.replicate_succ, Array.replicate_zero, List.push_toArray, List.append_toArray, List.nil_append, List.cons_append]
  gi_wp2
  go_ret
  exact ⟨rfl, rfl⟩

/-- What a round must keep: the slice and its row. -/
def KpS (Bs b : Nat) (W W' : World) : Prop := W'.heap[Bs]? = W.heap[Bs]? ∧ W'.heap[b]? = W.heap[b]?
theorem KpS.t {Bs b : Nat} {X Y Z : World} (h : KpS Bs b X Y) (k : KpS Bs b Y Z) : KpS Bs b X Z := ⟨k.1.trans h.1, k.2.trans h.2⟩
theorem KpS.b {Bs b B : Nat} (h1 : Bs < B) (h2 : b < B) (W : World) (l : Nat) (o o' : Obj) (hl : B ≤ l) (_ : W.heap[l]? = some o) (_ : o.isCells = false) (_ : o.isWalk = false) : KpS Bs b W (W.putObj l o') :=
  ⟨World.putObj_heap_other (by omega), World.putObj_heap_other (by omega)⟩

set_option maxRecDepth 100000 in
set_option maxHeartbeats 4000000 in
theorem bwdS1 (n : Nat) (hn : 1 ≤ n) (l Bs b cap : Nat) (L : List (ByteArray)) (d : ByteArray) (hL : L.length ≤ 8192) (cur : Array Value) (J Jx : List Nat → World → Prop)
    (hcur : ∀ w : World, w.heap[b]? = some (.cells cur 9 (0, 0)) → ∀ j, j < L.length → w.cell? ⟨b, j, none⟩ = some (.string (L[j]?.getD d)))
    (hY : ∀ pre x W, J pre W → pre.length < L.length → YieldAt Fence.wide (n - 1) Try.prog l #[.int .i64 (x : Nat), (.string (L[x]?.getD d))] W fun e W' =>
      (e = .returned (.bool true) ∧ J (pre ++ [x]) W' ∧ KpS Bs b W W') ∨ (e = .returned (.bool false) ∧ Jx (pre ++ [x]) W'))
    (W : World) (hBs : W.heap[Bs]? = some (.cells #[.slice (some ⟨b, 0, none⟩) L.length cap] 52 (0, 0))) (hb : W.heap[b]? = some (.cells cur 9 (0, 0))) (h0 : J [] W) :
    CallsIn Fence.wide n Try.prog 43 #[.func (.yield l) #[] #[], .pointer (some ⟨Bs, 0, none⟩)] W fun e W' => (∃ v, e = .returned v) ∧
      ((∃ ys, ys = upto L.length L.length ∧ J ys W') ∨ (∃ pre, True ∧ Jx pre W')) := by
  have HC : Hid (∀ w : World, w.heap[b]? = some (.cells cur 9 (0, 0)) → ∀ j, j < L.length → w.cell? ⟨b, j, none⟩ = some (.string (L[j]?.getD d))) := hcur
  have HYY : Hid (∀ pre x W, J pre W → pre.length < L.length → YieldAt Fence.wide (n - 1) Try.prog l #[.int .i64 (x : Nat), (.string (L[x]?.getD d))] W fun e W' =>
      (e = .returned (.bool true) ∧ J (pre ++ [x]) W' ∧ KpS Bs b W W') ∨ (e = .returned (.bool false) ∧ Jx (pre ++ [x]) W')) := hY
  clear hcur hY
  have yB : W.cell? ⟨Bs, 0, none⟩ = some (.slice (some ⟨b, 0, none⟩) L.length cap) := (Lib.cell_of_heap hBs _).trans rfl
  have H0 : Hid (W.heap[Bs]? = some (.cells #[.slice (some ⟨b, 0, none⟩) L.length cap] 52 (0, 0)) ∧ W.heap[b]? = some (.cells cur 9 (0, 0))) := ⟨hBs, hb⟩
  clear hBs hb
  obtain ⟨m, hm⟩ : ∃ m, Hid (L.length = m) := ⟨_, rfl⟩
  rw [hm.out] at yB hL H0 HC HYY ⊢
  refine callsIn_of_wp Try.func43 rfl trivial ?_ rfl
  simp only [Try.ntmps43, List.size_toArray, List.length_cons, List.length_nil, Nat.reduceAdd, Nat.reduceSub, Array.replicate_succ, Array.replicate_zero, List.push_toArray, List.append_toArray, List.nil_append, List.cons_append]
  gi_wp2
  gi_loopw [3] (fun i wr => (∃ k j' : Nat, k + j' + 1 = m ∧ i = .int .i64 (j' : Nat) ∧ J (upto m k) wr ∧ Hid (wr.heap[Bs]? = some (.cells #[.slice (some ⟨b, 0, none⟩) m cap] 52 (0, 0)) ∧ wr.heap[b]? = some (.cells cur 9 (0, 0)))) ∨ (i = .int .i64 (-1) ∧ J (upto m m) wr))
    (fun i _ => (intOf i + 1).toNat)
  case atStart =>
    cases m with
    | zero => exact Or.inr ⟨by simp, h0⟩
    | succ m' => exact Or.inl ⟨0, m', by omega, by go_num, h0, H0⟩
  case round =>
    rcases hrel with ⟨k, j', hk, rfl, hJs, HK⟩ | ⟨rfl, hJs⟩
    · have hcw : Hid (∀ j, j < m → wr.cell? ⟨b, j, none⟩ = some (.string (L[j]?.getD d))) := HC.out wr HK.out.2
      have hk' : Hid (k + j' + 1 = m) := hk
      have hj1 : (j' : Int) < m := by omega
      have hj2 : (0 : Int) ≤ (j' : Int) := by omega
      have hj3 : ¬ (j' : Int) < 0 := by omega
      have hjj : j' < m := by omega
      have hkm : k < m := by omega
      clear hk
      have z0 : wr.cell? ⟨b, j', none⟩ = some (.string (L[j']?.getD d)) := hcw.out j' (by omega)
      have yB' : wr.cell? ⟨Bs, 0, none⟩ = some (.slice (some ⟨b, 0, none⟩) m cap) := (Lib.cell_of_heap HK.out.1 _).trans rfl
      obtain ⟨fn, tmps, assign, body, hy, hR⟩ := HYY.out _ j' wr hJs (by rw [upto_len]; omega)
      try dsimp only at hy
      gi_wp2
      refine hR.mono ?_
      rintro e W3 (⟨rfl, hJ3, hk3⟩ | ⟨rfl, hJx3⟩)
      · have HK3 : Hid (W3.heap[Bs]? = some (.cells #[.slice (some ⟨b, 0, none⟩) m cap] 52 (0, 0)) ∧ W3.heap[b]? = some (.cells cur 9 (0, 0))) := ⟨hk3.1.trans HK.out.1, hk3.2.trans HK.out.2⟩
        have hJ4 : J (upto m (k + 1)) W3 := by
          have h := hk'.out
          rw [upto_succ, show m - 1 - k = j' by omega]
          exact hJ3
        gi_wp2
        go_roundw
        case rel =>
          have h := hk'.out
          cases j' with
          | zero => exact Or.inr ⟨by simp, by rw [show m = k + 1 by omega]; rw [show m = k + 1 by omega] at hJ4; exact hJ4⟩
          | succ j'' => exact Or.inl ⟨k + 1, j'', by omega, by go_num, hJ4, HK3⟩
        case measure => (simp [intOf]; try omega)
      · gi_wp2
        refine bodyPost_ret (results_none rfl _ _ _) rfl ?_
        exact ⟨⟨_, rfl⟩, .inr ⟨_, trivial, hJx3⟩⟩
    · gi_wp2
      go_end0
      exact ⟨⟨_, rfl⟩, .inl ⟨_, rfl, hJs⟩⟩

theorem bwdS_stops (n : Nat) (hn : 1 ≤ n) (Bs b cap : Nat) (L : List (ByteArray)) (d : ByteArray) (hL : L.length ≤ 8192) (cur : Array Value)
    (hcur : ∀ w : World, w.heap[b]? = some (.cells cur 9 (0, 0)) → ∀ j, j < L.length → w.cell? ⟨b, j, none⟩ = some (.string (L[j]?.getD d)))
    (w : World) (hBs : w.heap[Bs]? = some (.cells #[.slice (some ⟨b, 0, none⟩) L.length cap] 52 (0, 0))) (hb : w.heap[b]? = some (.cells cur 9 (0, 0))) :
    SeqStopsK Fence.wide n Try.prog 43 #[.pointer (some ⟨Bs, 0, none⟩)] (fun x : Nat => #[Value.int .i64 (x : Nat), (.string (L[x]?.getD d))]) (KpS Bs b) (fun ys => ys = upto L.length L.length) (fun _ => True) L.length w := fun l J Jx W hW _ _ hY h0 =>
  bwdS1 n hn l Bs b cap L d hL cur J Jx hcur hY W ((hW.block _ (lt_heap hBs)).trans hBs) ((hW.block _ (lt_heap hb)).trans hb) h0
end Go.Proofs.Ytondchfhdhllhaa

namespace Go.Proofs.Ytondchfhdhllhaa
open Go.RowKit Go.Shelf
set_option linter.unusedVariables false

structure TIS (f : ByteArray → ByteArray → ByteArray) (op : Value) (nt : ByteArray) (G : Nat → Prop) (I : Nat → World → Prop) (w : World) (bw : Nat) (c : Int) (n : Nat) (L : List (ByteArray)) (d : ByteArray) (vb : Value) (sm : ByteArray) (F : Nat → Prop) (b : Nat) (cur : Array Value) (pre : List Nat) (W : World) (va : Value) : Prop where
  win : WinS f W bw op nt (cw c (pre.length - 1)) (zsL L d pre) L (fun k => F k ∨ va.ownBlock = some k) va vb sm
  va : ∀ k, va.ownBlock = some k → F k ∨ w.heap.size ≤ k
  bp : W.heap[w.heap.size]? = some (.cells #[.pointer (some ⟨bw, 0, none⟩)] 49 (0, 0))
  bs : W.heap[w.heap.size + 1]? = some (.cells #[vb] 52 (0, 0))
  bb : W.heap[b]? = some (.cells cur 9 (0, 0))
  st : I (n + (pre.length - 1)) W
  fr : Fr (fun k => F k ∨ G k) w W

theorem TIS.own {f : ByteArray → ByteArray → ByteArray} {op : Value} {nt : ByteArray} {ok : Nat → ByteArray → Prop} {G : Nat → Prop} {I : Nat → World → Prop} {w : World} {bw : Nat} {c : Int} {n : Nat} {L : List (ByteArray)} {d : ByteArray} {vb : Value} {sm : ByteArray} {F : Nat → Prop} {b : Nat} {cur : Array Value} (O : OpS op f ok G I) (hst : I n w) (hF : ∀ k, F k → k < w.heap.size) (hb : b < w.heap.size) {B : Nat} (hB : w.heap.size + 2 ≤ B) :
    OwnFrom B (fun pre W => ∃ va, TIS f op nt G I w bw c n L d vb sm F b cur pre W va) := by
  intro pre W W' row ⟨va, h⟩ hg hr
  have hf : Fr (fun k => row = some k) W W' := (Fr.refl _ _).grown hg (fun k e => Or.inl e)
  have hn : ∀ k, k < B → ¬ row = some k := fun k hk e => by have := (hr k e).1; omega
  have hva : ∀ k, va.ownBlock = some k → ¬ row = some k := fun k e e' => by
    obtain ⟨_, o, ho, hc⟩ := hr k e'
    obtain ⟨cc, hcc⟩ := row_cells h.win.ra e
    rw [hcc] at ho
    cases ho
    cases hc
  exact ⟨va, ⟨h.win.fr hf (fun k hk => hk.elim (fun q => hn k (by have := hF k q; omega)) (hva k)), h.va, hf.heap h.bp (hn _ (by omega)), hf.heap h.bs (hn _ (by omega)), hf.heap h.bb (hn _ (by omega)),
    O.stay _ _ _ _ h.st hf (fun k g => hn k (by have := O.glt _ _ _ hst g; omega)), h.fr.trans hf (fun i e => Or.inr (by have := (hr i e).1; omega))⟩⟩
theorem TIS.below {f : ByteArray → ByteArray → ByteArray} {op : Value} {nt : ByteArray} {ok : Nat → ByteArray → Prop} {G : Nat → Prop} {I : Nat → World → Prop} {w : World} {bw : Nat} {c : Int} {n : Nat} {L : List (ByteArray)} {d : ByteArray} {vb : Value} {sm : ByteArray} {F : Nat → Prop} {b : Nat} {cur : Array Value} {pre : List Nat} {W W' : World} {va : Value} (O : OpS op f ok G I) (h : TIS f op nt G I w bw c n L d vb sm F b cur pre W va) (hb : Below W.heap.size W W') : TIS f op nt G I w bw c n L d vb sm F b cur pre W' va :=
  have hf : Fr (fun _ => False) W W' := Fr.of_below hb
  ⟨h.win.fr hf (fun _ _ h => h), h.va, hf.heap h.bp (fun h => h), hf.heap h.bs (fun h => h), hf.heap h.bb (fun h => h), O.stay _ _ _ _ h.st hf (fun _ _ h => h), h.fr.trans hf (fun _ h => h.elim)⟩

theorem tstepS {f : ByteArray → ByteArray → ByteArray} {op : Value} {nt : ByteArray} {ok : Nat → ByteArray → Prop} {G : Nat → Prop} {I : Nat → World → Prop} {w : World} {bw : Nat} {c : Int} {n : Nat} {L : List (ByteArray)} {d : ByteArray} {vb : Value} {sm : ByteArray} {F : Nat → Prop} {b : Nat} {cur : Array Value} {pre : List Nat} {W V w2 : World} {va v' : Value} {j : Nat} (O : OpS op f ok G I) (hst : I n w) (hF : ∀ k, F k → k < w.heap.size) (hd : ∀ k, F k → ¬ G k) (hfw : F bw) (hfb : ∀ k, vb.ownBlock = some k → F k) (hbf : F b) (h : TIS f op nt G I w bw c n L d vb sm F b cur pre W va) (hV : Fr (fun k => k = bw ∨ G k) W V)
    (blkV : V.heap[bw]? = some (.cells #[op, .string nt, .int .i64 (cw c pre.length), va, vb, .string sm] 67 (0, 0))) (IV : I (n + pre.length) V) (hpl : pre.length < L.length) (hLl : L.length ≤ 4096)
    (h2 : w2.ownsRow 0 69 2 v' ((zsL L d pre).length + 1) (tflS (tls f (zsL L d pre)).reverse ++ [.string (L[j]?.getD d), .string (sumR f (L[j]?.getD d) (zsL L d pre))])) (h3 : (V.alloc (.cells #[.string (L[j]?.getD d), .string (sumR f (L[j]?.getD d) (zsL L d pre))] 69)).grownBy w2 va.ownBlock) (h5 : v'.ownBlock = va.ownBlock ∨ v'.ownBlock = some (V.heap.size + 1)) :
    ∃ p c2, v' = .slice p (pre.length + 1) c2 ∧ w2.cell? ⟨bw, 3, none⟩ = some va ∧ w2.frozen? ⟨bw, 3, none⟩ = false ∧ Fr (fun k => k = bw ∨ G k ∨ va.ownBlock = some k) W w2 ∧
      Hid (TIS f op nt G I w bw c n L d vb sm F b cur (pre ++ [j]) (w2.setCell ⟨bw, 3, none⟩ v') v' ∧ Fr (fun k => k = bw ∨ G k ∨ va.ownBlock = some k) W (w2.setCell ⟨bw, 3, none⟩ v')) := by
  have hG : ∀ k, G k → k < w.heap.size := fun k g => O.glt _ _ _ hst g
  obtain ⟨p, c2, hv⟩ := row_form h2
  have hbw : bw < w.heap.size := hF _ hfw
  have hbl : b < w.heap.size := hF _ hbf
  have hne : ∀ k, (F k ∨ w.heap.size ≤ k) → ¬ k = bw → ¬ (k = bw ∨ G k) := fun k hk hn e => e.elim hn (fun g => hk.elim (fun q => hd k q g) (fun q => by have := hG k g; omega))
  have raV := hV.row h.win.ra (fun k e => hne k (h.va k e) (fun q => row_ne h.win.ra h.win.blk (by decide) (q ▸ e)))
  have rbV := hV.row h.win.rb (fun k e => hne k (Or.inl (hfb k e)) (fun q => row_ne h.win.rb h.win.blk (by decide) (q ▸ e)))
  have bpV := hV.heap h.bp (hne _ (Or.inr (Nat.le_refl _)) (by omega))
  have bsV := hV.heap h.bs (hne _ (Or.inr (by omega)) (by omega))
  have hbn : ¬ b = bw := fun q => by have e1 := h.bb; have e2 := h.win.blk; rw [q] at e1; rw [e1] at e2; injection e2 with e2; injection e2 with _ e2; cases e2
  have bbV := hV.heap h.bb (hne _ (Or.inl hbf) hbn)
  have ha1 := (Fr.refl (fun _ => False) V).alloc (.cells #[.string (L[j]?.getD d), .string (sumR f (L[j]?.getD d) (zsL L d pre))] 69)
  have blk1 := ha1.heap blkV (fun h => h)
  have rb1 := ha1.row rbV (fun _ _ h => h)
  have ra1 := ha1.row raV (fun _ _ h => h)
  have bp1 := ha1.heap bpV (fun h => h)
  have bs1 := ha1.heap bsV (fun h => h)
  have bb1 := ha1.heap bbV (fun h => h)
  have hg2 : Fr (fun k => va.ownBlock = some k) (V.alloc (.cells #[.string (L[j]?.getD d), .string (sumR f (L[j]?.getD d) (zsL L d pre))] 69)) w2 := (Fr.refl _ _).grown h3 (fun k e => Or.inl e)
  have blk2 := hg2.heap blk1 (row_ne ra1 blk1 (by decide))
  have rb2 := hg2.row rb1 (fun k e e' => row_ne2 rb1 ra1 (by decide) k e e')
  have bp2 := hg2.heap bp1 (row_ne ra1 bp1 (by decide))
  have bs2 := hg2.heap bs1 (row_ne ra1 bs1 (by decide))
  have bb2 := hg2.heap bb1 (row_ne ra1 bb1 (by decide))
  have hs3 : Fr (fun k => k = bw) w2 (w2.setCell ⟨bw, 3, none⟩ v') := (Fr.refl (fun k => k = bw) w2).setCell (p := ⟨bw, 3, none⟩) (Or.inl rfl) _
  have ra3 := hs3.row h2 (fun k e e' => row_ne h2 blk2 (by decide) (e' ▸ e))
  have rb3 := hs3.row rb2 (fun k e e' => row_ne rb2 blk2 (by decide) (e' ▸ e))
  have hz1 : V.heap.size + 1 ≤ w2.heap.size := by have := h3.size; simpa using this
  have hz3 := hs3.size
  have hwV : w.heap.size ≤ V.heap.size := Nat.le_trans h.fr.size hV.size
  have F2 : Fr (fun k => k = bw ∨ G k ∨ va.ownBlock = some k) W w2 := ((hV.mono (fun i q => Or.inl (q.elim Or.inl (fun g => Or.inr (Or.inl g))))).trans ha1 (fun _ q => q.elim)).trans hg2 (fun i q => Or.inl (Or.inr (Or.inr q)))
  have F3 : Fr (fun k => k = bw ∨ G k ∨ va.ownBlock = some k) W (w2.setCell ⟨bw, 3, none⟩ v') := F2.trans hs3 (fun i q => Or.inl (Or.inl q))
  have hva' : ∀ k, v'.ownBlock = some k → F k ∨ w.heap.size ≤ k := fun k e => by
    rcases h5 with h5 | h5
    · exact h.va k (by rw [← h5]; exact e)
    · rw [h5] at e; injection e with e; exact Or.inr (by omega)
  have elen : (pre ++ [j]).length - 1 = pre.length := by simp
  refine ⟨p, c2, by rw [hv, zsL_len], (Lib.cell_of_heap blk2 _).trans rfl, Lib.frozen_of_heap blk2 _, F2, ⟨⟨⟨?_, ?_, rb3, h.win.sum, ?_, Or.inl hfw, fun k e => Or.inr e, fun k e => Or.inl (hfb k e), ?_⟩, hva', ?_, ?_, ?_, ?_, ?_⟩, F3⟩⟩
  · rw [elen, set_heap blk2]; rfl
  · rw [zsL_snoc]
    simp only [tls, List.reverse_cons, List.length_cons]
    rw [tflS_snoc]
    exact ra3
  · rw [zsL_len]; simp; omega
  · intro k hk
    rcases hk with hk | hk
    · have := hF k hk; omega
    · exact (World.ownsRow.lt ra3 k hk).2
  · exact hs3.heap bp2 (fun q => by omega)
  · exact hs3.heap bs2 (fun q => by omega)
  · exact hs3.heap bb2 (fun q => hbn q)
  · rw [elen]
    have f1 : Fr (fun k => va.ownBlock = some k ∨ k = bw) V (w2.setCell ⟨bw, 3, none⟩ v') := ((ha1.mono (fun _ q => q.elim)).trans hg2 (fun i q => Or.inl (Or.inl q))).trans hs3 (fun i q => Or.inl (Or.inr q))
    exact O.stay _ _ _ _ IV f1 (fun k g q => q.elim (fun q => (h.va k q).elim (fun q => hd k q g) (fun q => by have := hG k g; omega)) (fun q => hd bw hfw (q ▸ g)))
  · exact h.fr.trans F3 (fun i q => q.elim (fun q => Or.inl (Or.inl (q ▸ hfw))) (fun q => q.elim (fun g => Or.inl (Or.inr g)) (fun q => (h.va i q).elim (fun q => Or.inl (Or.inl q)) Or.inr)))
/-- What a round keeps. -/
theorem tkeepS {f : ByteArray → ByteArray → ByteArray} {op : Value} {nt : ByteArray} {ok : Nat → ByteArray → Prop} {G : Nat → Prop} {I : Nat → World → Prop} {w : World} {bw : Nat} {c : Int} {n : Nat} {L : List (ByteArray)} {d : ByteArray} {vb : Value} {sm : ByteArray} {F : Nat → Prop} {b : Nat} {cur : Array Value} {pre : List Nat} {W W' : World} {va : Value} (O : OpS op f ok G I) (hst : I n w) (hF : ∀ k, F k → k < w.heap.size) (hd : ∀ k, F k → ¬ G k) (hfw : F bw) (hbf : F b) (h : TIS f op nt G I w bw c n L d vb sm F b cur pre W va) (hf : Fr (fun k => k = bw ∨ G k ∨ va.ownBlock = some k) W W') {B : Nat} (hB : w.heap.size ≤ B) :
    KeepsFrom B W W' ∧ KpS (w.heap.size + 1) b W W' := by
  have hG : ∀ k, G k → k < w.heap.size := fun k g => O.glt _ _ _ hst g
  have hbw : bw < w.heap.size := hF _ hfw
  have hbl : b < w.heap.size := hF _ hbf
  refine ⟨keepsFrom_of hf (fun k o hk ho hc e => ?_), ?_, ?_⟩
  · rcases e with e | e | e
    · omega
    · have := hG k e; omega
    · obtain ⟨cc, hcc⟩ := row_cells h.win.ra e
      rw [hcc] at ho
      cases ho
      cases hc
  · refine hf.block _ (lt_heap h.bs) (fun e => ?_)
    rcases e with e | e | e
    · omega
    · have := hG _ e; omega
    · exact row_ne h.win.ra h.bs (by decide) e
  · refine hf.block _ (lt_heap h.bb) (fun e => ?_)
    rcases e with e | e | e
    · have e1 := h.bb; have e2 := h.win.blk; rw [e] at e1; rw [e1] at e2; injection e2 with e2; injection e2 with _ e2; cases e2
    · exact hd b hbf e
    · exact row_ne h.win.ra h.bb (by decide) e
end Go.Proofs.Ytondchfhdhllhaa
