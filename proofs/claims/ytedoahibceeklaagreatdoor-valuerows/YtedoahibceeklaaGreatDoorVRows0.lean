/- The law ValueRows: its walk. -/
import Derived.Test.YtedoahibceeklaaGreatDoorVLive
import Derived.Test.YtedoahibceeklaaGreatDoorVDocRow
import Derived.ArgAppend
import Derived.Laws.OwnMore
namespace Go.Proofs.YtedoahibceeklaaGreatDoor
open Go.RowKit Go.Shelf
set_option linter.unusedVariables false

theorem inV : (Tryz.prog.info? 23).map (fun i => (i.zero, i.size, i.bytes)) = some (some (.agg #[.int .i64 0, .int .i64 0, .int .i64 0, .string ⟨#[]⟩]), 4, 40) := by kernel_rfl

/-- The cells of a value, and of a row. -/
def vcells (x : Val) : List Value := [.int .i64 x.k, .int .i64 x.n, .int .i64 x.d, .string x.s]
def flat (xs : List Val) : List Value := xs.flatMap vcells
theorem flat_len (xs : List Val) : (flat xs).length = xs.length * 4 := by
  induction xs with
  | nil => rfl
  | cons x xs ih => simp only [flat, List.flatMap_cons, List.length_append, List.length_cons] at ih ⊢; rw [ih]; simp [vcells]; omega
theorem flat_get : ∀ (xs : List Val) (i j : Nat) (h : i < xs.length), j < 4 → (flat xs)[i * 4 + j]? = (vcells xs[i])[j]?
  | [], i, j, h, _ => by simp at h
  | x :: xs, 0, j, h, hj => by
    simp only [flat, List.flatMap_cons, Nat.zero_mul, Nat.zero_add, List.getElem_cons_zero]
    rw [List.getElem?_append_left (by simpa [vcells] using hj)]
  | x :: xs, i + 1, j, h, hj => by
    have ih := flat_get xs i j (by simpa using h) hj
    simp only [flat, List.flatMap_cons, List.getElem_cons_succ] at ih ⊢
    rw [List.getElem?_append_right (by simp [vcells]; omega), ← ih]
    congr 1
    simp [vcells]
    omega
theorem flat_one (xs : List Val) : ∀ u ∈ flat xs, u.oneCell' = true := by
  intro u hu
  simp only [flat, List.mem_flatMap, vcells] at hu
  obtain ⟨x, _, hx⟩ := hu
  simp at hx
  rcases hx with rfl | rfl | rfl | rfl <;> rfl
theorem lies_cells {w : World} {b off : Nat} {xs : List Val} (h : Lies w b off xs) (j : Nat) (u : Value) (hj : (flat xs)[j]? = some u) : w.cell? ⟨b, off + j, none⟩ = some u := by
  have hl : j < (flat xs).length := by
    rcases Nat.lt_or_ge j (flat xs).length with g | g
    · exact g
    · rw [List.getElem?_eq_none g] at hj; cases hj
  rw [flat_len] at hl
  have hi : j / 4 < xs.length := by omega
  obtain ⟨c0, c1, c2, c3⟩ := h (j / 4) hi
  have hr : j % 4 = 0 ∨ j % 4 = 1 ∨ j % 4 = 2 ∨ j % 4 = 3 := by omega
  have e : j = j / 4 * 4 + j % 4 := by omega
  have g := flat_get xs (j / 4) (j % 4) hi (by omega)
  rw [← e, hj] at g
  rcases hr with r | r | r | r
  · rw [r] at g e; rw [e, Nat.add_zero]; simp [vcells] at g; rw [c0, g]
  · rw [r] at g e; rw [e, ← Nat.add_assoc]; simp [vcells] at g; rw [c1, g]
  · rw [r] at g e; rw [e, ← Nat.add_assoc]; simp [vcells] at g; rw [c2, g]
  · rw [r] at g e; rw [e, ← Nat.add_assoc]; simp [vcells] at g; rw [c3, g]
theorem cells_lie {w : World} {b off : Nat} {xs : List Val} (h : ∀ j, j < xs.length * 4 → w.cell? ⟨b, off + j, none⟩ = (flat xs)[j]?) : Lies w b off xs := fun i hi => by
  refine ⟨?_, ?_, ?_, ?_⟩
  · have := h (i * 4 + 0) (by omega); rw [flat_get xs i 0 hi (by omega)] at this; simpa [vcells] using this
  · have := h (i * 4 + 1) (by omega); rw [flat_get xs i 1 hi (by omega)] at this; simpa [vcells, Nat.add_assoc] using this
  · have := h (i * 4 + 2) (by omega); rw [flat_get xs i 2 hi (by omega)] at this; simpa [vcells, Nat.add_assoc] using this
  · have := h (i * 4 + 3) (by omega); rw [flat_get xs i 3 hi (by omega)] at this; simpa [vcells, Nat.add_assoc] using this

/-- A slice value that holds a row, nil or not. -/
def RowAt (w : World) (v : Value) (xs : List Val) : Prop := ∃ p c, v = .slice p xs.length c ∧ (xs = [] ∨ ∃ b off, p = some ⟨b, off, none⟩ ∧ b < w.heap.size ∧ Lies w b off xs)
theorem RowAt.below {w w' : World} {v : Value} {xs : List Val} (h : RowAt w v xs) (hb : Below w.heap.size w w') : RowAt w' v xs := by
  obtain ⟨p, c, e, h⟩ := h
  refine ⟨p, c, e, ?_⟩
  rcases h with h | ⟨b, off, h1, h2, h3⟩
  · exact Or.inl h
  · exact Or.inr ⟨b, off, h1, Nat.lt_of_lt_of_le h2 hb.size, h3.below hb h2⟩

theorem row_gen (v v' : Value) (xs ys : List Val) (w : World) (fx : ∀ v ∈ xs, v.Fits) (fy : ∀ v ∈ ys, v.Fits) (hx : RowAt w v xs) (hy : RowAt w v' ys) (lx : xs.length ≤ 9223372036854775807) (ly : ys.length ≤ 9223372036854775807) :
    Calls Tryz.prog 19 #[v, v'] w fun e w' => e = .returned (.int .i64 (rowC xs ys)) ∧ Below w.heap.size w w' := by
  obtain ⟨p, c, rfl, h⟩ := hx
  obtain ⟨q, c', rfl, h'⟩ := hy
  rcases h with rfl | ⟨b, off, rfl, hb, hl⟩
  · refine (row_left p q c ys.length c' w ly).mono ?_
    rintro e w' ⟨rfl, rfl⟩
    exact ⟨by rw [rowC_end [] ys (Or.inl rfl)]; rfl, Below.refl _ _⟩
  · rcases h' with rfl | ⟨b', off', rfl, hb', hl'⟩
    · refine (row_right _ q c xs.length c' w lx).mono ?_
      rintro e w' ⟨rfl, rfl⟩
      exact ⟨by rw [rowC_end xs [] (Or.inr rfl)]; rfl, Below.refl _ _⟩
    · exact row_core b off c b' off' c' xs ys w fx fy hb hb' hl hl' lx ly
theorem drow_gen (v v' : Value) (xs ys : List Val) (w : World) (fx : ∀ v ∈ xs, v.Fits) (fy : ∀ v ∈ ys, v.Fits) (hx : RowAt w v xs) (hy : RowAt w v' ys) (lx : xs.length ≤ 9223372036854775807) (ly : ys.length ≤ 9223372036854775807) :
    Calls Tryz.prog 20 #[v, v'] w fun e w' => e = .returned (.int .i64 (rowC xs ys)) ∧ Below w.heap.size w w' := by
  obtain ⟨p, c, rfl, h⟩ := hx
  obtain ⟨q, c', rfl, h'⟩ := hy
  rcases h with rfl | ⟨b, off, rfl, hb, hl⟩
  · refine (drow_left p q c ys.length c' w ly).mono ?_
    rintro e w' ⟨rfl, rfl⟩
    exact ⟨by rw [rowC_end [] ys (Or.inl rfl)]; rfl, Below.refl _ _⟩
  · rcases h' with rfl | ⟨b', off', rfl, hb', hl'⟩
    · by_cases hz : 0 < xs.length
      · refine (drow_right _ q c xs.length c' w lx hz).mono ?_
        rintro e w' ⟨rfl, rfl⟩
        exact ⟨by rw [rowC_end xs [] (Or.inr rfl)]; rfl, Below.refl _ _⟩
      · obtain rfl : xs = [] := List.eq_nil_of_length_eq_zero (by omega)
        refine (drow_left _ q c 0 c' w (by omega)).mono ?_
        rintro e w' ⟨rfl, rfl⟩
        exact ⟨by rw [rowC_end [] [] (Or.inl rfl)]; rfl, Below.refl _ _⟩
    · exact drow_core b off c b' off' c' xs ys w fx fy hb hb' hl hl' lx ly

set_option maxRecDepth 100000 in
set_option maxHeartbeats 4000000 in
theorem rows_none (p : Option Addr) (c : Nat) (hp : p = none → c = 0) (vb : Value) (ys : List Val) (w : World) (fy : ∀ v ∈ ys, v.Fits) (hy : RowAt w vb ys) (ly : ys.length ≤ 9223372036854775807) (ht : Pow w) :
    Calls Tryz.prog 6 #[.slice p 0 c, vb] w fun e w' => e = .returned (.bool true) ∧ Below w.heap.size w w' := by
  obtain ⟨R, eR⟩ : ∃ R : Int, Hid (rowC [] ys = R) := ⟨_, rfl⟩
  have c1 : Hid (∀ (W : World) (p : Option Addr) (c : Nat), Below w.heap.size w W → Calls Tryz.prog 19 #[.slice p 0 c, vb] W fun e w' => e = .returned (.int .i64 R) ∧ Below W.heap.size W w') := fun W p c hB => by
    have h := row_gen (.slice p 0 c) vb [] ys W (by simp) fy ⟨p, c, rfl, Or.inl rfl⟩ (hy.below hB) (by simp) ly
    rw [eR.out] at h
    exact h
  have c2 : Hid (∀ (W : World) (p : Option Addr) (c : Nat), Below w.heap.size w W → Calls Tryz.prog 20 #[.slice p 0 c, vb] W fun e w' => e = .returned (.int .i64 R) ∧ Below W.heap.size W w') := fun W p c hB => by
    have h := drow_gen (.slice p 0 c) vb [] ys W (by simp) fy ⟨p, c, rfl, Or.inl rfl⟩ (hy.below hB) (by simp) ly
    rw [eR.out] at h
    exact h
  clear hy fy ly eR
  cases p with
  | none =>
    obtain rfl := hp rfl
    clear hp
    go_enter Tryz.func6, Tryz.ntmps6
    go_upto_region 2 with fail
    refine wp_world ?_
    intro W0 hW0
    have K0 : Below w.heap.size w W0 := by rw [hW0]; go_grown
    clear hW0
    go_wp2_with fail
    refine (c1.out _ _ _ K0).mono ?_
    rintro e w1 ⟨rfl, i1⟩
    have K1 : Below w.heap.size w w1 := K0.trans (i1.mono K0.size)
    go_wp2_with fail
    refine (c2.out _ _ _ K1).mono ?_
    rintro e w2 ⟨rfl, i2⟩
    have K2 : Below w.heap.size w w2 := K1.trans (i2.mono K1.size)
    clear i1 i2 K0 K1
    go_wp2
    refine wp_loop_rounds 1 ?_
    rw [rounds_succ]
    go_wp2_with fail
    refine (live_any _ (ht.below K2)).mono ?_
    rintro e w3 ⟨rfl, i3⟩
    go_wp2
    go_ret
    exact ⟨rfl, K2.trans (i3.mono K2.size)⟩
  | some a =>
    clear hp
    go_enter Tryz.func6, Tryz.ntmps6
    go_upto_region 2 with fail
    refine wp_world ?_
    intro W0 hW0
    have K0 : Below w.heap.size w W0 := by rw [hW0]; go_grown
    clear hW0
    go_wp2_with fail
    refine (c1.out _ _ _ K0).mono ?_
    rintro e w1 ⟨rfl, i1⟩
    have K1 : Below w.heap.size w w1 := K0.trans (i1.mono K0.size)
    go_wp2_with fail
    refine (c2.out _ _ _ K1).mono ?_
    rintro e w2 ⟨rfl, i2⟩
    have K2 : Below w.heap.size w w2 := K1.trans (i2.mono K1.size)
    clear i1 i2 K0 K1
    go_wp2
    refine wp_loop_rounds 1 ?_
    rw [rounds_succ]
    go_wp2_with fail
    refine (live_any _ (ht.below K2)).mono ?_
    rintro e w3 ⟨rfl, i3⟩
    go_wp2
    go_ret
    exact ⟨rfl, K2.trans (i3.mono K2.size)⟩

set_option maxRecDepth 100000 in
set_option maxHeartbeats 4000000 in
theorem rows_some (b off c : Nat) (vb : Value) (xs ys : List Val) (w : World) (fx : ∀ v ∈ xs, v.Fits) (fy : ∀ v ∈ ys, v.Fits) (hb : b < w.heap.size) (hx : Lies w b off xs) (hy : RowAt w vb ys) (hz : 0 < xs.length)
    (lx : xs.length * 40 ≤ 140737488355328) (ly : ys.length ≤ 9223372036854775807) (ht : Pow w) :
    Calls Tryz.prog 6 #[.slice (some ⟨b, off, none⟩) xs.length c, vb] w fun e w' => e = .returned (.bool true) ∧ Below w.heap.size w w' := by
  obtain ⟨i0, hi, hz0, hz1, hz2⟩ := info_parts inV
  obtain ⟨R, eR⟩ : ∃ R : Int, Hid (rowC xs ys = R) := ⟨_, rfl⟩
  obtain ⟨n, en⟩ : ∃ n : Nat, Hid (xs.length = n) := ⟨_, rfl⟩
  have c1 : Hid (∀ (W : World) (b off c : Nat), Below w.heap.size w W → b < W.heap.size → Lies W b off xs → Calls Tryz.prog 19 #[.slice (some ⟨b, off, none⟩) n c, vb] W fun e w' => e = .returned (.int .i64 R) ∧ Below W.heap.size W w') := fun W b off c hB h1 h2 => by
    have h := row_gen (.slice (some ⟨b, off, none⟩) xs.length c) vb xs ys W fx fy ⟨_, c, rfl, Or.inr ⟨b, off, rfl, h1, h2⟩⟩ (hy.below hB) (by omega) ly
    rw [eR.out, en.out] at h
    exact h
  have c2 : Hid (∀ (W : World) (b off c : Nat), Below w.heap.size w W → b < W.heap.size → Lies W b off xs → Calls Tryz.prog 20 #[.slice (some ⟨b, off, none⟩) n c, vb] W fun e w' => e = .returned (.int .i64 R) ∧ Below W.heap.size W w') := fun W b off c hB h1 h2 => by
    have h := drow_gen (.slice (some ⟨b, off, none⟩) xs.length c) vb xs ys W fx fy ⟨_, c, rfl, Or.inr ⟨b, off, rfl, h1, h2⟩⟩ (hy.below hB) (by omega) ly
    rw [eR.out, en.out] at h
    exact h
  rw [en.out] at lx hz ⊢
  have HX : Hid (Lies w b off xs) := hx
  have FX : Hid (∀ v ∈ xs, v.Fits) := fx
  clear hx hy fy ly eR fx
  go_enter Tryz.func6, Tryz.ntmps6
  go_wp2_with (at_builtin; refine wpList_append_grows _ rfl (.tmp 9) (.tmp 10) 34 rfl 23 i0 (.agg #[.int .i64 0, .int .i64 0, .int .i64 0, .string ⟨#[]⟩]) 4 40 Tryz.underlying34 hi hz0 hz1 hz2 rfl (by decide) (some ⟨w.heap.size, 0, none⟩) 0 0 [] rfl (by intro h; cases h) rfl (by intro _ _ _ _ h; simp at h) ⟨b, off, none⟩ n c (flat xs) rfl ?c0 ?c1 ?c2 (by omega) (by unfold maxLen; omega) (by omega) ?grow)
  case c0 => rw [flat_len, en.out]
  case c1 =>
    intro j u hj
    rw [Addr.add_lit]
    exact bcl (n := w.heap.size) (by go_grown) (lies_cells HX.out j u hj) hb
  case c2 => exact flat_one xs
  case grow =>
    intro v' w1 hown hgr
    (try simp only [List.nil_append, Nat.zero_add] at hown)
    have K1 : Below w.heap.size w w1 := Below.grown (w := w.alloc (.cells #[] 23)) (by go_grown) hgr (by simp) (fun k hk => by cases hk)
    obtain ⟨hl, hv | ⟨g, cap, cur, rfl, hg1, hg2, hg3, hg4, hg5, hg6⟩⟩ := hown
    · omega
    have hown : w1.ownsRow w.heap.size 23 4 (.slice (some ⟨g, 0, none⟩) n cap) n (flat xs) := ⟨hl, Or.inr ⟨g, cap, cur, rfl, by (try simp at hg1); omega, hg2, hg3, hg4, hg5, hg6⟩⟩
    have HG : Hid (Lies w1 g 0 xs) := cells_lie fun j hj => by
      rw [Nat.zero_add]
      exact hown.cellAt j (by rw [← en.out]; exact hj)
    have hgl : g < w1.heap.size := by
      rcases Nat.lt_or_ge g w1.heap.size with h | h
      · exact h
      · rw [Array.getElem?_eq_none h] at hg2; cases hg2
    have hb1 : b < w1.heap.size := Nat.lt_of_lt_of_le hb K1.size
    clear hg1 hg2 hg3 hg4 hg5 hg6 hown hgr hl
    go_wp2_with fail
    refine (c1.out _ _ _ _ K1 hb1 (HX.out.below K1 hb)).mono ?_
    rintro e w2 ⟨rfl, i2⟩
    have K2 : Below w.heap.size w w2 := K1.trans (i2.mono K1.size)
    have hgl2 : g < w2.heap.size := Nat.lt_of_lt_of_le hgl i2.size
    have HG2 : Hid (Lies w2 g 0 xs) := HG.out.below i2 hgl
    go_wp2_with fail
    refine (c2.out _ _ _ _ K2 hgl2 HG2.out).mono ?_
    rintro e w3 ⟨rfl, i3⟩
    have K3 : Below w.heap.size w w3 := K2.trans (i3.mono K2.size)
    have hgl3 : g < w3.heap.size := Nat.lt_of_lt_of_le hgl2 i3.size
    have HG3 : Hid (Lies w3 g 0 xs) := HG2.out.below i3 hgl2
    clear i2 i3 HG HG2 hgl hgl2 K1 K2 hb1 c1 c2
    go_wp2
    go_loopw [8] (fun i wr => ∃ k : Nat, k ≤ n ∧ i = .int .i64 k ∧ Below w3.heap.size w3 wr) (fun i _ => n - (intOf i).toNat)
    case atStart => exact ⟨0, Nat.zero_le _, rfl, Below.refl _ _⟩
    case round =>
      obtain ⟨k, hk, rfl, hB⟩ := hrel
      have KB : Below w.heap.size w wr := K3.trans (hB.mono K3.size)
      by_cases hlt : k < n
      · have kx : k < xs.length := by have := en.out; omega
        have q1 := (HX.out.below KB hb) k kx
        have q2 := (HG3.out.below hB hgl3) k kx
        generalize xs[k] = X at q1 q2
        obtain ⟨a0, a1, a2, a3⟩ := q1
        obtain ⟨b0, b1, b2, b3⟩ := q2
        simp only [Nat.zero_add] at b0 b1 b2 b3
        have hbr : b < wr.heap.size := Nat.lt_of_lt_of_le hb KB.size
        have hbr' : g < wr.heap.size := Nat.lt_of_lt_of_le hgl3 hB.size
        go_upto_region 7 with fail
        go_region_held3 (fun w' => w'.cell? ⟨b, off + k * 4, none⟩ = some (.int .i64 X.k) ∧ w'.cell? ⟨b, off + k * 4 + 1, none⟩ = some (.int .i64 X.n) ∧ w'.cell? ⟨b, off + k * 4 + 2, none⟩ = some (.int .i64 X.d) ∧ w'.cell? ⟨b, off + k * 4 + 3, none⟩ = some (.string X.s) ∧ w'.cell? ⟨g, k * 4, none⟩ = some (.int .i64 X.k) ∧ w'.cell? ⟨g, k * 4 + 1, none⟩ = some (.int .i64 X.n) ∧ w'.cell? ⟨g, k * 4 + 2, none⟩ = some (.int .i64 X.d) ∧ w'.cell? ⟨g, k * 4 + 3, none⟩ = some (.string X.s))
          (exact ⟨bcl (n := wr.heap.size) (by go_grown) a0 hbr, bcl (n := wr.heap.size) (by go_grown) a1 hbr, bcl (n := wr.heap.size) (by go_grown) a2 hbr, bcl (n := wr.heap.size) (by go_grown) a3 hbr, bcl (n := wr.heap.size) (by go_grown) b0 hbr', bcl (n := wr.heap.size) (by go_grown) b1 hbr', bcl (n := wr.heap.size) (by go_grown) b2 hbr', bcl (n := wr.heap.size) (by go_grown) b3 hbr'⟩)
          (first
            | (go_at_call 21; refine (lsame_yes X.k X.n X.d X.s _).mono ?_; rintro e v1 ⟨rfl, hv1⟩; obtain ⟨hw1, hn1⟩ := bg0 (n := wr.heap.size) (W0 := wr) (by go_grown) (by go_size) hv1; clear hv1))
        clear a0 a1 a2 a3 b0 b1 b2 b3
        have hB2 : Below w3.heap.size w3 v1 := hB.trans (hw1.mono hB.size)
        clear hw1 hB KB
        go_wp2
        exact ⟨⟨k + 1, by omega, by go_num, hB2⟩, by simp [intOf]; omega⟩
      · go_wp2_with fail
        refine (live_any _ (ht.below KB)).mono ?_
        rintro e w4 ⟨rfl, i4⟩
        go_wp2
        go_ret
        exact ⟨rfl, KB.trans (i4.mono KB.size)⟩

end Go.Proofs.YtedoahibceeklaaGreatDoor
