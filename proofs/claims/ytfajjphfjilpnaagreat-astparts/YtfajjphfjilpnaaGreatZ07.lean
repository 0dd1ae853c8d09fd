/- The form of a formula, as the program and as the document have it: the same. -/
import Derived.Test.YtfajjphfjilpnaaGreatZ06
import Derived.Test.YtfajjphfjilpnaaGreatZ01
import Derived.Test.YtfajjphfjilpnaaGreatZ03
import Derived.Test.YtfajjphfjilpnaaGreatZ04
import Derived.Test.YtfajjphfjilpnaaGreatZ05

namespace Go.Proofs.YtfajjphfjilpnaaGreat
open Go.RowKit LX Go.Shelf
set_option linter.unusedVariables false

theorem uni_one (X : List ByteArray) : Rises (uniN [X]) ∧ ∀ x, x ∈ uniN [X] ↔ x ∈ X := by
  obtain ⟨a, b⟩ := uni_up [X]
  exact ⟨a, fun x => by rw [b]; simp⟩
theorem puts_uni (X Y : List ByteArray) : putsN (uniN [X]) (uniN [Y]) = uniN [X ++ Y] :=
  rises_eq (putsN_up _ _ (uni_one X).1) (uni_one _).1 fun x => by rw [putsN_mem, (uni_one X).2, (uni_one Y).2, (uni_one _).2, List.mem_append]
theorem put_nil (x : ByteArray) : putN x [] = uniN [[x]] :=
  rises_eq (by simp [putN, Rises]) (uni_one _).1 fun y => by rw [(uni_one _).2]; simp [putN]
theorem uni_nil : uniN [[]] = [] := rises_eq (uni_one _).1 (by simp [Rises]) fun y => by rw [(uni_one _).2]
theorem tvss_app (a b : List Tm) : tvss (a ++ b) = tvss a ++ tvss b := by
  induction a with
  | nil => rw [List.nil_append, tvss_nil, List.nil_append]
  | cons x a ih => rw [List.cons_append, tvss_cons, tvss_cons, ih, List.append_assoc]
theorem tvss_take (ts : List Tm) (k : Nat) (h : k < ts.length) : tvss (ts.take (k + 1)) = tvss (ts.take k) ++ tvs ts[k] := by
  rw [List.take_succ_eq_append_getElem h, tvss_app, tvss_cons, tvss_nil, List.append_nil]
theorem tvss_take_le (ts : List Tm) (k : Nat) : (tvss (ts.take k)).length ≤ (tvss ts).length := by
  have h := congrArg List.length (tvss_app (ts.take k) (ts.drop k))
  rw [List.take_append_drop, List.length_append] at h
  omega
theorem tvs_get_le (ts : List Tm) (k : Nat) (h : k < ts.length) : (tvs ts[k]).length ≤ (tvss ts).length := by
  have h1 := congrArg List.length (tvss_take ts k h)
  have h2 := tvss_take_le ts (k + 1)
  rw [List.length_append] at h1
  omega
theorem uni1_len (X : List ByteArray) : (uniN [X]).length ≤ X.length := by have h := uniN_len [X]; simpa using h

set_option maxRecDepth 100000 in
set_option maxHeartbeats 8000000 in
theorem rputs_any (B : Nat) (V U : Value) (L M : List ByteArray) (w : World) (hB : B ≤ w.heap.size) (hO : OwnN B V L w) (hU : NmsAt w U M) (lv : L.length + M.length ≤ 1000000000) :
    Calls Tryz.prog 45 #[V, U] w fun e w' => ∃ v, e = .returned v ∧ OwnN B v (putsN L M) w' ∧ Below w.heap.size w w' := by
  obtain ⟨p, c, rfl, hl, hc, HX0⟩ := hU.form
  have HX : Hid (∀ i (hi : i < M.length), ∃ b off, p = some ⟨b, off, none⟩ ∧ b < w.heap.size ∧ w.cell? ⟨b, off + i, none⟩ = some (.string M[i])) := HX0
  have HO : Hid (OwnN B V L w) := hO
  obtain ⟨n, en⟩ : ∃ n : Nat, Hid (M.length = n) := ⟨_, rfl⟩
  have HL : Hid (L.length + n ≤ 1000000000) := by rw [← en.out]; exact lv
  rw [en.out] at hl hc ⊢
  clear hU HX0 hO lv
  obtain ⟨R, eR⟩ : ∃ R : List ByteArray, Hid (putsN L M = R) := ⟨_, rfl⟩
  rw [eR.out]
  go_enter Tryz.func45, Tryz.ntmps45
  go_wp2
  go_loopw [0, 5] (fun v0 v wr => ∃ k : Nat, k ≤ n ∧ v = .int .i64 k ∧ Hid (OwnN B v0 (putsN L (M.take k)) wr) ∧ Below w.heap.size w wr) (fun _ v _ => n - (intOf v).toNat)
  case atStart => exact ⟨0, Nat.zero_le _, rfl, by rw [List.take_zero]; exact HO, Below.refl _ _⟩
  case round =>
    obtain ⟨k, hk, rfl, hOr, hBr⟩ := hrel
    by_cases hlt : k < n
    case neg =>
      have c2 : ¬ (k : Int) < n := by omega
      have hR : Hid (OwnN B u0 R wr) := by
        have h := hOr.out
        rw [List.take_of_length_le (by have := en.out; omega), eR.out] at h
        exact h
      go_wp2
      go_ret
      exact ⟨_, rfl, hR.out, hBr⟩
    have hlt' : (k : Int) < n := by omega
    have kx : k < M.length := by have := en.out; omega
    obtain ⟨b, off, rfl, hb, x1⟩ := HX.out k kx
    have q1 := (hBr.cell (p := ⟨b, off + k, none⟩) hb).trans x1
    have cP := rput_any B u0 (putsN L (M.take k)) M[k] wr (Nat.le_trans hB hBr.size) hOr.out (by have := putsN_len (M.take k) L; have := HL.out; have := en.out; simp at *; omega)
    rw [← putsN_snoc, ← List.take_succ_eq_append_getElem kx] at cP
    have CP : Hid (type_of% cP) := cP
    clear x1 cP hOr
    generalize M[k] = x at *
    go_wp2_with fail
    refine CP.out.mono ?_
    rintro e w2 ⟨v2, rfl, h2, hb2⟩
    have H2 : Hid (_) := h2
    have B2 : Below w.heap.size w w2 := hBr.trans (hb2.mono hBr.size)
    clear h2 hb2 CP q1
    go_wp2
    exact ⟨⟨k + 1, by omega, by go_num, H2, B2⟩, by simp [intOf]; omega⟩

set_option maxRecDepth 100000 in
set_option maxHeartbeats 8000000 in
theorem rtvars_any (w0 : World) : ∀ (m : Nat) (t : Tm) (V : Value) (w : World), SizeOf.sizeOf t ≤ m → TmsAt w0 V t.subs → Below w0.heap.size w0 w → (tvs t).length ≤ 1000000000 →
    Calls Tryz.prog 15 #[.agg #[.int .i64 t.k, .string t.nm, .int .i64 t.v.k, .int .i64 t.v.n, .int .i64 t.v.d, .string t.v.s, V]] w fun e w' => ∃ v, e = .returned v ∧ OwnN w.heap.size v (uniN [tvs t]) w' ∧ Below w.heap.size w w' := by
  intro m
  induction m with
  | zero => intro t V w hm; cases t; simp at hm
  | succ m ih =>
    intro t V w hm hV hw hlen
    obtain ⟨p, c, rfl, hl, hc, HX0⟩ := hV.form
    have HX : Hid (∀ i (hi : i < t.subs.length), ∃ b off u, p = some ⟨b, off, none⟩ ∧ b < w0.heap.size ∧ TmC w0 b (off + i * 7) t.subs[i] u ∧ TmsAt w0 u t.subs[i].subs ∧ t.subs[i].v.Fits) := HX0
    have IH : Hid (_) := ih
    have HM : Hid (SizeOf.sizeOf t ≤ m + 1) := hm
    obtain ⟨A, eA⟩ : ∃ A : List ByteArray, Hid ((if t.k = 1 then [t.nm] else []) = A) := ⟨_, rfl⟩
    have eT : Hid (tvs t = A ++ tvss t.subs) := by have h := tvs_eq t; rw [eA.out] at h; exact h
    have HL : Hid ((A ++ tvss t.subs).length ≤ 1000000000) := by rw [← eT.out]; exact hlen
    rw [eT.out]
    obtain ⟨n, en⟩ : ∃ n : Nat, Hid (t.subs.length = n) := ⟨_, rfl⟩
    rw [en.out] at hl hc ⊢
    have hw0 := hw.size
    clear hV HX0 ih hm hlen eT
    generalize t.v.k = vk at *
    generalize t.v.n = vn at *
    generalize t.v.d = vd at *
    generalize t.v.s = vs at *
    have hsub := t.subs_lt
    have HSub : Hid (_) := hsub
    clear hsub
    generalize t.k = tk at *
    generalize t.nm = nm at *
    generalize hts : t.subs = ts at *
    by_cases h1 : tk = 1
    · subst h1
      have eA1 : Hid (A = [nm]) := by have h := eA.out; rw [if_pos rfl] at h; exact h.symm
      clear eA
      go_enter Tryz.func15, Tryz.ntmps15
      go_wp2_with fail
      refine (rput_any w.heap.size (.slice none 0 0) [] nm _ (by simp) (OwnN.nil _ _) (by simp)).mono ?_
      rintro e w1 ⟨v1, rfl, h1, hb1⟩
      have S1 : Hid (OwnN w.heap.size v1 (uniN [A ++ tvss (ts.take 0)]) w1) := by
        rw [put_nil] at h1
        rw [eA1.out, List.take_zero, tvss_nil, List.append_nil]
        exact h1
      have X3 : w1.heap[w.heap.size]? = some (.cells #[.int .i64 1, .string nm, .int .i64 vk, .int .i64 vn, .int .i64 vd, .string vs, .slice p n c] 39 (0, 0)) := (hb1.block w.heap.size (by simp)).trans (heap_allocA w _)
      have B1 : Below w.heap.size w w1 := ((Below.refl _ _).alloc (Nat.le_refl _) _).trans (hb1.mono (by simp))
      have HX3 : Hid (_) := X3
      clear h1 hb1 X3
      go_wp2
      go_loopw [3, 4] (fun v0 v wr => ∃ k : Nat, k ≤ n ∧ v = .int .i64 k ∧ Hid (OwnN w.heap.size v0 (uniN [A ++ tvss (ts.take k)]) wr) ∧ Below w.heap.size w wr ∧ Hid (wr.heap[w.heap.size]? = w1.heap[w.heap.size]?)) (fun _ v _ => n - (intOf v).toNat)
      case atStart => exact ⟨0, Nat.zero_le _, rfl, S1, B1, rfl⟩
      case round =>
        obtain ⟨k, hk, rfl, hOr, hBr, hXr⟩ := hrel
        have r6 : wr.cell? ⟨w.heap.size, 6, none⟩ = some (.slice p n c) := by rw [Lib.cell_of_heap (hXr.out.trans HX3.out)]; rfl
        have hsz : w.heap.size < wr.heap.size := (Array.getElem?_eq_some_iff.1 (hXr.out.trans HX3.out)).1
        by_cases hlt : k < n
        case neg =>
          have c2 : ¬ (k : Int) < n := by omega
          have hR : Hid (OwnN w.heap.size u3 (uniN [A ++ tvss ts]) wr) := by
            have h := hOr.out
            rw [List.take_of_length_le (by have := en.out; omega)] at h
            exact h
          go_wp2
          go_ret
          exact ⟨_, rfl, hR.out, hBr⟩
        have hlt' : (k : Int) < n := by omega
        have kx : k < ts.length := by have := en.out; omega
        obtain ⟨b, off, u, rfl, hb, TC, TS, -⟩ := HX.out k kx
        have hB0 : Below w0.heap.size w0 wr := hw.trans (hBr.mono hw0)
        obtain ⟨a0, a1, a2, a3, a4, a5, a6⟩ := TC.below hB0 hb
        have hle := tvs_get_le ts k kx
        have hle2 := tvss_take_le ts k
        have hL := HL.out
        have hLA : A.length + (tvss ts).length ≤ 1000000000 := by rw [← List.length_append]; exact hL
        have cT := IH.out ts[k] u wr (by have a := mem_lt k kx; have b := HSub.out; have c := HM.out; unfold Hid at b c; omega) TS hB0 (by omega)
        have CT : Hid (type_of% cT) := cT
        have cP : ∀ (W : World) (v : Value), Below w.heap.size w W → OwnN w.heap.size u3 (uniN [A ++ tvss (ts.take k)]) W → OwnN w.heap.size v (uniN [tvs ts[k]]) W → Calls Tryz.prog 45 #[u3, v] W fun e w' => ∃ v, e = .returned v ∧ OwnN w.heap.size v (uniN [A ++ tvss (ts.take (k + 1))]) w' ∧ Below W.heap.size W w' := fun W v h0 h1 h2 => by
          have l1 := uni1_len (A ++ tvss (ts.take k))
          have l2 := uni1_len (tvs ts[k])
          have l3 := congrArg List.length (tvss_take ts k kx)
          have l4 := tvss_take_le ts (k + 1)
          rw [List.length_append] at l1 l3
          have h := rputs_any w.heap.size u3 v _ _ W h0.size h1 (h2.nms (by omega)) (by omega)
          rw [puts_uni, List.append_assoc, ← tvss_take ts k kx] at h
          exact h
        have CP : Hid (type_of% cP) := cP
        clear TC TS cT cP hle hle2 hL hLA
        generalize ts[k].k = X0 at *
        generalize ts[k].nm = X1 at *
        generalize ts[k].v.k = X2 at *
        generalize ts[k].v.n = X3 at *
        generalize ts[k].v.d = X4 at *
        generalize ts[k].v.s = X5 at *
        have HO : Hid (OwnN w.heap.size u3 (uniN [A ++ tvss (ts.take k)]) wr) := hOr
        obtain ⟨p3, n3, c3, rfl⟩ := slice_ofA hOr.out
        clear hOr
        go_wp2_with fail
        refine CT.out.mono ?_
        rintro e w2 ⟨v2, rfl, h2, hb2⟩
        have O2 : Hid (OwnN w.heap.size (.slice p3 n3 c3) (uniN [A ++ tvss (ts.take k)]) w2) := HO.out.bel hb2
        have V2 : Hid (OwnN w.heap.size v2 (uniN [tvs ts[k]]) w2) := own_monoB h2 hBr.size
        have B2 : Below w.heap.size w w2 := hBr.trans (hb2.mono hBr.size)
        have Z2 : Hid (w2.heap[w.heap.size]? = w1.heap[w.heap.size]?) := (hb2.block w.heap.size hsz).trans hXr.out
        have hsz2 : w.heap.size < w2.heap.size := Nat.lt_of_lt_of_le hsz hb2.size
        obtain ⟨p4, n4, c4, rfl⟩ := slice_ofA V2.out
        clear h2 hb2 CT HO hXr a0 a1 a2 a3 a4 a5 a6 r6 hBr
        go_wp2_with fail
        refine (CP.out w2 _ B2 O2.out V2.out).mono ?_
        rintro e w3 ⟨v3, rfl, h3, hb3⟩
        have O3 : Hid (_) := h3
        have B3 : Below w.heap.size w w3 := B2.trans (hb3.mono B2.size)
        have Z3 : Hid (w3.heap[w.heap.size]? = w1.heap[w.heap.size]?) := (hb3.block w.heap.size hsz2).trans Z2.out
        clear h3 hb3 CP O2 V2 Z2
        go_wp2
        exact ⟨⟨k + 1, by omega, by go_num, O3, B3, Z3⟩, by simp [intOf]; omega⟩
    · have eA1 : Hid (A = []) := by have h := eA.out; rw [if_neg h1] at h; exact h.symm
      have h1' : (tk == 1) = false := by simpa using h1
      clear eA
      obtain ⟨w1, ew1⟩ : ∃ w1, w1 = w.alloc (.cells #[.int .i64 tk, .string nm, .int .i64 vk, .int .i64 vn, .int .i64 vd, .string vs, .slice p n c] 39) := ⟨_, rfl⟩
      have S1 : Hid (OwnN w.heap.size (.slice none 0 0) (uniN [A ++ tvss (ts.take 0)]) w1) := by
        rw [eA1.out, List.take_zero, tvss_nil, List.append_nil, uni_nil]
        exact OwnN.nil _ _
      have HX3 : Hid (w1.heap[w.heap.size]? = some (.cells #[.int .i64 tk, .string nm, .int .i64 vk, .int .i64 vn, .int .i64 vd, .string vs, .slice p n c] 39 (0, 0))) := by rw [ew1]; exact heap_allocA w _
      have B1 : Below w.heap.size w w1 := by rw [ew1]; exact (Below.refl _ _).alloc (Nat.le_refl _) _
      go_enter Tryz.func15, Tryz.ntmps15
      go_upto_region 4 with fail
      rw [← ew1]
      clear ew1
      go_wp2
      go_loopw [3, 4] (fun v0 v wr => ∃ k : Nat, k ≤ n ∧ v = .int .i64 k ∧ Hid (OwnN w.heap.size v0 (uniN [A ++ tvss (ts.take k)]) wr) ∧ Below w.heap.size w wr ∧ Hid (wr.heap[w.heap.size]? = w1.heap[w.heap.size]?)) (fun _ v _ => n - (intOf v).toNat)
      case atStart => exact ⟨0, Nat.zero_le _, rfl, S1, B1, rfl⟩
      case round =>
        obtain ⟨k, hk, rfl, hOr, hBr, hXr⟩ := hrel
        have r6 : wr.cell? ⟨w.heap.size, 6, none⟩ = some (.slice p n c) := by rw [Lib.cell_of_heap (hXr.out.trans HX3.out)]; rfl
        have hsz : w.heap.size < wr.heap.size := (Array.getElem?_eq_some_iff.1 (hXr.out.trans HX3.out)).1
        by_cases hlt : k < n
        case neg =>
          have c2 : ¬ (k : Int) < n := by omega
          have hR : Hid (OwnN w.heap.size u3 (uniN [A ++ tvss ts]) wr) := by
            have h := hOr.out
            rw [List.take_of_length_le (by have := en.out; omega)] at h
            exact h
          go_wp2
          go_ret
          exact ⟨_, rfl, hR.out, hBr⟩
        have hlt' : (k : Int) < n := by omega
        have kx : k < ts.length := by have := en.out; omega
        obtain ⟨b, off, u, rfl, hb, TC, TS, -⟩ := HX.out k kx
        have hB0 : Below w0.heap.size w0 wr := hw.trans (hBr.mono hw0)
        obtain ⟨a0, a1, a2, a3, a4, a5, a6⟩ := TC.below hB0 hb
        have hle := tvs_get_le ts k kx
        have hle2 := tvss_take_le ts k
        have hL := HL.out
        have hLA : A.length + (tvss ts).length ≤ 1000000000 := by rw [← List.length_append]; exact hL
        have cT := IH.out ts[k] u wr (by have a := mem_lt k kx; have b := HSub.out; have c := HM.out; unfold Hid at b c; omega) TS hB0 (by omega)
        have CT : Hid (type_of% cT) := cT
        have cP : ∀ (W : World) (v : Value), Below w.heap.size w W → OwnN w.heap.size u3 (uniN [A ++ tvss (ts.take k)]) W → OwnN w.heap.size v (uniN [tvs ts[k]]) W → Calls Tryz.prog 45 #[u3, v] W fun e w' => ∃ v, e = .returned v ∧ OwnN w.heap.size v (uniN [A ++ tvss (ts.take (k + 1))]) w' ∧ Below W.heap.size W w' := fun W v h0 h1 h2 => by
          have l1 := uni1_len (A ++ tvss (ts.take k))
          have l2 := uni1_len (tvs ts[k])
          have l3 := congrArg List.length (tvss_take ts k kx)
          have l4 := tvss_take_le ts (k + 1)
          rw [List.length_append] at l1 l3
          have h := rputs_any w.heap.size u3 v _ _ W h0.size h1 (h2.nms (by omega)) (by omega)
          rw [puts_uni, List.append_assoc, ← tvss_take ts k kx] at h
          exact h
        have CP : Hid (type_of% cP) := cP
        clear TC TS cT cP hle hle2 hL hLA
        generalize ts[k].k = X0 at *
        generalize ts[k].nm = X1 at *
        generalize ts[k].v.k = X2 at *
        generalize ts[k].v.n = X3 at *
        generalize ts[k].v.d = X4 at *
        generalize ts[k].v.s = X5 at *
        have HO : Hid (OwnN w.heap.size u3 (uniN [A ++ tvss (ts.take k)]) wr) := hOr
        obtain ⟨p3, n3, c3, rfl⟩ := slice_ofA hOr.out
        clear hOr
        go_wp2_with fail
        refine CT.out.mono ?_
        rintro e w2 ⟨v2, rfl, h2, hb2⟩
        have O2 : Hid (OwnN w.heap.size (.slice p3 n3 c3) (uniN [A ++ tvss (ts.take k)]) w2) := HO.out.bel hb2
        have V2 : Hid (OwnN w.heap.size v2 (uniN [tvs ts[k]]) w2) := own_monoB h2 hBr.size
        have B2 : Below w.heap.size w w2 := hBr.trans (hb2.mono hBr.size)
        have Z2 : Hid (w2.heap[w.heap.size]? = w1.heap[w.heap.size]?) := (hb2.block w.heap.size hsz).trans hXr.out
        have hsz2 : w.heap.size < w2.heap.size := Nat.lt_of_lt_of_le hsz hb2.size
        obtain ⟨p4, n4, c4, rfl⟩ := slice_ofA V2.out
        clear h2 hb2 CT HO hXr a0 a1 a2 a3 a4 a5 a6 r6 hBr
        go_wp2_with fail
        refine (CP.out w2 _ B2 O2.out V2.out).mono ?_
        rintro e w3 ⟨v3, rfl, h3, hb3⟩
        have O3 : Hid (_) := h3
        have B3 : Below w.heap.size w w3 := B2.trans (hb3.mono B2.size)
        have Z3 : Hid (w3.heap[w.heap.size]? = w1.heap[w.heap.size]?) := (hb3.block w.heap.size hsz2).trans Z2.out
        clear h3 hb3 CP O2 V2 Z2
        go_wp2
        exact ⟨⟨k + 1, by omega, by go_num, O3, B3, Z3⟩, by simp [intOf]; omega⟩
end Go.Proofs.YtfajjphfjilpnaaGreat

namespace Go.Proofs.YtfajjphfjilpnaaGreat
open Go.RowKit LX Go.Shelf
set_option linter.unusedVariables false

/-- Texts where they lie. -/
def StrAt (w : World) (v : Value) (vs : List (List UInt8)) : Prop := ∃ b c, v = .slice (some ⟨b, 0, none⟩) vs.length c ∧ b < w.heap.size ∧ ∀ i (h : i < vs.length), w.cell? ⟨b, i, none⟩ = some (.string ⟨vs[i].toArray⟩)
set_option maxRecDepth 100000 in
theorem words_any (w : World) :
    Calls Tryz.prog 97 #[] w fun e w' => e = .returned (.slice (some ⟨w.heap.size, 0, none⟩) 23 23) ∧ Below w.heap.size w w' ∧ StrAt w' (.slice (some ⟨w.heap.size, 0, none⟩) 23 23) resv := by
  go_enter Tryz.func97, Tryz.ntmps97
  go_wp2
  go_ret
  refine ⟨rfl, by go_grown, w.heap.size, 23, rfl, by simp, fun i hi => ?_⟩
  rw [World.cell?_alloc_at _ _ _ _ rfl]
  have hall : ∀ i : Fin 23, (#[.string ⟨#[116, 114, 117, 101]⟩, .string ⟨#[102, 97, 108, 115, 101]⟩, .string ⟨#[110, 111, 116]⟩, .string ⟨#[97, 110, 100]⟩, .string ⟨#[111, 114]⟩, .string ⟨#[101, 120, 105, 115, 116, 115]⟩, .string ⟨#[112, 114, 101, 118]⟩, .string ⟨#[110, 101, 120, 116]⟩, .string ⟨#[111, 110, 99, 101]⟩, .string ⟨#[115, 111, 111, 110]⟩, .string ⟨#[115, 105, 110, 99, 101]⟩, .string ⟨#[117, 110, 116, 105, 108]⟩, .string ⟨#[98, 101, 102, 111, 114, 101]⟩, .string ⟨#[97, 102, 116, 101, 114]⟩, .string ⟨#[97, 103, 103]⟩, .string ⟨#[108, 101, 116]⟩, .string ⟨#[108, 101, 116, 112, 97, 115, 116]⟩, .string ⟨#[106, 111, 105, 110]⟩, .string ⟨#[97, 110, 121]⟩, .string ⟨#[116, 101, 115, 116]⟩, .string ⟨#[97, 108, 116]⟩, .string ⟨#[115, 101, 113]⟩, .string ⟨#[115, 116, 97, 114]⟩] : Array Value)[i.1]? = some (.string ⟨(resv[i.1]'i.2).toArray⟩) := by
    intro i
    match i with
    | ⟨0, _⟩ => rfl
    | ⟨1, _⟩ => rfl
    | ⟨2, _⟩ => rfl
    | ⟨3, _⟩ => rfl
    | ⟨4, _⟩ => rfl
    | ⟨5, _⟩ => rfl
    | ⟨6, _⟩ => rfl
    | ⟨7, _⟩ => rfl
    | ⟨8, _⟩ => rfl
    | ⟨9, _⟩ => rfl
    | ⟨10, _⟩ => rfl
    | ⟨11, _⟩ => rfl
    | ⟨12, _⟩ => rfl
    | ⟨13, _⟩ => rfl
    | ⟨14, _⟩ => rfl
    | ⟨15, _⟩ => rfl
    | ⟨16, _⟩ => rfl
    | ⟨17, _⟩ => rfl
    | ⟨18, _⟩ => rfl
    | ⟨19, _⟩ => rfl
    | ⟨20, _⟩ => rfl
    | ⟨21, _⟩ => rfl
    | ⟨22, _⟩ => rfl
    | ⟨n + 23, h⟩ => exact absurd h (by omega)
  exact hall ⟨i, hi⟩

theorem contains_drop (x : List UInt8) (L : List (List UInt8)) (k : Nat) (h : k < L.length) : (L.drop k).contains x = (L[k] == x || (L.drop (k + 1)).contains x) := by
  rw [List.drop_eq_getElem_cons h, List.contains_cons]
  congr 1
  exact BEq.comm

set_option maxRecDepth 100000 in
set_option maxHeartbeats 1000000 in
theorem rhas_any (V : Value) (L : List (List UInt8)) (x : ByteArray) (w : World) (hV : StrAt w V L) (lL : L.length ≤ 1000000) :
    Calls Tryz.prog 57 #[V, .string x] w fun e w' => e = .returned (.bool (L.contains x.data.toList)) ∧ w' = w := by
  obtain ⟨b, c, rfl, hb, hc⟩ := hV
  have HC : Hid (∀ i (h : i < L.length), w.cell? ⟨b, i, none⟩ = some (.string ⟨L[i].toArray⟩)) := hc
  clear hc
  obtain ⟨n, en⟩ : ∃ n : Nat, Hid (L.length = n) := ⟨_, rfl⟩
  rw [en.out] at lL ⊢
  obtain ⟨R, eR⟩ : ∃ R : Bool, Hid (L.contains x.data.toList = R) := ⟨_, rfl⟩
  rw [eR.out]
  go_enter Tryz.func57, Tryz.ntmps57
  go_wp2
  go_loop [5] (fun i => ∃ k : Nat, k ≤ n ∧ i = .int .i64 k ∧ Hid (R = (L.drop k).contains x.data.toList)) (fun i => n - (intOf i).toNat)
  case atStart => exact ⟨0, Nat.zero_le _, rfl, by rw [List.drop_zero]; exact eR.out.symm⟩
  case round =>
    obtain ⟨k, hk, rfl, hr⟩ := hrel
    by_cases hlt : k < n
    · have kx : k < L.length := by have := en.out; omega
      have a0 := HC.out k kx
      have hr2 : Hid (R = (L[k] == x.data.toList || (L.drop (k + 1)).contains x.data.toList)) := by
        have h := hr.out
        rw [contains_drop _ _ _ kx] at h
        exact h
      have hlt' : (k : Int) < n := by omega
      clear hr
      generalize L[k] = y at a0 hr2
      by_cases hy : y = x.data.toList
      · have hr3 : Hid (R = true) := by unfold Hid; have h := hr2.out; rw [hy] at h; simpa using h
        have hq : ((⟨y.toArray⟩ : ByteArray).toList == x.toList) = true := by rw [ByteArray.toList_eq, ByteArray.toList_eq]; simpa using hy
        generalize (⟨y.toArray⟩ : ByteArray) = Y at a0 hq
        clear hr2 hy
        go_wp2
        go_ret
        exact ⟨retb hr3.out.symm, rfl⟩
      · have hr3 : Hid (R = (L.drop (k + 1)).contains x.data.toList) := by
          have h := hr2.out
          rw [beq_eq_false_iff_ne.mpr hy, Bool.false_or] at h
          exact h
        have hq : ((⟨y.toArray⟩ : ByteArray).toList == x.toList) = false := by rw [ByteArray.toList_eq, ByteArray.toList_eq]; simpa using hy
        generalize (⟨y.toArray⟩ : ByteArray) = Y at a0 hq
        clear hr2 hy
        go_wp2
        exact ⟨⟨k + 1, by omega, by go_num, hr3⟩, by simp [intOf]; omega⟩
    · have c2 : ¬ (k : Int) < n := by omega
      have hr3 : Hid (R = false) := by
        have h := hr.out
        rw [List.drop_eq_nil_of_le (by have := en.out; omega)] at h
        exact h
      go_wp2
      go_ret
      exact ⟨retb hr3.out.symm, rfl⟩

theorem nameL_no (l : List UInt8) (h : inAll l = false) : nameL l = false := by unfold nameL; rw [h, Bool.and_false]
theorem nameL_yes {l : List UInt8} (h1 : 1 ≤ l.length) (h2 : l.length ≤ 16) (h3 : lowN (hd l) = true) (h4 : inAll l = true) : nameL l = !resv.contains l := by
  unfold nameL
  rw [h3, h4, decide_eq_true h1, decide_eq_true h2]
  simp

set_option maxHeartbeats 4000000 in
set_option maxRecDepth 100000 in
theorem rname_any (s : ByteArray) (w : World) :
    Calls Tryz.prog 81 #[.string s] w fun e w' => e = .returned (.bool (nameB s)) ∧ Below w.heap.size w w' := by
  have hl : s.data.toList.length = s.size := by simp
  obtain ⟨R, eR⟩ : ∃ R : Bool, Hid (nameB s = R) := ⟨_, rfl⟩
  rw [eR.out]
  by_cases h0 : s.size = 0
  · have hn : Hid (R = false) := by
      rw [← eR.out]
      have hs : s = ⟨#[]⟩ := of_list (l := []) (List.eq_nil_of_length_eq_zero (by omega))
      rw [hs]
      rfl
    have h0' : (s.size : Int) < 1 := by omega
    go_enter Tryz.func81, Tryz.ntmps81
    go_wp2
    go_ret
    exact ⟨retb hn.out.symm, Below.refl _ _⟩
  have h0' : ¬ (s.size : Int) < 1 := by omega
  by_cases h1 : 16 < s.size
  · have hn : Hid (R = false) := by
      rw [← eR.out]
      unfold Hid nameB
      cases h : nameL s.data.toList with
      | false => rfl
      | true => exact absurd (nameL_len h) (by omega)
    have h1' : (16 : Int) < s.size := by omega
    go_enter Tryz.func81, Tryz.ntmps81
    go_wp2
    go_ret
    exact ⟨retb hn.out.symm, Below.refl _ _⟩
  have h1' : ¬ (16 : Int) < s.size := by omega
  have hp : 0 < s.size := by omega
  have hp' : (0 : Int) < s.size := by omega
  have hh : hd s.data.toList = s[0].toNat := by simpa using hd_drop s 0 hp
  by_cases hb : lowN (hd s.data.toList) = true
  · have hb1 : 97 ≤ s[0].toNat ∧ s[0].toNat ≤ 122 := by rw [hh] at hb; unfold lowN at hb; simpa using hb
    have b1 : ¬ ((s[0].toNat : Nat) : Int) < 97 := by omega
    have b2 : ¬ (122 : Int) < ((s[0].toNat : Nat) : Int) := by omega
    have HY : Hid (inAll s.data.toList = true → R = !resv.contains s.data.toList) := fun h => by rw [← eR.out]; exact nameL_yes (by omega) (by omega) hb h
    have HN : Hid (inAll s.data.toList = false → R = false) := fun h => by rw [← eR.out]; exact nameL_no _ h
    have cW : Hid (∀ W : World, Calls Tryz.prog 97 #[] W fun e w' => e = .returned (.slice (some ⟨W.heap.size, 0, none⟩) 23 23) ∧ Below W.heap.size W w' ∧ StrAt w' (.slice (some ⟨W.heap.size, 0, none⟩) 23 23) resv) := fun W => words_any W
    clear hb hb1 hh eR hl
    go_enter Tryz.func81, Tryz.ntmps81
    go_wp2
    go_loop [3] (fun i => ∃ k : Nat, k ≤ s.size ∧ i = .int .i64 k ∧ Hid (inAll s.data.toList = inAll (s.data.toList.drop k))) (fun i => s.size - (intOf i).toNat)
    case atStart => exact ⟨0, Nat.zero_le _, rfl, by rw [List.drop_zero]; exact (show inAll s.data.toList = inAll s.data.toList from rfl)⟩
    case round =>
      obtain ⟨k, hk, rfl, hrr⟩ := hrel
      by_cases hlt : k < s.size
      · have hd1 : s.data.toList.drop k = s[k] :: s.data.toList.drop (k + 1) := by
          rw [List.drop_eq_getElem_cons (by simpa using hlt)]
          rfl
        have hr2 : Hid (inAll s.data.toList = (inwN s[k].toNat && inAll (s.data.toList.drop (k + 1)))) := by
          have h := hrr.out
          rw [hd1] at h
          exact h
        have hlt' : (k : Int) < s.size := by omega
        have hC := s[k].toNat_lt
        clear hrr hd1
        obtain ⟨c, ec⟩ : ∃ c : Nat, Hid (s[k].toNat = c) := ⟨s[k].toNat, (show _ = _ from rfl)⟩
        rw [ec.out] at hr2 hC
        have ec2 := ec.out
        by_cases hI : inwN c = true
        · have hr3 : Hid (inAll s.data.toList = inAll (s.data.toList.drop (k + 1))) := by
            have h := hr2.out
            rw [hI, Bool.true_and] at h
            exact h
          have hx : (97 ≤ c ∧ c ≤ 122) ∨ ((48 ≤ c ∧ c ≤ 57) ∨ c = 95) := by
            unfold inwN lowN digN at hI
            simp at hI
            omega
          clear hI hr2
          rcases hx with ⟨x1, x2⟩ | ⟨x1, x2⟩ | x3
          · have y1 : ¬ (c : Int) < 97 := by omega
            have y2 : ¬ (122 : Int) < c := by omega
            go_wp2
            exact ⟨⟨k + 1, by omega, by go_num, hr3⟩, by simp [intOf]; omega⟩
          · have y1 : (c : Int) < 97 := by omega
            have y2 : ¬ (c : Int) < 48 := by omega
            have y3 : ¬ (57 : Int) < c := by omega
            go_wp2
            exact ⟨⟨k + 1, by omega, by go_num, hr3⟩, by simp [intOf]; omega⟩
          · subst x3
            go_wp2
            exact ⟨⟨k + 1, by omega, by go_num, hr3⟩, by simp [intOf]; omega⟩
        · have hI' : inwN c = false := by simpa using hI
          have hr3 : Hid (R = false) := HN.out (by have h := hr2.out; rw [hI', Bool.false_and] at h; exact h)
          have hx : (c < 97 ∨ 122 < c) ∧ (c < 48 ∨ 57 < c) ∧ c ≠ 95 := by
            unfold inwN lowN digN at hI'
            simp at hI'
            omega
          have y3 : ((c : Int) == 95) = false := by simp; omega
          clear hI hI' hr2
          obtain ⟨hx1, hx2, -⟩ := hx
          rcases hx1 with x1 | x1
          · have z1 : (c : Int) < 97 := by omega
            rcases hx2 with x2 | x2
            · have z2 : (c : Int) < 48 := by omega
              go_wp2
              go_ret
              exact ⟨retb hr3.out.symm, Below.refl _ _⟩
            · have z2 : ¬ (c : Int) < 48 := by omega
              have z3 : (57 : Int) < c := by omega
              go_wp2
              go_ret
              exact ⟨retb hr3.out.symm, Below.refl _ _⟩
          · have z1 : ¬ (c : Int) < 97 := by omega
            have z1' : (122 : Int) < c := by omega
            have z2 : ¬ (c : Int) < 48 := by omega
            have z3 : (57 : Int) < c := by omega
            go_wp2
            go_ret
            exact ⟨retb hr3.out.symm, Below.refl _ _⟩
      · have hlt' : ¬ (k : Int) < s.size := by omega
        have hr3 : Hid (R = !resv.contains s.data.toList) := HY.out (by
          have h := hrr.out
          rw [List.drop_eq_nil_of_le (by simpa using hlt)] at h
          exact h)
        obtain ⟨Q, eQ⟩ : ∃ Q : Bool, Hid (resv.contains s.data.toList = Q) := ⟨_, rfl⟩
        rw [eQ.out] at hr3
        go_wp2_with fail
        refine (cW.out _).mono ?_
        rintro e w1 ⟨rfl, hB1, hS1⟩
        have cH : Hid (Calls Tryz.prog 57 #[.slice (some ⟨w.heap.size, 0, none⟩) 23 23, .string s] w1 fun e w' => e = .returned (.bool Q) ∧ w' = w1) := by
          have h := rhas_any _ resv s w1 hS1 (by decide)
          rw [eQ.out] at h
          exact h
        clear hS1 cW
        go_wp2_with fail
        refine cH.out.mono ?_
        rintro e w2 ⟨rfl, rfl⟩
        clear cH
        go_wp2
        go_ret
        exact ⟨retb hr3.out.symm, hB1⟩
  · have hb' : lowN (hd s.data.toList) = false := by simpa using hb
    have hn : Hid (R = false) := by rw [← eR.out]; unfold Hid nameB nameL; rw [hb']; simp
    have hb1 : s[0].toNat < 97 ∨ 122 < s[0].toNat := by
      rw [hh] at hb'
      unfold lowN at hb'
      simp at hb'
      omega
    clear hb hb' hh eR hl
    rcases hb1 with x1 | x1
    · have b1 : ((s[0].toNat : Nat) : Int) < 97 := by omega
      go_enter Tryz.func81, Tryz.ntmps81
      go_wp2
      go_ret
      exact ⟨retb hn.out.symm, Below.refl _ _⟩
    · have b1 : ¬ ((s[0].toNat : Nat) : Int) < 97 := by omega
      have b2 : (122 : Int) < ((s[0].toNat : Nat) : Int) := by omega
      go_enter Tryz.func81, Tryz.ntmps81
      go_wp2
      go_ret
      exact ⟨retb hn.out.symm, Below.refl _ _⟩

end Go.Proofs.YtfajjphfjilpnaaGreat

namespace Go.Proofs.YtfajjphfjilpnaaGreat
open Go.RowKit LX Go.Shelf
set_option linter.unusedVariables false

theorem contS_drop (x : ByteArray) (M : List ByteArray) (k : Nat) (h : k < M.length) : Lib.containsS (M.drop k) x = (decide (M[k] = x) || Lib.containsS (M.drop (k + 1)) x) := by
  rw [Bool.eq_iff_iff, Bool.or_eq_true, Lib.containsS_iff, Lib.containsS_iff, List.drop_eq_getElem_cons h, List.mem_cons, decide_eq_true_eq, eq_comm]
theorem contS_nil (x : ByteArray) : Lib.containsS [] x = false := by
  rw [Bool.eq_false_iff]
  intro h
  have := (Lib.containsS_iff [] x).1 h
  simp at this

set_option maxRecDepth 100000 in
set_option maxHeartbeats 1000000 in
theorem rhasN_any (V : Value) (M : List ByteArray) (x : ByteArray) (w : World) (hV : NmsAt w V M) :
    Calls Tryz.prog 57 #[V, .string x] w fun e w' => e = .returned (.bool (Lib.containsS M x)) ∧ w' = w := by
  obtain ⟨p, c, rfl, hl, hc, HX0⟩ := hV.form
  have HX : Hid (∀ i (hi : i < M.length), ∃ b off, p = some ⟨b, off, none⟩ ∧ b < w.heap.size ∧ w.cell? ⟨b, off + i, none⟩ = some (.string M[i])) := HX0
  clear hV HX0
  obtain ⟨n, en⟩ : ∃ n : Nat, Hid (M.length = n) := ⟨_, rfl⟩
  obtain ⟨R, eR⟩ : ∃ R : Bool, Hid (Lib.containsS M x = R) := ⟨_, rfl⟩
  rw [eR.out, en.out]
  rw [en.out] at hl hc
  go_enter Tryz.func57, Tryz.ntmps57
  go_wp2
  go_loop [5] (fun i => ∃ k : Nat, k ≤ n ∧ i = .int .i64 k ∧ Hid (R = Lib.containsS (M.drop k) x)) (fun i => n - (intOf i).toNat)
  case atStart => exact ⟨0, Nat.zero_le _, rfl, by rw [List.drop_zero]; exact eR.out.symm⟩
  case round =>
    obtain ⟨k, hk, rfl, hr⟩ := hrel
    by_cases hlt : k < n
    · have kx : k < M.length := by have := en.out; omega
      obtain ⟨b, off, rfl, hb, a0⟩ := HX.out k kx
      have hr2 : Hid (R = (decide (M[k] = x) || Lib.containsS (M.drop (k + 1)) x)) := by
        have h := hr.out
        rw [contS_drop _ _ _ kx] at h
        exact h
      have hlt' : (k : Int) < n := by omega
      clear hr
      generalize M[k] = y at a0 hr2
      by_cases hy : y = x
      · have hr3 : Hid (R = true) := by unfold Hid; have h := hr2.out; rw [hy] at h; simpa using h
        have hq : (y.toList == x.toList) = true := by simp [hy]
        clear hr2 hy
        go_wp2
        go_ret
        exact ⟨retb hr3.out.symm, rfl⟩
      · have hr3 : Hid (R = Lib.containsS (M.drop (k + 1)) x) := by
          have h := hr2.out
          rw [decide_eq_false hy, Bool.false_or] at h
          exact h
        have hq : (y.toList == x.toList) = false := by
          rw [beq_eq_false_iff_ne]
          intro h
          rw [ByteArray.toList_eq, ByteArray.toList_eq] at h
          exact hy (of_list h |>.trans (by cases x; simp))
        clear hr2 hy
        go_wp2
        exact ⟨⟨k + 1, by omega, by go_num, hr3⟩, by simp [intOf]; omega⟩
    · have c2 : ¬ (k : Int) < n := by omega
      have hr3 : Hid (R = false) := by
        have h := hr.out
        rw [List.drop_eq_nil_of_le (by have := en.out; omega), contS_nil] at h
        exact h
      go_wp2
      go_ret
      exact ⟨retb hr3.out.symm, rfl⟩

set_option maxRecDepth 100000 in
set_option maxHeartbeats 2000000 in
theorem rtwice_any (V : Value) (vs : List ByteArray) (w : World) (hV : NmsAt w V vs) :
    Calls Tryz.prog 56 #[V] w fun r w' => r = .returned (.bool (repN [] vs)) ∧ Below w.heap.size w w' := by
  have HV0 : Hid (NmsAt w V vs) := hV
  obtain ⟨p, c, rfl, hl, hc, HX0⟩ := hV.form
  have HX : Hid (∀ i (hi : i < vs.length), ∃ b off, p = some ⟨b, off, none⟩ ∧ b < w.heap.size ∧ w.cell? ⟨b, off + i, none⟩ = some (.string vs[i])) := HX0
  have cC : Hid (∀ (W : World) (k : Nat) (X : ByteArray), Below w.heap.size w W → k ≤ vs.length → Calls Tryz.prog 57 #[.slice p k c, .string X] W fun e w' => e = .returned (.bool (Lib.containsS (vs.take k) X)) ∧ w' = W) := fun W k X hW hk => rhasN_any _ _ X W ((HV0.out.take k hk).below hW)
  clear hV HX0 HV0
  obtain ⟨R, eR⟩ : ∃ R : Bool, Hid (repN [] vs = R) := ⟨_, rfl⟩
  obtain ⟨n, en⟩ : ∃ n : Nat, Hid (vs.length = n) := ⟨_, rfl⟩
  rw [eR.out, en.out]
  rw [en.out] at hl hc
  go_enter Tryz.func56, Tryz.ntmps56
  go_wp2
  go_loopw [3] (fun i wr => ∃ k : Nat, k ≤ n ∧ i = .int .i64 k ∧ Hid (R = repN (vs.take k) (vs.drop k)) ∧ Below w.heap.size w wr) (fun i _ => n - (intOf i).toNat)
  case atStart => exact ⟨0, Nat.zero_le _, rfl, by rw [List.drop_zero]; exact eR.out.symm, Below.refl _ _⟩
  case round =>
    obtain ⟨k, hk, rfl, hr, hB⟩ := hrel
    by_cases hlt : k < n
    · have kx : k < vs.length := by have := en.out; omega
      obtain ⟨b, off, rfl, hb, r0⟩ := HX.out k kx
      have r1 : wr.cell? ⟨b, off + k, none⟩ = some (.string vs[k]) := (hB.cell (p := ⟨b, off + k, none⟩) hb).trans r0
      have hlt' : (k : Int) < n := by omega
      have hkc : (k : Int) ≤ c := by omega
      have hr2 : Hid (R = (Lib.containsS (vs.take k) vs[k] || repN (vs.take (k + 1)) (vs.drop (k + 1)))) := by
        have h := hr.out
        rw [List.drop_eq_getElem_cons kx] at h
        rw [h, List.take_succ_eq_append_getElem kx]
        rfl
      clear hr
      have CC1 : Hid (∀ m : Nat, Calls Tryz.prog 57 #[.slice (some ⟨b, off, none⟩) k c, .string vs[k]] (wr.drewN m) fun e w' => e = .returned (.bool (Lib.containsS (vs.take k) vs[k])) ∧ w' = wr.drewN m) := fun m => cC.out _ k vs[k] (bdrewA m hB) (by have := en.out; omega)
      clear r0 cC
      generalize vs[k] = X at r1 hr2 CC1
      generalize Lib.containsS (vs.take k) X = CB at CC1 hr2
      go_upto_region 4 with fail
      go_quiet (first | (go_at_call 57; exact Calls.quiet_of_same (CC1.out _)))
      have K9 : Below w.heap.size w (wr.drewN nq) := bdrewA nq hB
      clear CC1
      cases CB with
      | true =>
        have hr3 : Hid (R = true) := by have h := hr2.out; unfold Hid; simpa using h
        go_wp2
        go_ret
        exact ⟨retb hr3.out.symm, K9⟩
      | false =>
        have hr3 : Hid (R = repN (vs.take (k + 1)) (vs.drop (k + 1))) := by have h := hr2.out; unfold Hid; simpa using h
        go_wp2
        exact ⟨⟨k + 1, by omega, by go_num, hr3, K9⟩, by simp [intOf]; omega⟩
    · have c2 : ¬ (k : Int) < n := by omega
      have hr3 : Hid (R = false) := by
        have h := hr.out
        rw [List.drop_eq_nil_of_le (by have := en.out; omega)] at h
        exact h
      go_wp2
      go_ret
      exact ⟨retb hr3.out.symm, hB⟩

set_option maxRecDepth 100000 in
set_option maxHeartbeats 2000000 in
theorem rnames_any (V : Value) (vs : List ByteArray) (w : World) (hV : NmsAt w V vs) :
    Calls Tryz.prog 82 #[V] w fun r w' => r = .returned (.bool (namesB vs)) ∧ Below w.heap.size w w' := by
  obtain ⟨p, c, rfl, hl, hc, HX0⟩ := hV.form
  have HX : Hid (∀ i (hi : i < vs.length), ∃ b off, p = some ⟨b, off, none⟩ ∧ b < w.heap.size ∧ w.cell? ⟨b, off + i, none⟩ = some (.string vs[i])) := HX0
  clear hV HX0
  obtain ⟨R, eR⟩ : ∃ R : Bool, Hid (namesB vs = R) := ⟨_, rfl⟩
  obtain ⟨n, en⟩ : ∃ n : Nat, Hid (vs.length = n) := ⟨_, rfl⟩
  rw [eR.out, en.out]
  rw [en.out] at hl hc
  go_enter Tryz.func82, Tryz.ntmps82
  go_wp2
  go_loopw [3] (fun i wr => ∃ k : Nat, k ≤ n ∧ i = .int .i64 k ∧ Hid (R = namesB (vs.drop k)) ∧ Below w.heap.size w wr) (fun i _ => n - (intOf i).toNat)
  case atStart => exact ⟨0, Nat.zero_le _, rfl, by rw [List.drop_zero]; exact eR.out.symm, Below.refl _ _⟩
  case round =>
    obtain ⟨k, hk, rfl, hr, hB⟩ := hrel
    by_cases hlt : k < n
    · have kx : k < vs.length := by have := en.out; omega
      obtain ⟨b, off, rfl, hb, r0⟩ := HX.out k kx
      have r1 : wr.cell? ⟨b, off + k, none⟩ = some (.string vs[k]) := (hB.cell (p := ⟨b, off + k, none⟩) hb).trans r0
      have hlt' : (k : Int) < n := by omega
      have hr2 : Hid (R = (nameB vs[k] && namesB (vs.drop (k + 1)))) := by
        have h := hr.out
        rw [List.drop_eq_getElem_cons kx] at h
        rw [h]
        rfl
      clear hr r0
      have cN : Hid (∀ W : World, Calls Tryz.prog 81 #[.string vs[k]] W fun e w' => e = .returned (.bool (nameB vs[k])) ∧ Below W.heap.size W w') := fun W => rname_any _ W
      generalize vs[k] = X at r1 hr2 cN
      generalize nameB X = CB at cN hr2
      go_wp2_with fail
      refine (cN.out _).mono ?_
      rintro e w2 ⟨rfl, hb2⟩
      have K9 : Below w.heap.size w w2 := hB.trans (hb2.mono hB.size)
      clear cN hb2
      cases CB with
      | false =>
        have hr3 : Hid (R = false) := by have h := hr2.out; unfold Hid; simpa using h
        go_wp2
        go_ret
        exact ⟨retb hr3.out.symm, K9⟩
      | true =>
        have hr3 : Hid (R = namesB (vs.drop (k + 1))) := by have h := hr2.out; unfold Hid; simpa using h
        go_wp2
        exact ⟨⟨k + 1, by omega, by go_num, hr3, K9⟩, by simp [intOf]; omega⟩
    · have c2 : ¬ (k : Int) < n := by omega
      have hr3 : Hid (R = true) := by
        have h := hr.out
        rw [List.drop_eq_nil_of_le (by have := en.out; omega)] at h
        exact h
      go_wp2
      go_ret
      exact ⟨retb hr3.out.symm, hB⟩

end Go.Proofs.YtfajjphfjilpnaaGreat

namespace Go.Proofs.YtfajjphfjilpnaaGreat
open Go.RowKit LX Go.Shelf
set_option linter.unusedVariables false

/-- What a kind of formulas uses, as the document's table has it. -/
structure Us where
  nm : Bool
  op : Bool
  iv : Bool
  v : Int
  t : Int
  s : Int
  r : Int
def usO (k : Int) : Us := if k = 3 then ⟨true, false, false, 0, -2, 0, 0⟩ else if k = 4 then ⟨false, false, false, 0, 2, 0, 0⟩ else if k = 5 then ⟨false, false, false, 0, 2, 0, 0⟩ else if k = 6 then ⟨false, false, false, 0, 2, 0, 0⟩ else if k = 7 then ⟨false, false, false, 0, 0, 1, 0⟩ else if k = 8 then ⟨false, false, false, 0, 0, 2, 0⟩ else if k = 9 then ⟨false, false, false, 0, 0, 2, 0⟩ else if k = 10 then ⟨false, false, false, -1, 0, 1, 0⟩ else if k = 11 then ⟨false, false, true, 0, 0, 1, 0⟩ else if k = 12 then ⟨false, false, true, 0, 0, 1, 0⟩ else if k = 13 then ⟨false, false, true, 0, 0, 1, 0⟩ else if k = 14 then ⟨false, false, true, 0, 0, 1, 0⟩ else if k = 15 then ⟨false, false, true, 0, 0, 2, 0⟩ else if k = 16 then ⟨false, false, true, 0, 0, 2, 0⟩ else if k = 17 then ⟨false, false, true, 0, 0, 0, 1⟩ else if k = 18 then ⟨false, false, true, 0, 0, 0, 1⟩ else if k = 19 then ⟨true, true, false, -1, 0, 1, 0⟩ else if k = 20 then ⟨true, false, false, -2, 0, 2, 0⟩ else if k = 21 then ⟨true, false, false, -2, 0, 2, 0⟩ else if k = 22 then ⟨false, false, false, 0, 0, -1, 0⟩ else ⟨false, false, false, 0, 0, 0, 0⟩
set_option maxRecDepth 100000 in
set_option maxHeartbeats 1000000 in
theorem uses_3 (w : World) : Calls Tryz.prog 79 #[.int .i64 3] w fun e w' => e = .returned (.agg #[.bool true, .bool false, .bool false, .int .i64 (0), .int .i64 (-2), .int .i64 (0), .int .i64 (0)]) ∧ Below w.heap.size w w' := by
  go_enter Tryz.func79, Tryz.ntmps79
  go_wp2
  refine bodyPost_ret (by simp [results, Tryz.results79, go_sem]; try rfl) rfl ?_
  exact ⟨by first | rfl | (simp; done), by go_grown⟩
set_option maxRecDepth 100000 in
set_option maxHeartbeats 1000000 in
theorem uses_4 (w : World) : Calls Tryz.prog 79 #[.int .i64 4] w fun e w' => e = .returned (.agg #[.bool false, .bool false, .bool false, .int .i64 (0), .int .i64 (2), .int .i64 (0), .int .i64 (0)]) ∧ Below w.heap.size w w' := by
  go_enter Tryz.func79, Tryz.ntmps79
  go_wp2
  refine bodyPost_ret (by simp [results, Tryz.results79, go_sem]; try rfl) rfl ?_
  exact ⟨by first | rfl | (simp; done), by go_grown⟩
set_option maxRecDepth 100000 in
set_option maxHeartbeats 1000000 in
theorem uses_5 (w : World) : Calls Tryz.prog 79 #[.int .i64 5] w fun e w' => e = .returned (.agg #[.bool false, .bool false, .bool false, .int .i64 (0), .int .i64 (2), .int .i64 (0), .int .i64 (0)]) ∧ Below w.heap.size w w' := by
  go_enter Tryz.func79, Tryz.ntmps79
  go_wp2
  refine bodyPost_ret (by simp [results, Tryz.results79, go_sem]; try rfl) rfl ?_
  exact ⟨by first | rfl | (simp; done), by go_grown⟩
set_option maxRecDepth 100000 in
set_option maxHeartbeats 1000000 in
theorem uses_6 (w : World) : Calls Tryz.prog 79 #[.int .i64 6] w fun e w' => e = .returned (.agg #[.bool false, .bool false, .bool false, .int .i64 (0), .int .i64 (2), .int .i64 (0), .int .i64 (0)]) ∧ Below w.heap.size w w' := by
  go_enter Tryz.func79, Tryz.ntmps79
  go_wp2
  refine bodyPost_ret (by simp [results, Tryz.results79, go_sem]; try rfl) rfl ?_
  exact ⟨by first | rfl | (simp; done), by go_grown⟩
set_option maxRecDepth 100000 in
set_option maxHeartbeats 1000000 in
theorem uses_7 (w : World) : Calls Tryz.prog 79 #[.int .i64 7] w fun e w' => e = .returned (.agg #[.bool false, .bool false, .bool false, .int .i64 (0), .int .i64 (0), .int .i64 (1), .int .i64 (0)]) ∧ Below w.heap.size w w' := by
  go_enter Tryz.func79, Tryz.ntmps79
  go_wp2
  refine bodyPost_ret (by simp [results, Tryz.results79, go_sem]; try rfl) rfl ?_
  exact ⟨by first | rfl | (simp; done), by go_grown⟩
set_option maxRecDepth 100000 in
set_option maxHeartbeats 1000000 in
theorem uses_8 (w : World) : Calls Tryz.prog 79 #[.int .i64 8] w fun e w' => e = .returned (.agg #[.bool false, .bool false, .bool false, .int .i64 (0), .int .i64 (0), .int .i64 (2), .int .i64 (0)]) ∧ Below w.heap.size w w' := by
  go_enter Tryz.func79, Tryz.ntmps79
  go_wp2
  refine bodyPost_ret (by simp [results, Tryz.results79, go_sem]; try rfl) rfl ?_
  exact ⟨by first | rfl | (simp; done), by go_grown⟩
set_option maxRecDepth 100000 in
set_option maxHeartbeats 1000000 in
theorem uses_9 (w : World) : Calls Tryz.prog 79 #[.int .i64 9] w fun e w' => e = .returned (.agg #[.bool false, .bool false, .bool false, .int .i64 (0), .int .i64 (0), .int .i64 (2), .int .i64 (0)]) ∧ Below w.heap.size w w' := by
  go_enter Tryz.func79, Tryz.ntmps79
  go_wp2
  refine bodyPost_ret (by simp [results, Tryz.results79, go_sem]; try rfl) rfl ?_
  exact ⟨by first | rfl | (simp; done), by go_grown⟩
set_option maxRecDepth 100000 in
set_option maxHeartbeats 1000000 in
theorem uses_10 (w : World) : Calls Tryz.prog 79 #[.int .i64 10] w fun e w' => e = .returned (.agg #[.bool false, .bool false, .bool false, .int .i64 (-1), .int .i64 (0), .int .i64 (1), .int .i64 (0)]) ∧ Below w.heap.size w w' := by
  go_enter Tryz.func79, Tryz.ntmps79
  go_wp2
  refine bodyPost_ret (by simp [results, Tryz.results79, go_sem]; try rfl) rfl ?_
  exact ⟨by first | rfl | (simp; done), by go_grown⟩
set_option maxRecDepth 100000 in
set_option maxHeartbeats 1000000 in
theorem uses_11 (w : World) : Calls Tryz.prog 79 #[.int .i64 11] w fun e w' => e = .returned (.agg #[.bool false, .bool false, .bool true, .int .i64 (0), .int .i64 (0), .int .i64 (1), .int .i64 (0)]) ∧ Below w.heap.size w w' := by
  go_enter Tryz.func79, Tryz.ntmps79
  go_wp2
  refine bodyPost_ret (by simp [results, Tryz.results79, go_sem]; try rfl) rfl ?_
  exact ⟨by first | rfl | (simp; done), by go_grown⟩
set_option maxRecDepth 100000 in
set_option maxHeartbeats 1000000 in
theorem uses_12 (w : World) : Calls Tryz.prog 79 #[.int .i64 12] w fun e w' => e = .returned (.agg #[.bool false, .bool false, .bool true, .int .i64 (0), .int .i64 (0), .int .i64 (1), .int .i64 (0)]) ∧ Below w.heap.size w w' := by
  go_enter Tryz.func79, Tryz.ntmps79
  go_wp2
  refine bodyPost_ret (by simp [results, Tryz.results79, go_sem]; try rfl) rfl ?_
  exact ⟨by first | rfl | (simp; done), by go_grown⟩
set_option maxRecDepth 100000 in
set_option maxHeartbeats 1000000 in
theorem uses_13 (w : World) : Calls Tryz.prog 79 #[.int .i64 13] w fun e w' => e = .returned (.agg #[.bool false, .bool false, .bool true, .int .i64 (0), .int .i64 (0), .int .i64 (1), .int .i64 (0)]) ∧ Below w.heap.size w w' := by
  go_enter Tryz.func79, Tryz.ntmps79
  go_wp2
  refine bodyPost_ret (by simp [results, Tryz.results79, go_sem]; try rfl) rfl ?_
  exact ⟨by first | rfl | (simp; done), by go_grown⟩
set_option maxRecDepth 100000 in
set_option maxHeartbeats 1000000 in
theorem uses_14 (w : World) : Calls Tryz.prog 79 #[.int .i64 14] w fun e w' => e = .returned (.agg #[.bool false, .bool false, .bool true, .int .i64 (0), .int .i64 (0), .int .i64 (1), .int .i64 (0)]) ∧ Below w.heap.size w w' := by
  go_enter Tryz.func79, Tryz.ntmps79
  go_wp2
  refine bodyPost_ret (by simp [results, Tryz.results79, go_sem]; try rfl) rfl ?_
  exact ⟨by first | rfl | (simp; done), by go_grown⟩
set_option maxRecDepth 100000 in
set_option maxHeartbeats 1000000 in
theorem uses_15 (w : World) : Calls Tryz.prog 79 #[.int .i64 15] w fun e w' => e = .returned (.agg #[.bool false, .bool false, .bool true, .int .i64 (0), .int .i64 (0), .int .i64 (2), .int .i64 (0)]) ∧ Below w.heap.size w w' := by
  go_enter Tryz.func79, Tryz.ntmps79
  go_wp2
  refine bodyPost_ret (by simp [results, Tryz.results79, go_sem]; try rfl) rfl ?_
  exact ⟨by first | rfl | (simp; done), by go_grown⟩
set_option maxRecDepth 100000 in
set_option maxHeartbeats 1000000 in
theorem uses_16 (w : World) : Calls Tryz.prog 79 #[.int .i64 16] w fun e w' => e = .returned (.agg #[.bool false, .bool false, .bool true, .int .i64 (0), .int .i64 (0), .int .i64 (2), .int .i64 (0)]) ∧ Below w.heap.size w w' := by
  go_enter Tryz.func79, Tryz.ntmps79
  go_wp2
  refine bodyPost_ret (by simp [results, Tryz.results79, go_sem]; try rfl) rfl ?_
  exact ⟨by first | rfl | (simp; done), by go_grown⟩
set_option maxRecDepth 100000 in
set_option maxHeartbeats 1000000 in
theorem uses_17 (w : World) : Calls Tryz.prog 79 #[.int .i64 17] w fun e w' => e = .returned (.agg #[.bool false, .bool false, .bool true, .int .i64 (0), .int .i64 (0), .int .i64 (0), .int .i64 (1)]) ∧ Below w.heap.size w w' := by
  go_enter Tryz.func79, Tryz.ntmps79
  go_wp2
  refine bodyPost_ret (by simp [results, Tryz.results79, go_sem]; try rfl) rfl ?_
  exact ⟨by first | rfl | (simp; done), by go_grown⟩
set_option maxRecDepth 100000 in
set_option maxHeartbeats 1000000 in
theorem uses_18 (w : World) : Calls Tryz.prog 79 #[.int .i64 18] w fun e w' => e = .returned (.agg #[.bool false, .bool false, .bool true, .int .i64 (0), .int .i64 (0), .int .i64 (0), .int .i64 (1)]) ∧ Below w.heap.size w w' := by
  go_enter Tryz.func79, Tryz.ntmps79
  go_wp2
  refine bodyPost_ret (by simp [results, Tryz.results79, go_sem]; try rfl) rfl ?_
  exact ⟨by first | rfl | (simp; done), by go_grown⟩
set_option maxRecDepth 100000 in
set_option maxHeartbeats 1000000 in
theorem uses_19 (w : World) : Calls Tryz.prog 79 #[.int .i64 19] w fun e w' => e = .returned (.agg #[.bool true, .bool true, .bool false, .int .i64 (-1), .int .i64 (0), .int .i64 (1), .int .i64 (0)]) ∧ Below w.heap.size w w' := by
  go_enter Tryz.func79, Tryz.ntmps79
  go_wp2
  refine bodyPost_ret (by simp [results, Tryz.results79, go_sem]; try rfl) rfl ?_
  exact ⟨by first | rfl | (simp; done), by go_grown⟩
set_option maxRecDepth 100000 in
set_option maxHeartbeats 1000000 in
theorem uses_20 (w : World) : Calls Tryz.prog 79 #[.int .i64 20] w fun e w' => e = .returned (.agg #[.bool true, .bool false, .bool false, .int .i64 (-2), .int .i64 (0), .int .i64 (2), .int .i64 (0)]) ∧ Below w.heap.size w w' := by
  go_enter Tryz.func79, Tryz.ntmps79
  go_wp2
  refine bodyPost_ret (by simp [results, Tryz.results79, go_sem]; try rfl) rfl ?_
  exact ⟨by first | rfl | (simp; done), by go_grown⟩
set_option maxRecDepth 100000 in
set_option maxHeartbeats 1000000 in
theorem uses_21 (w : World) : Calls Tryz.prog 79 #[.int .i64 21] w fun e w' => e = .returned (.agg #[.bool true, .bool false, .bool false, .int .i64 (-2), .int .i64 (0), .int .i64 (2), .int .i64 (0)]) ∧ Below w.heap.size w w' := by
  go_enter Tryz.func79, Tryz.ntmps79
  go_wp2
  refine bodyPost_ret (by simp [results, Tryz.results79, go_sem]; try rfl) rfl ?_
  exact ⟨by first | rfl | (simp; done), by go_grown⟩
set_option maxRecDepth 100000 in
set_option maxHeartbeats 1000000 in
theorem uses_22 (w : World) : Calls Tryz.prog 79 #[.int .i64 22] w fun e w' => e = .returned (.agg #[.bool false, .bool false, .bool false, .int .i64 (0), .int .i64 (0), .int .i64 (-1), .int .i64 (0)]) ∧ Below w.heap.size w w' := by
  go_enter Tryz.func79, Tryz.ntmps79
  go_wp2
  refine bodyPost_ret (by simp [results, Tryz.results79, go_sem]; try rfl) rfl ?_
  exact ⟨by first | rfl | (simp; done), by go_grown⟩
set_option maxRecDepth 100000 in
set_option maxHeartbeats 2000000 in
theorem uses_no (k : Int) (w : World) (h : k < 3 ∨ 22 < k) : Calls Tryz.prog 79 #[.int .i64 k] w fun e w' => e = .returned (.agg #[.bool false, .bool false, .bool false, .int .i64 (0), .int .i64 (0), .int .i64 (0), .int .i64 (0)]) ∧ Below w.heap.size w w' := by
  have k3 : (k == 3) = false := by simp; omega
  have k4 : (k == 4) = false := by simp; omega
  have k5 : (k == 5) = false := by simp; omega
  have k6 : (k == 6) = false := by simp; omega
  have k7 : (k == 7) = false := by simp; omega
  have k8 : (k == 8) = false := by simp; omega
  have k9 : (k == 9) = false := by simp; omega
  have k10 : (k == 10) = false := by simp; omega
  have k11 : (k == 11) = false := by simp; omega
  have k12 : (k == 12) = false := by simp; omega
  have k13 : (k == 13) = false := by simp; omega
  have k14 : (k == 14) = false := by simp; omega
  have k15 : (k == 15) = false := by simp; omega
  have k16 : (k == 16) = false := by simp; omega
  have k17 : (k == 17) = false := by simp; omega
  have k18 : (k == 18) = false := by simp; omega
  have k19 : (k == 19) = false := by simp; omega
  have k20 : (k == 20) = false := by simp; omega
  have k21 : (k == 21) = false := by simp; omega
  have k22 : (k == 22) = false := by simp; omega
  go_enter Tryz.func79, Tryz.ntmps79
  go_wp2
  refine bodyPost_ret (by simp [results, Tryz.results79, go_sem]; try rfl) rfl ?_
  exact ⟨by first | rfl | (simp; done), by go_grown⟩
theorem ruses_any (k : Int) (w : World) : Calls Tryz.prog 79 #[.int .i64 k] w fun e w' => e = .returned (.agg #[.bool (usO k).nm, .bool (usO k).op, .bool (usO k).iv, .int .i64 (usO k).v, .int .i64 (usO k).t, .int .i64 (usO k).s, .int .i64 (usO k).r]) ∧ Below w.heap.size w w' := by
  by_cases h : k < 3 ∨ 22 < k
  · have e : usO k = ⟨false, false, false, 0, 0, 0, 0⟩ := by
      unfold usO
      rw [if_neg (by omega), if_neg (by omega), if_neg (by omega), if_neg (by omega), if_neg (by omega), if_neg (by omega), if_neg (by omega), if_neg (by omega), if_neg (by omega), if_neg (by omega), if_neg (by omega), if_neg (by omega), if_neg (by omega), if_neg (by omega), if_neg (by omega), if_neg (by omega), if_neg (by omega), if_neg (by omega), if_neg (by omega), if_neg (by omega)]
    rw [e]
    exact uses_no k w h
  have hk : k = 3 ∨ k = 4 ∨ k = 5 ∨ k = 6 ∨ k = 7 ∨ k = 8 ∨ k = 9 ∨ k = 10 ∨ k = 11 ∨ k = 12 ∨ k = 13 ∨ k = 14 ∨ k = 15 ∨ k = 16 ∨ k = 17 ∨ k = 18 ∨ k = 19 ∨ k = 20 ∨ k = 21 ∨ k = 22 := by omega
  rcases hk with rfl | rfl | rfl | rfl | rfl | rfl | rfl | rfl | rfl | rfl | rfl | rfl | rfl | rfl | rfl | rfl | rfl | rfl | rfl | rfl
  · exact uses_3 w
  · exact uses_4 w
  · exact uses_5 w
  · exact uses_6 w
  · exact uses_7 w
  · exact uses_8 w
  · exact uses_9 w
  · exact uses_10 w
  · exact uses_11 w
  · exact uses_12 w
  · exact uses_13 w
  · exact uses_14 w
  · exact uses_15 w
  · exact uses_16 w
  · exact uses_17 w
  · exact uses_18 w
  · exact uses_19 w
  · exact uses_20 w
  · exact uses_21 w
  · exact uses_22 w

/-- Are there as many as there must be? -/
def soB (n want : Int) : Bool := if want = -2 then true else if want = -1 then decide (0 < n) else n == want
set_option maxRecDepth 100000 in
theorem rso_any (n want : Int) (w : World) : Calls Tryz.prog 80 #[.int .i64 n, .int .i64 want] w fun e w' => e = .returned (.bool (soB n want)) ∧ w' = w := by
  by_cases h2 : want = -2
  · subst h2
    go_enter Tryz.func80, Tryz.ntmps80
    go_wp2
    go_ret
    exact ⟨rfl, rfl⟩
  by_cases h1 : want = -1
  · subst h1
    go_enter Tryz.func80, Tryz.ntmps80
    go_wp2
    go_ret
    exact ⟨by first | rfl | simp [soB], rfl⟩
  have e : soB n want = (n == want) := by unfold soB; rw [if_neg h2, if_neg h1]
  have k2 : (want == -2) = false := by simp [h2]
  have k1 : (want == -1) = false := by simp [h1]
  rw [e]
  go_enter Tryz.func80, Tryz.ntmps80
  go_wp2
  go_ret
  exact ⟨by first | rfl | simp, rfl⟩
set_option maxRecDepth 100000 in
set_option maxHeartbeats 1000000 in
theorem rinterval_any (lo hi : Int) (o : Bool) (w : World) : Calls Tryz.prog 83 #[.agg #[.int .i64 lo, .int .i64 hi, .bool o]] w fun r w' => r = .returned (.bool (itvU lo hi o)) ∧ Below w.heap.size w w' := by
  have e : itvU lo hi o = if lo < 0 ∨ 1099511627776 < lo then false else if o = true then hi == 0 else decide (lo ≤ hi ∧ hi ≤ 1099511627776) := rfl
  rw [e]
  by_cases h1 : lo < 0
  · rw [if_pos (Or.inl h1)]
    go_enter Tryz.func83, Tryz.ntmps83
    go_wp2
    go_ret
    exact ⟨by first | rfl | simp, by go_grown⟩
  by_cases h2 : 1099511627776 < lo
  · rw [if_pos (Or.inr h2)]
    go_enter Tryz.func83, Tryz.ntmps83
    go_wp2
    go_ret
    exact ⟨by first | rfl | simp, by go_grown⟩
  rw [if_neg (by omega)]
  cases o with
  | true =>
    rw [if_pos rfl]
    go_enter Tryz.func83, Tryz.ntmps83
    go_wp2
    go_ret
    exact ⟨by first | rfl | simp, by go_grown⟩
  | false =>
    rw [if_neg (by decide)]
    by_cases h3 : lo ≤ hi
    · by_cases h4 : hi ≤ 1099511627776
      · rw [decide_eq_true (show lo ≤ hi ∧ hi ≤ 1099511627776 from ⟨h3, h4⟩)]
        go_enter Tryz.func83, Tryz.ntmps83
        go_wp2
        go_ret
        exact ⟨by first | rfl | simp, by go_grown⟩
      · rw [decide_eq_false (show ¬ (lo ≤ hi ∧ hi ≤ 1099511627776) from fun h => h4 h.2)]
        go_enter Tryz.func83, Tryz.ntmps83
        go_wp2
        go_ret
        exact ⟨by first | rfl | simp, by go_grown⟩
    · rw [decide_eq_false (show ¬ (lo ≤ hi ∧ hi ≤ 1099511627776) from fun h => h3 h.1)]
      go_enter Tryz.func83, Tryz.ntmps83
      go_wp2
      go_ret
      exact ⟨by first | rfl | simp, by go_grown⟩
set_option maxRecDepth 100000 in
set_option maxHeartbeats 2000000 in
theorem rmany_any (k op lo hi : Int) (nm : ByteArray) (o : Bool) (pv pt ps pr : Option Addr) (nv cv nt ct ns cs nr cr : Nat) (w : World) :
    Calls Tryz.prog 53 #[.agg #[.int .i64 k, .string nm, .int .i64 op, .slice pv nv cv, .slice pt nt ct, .int .i64 lo, .int .i64 hi, .bool o, .slice ps ns cs, .slice pr nr cr]] w fun r w' => r = .returned (.bool (manyB k nv nt)) ∧ Below w.heap.size w w' := by
  have hv6 := dec_lt 6 nv
  have hv8 := dec_lt 8 nv
  have ht6 := dec_lt 6 nt
  obtain ⟨R, eR⟩ : ∃ R : Bool, Hid (manyB k nv nt = R) := ⟨_, rfl⟩
  rw [eR.out]
  have hR : Hid (R = if k = 3 then decide (6 < nt) else if k = 20 ∨ k = 21 then decide (6 < nv) else if k = 10 ∨ k = 19 then decide (8 < nv) else false) := eR.out.symm
  clear eR
  by_cases h3 : k = 3
  · have hR2 : Hid (R = decide (6 < nt)) := by have h := hR.out; rwa [if_pos h3] at h
    subst h3
    rw [hR2.out]
    go_enter Tryz.func53, Tryz.ntmps53
    go_wp2
    go_ret
    exact ⟨by first | rfl | (simp; done) | (simp; omega), by go_grown⟩
  by_cases h20 : k = 20 ∨ k = 21
  · have hR2 : Hid (R = decide (6 < nv)) := by have h := hR.out; rwa [if_neg h3, if_pos h20] at h
    rw [hR2.out]
    rcases h20 with rfl | rfl <;>
    · go_enter Tryz.func53, Tryz.ntmps53
      go_wp2
      go_ret
      exact ⟨by first | rfl | (simp; done) | (simp; omega), by go_grown⟩
  by_cases h10 : k = 10 ∨ k = 19
  · have hR2 : Hid (R = decide (8 < nv)) := by have h := hR.out; rwa [if_neg h3, if_neg h20, if_pos h10] at h
    rw [hR2.out]
    rcases h10 with rfl | rfl <;>
    · go_enter Tryz.func53, Tryz.ntmps53
      go_wp2
      go_ret
      exact ⟨by first | rfl | (simp; done) | (simp; omega), by go_grown⟩
  have hR2 : Hid (R = false) := by have h := hR.out; rwa [if_neg h3, if_neg h20, if_neg h10] at h
  rw [hR2.out]
  have k3 : (k == 3) = false := by simp; omega
  have k20 : (k == 20) = false := by simp; omega
  have k21 : (k == 21) = false := by simp; omega
  have k10 : (k == 10) = false := by simp; omega
  have k19 : (k == 19) = false := by simp; omega
  go_enter Tryz.func53, Tryz.ntmps53
  go_wp2
  go_ret
  exact ⟨by first | rfl | (simp; done) | (simp; omega), by go_grown⟩

end Go.Proofs.YtfajjphfjilpnaaGreat

namespace Go.Proofs.YtfajjphfjilpnaaGreat
open Go.RowKit LX Go.Shelf
set_option linter.unusedVariables false

theorem blkB {W W' : World} {B : Nat} {o : Obj} (h : W.heap[B]? = some o) (hb : Below W.heap.size W W') : W'.heap[B]? = some o := (hb.block B (Array.getElem?_eq_some_iff.1 h).1).trans h
theorem blkL {W : World} {B : Nat} {o : Obj} (h : W.heap[B]? = some o) : B < W.heap.size := (Array.getElem?_eq_some_iff.1 h).1
/-- Are the names that a formula uses names, and is the interval one? -/
def namedB (u : Us) (nm : ByteArray) (vs : List ByteArray) (lo hi : Int) (o : Bool) : Bool := (!u.nm || nameB nm) && namesB vs && (!u.iv || itvU lo hi o)

set_option maxRecDepth 100000 in
set_option maxHeartbeats 4000000 in
theorem rnamed_any (k op lo hi : Int) (nm : ByteArray) (o : Bool) (vs : List ByteArray) (pv pt ps pr : Option Addr) (nv cv nt ct ns cs nr cr : Nat) (w : World) (hV : NmsAt w (.slice pv nv cv) vs) :
    Calls Tryz.prog 55 #[.agg #[.int .i64 k, .string nm, .int .i64 op, .slice pv nv cv, .slice pt nt ct, .int .i64 lo, .int .i64 hi, .bool o, .slice ps ns cs, .slice pr nr cr]] w fun r w' => r = .returned (.bool (namedB (usO k) nm vs lo hi o)) ∧ Below w.heap.size w w' := by
  have cU : Hid (∀ W : World, Calls Tryz.prog 79 #[.int .i64 k] W fun e w' => e = .returned (.agg #[.bool (usO k).nm, .bool (usO k).op, .bool (usO k).iv, .int .i64 (usO k).v, .int .i64 (usO k).t, .int .i64 (usO k).s, .int .i64 (usO k).r]) ∧ Below W.heap.size W w') := fun W => ruses_any k W
  have cN : Hid (∀ W : World, Calls Tryz.prog 81 #[.string nm] W fun e w' => e = .returned (.bool (nameB nm)) ∧ Below W.heap.size W w') := fun W => rname_any nm W
  have cS : Hid (∀ W : World, Below w.heap.size w W → Calls Tryz.prog 82 #[.slice pv nv cv] W fun e w' => e = .returned (.bool (namesB vs)) ∧ Below W.heap.size W w') := fun W hW => rnames_any _ vs W (hV.below hW)
  have cI : Hid (∀ W : World, Calls Tryz.prog 83 #[.agg #[.int .i64 lo, .int .i64 hi, .bool o]] W fun e w' => e = .returned (.bool (itvU lo hi o)) ∧ Below W.heap.size W w') := fun W => rinterval_any lo hi o W
  clear hV
  unfold namedB
  generalize nameB nm = A at *
  generalize namesB vs = B at *
  generalize itvU lo hi o = C at *
  generalize (usO k).nm = un at *
  generalize (usO k).op = uo at *
  generalize (usO k).iv = ui at *
  generalize (usO k).v = uv at *
  generalize (usO k).t = ut at *
  generalize (usO k).s = us at *
  generalize (usO k).r = ur at *
  go_enter Tryz.func55, Tryz.ntmps55
  go_wp2_with fail
  refine (cU.out _).mono ?_
  rintro r w1 ⟨rfl, hb1⟩
  have hB1 : Below w.heap.size w w1 := Below.trans (by go_grown) (hb1.mono (by simp))
  have HX1 : Hid (w1.heap[w.heap.size]? = some (.cells #[.int .i64 k, .string nm, .int .i64 op, .slice pv nv cv, .slice pt nt ct, .int .i64 lo, .int .i64 hi, .bool o, .slice ps ns cs, .slice pr nr cr] 29 (0, 0))) := (hb1.block w.heap.size (by simp)).trans (heap_allocA w _)
  have hs1 : w.heap.size < w1.heap.size := blkL HX1.out
  clear hb1 cU
  have e0 : w1.cell? ⟨w.heap.size, 0, none⟩ = some (.int .i64 k) := by rw [Lib.cell_of_heap HX1.out]; rfl
  have e1 : w1.cell? ⟨w.heap.size, 1, none⟩ = some (.string nm) := by rw [Lib.cell_of_heap HX1.out]; rfl
  have e2 : w1.cell? ⟨w.heap.size, 2, none⟩ = some (.int .i64 op) := by rw [Lib.cell_of_heap HX1.out]; rfl
  have e3 : w1.cell? ⟨w.heap.size, 3, none⟩ = some (.slice pv nv cv) := by rw [Lib.cell_of_heap HX1.out]; rfl
  have e4 : w1.cell? ⟨w.heap.size, 4, none⟩ = some (.slice pt nt ct) := by rw [Lib.cell_of_heap HX1.out]; rfl
  have e5 : w1.cell? ⟨w.heap.size, 5, none⟩ = some (.int .i64 lo) := by rw [Lib.cell_of_heap HX1.out]; rfl
  have e6 : w1.cell? ⟨w.heap.size, 6, none⟩ = some (.int .i64 hi) := by rw [Lib.cell_of_heap HX1.out]; rfl
  have e7 : w1.cell? ⟨w.heap.size, 7, none⟩ = some (.bool o) := by rw [Lib.cell_of_heap HX1.out]; rfl
  have e8 : w1.cell? ⟨w.heap.size, 8, none⟩ = some (.slice ps ns cs) := by rw [Lib.cell_of_heap HX1.out]; rfl
  have e9 : w1.cell? ⟨w.heap.size, 9, none⟩ = some (.slice pr nr cr) := by rw [Lib.cell_of_heap HX1.out]; rfl
  go_wp2_with fail
  refine (cN.out _).mono ?_
  rintro r w2 ⟨rfl, hb2⟩
  have HU2 : Hid (w2.heap[w1.heap.size]? = some (.cells #[.bool un, .bool uo, .bool ui, .int .i64 uv, .int .i64 ut, .int .i64 us, .int .i64 ur] 105 (0, 0))) := (hb2.block w1.heap.size (by simp)).trans (heap_allocA w1 _)
  obtain ⟨B2, n2⟩ := bgX (n := w1.heap.size) (W0 := w1) (by go_grown) (by go_size) hb2
  have hB2 : Below w.heap.size w w2 := hB1.trans (B2.mono hB1.size)
  have HX2 : Hid (w2.heap[w.heap.size]? = some (.cells #[.int .i64 k, .string nm, .int .i64 op, .slice pv nv cv, .slice pt nt ct, .int .i64 lo, .int .i64 hi, .bool o, .slice ps ns cs, .slice pr nr cr] 29 (0, 0))) := blkB HX1.out B2
  clear hb2 B2 n2 HX1 cN e0 e1 e2 e3 e4 e5 e6 e7 e8 e9
  have e0 : w2.cell? ⟨w.heap.size, 0, none⟩ = some (.int .i64 k) := by rw [Lib.cell_of_heap HX2.out]; rfl
  have e1 : w2.cell? ⟨w.heap.size, 1, none⟩ = some (.string nm) := by rw [Lib.cell_of_heap HX2.out]; rfl
  have e2 : w2.cell? ⟨w.heap.size, 2, none⟩ = some (.int .i64 op) := by rw [Lib.cell_of_heap HX2.out]; rfl
  have e3 : w2.cell? ⟨w.heap.size, 3, none⟩ = some (.slice pv nv cv) := by rw [Lib.cell_of_heap HX2.out]; rfl
  have e4 : w2.cell? ⟨w.heap.size, 4, none⟩ = some (.slice pt nt ct) := by rw [Lib.cell_of_heap HX2.out]; rfl
  have e5 : w2.cell? ⟨w.heap.size, 5, none⟩ = some (.int .i64 lo) := by rw [Lib.cell_of_heap HX2.out]; rfl
  have e6 : w2.cell? ⟨w.heap.size, 6, none⟩ = some (.int .i64 hi) := by rw [Lib.cell_of_heap HX2.out]; rfl
  have e7 : w2.cell? ⟨w.heap.size, 7, none⟩ = some (.bool o) := by rw [Lib.cell_of_heap HX2.out]; rfl
  have e8 : w2.cell? ⟨w.heap.size, 8, none⟩ = some (.slice ps ns cs) := by rw [Lib.cell_of_heap HX2.out]; rfl
  have e9 : w2.cell? ⟨w.heap.size, 9, none⟩ = some (.slice pr nr cr) := by rw [Lib.cell_of_heap HX2.out]; rfl
  go_wp2_with fail
  refine (cS.out _ hB2).mono ?_
  rintro r w3 ⟨rfl, hb3⟩
  have hB3 : Below w.heap.size w w3 := hB2.trans (hb3.mono hB2.size)
  have HX3 : Hid (w3.heap[w.heap.size]? = some (.cells #[.int .i64 k, .string nm, .int .i64 op, .slice pv nv cv, .slice pt nt ct, .int .i64 lo, .int .i64 hi, .bool o, .slice ps ns cs, .slice pr nr cr] 29 (0, 0))) := blkB HX2.out hb3
  have HU3 : Hid (w3.heap[w1.heap.size]? = some (.cells #[.bool un, .bool uo, .bool ui, .int .i64 uv, .int .i64 ut, .int .i64 us, .int .i64 ur] 105 (0, 0))) := blkB HU2.out hb3
  clear hb3 HX2 HU2 cS e0 e1 e2 e3 e4 e5 e6 e7 e8 e9
  have e0 : w3.cell? ⟨w.heap.size, 0, none⟩ = some (.int .i64 k) := by rw [Lib.cell_of_heap HX3.out]; rfl
  have e1 : w3.cell? ⟨w.heap.size, 1, none⟩ = some (.string nm) := by rw [Lib.cell_of_heap HX3.out]; rfl
  have e2 : w3.cell? ⟨w.heap.size, 2, none⟩ = some (.int .i64 op) := by rw [Lib.cell_of_heap HX3.out]; rfl
  have e3 : w3.cell? ⟨w.heap.size, 3, none⟩ = some (.slice pv nv cv) := by rw [Lib.cell_of_heap HX3.out]; rfl
  have e4 : w3.cell? ⟨w.heap.size, 4, none⟩ = some (.slice pt nt ct) := by rw [Lib.cell_of_heap HX3.out]; rfl
  have e5 : w3.cell? ⟨w.heap.size, 5, none⟩ = some (.int .i64 lo) := by rw [Lib.cell_of_heap HX3.out]; rfl
  have e6 : w3.cell? ⟨w.heap.size, 6, none⟩ = some (.int .i64 hi) := by rw [Lib.cell_of_heap HX3.out]; rfl
  have e7 : w3.cell? ⟨w.heap.size, 7, none⟩ = some (.bool o) := by rw [Lib.cell_of_heap HX3.out]; rfl
  have e8 : w3.cell? ⟨w.heap.size, 8, none⟩ = some (.slice ps ns cs) := by rw [Lib.cell_of_heap HX3.out]; rfl
  have e9 : w3.cell? ⟨w.heap.size, 9, none⟩ = some (.slice pr nr cr) := by rw [Lib.cell_of_heap HX3.out]; rfl
  go_wp2_with fail
  refine (cI.out _).mono ?_
  rintro r w4 ⟨rfl, hb4⟩
  have hB4 : Below w.heap.size w w4 := hB3.trans (hb4.mono hB3.size)
  have HU4 : Hid (w4.heap[w1.heap.size]? = some (.cells #[.bool un, .bool uo, .bool ui, .int .i64 uv, .int .i64 ut, .int .i64 us, .int .i64 ur] 105 (0, 0))) := blkB HU3.out hb4
  clear hb4 HX3 HU3 cI e0 e1 e2 e3 e4 e5 e6 e7 e8 e9
  have g0 : w4.cell? ⟨w1.heap.size, 0, none⟩ = some (.bool un) := by rw [Lib.cell_of_heap HU4.out]; rfl
  have g1 : w4.cell? ⟨w1.heap.size, 1, none⟩ = some (.bool uo) := by rw [Lib.cell_of_heap HU4.out]; rfl
  have g2 : w4.cell? ⟨w1.heap.size, 2, none⟩ = some (.bool ui) := by rw [Lib.cell_of_heap HU4.out]; rfl
  have g3 : w4.cell? ⟨w1.heap.size, 3, none⟩ = some (.int .i64 uv) := by rw [Lib.cell_of_heap HU4.out]; rfl
  have g4 : w4.cell? ⟨w1.heap.size, 4, none⟩ = some (.int .i64 ut) := by rw [Lib.cell_of_heap HU4.out]; rfl
  have g5 : w4.cell? ⟨w1.heap.size, 5, none⟩ = some (.int .i64 us) := by rw [Lib.cell_of_heap HU4.out]; rfl
  have g6 : w4.cell? ⟨w1.heap.size, 6, none⟩ = some (.int .i64 ur) := by rw [Lib.cell_of_heap HU4.out]; rfl
  clear HU4
  cases un <;> cases A <;> cases B <;> cases ui <;> cases C <;>
  · go_wp2
    go_ret
    exact ⟨rfl, hB4⟩

end Go.Proofs.YtfajjphfjilpnaaGreat

namespace Go.Proofs.YtfajjphfjilpnaaGreat
open Go.RowKit LX Go.Shelf
set_option linter.unusedVariables false

theorem rtss_app (a b : List Rx) : rtss (a ++ b) = rtss a ++ rtss b := by
  induction a with
  | nil => rw [List.nil_append, rtss_nil, List.nil_append]
  | cons x a ih => rw [List.cons_append, rtss_cons, rtss_cons, ih, List.append_assoc]
theorem rtss_take (rs : List Rx) (k : Nat) (h : k < rs.length) : rtss (rs.take (k + 1)) = rtss (rs.take k) ++ rts rs[k] := by
  rw [List.take_succ_eq_append_getElem h, rtss_app, rtss_cons, rtss_nil, List.append_nil]
theorem rtss_take_le (rs : List Rx) (k : Nat) : (rtss (rs.take k)).length ≤ (rtss rs).length := by
  have h := congrArg List.length (rtss_app (rs.take k) (rs.drop k))
  rw [List.take_append_drop, List.length_append] at h
  omega
theorem row_typ {w : World} {B e size n q : Nat} {v : Value} {xs : List Value} (h : w.ownsRow B e size v n xs) (hv : v.ownBlock = some q) : ∃ cur, w.heap[q]? = some (.cells cur e (0, 0)) := by
  obtain ⟨-, ⟨rfl, -⟩ | ⟨g, cap, cur, rfl, -, hg, -⟩⟩ := h
  · cases hv
  · injection hv with hv
    have hv' : g = q := hv
    subst hv'
    exact ⟨cur, hg⟩
set_option maxRecDepth 100000 in
set_option maxHeartbeats 8000000 in
theorem rtests_any (w0 : World) : ∀ (m : Nat) (r : Rx) (ut us : Value) (w : World), SizeOf.sizeOf r ≤ m → FmsAt w0 ut r.test → RxsAt w0 us r.subs → Below w0.heap.size w0 w → (rts r).length ≤ 1000000000 →
    Calls Tryz.prog 73 #[.agg #[.int .i64 r.k, ut, us]] w fun e w' => ∃ v, e = .returned v ∧ OwnF w0 w.heap.size v (rts r) w' ∧ Below w.heap.size w w' := by
  obtain ⟨i0, hi, hz0, hz1, hz2⟩ := info_parts inFA
  intro m
  induction m with
  | zero => intro r ut us w hm; cases r; simp at hm
  | succ m ih =>
    intro r ut us w hm ht hs hw hlen
    have HT : Hid (FmsAt w0 ut r.test) := ht
    obtain ⟨pt, ct, rfl, hlt0, hct, -⟩ := ht.form
    obtain ⟨ps, cs, rfl, hl, hc, HX0⟩ := hs.form
    have HX : Hid (∀ i (hi : i < r.subs.length), ∃ b off ut us, ps = some ⟨b, off, none⟩ ∧ b < w0.heap.size ∧ RxC w0 b (off + i * 3) r.subs[i] ut us ∧ FmsAt w0 ut r.subs[i].test ∧ RxsAt w0 us r.subs[i].subs) := HX0
    have IH : Hid (_) := ih
    have HM : Hid (SizeOf.sizeOf r ≤ m + 1) := hm
    have HSub : Hid (SizeOf.sizeOf r.subs < SizeOf.sizeOf r) := r.subs_lt
    rw [rts_eq] at hlen ⊢
    have HL : Hid (r.test.length + (rtss r.subs).length ≤ 1000000000) := by rw [List.length_append] at hlen; exact hlen
    obtain ⟨n, en⟩ : ∃ n : Nat, Hid (r.subs.length = n) := ⟨_, rfl⟩
    rw [en.out] at hl hc ⊢
    have hw0 := hw.size
    obtain ⟨qs, q1, q2, q3⟩ := srcF ht
    have HQ : Hid (∀ W, Below w0.heap.size w0 W → SrcA W 10 (.slice pt r.test.length ct) r.test.length (flatF qs)) := q3
    have HQ2 : Hid (∀ x ∈ qs, QAt w0 x) := q2
    have HQ1 : Hid (qs.map Prod.fst = r.test) := q1
    have hLT : r.test.length ≤ 1000000000 := by have := HL.out; omega
    clear hs ht HX0 ih hm hlen q1 q2 q3
    generalize r.k = rk at *
    have hW1 : Below w0.heap.size w0 (w.alloc (.cells #[.int .i64 rk, .slice pt r.test.length ct, .slice ps n cs] 76)) := hw.alloc hw0 _
    go_enter Tryz.func73, Tryz.ntmps73
    go_wp2_with (at_builtin; refine wpList_append_srcA rfl _ _ 26 rfl w.heap.size 29 i0 (.agg #[.int .i64 0, .string ByteArray.empty, .int .i64 0, .slice none 0 0, .slice none 0 0, .int .i64 0, .int .i64 0, .bool false, .slice none 0 0, .slice none 0 0]) 10 152 Tryz.underlying26 hi hz0 hz1 hz2 rfl (by decide) _ _ _ rfl (World.ownsRow_nil _ _ _ _) _ r.test.length (flatF qs) rfl (HQ.out _ hW1) (flatF_one HQ2.out) ?cc3 ?cc4 ?cc5 ?_)
    try (case cc3 => (unfold maxLen; omega))
    try (case cc4 => omega)
    try (case cc5 => first | omega | (simp; done) | (simp; omega))
    intro v1 w1 h2 h3 _
    have S1 : Hid (OwnF w0 w.heap.size v1 (r.test ++ rtss (r.subs.take 0)) w1) := by
      rw [List.take_zero, rtss_nil, List.append_nil]
      exact ⟨qs, HQ1.out, HQ2.out, h2⟩
    have HX3 : Hid (w1.heap[w.heap.size]? = some (.cells #[.int .i64 rk, .slice pt r.test.length ct, .slice ps n cs] 76 (0, 0))) := (h3.block w.heap.size (by simp) (fun e => by cases e)).trans (heap_allocA w _)
    have B1 : Below w.heap.size w w1 := Below.grown ((Below.refl _ _).alloc (Nat.le_refl _) _) h3 (by simp) (fun q hq => by cases hq)
    clear h2 h3 HQ HQ1 HQ2 hW1
    go_wp2
    go_loopw [3, 4] (fun v0 v wr => ∃ k : Nat, k ≤ n ∧ v = .int .i64 k ∧ Hid (OwnF w0 w.heap.size v0 (r.test ++ rtss (r.subs.take k)) wr) ∧ Below w.heap.size w wr ∧ Hid (wr.heap[w.heap.size]? = w1.heap[w.heap.size]?)) (fun _ v _ => n - (intOf v).toNat)
    case atStart => exact ⟨0, Nat.zero_le _, rfl, S1, B1, rfl⟩
    case round =>
      obtain ⟨k, hk, rfl, hOr, hBr, hXr⟩ := hrel
      have r6 : wr.cell? ⟨w.heap.size, 2, none⟩ = some (.slice ps n cs) := by rw [Lib.cell_of_heap (hXr.out.trans HX3.out)]; rfl
      have hsz : w.heap.size < wr.heap.size := (Array.getElem?_eq_some_iff.1 (hXr.out.trans HX3.out)).1
      by_cases hlt : k < n
      case neg =>
        have c2 : ¬ (k : Int) < n := by omega
        have hR : Hid (OwnF w0 w.heap.size u3 (r.test ++ rtss r.subs) wr) := by
          have h := hOr.out
          rw [List.take_of_length_le (by have := en.out; omega)] at h
          exact h
        go_wp2
        go_ret
        exact ⟨_, rfl, hR.out, hBr⟩
      have hlt' : (k : Int) < n := by omega
      have kx : k < r.subs.length := by have := en.out; omega
      obtain ⟨b, off, u1, u2, rfl, hb, TC, NT, NS⟩ := HX.out k kx
      have hB0 : Below w0.heap.size w0 wr := hw.trans (hBr.mono hw0)
      obtain ⟨a0, a1, a2⟩ := TC.below hB0 hb
      have l3 := congrArg List.length (rtss_take r.subs k kx)
      have l4 := rtss_take_le r.subs (k + 1)
      rw [List.length_append] at l3
      have hL := HL.out
      have hLk : (r.test ++ rtss (r.subs.take k)).length + (rts r.subs[k]).length ≤ 1000000000 := by rw [List.length_append]; omega
      have cT := IH.out r.subs[k] u1 u2 wr (by have a := mem_lt k kx; have b := HSub.out; have c := HM.out; unfold Hid at b c; omega) NT NS hB0 (by omega)
      have CT : Hid (type_of% cT) := cT
      have eK : Hid ((r.test ++ rtss (r.subs.take k)) ++ rts r.subs[k] = r.test ++ rtss (r.subs.take (k + 1))) := by rw [rtss_take r.subs k kx]; first | exact rfl | exact List.append_assoc _ _ _
      obtain ⟨p1, c1, rfl, -⟩ := NT.form
      obtain ⟨p2, c2, rfl, -⟩ := NS.form
      obtain ⟨SV, hSV⟩ : ∃ SV : List Fm, Hid (rts r.subs[k] = SV) := ⟨rts r.subs[k], (show _ = _ from rfl)⟩
      obtain ⟨MK, hMK⟩ : ∃ MK : List Fm, Hid ((r.test ++ rtss (r.subs.take k)) = MK) := ⟨(r.test ++ rtss (r.subs.take k)), (show _ = _ from rfl)⟩
      rw [hSV.out] at CT hLk eK
      rw [hMK.out] at hOr hLk eK
      clear TC NT NS cT l3 l4 hL hSV hMK
      generalize r.subs[k].k = X0 at *
      generalize r.subs[k].test.length = X1 at *
      generalize r.subs[k].subs.length = X2 at *
      go_wp2_with fail
      refine CT.out.mono ?_
      rintro e w2 ⟨v2, rfl, h2, hb2⟩
      have B2 : Below w.heap.size w w2 := hBr.trans (hb2.mono hBr.size)
      have hzB := B2.size
      have hzS : w.heap.size < w2.heap.size := Nat.lt_of_lt_of_le hsz hb2.size
      have Z2 : Hid (w2.heap[w.heap.size]? = w1.heap[w.heap.size]?) := (hb2.block w.heap.size hsz).trans hXr.out
      obtain ⟨ps, q1, q2, q3⟩ := hOr.out.bel hb2
      obtain ⟨qs, g1, g2, g3⟩ := h2.src
      have HK : Hid (∀ q, u3.ownBlock = some q → w.heap.size ≤ q ∧ q < w2.heap.size) := fun q hq => World.ownsRow.lt q3 q hq
      have HN : Hid (∀ q, u3.ownBlock = some q → q ≠ w.heap.size) := fun q hq e => by
        subst e
        have hh := row_typ q3 hq
        obtain ⟨cur, hh⟩ := hh
        rw [Z2.out, HX3.out] at hh
        injection hh with hh
        injection hh with _ hh
        exact absurd hh (by decide)
      have HP3 : Hid (w2.ownsRow w.heap.size 29 10 u3 MK.length (flatF ps)) := q3
      have HP2 : Hid (∀ x ∈ ps, QAt w0 x) := q2
      have HP1 : Hid (ps.map Prod.fst = MK) := q1
      have HQ : Hid (SrcA w2 10 v2 SV.length (flatF qs)) := g3
      have HQ2 : Hid (∀ x ∈ qs, QAt w0 x) := g2
      have HQ1 : Hid (qs.map Prod.fst = SV) := g1
      clear q1 q2 q3 g1 g2 g3 h2 hb2 hOr CT a0 a1 a2 r6 hBr hXr
      go_wp2_with (at_builtin; refine wpList_append_srcA rfl _ _ 26 rfl w.heap.size 29 i0 (.agg #[.int .i64 0, .string ByteArray.empty, .int .i64 0, .slice none 0 0, .slice none 0 0, .int .i64 0, .int .i64 0, .bool false, .slice none 0 0, .slice none 0 0]) 10 152 Tryz.underlying26 hi hz0 hz1 hz2 rfl (by decide) _ _ _ rfl HP3.out _ SV.length (flatF qs) rfl HQ.out (flatF_one HQ2.out) ?cc3 ?cc4 ?cc5 ?_)
      try (case cc3 => (unfold maxLen; omega))
      try (case cc4 => omega)
      try (case cc5 => first | omega | (simp; done) | (simp; omega))
      intro v5 w5 h2 h3 _
      have O5 : Hid (OwnF w0 w.heap.size v5 (r.test ++ rtss (r.subs.take (k + 1))) w5) := by rw [← eK.out]; exact OwnF.app HP1.out HP2.out HQ1.out HQ2.out h2
      have B5 : Below w.heap.size w w5 := Below.grown B2 h3 (by omega) (fun q hq => (HK.out q hq).1)
      have Z5 : Hid (w5.heap[w.heap.size]? = w1.heap[w.heap.size]?) := (h3.block w.heap.size hzS (fun e => HN.out _ e.symm rfl)).trans Z2.out
      clear h2 h3 HK HN HP1 HP2 HP3 HQ HQ1 HQ2
      go_wp2
      exact ⟨⟨k + 1, by omega, by go_num, O5, B5, Z5⟩, by simp [intOf]; omega⟩
set_option maxRecDepth 100000 in
set_option maxHeartbeats 8000000 in
theorem rparts_any (w0 : World) (f : Fm) (y : FQ) (hq : QAt w0 (f, y)) (w : World) (hw : Below w0.heap.size w0 w) (hlen : (rtss f.rgx).length + f.subs.length ≤ 1000000000) :
    Calls Tryz.prog 47 #[.agg #[.int .i64 f.k, .string f.nm, .int .i64 f.op, y.v, y.t, .int .i64 f.lo, .int .i64 f.hi, .bool f.opn, y.s, y.r]] w fun e w' => ∃ v, e = .returned v ∧ OwnF w0 (w.heap.size + 1) v (rtss f.rgx ++ f.subs) w' ∧ Below w.heap.size w w' := by
  obtain ⟨i0, hi, hz0, hz1, hz2⟩ := info_parts inFA
  obtain ⟨uv, ut, us, ur⟩ := y
  obtain ⟨h1, h2, h3, h4⟩ := hq
  dsimp only at h1 h2 h3 h4 ⊢
  obtain ⟨-, pv, cv, rfl, -⟩ := h1
  obtain ⟨pt, ct, rfl, -⟩ := h2.form
  obtain ⟨qs, q1, q2, q3⟩ := srcF h3
  obtain ⟨ps, cs, rfl, hls, hcs, -⟩ := h3.form
  obtain ⟨pr, cr, rfl, hl, hc, HX0⟩ := h4.form
  have HX : Hid (∀ i (hi : i < f.rgx.length), ∃ b off ut us, pr = some ⟨b, off, none⟩ ∧ b < w0.heap.size ∧ RxC w0 b (off + i * 3) f.rgx[i] ut us ∧ FmsAt w0 ut f.rgx[i].test ∧ RxsAt w0 us f.rgx[i].subs) := HX0
  have HQ : Hid (∀ W, Below w0.heap.size w0 W → SrcA W 10 (.slice ps f.subs.length cs) f.subs.length (flatF qs)) := q3
  have HQ2 : Hid (∀ x ∈ qs, QAt w0 x) := q2
  have HQ1 : Hid (qs.map Prod.fst = f.subs) := q1
  have HL : Hid ((rtss f.rgx).length + f.subs.length ≤ 1000000000) := hlen
  have IH : Hid (∀ (r : Rx) (ut us : Value) (W : World), True → FmsAt w0 ut r.test → RxsAt w0 us r.subs → Below w0.heap.size w0 W → (rts r).length ≤ 1000000000 → Calls Tryz.prog 73 #[.agg #[.int .i64 r.k, ut, us]] W fun e w' => ∃ v, e = .returned v ∧ OwnF w0 W.heap.size v (rts r) w' ∧ Below W.heap.size W w') := fun r ut us w _ => rtests_any w0 _ r ut us w (Nat.le_refl _)
  obtain ⟨n, en⟩ : ∃ n : Nat, Hid (f.rgx.length = n) := ⟨_, rfl⟩
  rw [en.out] at hl hc ⊢
  have hw0 := hw.size
  have hLS : f.subs.length ≤ 1000000000 := by omega
  clear h2 h3 h4 HX0 hlen q1 q2 q3
  generalize f.vars.length = nv at *
  generalize f.terms.length = nt at *
  generalize f.lo = lo at *
  generalize f.hi = fhi at *
  generalize f.nm = nm at *
  generalize f.opn = o at *
  generalize f.op = op at *
  generalize f.k = fk at *
  obtain ⟨w1, ew1⟩ : ∃ w1, w1 = w.alloc (.cells #[.int .i64 fk, .string nm, .int .i64 op, .slice pv nv cv, .slice pt nt ct, .int .i64 lo, .int .i64 fhi, .bool o, .slice ps f.subs.length cs, .slice pr n cr] 29) := ⟨_, rfl⟩
  have HX3 : Hid (w1.heap[w.heap.size]? = some (.cells #[.int .i64 fk, .string nm, .int .i64 op, .slice pv nv cv, .slice pt nt ct, .int .i64 lo, .int .i64 fhi, .bool o, .slice ps f.subs.length cs, .slice pr n cr] 29 (0, 0))) := by rw [ew1]; exact heap_allocA w _
  have B1 : Below w.heap.size w w1 := by rw [ew1]; exact (Below.refl _ _).alloc (Nat.le_refl _) _
  have S1 : Hid (OwnF w0 (w.heap.size + 1) (.slice none 0 0) (rtss (f.rgx.take 0)) w1) := by rw [List.take_zero, rtss_nil]; exact OwnF.nil _ _ _
  go_enter Tryz.func47, Tryz.ntmps47
  go_upto_region 2 with fail
  rw [← ew1]
  clear ew1
  go_wp2
  go_loopw [3, 4] (fun v0 v wr => ∃ k : Nat, k ≤ n ∧ v = .int .i64 k ∧ Hid (OwnF w0 (w.heap.size + 1) v0 (rtss (f.rgx.take k)) wr) ∧ Below w.heap.size w wr ∧ Hid (wr.heap[w.heap.size]? = w1.heap[w.heap.size]?)) (fun _ v _ => n - (intOf v).toNat)
  case atStart => exact ⟨0, Nat.zero_le _, rfl, S1, B1, rfl⟩
  case round =>
    obtain ⟨k, hk, rfl, hOr, hBr, hXr⟩ := hrel
    have r6 : wr.cell? ⟨w.heap.size, 9, none⟩ = some (.slice pr n cr) := by rw [Lib.cell_of_heap (hXr.out.trans HX3.out)]; rfl
    have hsz : w.heap.size < wr.heap.size := (Array.getElem?_eq_some_iff.1 (hXr.out.trans HX3.out)).1
    by_cases hlt : k < n
    case neg =>
      have c2 : ¬ (k : Int) < n := by omega
      have hR : Hid (OwnF w0 (w.heap.size + 1) u3 (rtss f.rgx) wr) := by
        have h := hOr.out
        rw [List.take_of_length_le (by have := en.out; omega)] at h
        exact h
      have e8 : wr.cell? ⟨w.heap.size, 8, none⟩ = some (.slice ps f.subs.length cs) := by rw [Lib.cell_of_heap (hXr.out.trans HX3.out)]; rfl
      have hB0 : Below w0.heap.size w0 wr := hw.trans (hBr.mono hw0)
      have hsz2 := hBr.size
      obtain ⟨ps9, q1, q2, q3⟩ := hR.out
      have HK : Hid (∀ q, u3.ownBlock = some q → w.heap.size + 1 ≤ q ∧ q < wr.heap.size) := fun q hq => World.ownsRow.lt q3 q hq
      have HP3 : Hid (wr.ownsRow (w.heap.size + 1) 29 10 u3 (rtss f.rgx).length (flatF ps9)) := q3
      have HP2 : Hid (∀ x ∈ ps9, QAt w0 x) := q2
      have HP1 : Hid (ps9.map Prod.fst = rtss f.rgx) := q1
      have hLL : (rtss f.rgx).length + f.subs.length ≤ 1000000000 := HL.out
      clear q1 q2 q3 hOr hR
      go_wp2_with (at_builtin; refine wpList_append_srcA rfl _ _ 26 rfl (w.heap.size + 1) 29 i0 (.agg #[.int .i64 0, .string ByteArray.empty, .int .i64 0, .slice none 0 0, .slice none 0 0, .int .i64 0, .int .i64 0, .bool false, .slice none 0 0, .slice none 0 0]) 10 152 Tryz.underlying26 hi hz0 hz1 hz2 rfl (by decide) _ _ _ rfl HP3.out _ f.subs.length (flatF qs) rfl (HQ.out _ hB0) (flatF_one HQ2.out) ?cc3 ?cc4 ?cc5 ?_)
      try (case cc3 => (unfold maxLen; omega))
      try (case cc4 => omega)
      try (case cc5 => first | omega | (simp; done) | (simp; omega))
      intro v5 w5 h2 h3 _
      have O5 : Hid (OwnF w0 (w.heap.size + 1) v5 (rtss f.rgx ++ f.subs) w5) := OwnF.app HP1.out HP2.out HQ1.out HQ2.out h2
      have B5 : Below w.heap.size w w5 := Below.grown hBr h3 (by omega) (fun q hq => by have := (HK.out q hq).1; omega)
      clear h2 h3 HK HP1 HP2 HP3 HQ HQ1 HQ2
      go_wp2
      go_ret
      exact ⟨_, rfl, O5.out, B5⟩
    have hlt' : (k : Int) < n := by omega
    have kx : k < f.rgx.length := by have := en.out; omega
    obtain ⟨b, off, u1, u2, rfl, hb, TC, NT, NS⟩ := HX.out k kx
    have hB0 : Below w0.heap.size w0 wr := hw.trans (hBr.mono hw0)
    obtain ⟨a0, a1, a2⟩ := TC.below hB0 hb
    have l3 := congrArg List.length (rtss_take f.rgx k kx)
    have l4 := rtss_take_le f.rgx (k + 1)
    rw [List.length_append] at l3
    have hL := HL.out
    have hLk : (rtss (f.rgx.take k)).length + (rts f.rgx[k]).length ≤ 1000000000 := by omega
    have cT := IH.out f.rgx[k] u1 u2 wr (trivial) NT NS hB0 (by omega)
    have CT : Hid (type_of% cT) := cT
    have eK : Hid ((rtss (f.rgx.take k)) ++ rts f.rgx[k] = rtss (f.rgx.take (k + 1))) := by rw [rtss_take f.rgx k kx]; first | exact rfl | exact List.append_assoc _ _ _
    obtain ⟨p1, c1, rfl, -⟩ := NT.form
    obtain ⟨p2, c2, rfl, -⟩ := NS.form
    obtain ⟨SV, hSV⟩ : ∃ SV : List Fm, Hid (rts f.rgx[k] = SV) := ⟨rts f.rgx[k], (show _ = _ from rfl)⟩
    obtain ⟨MK, hMK⟩ : ∃ MK : List Fm, Hid ((rtss (f.rgx.take k)) = MK) := ⟨(rtss (f.rgx.take k)), (show _ = _ from rfl)⟩
    rw [hSV.out] at CT hLk eK
    rw [hMK.out] at hOr hLk eK
    clear TC NT NS cT l3 l4 hL hSV hMK
    generalize f.rgx[k].k = X0 at *
    generalize f.rgx[k].test.length = X1 at *
    generalize f.rgx[k].subs.length = X2 at *
    go_wp2_with fail
    refine CT.out.mono ?_
    rintro e w2 ⟨v2, rfl, h2, hb2⟩
    have B2 : Below w.heap.size w w2 := hBr.trans (hb2.mono hBr.size)
    have hzB := B2.size
    have hzS : w.heap.size < w2.heap.size := Nat.lt_of_lt_of_le hsz hb2.size
    have Z2 : Hid (w2.heap[w.heap.size]? = w1.heap[w.heap.size]?) := (hb2.block w.heap.size hsz).trans hXr.out
    obtain ⟨ps, q1, q2, q3⟩ := hOr.out.bel hb2
    obtain ⟨qs, g1, g2, g3⟩ := h2.src
    have HK : Hid (∀ q, u3.ownBlock = some q → w.heap.size + 1 ≤ q ∧ q < w2.heap.size) := fun q hq => World.ownsRow.lt q3 q hq
    have HN : Hid (∀ q, u3.ownBlock = some q → q ≠ w.heap.size) := fun q hq e => by
      have := World.ownsRow.lt (hOr.out.choose_spec.2.2) q hq
      omega
    have HP3 : Hid (w2.ownsRow (w.heap.size + 1) 29 10 u3 MK.length (flatF ps)) := q3
    have HP2 : Hid (∀ x ∈ ps, QAt w0 x) := q2
    have HP1 : Hid (ps.map Prod.fst = MK) := q1
    have HQ : Hid (SrcA w2 10 v2 SV.length (flatF qs)) := g3
    have HQ2 : Hid (∀ x ∈ qs, QAt w0 x) := g2
    have HQ1 : Hid (qs.map Prod.fst = SV) := g1
    clear q1 q2 q3 g1 g2 g3 h2 hb2 hOr CT a0 a1 a2 r6 hBr hXr
    go_wp2_with (at_builtin; refine wpList_append_srcA rfl _ _ 26 rfl (w.heap.size + 1) 29 i0 (.agg #[.int .i64 0, .string ByteArray.empty, .int .i64 0, .slice none 0 0, .slice none 0 0, .int .i64 0, .int .i64 0, .bool false, .slice none 0 0, .slice none 0 0]) 10 152 Tryz.underlying26 hi hz0 hz1 hz2 rfl (by decide) _ _ _ rfl HP3.out _ SV.length (flatF qs) rfl HQ.out (flatF_one HQ2.out) ?cc3 ?cc4 ?cc5 ?_)
    try (case cc3 => (unfold maxLen; omega))
    try (case cc4 => omega)
    try (case cc5 => first | omega | (simp; done) | (simp; omega))
    intro v5 w5 h2 h3 _
    have O5 : Hid (OwnF w0 (w.heap.size + 1) v5 (rtss (f.rgx.take (k + 1))) w5) := by rw [← eK.out]; exact OwnF.app HP1.out HP2.out HQ1.out HQ2.out h2
    have B5 : Below w.heap.size w w5 := Below.grown B2 h3 (by omega) (fun q hq => by have := (HK.out q hq).1; omega)
    have Z5 : Hid (w5.heap[w.heap.size]? = w1.heap[w.heap.size]?) := (h3.block w.heap.size hzS (fun e => HN.out _ e.symm rfl)).trans Z2.out
    clear h2 h3 HK HN HP1 HP2 HP3 HQ HQ1 HQ2
    go_wp2
    exact ⟨⟨k + 1, by omega, by go_num, O5, B5, Z5⟩, by simp [intOf]; omega⟩
end Go.Proofs.YtfajjphfjilpnaaGreat

namespace Go.Proofs.YtfajjphfjilpnaaGreat
open Go.RowKit LX Go.Shelf
set_option linter.unusedVariables false

theorem frm_rs (k : Int) (h : 1 ≤ k ∧ k ≤ 22) : (frm k).rm = 0 ∨ (frm k).sm = 0 := by
  have : k = 1 ∨ k = 2 ∨ k = 3 ∨ k = 4 ∨ k = 5 ∨ k = 6 ∨ k = 7 ∨ k = 8 ∨ k = 9 ∨ k = 10 ∨ k = 11 ∨ k = 12 ∨ k = 13 ∨ k = 14 ∨ k = 15 ∨ k = 16 ∨ k = 17 ∨ k = 18 ∨ k = 19 ∨ k = 20 ∨ k = 21 ∨ k = 22 := by omega
  rcases this with h | h | h | h | h | h | h | h | h | h | h | h | h | h | h | h | h | h | h | h | h | h <;> subst h <;> decide
/-- The document's parts are the program's. -/
theorem pts_app {f : Fm} (h : fmE f = 0) : rtss f.rgx ++ f.subs = ptsF f := by
  obtain ⟨hk, -, -, hs, hr⟩ := fm_forms h
  unfold ptsF
  by_cases hg : f.rgx = []
  · rw [if_pos hg, hg, rtss_nil, List.nil_append]
  · rw [if_neg hg]
    rcases frm_rs f.k hk with e | e
    · exact absurd (List.length_eq_zero_iff.1 (by omega)) hg
    · have : f.subs = [] := List.length_eq_zero_iff.1 (by omega)
      rw [this, List.append_nil]
theorem fm_19t {f : Fm} (h : fmE f = 0) (hk : f.k = 19 ∨ f.k = 10) : f.terms = [] := by
  obtain ⟨-, -, ht, -, -⟩ := fm_forms h
  have e1 : (frm f.k).tm = 0 := by rcases hk with hk | hk <;> rw [hk] <;> decide
  exact List.length_eq_zero_iff.1 (by omega)
theorem fm_10p {f : Fm} (h : fmE f = 0) (hk : f.k = 10) : ∃ g, ptsF f = [g] := by
  obtain ⟨-, -, -, hs, hr⟩ := fm_forms h
  rw [hk] at hs hr
  have e1 : (frm 10).sl = 1 := by decide
  have e3 : (frm 10).sm = 1 := by decide
  have e2 : (frm 10).rm = 0 := by decide
  have : f.rgx = [] := List.length_eq_zero_iff.1 (by omega)
  unfold ptsF
  rw [if_pos this]
  have hl : f.subs.length = 1 := by omega
  obtain ⟨g, hg⟩ := List.length_eq_one_iff.1 hl
  exact ⟨g, hg⟩
theorem fm_20s {f : Fm} (h : fmE f = 0) (hk : f.k = 20 ∨ f.k = 21) : ptsF f = f.subs ∧ 1 < f.subs.length := by
  have h1 := fm_20 h hk
  obtain ⟨-, -, -, hs, hr⟩ := fm_forms h
  have e2 : (frm f.k).rm = 0 := by rcases hk with hk | hk <;> rw [hk] <;> decide
  have : f.rgx = [] := List.length_eq_zero_iff.1 (by omega)
  have e : ptsF f = f.subs := by unfold ptsF; rw [if_pos this]
  exact ⟨e, by rw [← e]; exact h1⟩
/-- The first k parts' variables, and those of the terms. -/
def upK (f : Fm) (k : Nat) : List ByteArray := tvss f.terms ++ (((ptsF f).take k).map fun g => (fre g).1).flatten
theorem upK_succ (f : Fm) (k : Nat) (h : k < (ptsF f).length) : upK f (k + 1) = upK f k ++ (fre (ptsF f)[k]).1 := by
  unfold upK
  rw [List.take_succ_eq_append_getElem h, List.map_append, List.flatten_append, List.append_assoc]
  simp
theorem upK_len {f : Fm} (hn : nodF f ≤ 256) (hok : wfF f) (k : Nat) : (upK f k).length ≤ 5000 := by
  have h1 := tvss_nod _ f.terms (Nat.le_refl _)
  have h2 := pts_nod f
  have h3 := pts_ok hok
  have hT : nodTs f.terms ≤ 256 := by rw [nodF_eq] at hn; omega
  have h5 : ∀ g ∈ (ptsF f).take k, ((fre g).1).length ≤ 9 * nodF g := fun g hg => by
    obtain ⟨i, hi, e⟩ := List.getElem_of_mem (List.mem_of_mem_take hg)
    rw [← e]
    exact fre_len _ _ (Nat.le_refl _) (wfFs_get _ i hi h3)
  have h6 := sum_len (g := fun g => (fre g).1) h5
  have h7 : nodFs ((ptsF f).take k) ≤ nodFs (ptsF f) := by
    have e := nodFs_append ((ptsF f).take k) ((ptsF f).drop k)
    rw [List.take_append_drop] at e
    omega
  unfold upK
  rw [List.length_append]
  omega
theorem puts_up {X Y : List ByteArray} (hY : Rises Y) : putsN (uniN [X]) Y = uniN [X ++ Y] :=
  rises_eq (putsN_up _ _ (uni_one X).1) (uni_one _).1 fun x => by rw [putsN_mem, (uni_one X).2, (uni_one _).2, List.mem_append]
/-- What the other kinds have. -/
theorem fre_other {f : Fm} (h10 : ¬ f.k = 10) (h19 : ¬ f.k = 19) (h20 : ¬ f.k = 20) (h21 : ¬ f.k = 21) : (fre f).1 = uniN [upK f (ptsF f).length] := by
  rw [fre_eq]
  show freO f _ = _
  unfold freO
  rw [if_neg h10, if_neg h19, if_neg (by omega)]
  obtain ⟨a, b⟩ := uni_up [tvss f.terms, uniN ((ptsF f).map fun g => (fre g).1)]
  refine rises_eq a (uni_one _).1 fun x => ?_
  rw [b, (uni_one _).2]
  unfold upK
  rw [List.take_length]
  have c := (uni_up ((ptsF f).map fun g => (fre g).1)).2 x
  simp only [List.flatten_cons, List.flatten_nil, List.append_nil, List.mem_append, c]
theorem fre_agg {f : Fm} (h19 : f.k = 19) : (fre f).1 = putsN (putN f.nm []) (f.vars.drop 1) := by
  rw [fre_eq]
  show freO f _ = _
  unfold freO
  rw [if_neg (by omega), if_pos h19]
  obtain ⟨a, b⟩ := uni_up [[f.nm], f.vars.drop 1]
  refine rises_eq a (putsN_up _ _ (putN_up _ _ (by simp [Rises]))) fun x => ?_
  rw [b, putsN_mem, putN_mem]
  simp
theorem fre_let {f : Fm} (hk : f.k = 20 ∨ f.k = 21) (he : ptsF f = f.subs) (h1 : 1 < f.subs.length) : (fre f).1 = (fre f.subs[1]).1 := by
  rw [fre_eq]
  show freO f _ = _
  unfold freO
  rw [if_neg (by omega), if_neg (by omega), if_pos hk, he, getD_lt _ 1 [] (by simpa using h1)]
  simp
theorem fre_ex {f : Fm} (hE : fmE f = 0) (hok : wfF f) (hk : f.k = 10) : (fre f).1 = (uniN [upK f (ptsF f).length]).filter (fun s => !Lib.containsS f.vars s) := by
  obtain ⟨g, hg⟩ := fm_10p hE hk
  have ht := fm_19t hE (Or.inr hk)
  have hwg : wfF g := by have h := pts_ok hok; rw [hg, wfFs_cons] at h; exact h.1
  have e : uniN [upK f (ptsF f).length] = (fre g).1 := by
    refine rises_eq (uni_one _).1 (fre_up _ g (Nat.le_refl _) hwg).1 fun x => ?_
    rw [(uni_one _).2]
    unfold upK
    rw [List.take_length, hg, ht, tvss_nil]
    simp
  rw [e, fre_eq]
  show freO f _ = _
  unfold freO
  rw [if_pos hk, hg]
  rfl
set_option maxRecDepth 100000 in
set_option maxHeartbeats 16000000 in
theorem rvars_any (w0 : World) : ∀ (m : Nat) (f : Fm) (y : FQ) (w : World), nodF f < m → nodF f ≤ 256 → wfF f → QAt w0 (f, y) → Below w0.heap.size w0 w →
    Calls Tryz.prog 41 #[.agg #[.int .i64 f.k, .string f.nm, .int .i64 f.op, y.v, y.t, .int .i64 f.lo, .int .i64 f.hi, .bool f.opn, y.s, y.r]] w fun e w' => ∃ v, e = .returned v ∧ OwnN w.heap.size v (fre f).1 w' ∧ Below w.heap.size w w' := by
  obtain ⟨i0, hi, hz0, hz1, hz2⟩ := info_parts inStA
  intro m
  induction m with
  | zero => intro f y w hm; omega
  | succ m ih =>
    intro f y w hm hn hok hQ hw
    have hE : fmE f = 0 := by rw [wfF_eq] at hok; exact hok.1
    have hpa := pts_app hE
    have hpn := pts_nod f
    have hpo := pts_ok hok
    have hpl : (ptsF f).length ≤ 256 := by have := nodFs_len (ptsF f); omega
    have cPt : Hid (∀ W : World, Below w0.heap.size w0 W → Calls Tryz.prog 47 #[.agg #[.int .i64 f.k, .string f.nm, .int .i64 f.op, y.v, y.t, .int .i64 f.lo, .int .i64 f.hi, .bool f.opn, y.s, y.r]] W fun e w' => ∃ v, e = .returned v ∧ OwnF w0 (W.heap.size + 1) v (ptsF f) w' ∧ Below W.heap.size W w') := fun W hW => by
      have h := rparts_any w0 f y hQ W hW (by rw [← List.length_append, hpa]; omega)
      rw [hpa] at h
      exact h
    have IHp : Hid (∀ (i : Nat) (hi : i < (ptsF f).length) (z : FQ) (W : World), QAt w0 ((ptsF f)[i], z) → Below w0.heap.size w0 W → Calls Tryz.prog 41 #[.agg #[.int .i64 (ptsF f)[i].k, .string (ptsF f)[i].nm, .int .i64 (ptsF f)[i].op, z.v, z.t, .int .i64 (ptsF f)[i].lo, .int .i64 (ptsF f)[i].hi, .bool (ptsF f)[i].opn, z.s, z.r]] W fun e w' => ∃ v, e = .returned v ∧ OwnN W.heap.size v (fre (ptsF f)[i]).1 w' ∧ Below W.heap.size W w') := fun i hi z W h1 h2 => ih _ z W (by have := nodFs_get (ptsF f) i hi; omega) (by have := nodFs_get (ptsF f) i hi; omega) (wfFs_get _ i hi hpo) h1 h2
    have HRise : Hid (∀ (i : Nat) (hi : i < (ptsF f).length), Rises (fre (ptsF f)[i]).1 ∧ (fre (ptsF f)[i]).1.length ≤ 5000) := fun i hi => ⟨(fre_up _ _ (Nat.le_refl _) (wfFs_get _ i hi hpo)).1, by have h := fre_len _ _ (Nat.le_refl _) (wfFs_get _ i hi hpo); have := nodFs_get (ptsF f) i hi; omega⟩
    have HUL : Hid (∀ k, (upK f k).length ≤ 5000) := upK_len hn hok
    have HTL : Hid ((tvss f.terms).length ≤ 5000) := by have h := upK_len hn hok 0; unfold upK at h; rw [List.length_append] at h; unfold Hid; omega
    have HFO : Hid (¬ f.k = 10 → ¬ f.k = 19 → ¬ f.k = 20 → ¬ f.k = 21 → (fre f).1 = uniN [upK f (ptsF f).length]) := fre_other
    have HFA : Hid (f.k = 19 → (fre f).1 = putsN (putN f.nm []) (f.vars.drop 1) ∧ f.terms = [] ∧ 1 ≤ f.vars.length) := fun h => ⟨fre_agg h, fm_19t hE (Or.inl h), fm_19 hE h⟩
    have HFE : Hid (f.k = 10 → (fre f).1 = (uniN [upK f (ptsF f).length]).filter (fun s => !Lib.containsS f.vars s)) := fre_ex hE hok
    have HFL : Hid (f.k = 20 ∨ f.k = 21 → ptsF f = f.subs ∧ ∃ h1 : 1 < f.subs.length, (fre f).1 = (fre f.subs[1]).1) := fun h => ⟨(fm_20s hE h).1, (fm_20s hE h).2, fre_let h (fm_20s hE h).1 (fm_20s hE h).2⟩
    have hvl := fm_vars hE
    obtain ⟨R, eR⟩ : ∃ R : List ByteArray, Hid ((fre f).1 = R) := ⟨_, rfl⟩
    rw [eR.out] at HFO HFA HFE HFL ⊢
    obtain ⟨uv, ut, us, ur⟩ := y
    obtain ⟨h1, h2, h3, h4⟩ := hQ
    dsimp only at h1 h2 h3 h4 cPt ⊢
    have HV : Hid (NmsAt w0 uv f.vars) := h1
    obtain ⟨-, pv, cv, rfl, hcv, -⟩ := h1
    obtain ⟨pt, ct, rfl, hlt0, hct, HX0⟩ := h2.form
    have HX : Hid (∀ i (hi : i < f.terms.length), ∃ b off u, pt = some ⟨b, off, none⟩ ∧ b < w0.heap.size ∧ TmC w0 b (off + i * 7) f.terms[i] u ∧ TmsAt w0 u f.terms[i].subs ∧ f.terms[i].v.Fits) := HX0
    obtain ⟨ps, cs, rfl, hls, hcs, HS0⟩ := h3.form
    have HXS : Hid (∀ i (hi : i < f.subs.length), ∃ b off uv ut us ur, ps = some ⟨b, off, none⟩ ∧ b < w0.heap.size ∧ FmC w0 b (off + i * 10) f.subs[i] uv ut us ur ∧ NmsAt w0 uv f.subs[i].vars ∧ TmsAt w0 ut f.subs[i].terms ∧ FmsAt w0 us f.subs[i].subs ∧ RxsAt w0 ur f.subs[i].rgx) := HS0
    obtain ⟨pr, cr, rfl, -⟩ := h4.form
    have hw0 := hw.size
    have hvq : Hid (f.vars.length ≤ 8) := hvl
    clear h2 h3 h4 HX0 HS0 ih hm hn hok hE hpa hpn hpo hvl eR
    obtain ⟨ts, ets⟩ : ∃ ts : List Tm, Hid (f.terms = ts) := ⟨_, rfl⟩
    obtain ⟨np, enp⟩ : ∃ n : Nat, Hid ((ptsF f).length = n) := ⟨_, rfl⟩
    obtain ⟨n, en⟩ : ∃ n : Nat, Hid (f.terms.length = n) := ⟨_, rfl⟩
    obtain ⟨nv, env⟩ : ∃ n : Nat, Hid (f.vars.length = n) := ⟨_, rfl⟩
    obtain ⟨ns, ens⟩ : ∃ n : Nat, Hid (f.subs.length = n) := ⟨_, rfl⟩
    obtain ⟨nr, enr⟩ : ∃ n : Nat, Hid (f.rgx.length = n) := ⟨_, rfl⟩
    rw [en.out] at hlt0 hct cPt ⊢
    rw [env.out] at cPt hcv HV hvq ⊢
    rw [ens.out] at hls hcs cPt ⊢
    rw [enr.out] at cPt ⊢
    rw [enp.out] at hpl HFO HFE
    have hvq' : nv ≤ 8 := hvq.out
    generalize f.lo = lo at *
    generalize f.hi = fhi at *
    generalize f.nm = nm at *
    generalize f.opn = o at *
    generalize f.op = op at *
    generalize f.k = fk at *
    obtain ⟨w1, ew1⟩ : ∃ w1, w1 = w.alloc (.cells #[.int .i64 fk, .string nm, .int .i64 op, .slice pv nv cv, .slice pt n ct, .int .i64 lo, .int .i64 fhi, .bool o, .slice ps ns cs, .slice pr nr cr] 29) := ⟨_, rfl⟩
    have HX3 : Hid (w1.heap[w.heap.size]? = some (.cells #[.int .i64 fk, .string nm, .int .i64 op, .slice pv nv cv, .slice pt n ct, .int .i64 lo, .int .i64 fhi, .bool o, .slice ps ns cs, .slice pr nr cr] 29 (0, 0))) := by rw [ew1]; exact heap_allocA w _
    have B1 : Below w.heap.size w w1 := by rw [ew1]; exact (Below.refl _ _).alloc (Nat.le_refl _) _
    have S1 : Hid (OwnN w.heap.size (.slice none 0 0) (uniN [tvss (f.terms.take 0)]) w1) := by rw [List.take_zero, tvss_nil, uni_nil]; exact OwnN.nil _ _
    go_enter Tryz.func41, Tryz.ntmps41
    go_upto_region 2 with fail
    rw [← ew1]
    clear ew1
    go_wp2
    go_loopw [3, 4] (fun v0 v wr => ∃ k : Nat, k ≤ n ∧ v = .int .i64 k ∧ Hid (OwnN w.heap.size v0 (uniN [tvss (f.terms.take k)]) wr) ∧ Below w.heap.size w wr ∧ Hid (wr.heap[w.heap.size]? = w1.heap[w.heap.size]?)) (fun _ v _ => n - (intOf v).toNat)
    case atStart => exact ⟨0, Nat.zero_le _, rfl, S1, B1, rfl⟩
    case round =>
      obtain ⟨k, hk, rfl, hOr, hBr, hXr⟩ := hrel
      have r6 : wr.cell? ⟨w.heap.size, 4, none⟩ = some (.slice pt n ct) := by rw [Lib.cell_of_heap (hXr.out.trans HX3.out)]; rfl
      have hsz : w.heap.size < wr.heap.size := (Array.getElem?_eq_some_iff.1 (hXr.out.trans HX3.out)).1
      by_cases hlt : k < n
      case neg =>
        have c2 : ¬ (k : Int) < n := by omega
        obtain ⟨w2, ew2⟩ : ∃ W : World, W = wr := ⟨_, rfl⟩
        subst ew2
        have O2 : Hid (OwnN w.heap.size u3 (uniN [tvss f.terms]) w2) := by
          have h := hOr.out
          rw [List.take_of_length_le (by have := en.out; omega)] at h
          exact h
        have X2 : Hid (w2.heap[w.heap.size]? = some (.cells #[.int .i64 fk, .string nm, .int .i64 op, .slice pv nv cv, .slice pt n ct, .int .i64 lo, .int .i64 fhi, .bool o, .slice ps ns cs, .slice pr nr cr] 29 (0, 0))) := hXr.out.trans HX3.out
        have hB0 : Below w0.heap.size w0 w2 := hw.trans (hBr.mono hw0)
        clear hOr hXr HX3 B1 S1
        have e0 : w2.cell? ⟨w.heap.size, 0, none⟩ = some (.int .i64 fk) := by rw [Lib.cell_of_heap X2.out]; rfl
        have e1 : w2.cell? ⟨w.heap.size, 1, none⟩ = some (.string nm) := by rw [Lib.cell_of_heap X2.out]; rfl
        have e2 : w2.cell? ⟨w.heap.size, 2, none⟩ = some (.int .i64 op) := by rw [Lib.cell_of_heap X2.out]; rfl
        have e3 : w2.cell? ⟨w.heap.size, 3, none⟩ = some (.slice pv nv cv) := by rw [Lib.cell_of_heap X2.out]; rfl
        have e4 : w2.cell? ⟨w.heap.size, 4, none⟩ = some (.slice pt n ct) := by rw [Lib.cell_of_heap X2.out]; rfl
        have e5 : w2.cell? ⟨w.heap.size, 5, none⟩ = some (.int .i64 lo) := by rw [Lib.cell_of_heap X2.out]; rfl
        have e6 : w2.cell? ⟨w.heap.size, 6, none⟩ = some (.int .i64 fhi) := by rw [Lib.cell_of_heap X2.out]; rfl
        have e7 : w2.cell? ⟨w.heap.size, 7, none⟩ = some (.bool o) := by rw [Lib.cell_of_heap X2.out]; rfl
        have e8 : w2.cell? ⟨w.heap.size, 8, none⟩ = some (.slice ps ns cs) := by rw [Lib.cell_of_heap X2.out]; rfl
        have e9 : w2.cell? ⟨w.heap.size, 9, none⟩ = some (.slice pr nr cr) := by rw [Lib.cell_of_heap X2.out]; rfl
        obtain ⟨p3, n3, c3, rfl⟩ := slice_ofA O2.out
        go_wp2_with fail
        refine (cPt.out _ hB0).mono ?_
        rintro e w3 ⟨v6, rfl, h6, hb6⟩
        have P3 : Hid (PtsAt w0 w3 v6 (ptsF f)) := h6.pts (by have := enp.out; omega)
        have O3 : Hid (OwnN w.heap.size (.slice p3 n3 c3) (uniN [tvss f.terms]) w3) := O2.out.bel hb6
        have X3 : Hid (_) := blkB X2.out hb6
        have B3 : Below w.heap.size w w3 := hBr.trans (hb6.mono hBr.size)
        have B30 : Below w0.heap.size w0 w3 := hw.trans (B3.mono hw0)
        clear h6 hb6 O2 X2 hBr hB0 cPt r6 hlt c2 hk e0 e1 e2 e3 e4 e5 e6 e7 e8 e9
        have hsz3 : w.heap.size < w3.heap.size := blkL X3.out
        obtain ⟨p6, c6, rfl, hl6, hc6, HP6⟩ := P3.out
        have HPP : Hid (_) := HP6
        clear P3 HP6
        rw [enp.out] at hl6 hc6 ⊢
        have e0 : w3.cell? ⟨w.heap.size, 0, none⟩ = some (.int .i64 fk) := by rw [Lib.cell_of_heap X3.out]; rfl
        by_cases h19 : fk = 19
        · obtain ⟨r1, r2, r3⟩ := HFA.out h19
          have HR1 : Hid (R = putsN (putN nm []) (f.vars.drop 1)) := r1
          have O4 : Hid (OwnN w.heap.size (.slice p3 n3 c3) [] w3) := by have h := O3.out; rw [r2, tvss_nil, uni_nil] at h; exact h
          have cA : Hid (type_of% (rput_any w.heap.size (.slice p3 n3 c3) [] nm w3 B3.size O4.out (by simp))) := rput_any w.heap.size (.slice p3 n3 c3) [] nm w3 B3.size O4.out (by simp)
          subst h19
          have e1 : w3.cell? ⟨w.heap.size, 1, none⟩ = some (.string nm) := by rw [Lib.cell_of_heap X3.out]; rfl
          have nv1 : 1 ≤ nv := by have := env.out; omega
          have nv2 : (1 : Int) ≤ nv := by omega
          clear r1 r2 r3 O3 O4
          go_wp2_with fail
          refine cA.out.mono ?_
          rintro e w4 ⟨v4, rfl, h4, hb4⟩
          have O4 : Hid (OwnN w.heap.size v4 (putN nm []) w4) := h4
          have B4 : Below w.heap.size w w4 := B3.trans (hb4.mono B3.size)
          have X4 : Hid (_) := blkB X3.out hb4
          have B40 : Below w0.heap.size w0 w4 := hw.trans (B4.mono hw0)
          clear h4 hb4 cA X3 B3 B30 e0 e1
          have e3 : w4.cell? ⟨w.heap.size, 3, none⟩ = some (.slice pv nv cv) := by rw [Lib.cell_of_heap X4.out]; rfl
          obtain ⟨p4, n4, c4, rfl⟩ := slice_ofA O4.out
          obtain ⟨b, off, rfl, hb, -⟩ : ∃ b off, pv = some ⟨b, off, none⟩ ∧ b < w0.heap.size ∧ True := by
            have h := HV.out
            rw [← env.out] at h
            obtain ⟨p, c, e, -, -, hx⟩ := h.form
            injection e with e1 e2 e3
            obtain ⟨b, off, e4, e5, -⟩ := hx 0 (by have := env.out; omega)
            exact ⟨b, off, e1.trans e4, e5, trivial⟩
          have cK : Hid (∀ (p : Option Addr), (1 < nv → p = some ⟨b, off + 1, none⟩) → Calls Tryz.prog 45 #[.slice p4 n4 c4, .slice p (nv - 1) (cv - 1)] w4 fun e w' => ∃ v, e = .returned v ∧ OwnN w.heap.size v R w' ∧ Below w4.heap.size w4 w') := fun p hp => by
            have hv := HV.out
            rw [← env.out] at hv
            have h := NmsAt.drop1 hv p (fun h => hp (by have := env.out; omega)) (by have := env.out; omega)
            rw [env.out] at h
            have h2 := rputs_any w.heap.size (.slice p4 n4 c4) _ _ _ w4 B4.size O4.out (h.below B40) (by have := env.out; simp [putN]; omega)
            rw [← HR1.out] at h2
            exact h2
          by_cases hc1 : cv = 1
          · have e0n : nv - 1 = 0 := by omega
            have cK1 : Hid (Calls Tryz.prog 45 #[.slice p4 n4 c4, .slice (some ⟨b, off, none⟩) 0 0] w4 fun e w' => ∃ v, e = .returned v ∧ OwnN w.heap.size v R w' ∧ Below w4.heap.size w4 w') := by
              have h := cK.out (some ⟨b, off, none⟩) (by omega)
              rw [e0n, hc1] at h
              exact h
            subst hc1
            clear cK e0n
            go_wp2_with fail
            refine cK1.out.mono ?_
            rintro e w5 ⟨v5, rfl, h5, hb5⟩
            have O5 : Hid (_) := h5
            have B5 : Below w.heap.size w w5 := B4.trans (hb5.mono B4.size)
            clear h5 hb5 cK1
            go_wp2
            go_ret
            exact ⟨_, rfl, O5.out, B5⟩
          · have cK1 : Hid (Calls Tryz.prog 45 #[.slice p4 n4 c4, .slice (some ⟨b, off + 1, none⟩) (nv - 1) (cv - 1)] w4 fun e w' => ∃ v, e = .returned v ∧ OwnN w.heap.size v R w' ∧ Below w4.heap.size w4 w') := cK.out (some ⟨b, off + 1, none⟩) (fun _ => rfl)
            clear cK
            go_wp2_with fail
            refine cK1.out.mono ?_
            rintro e w5 ⟨v5, rfl, h5, hb5⟩
            have O5 : Hid (_) := h5
            have B5 : Below w.heap.size w w5 := B4.trans (hb5.mono B4.size)
            clear h5 hb5 cK1
            go_wp2
            go_ret
            exact ⟨_, rfl, O5.out, B5⟩
        have k19 : (fk == 19) = false := by simpa using h19
        by_cases h20 : fk = 20 ∨ fk = 21
        · obtain ⟨r1, r2, r3⟩ := HFL.out h20
          have e8 : w3.cell? ⟨w.heap.size, 8, none⟩ = some (.slice ps ns cs) := by rw [Lib.cell_of_heap X3.out]; rfl
          obtain ⟨b, off, uv, ut, us, ur, rfl, hb, TC, N1, N2, N3, N4⟩ := HXS.out 1 r2
          obtain ⟨a0, a1, a2, a3, a4, a5, a6, a7, a8, a9⟩ := TC.below B30 hb
          have cI : Calls Tryz.prog 41 #[.agg #[.int .i64 f.subs[1].k, .string f.subs[1].nm, .int .i64 f.subs[1].op, uv, ut, .int .i64 f.subs[1].lo, .int .i64 f.subs[1].hi, .bool f.subs[1].opn, us, ur]] w3 fun e w' => ∃ v, e = .returned v ∧ OwnN w3.heap.size v R w' ∧ Below w3.heap.size w3 w' := by
            have h := IHp.out 1 (by rw [r1]; exact r2) ⟨uv, ut, us, ur⟩ w3 (by simp only [r1]; exact ⟨N1, N2, N3, N4⟩) B30
            simp only [r1] at h
            rw [← r3] at h
            exact h
          have CI : Hid (type_of% cI) := cI
          have n1 : (1 : Int) < ns := by have := ens.out; omega
          obtain ⟨-, q1, d1, rfl, -⟩ := N1
          obtain ⟨q2, d2, rfl, -⟩ := N2.form
          obtain ⟨q3, d3, rfl, -⟩ := N3.form
          obtain ⟨q4, d4, rfl, -⟩ := N4.form
          clear r1 r3 TC N2 N3 N4 cI
          generalize f.subs[1].k = Y0 at *
          generalize f.subs[1].nm = Y1 at *
          generalize f.subs[1].op = Y2 at *
          generalize f.subs[1].lo = Y3 at *
          generalize f.subs[1].hi = Y4 at *
          generalize f.subs[1].opn = Y5 at *
          generalize f.subs[1].vars.length = L1 at *
          generalize f.subs[1].terms.length = L2 at *
          generalize f.subs[1].subs.length = L3 at *
          generalize f.subs[1].rgx.length = L4 at *
          rcases h20 with h20 | h20
          all_goals
            subst h20
            go_wp2_with fail
            refine CI.out.mono ?_
            rintro e w5 ⟨v5, rfl, h5, hb5⟩
            have O5 : Hid (OwnN w.heap.size v5 R w5) := own_monoB h5 B3.size
            have B5 : Below w.heap.size w w5 := B3.trans (hb5.mono B3.size)
            clear h5 hb5 CI
            go_wp2
            go_ret
            exact ⟨_, rfl, O5.out, B5⟩
        have h20a : ¬ fk = 20 := fun h => h20 (Or.inl h)
        have h21a : ¬ fk = 21 := fun h => h20 (Or.inr h)
        have k20 : (fk == 20) = false := by simpa using h20a
        have k21 : (fk == 21) = false := by simpa using h21a
        go_wp2
        go_loopw [3, 7] (fun v0 v wr => ∃ k : Nat, k ≤ np ∧ v = .int .i64 k ∧ Hid (OwnN w.heap.size v0 (uniN [upK f k]) wr) ∧ Hid (Below w3.heap.size w3 wr)) (fun _ v _ => np - (intOf v).toNat)
        case atStart => exact ⟨0, Nat.zero_le _, rfl, by have h := O3.out; unfold upK; rw [List.take_zero, List.map_nil, List.flatten_nil, List.append_nil]; exact h, Below.refl _ _⟩
        case round =>
          obtain ⟨k, hk, rfl, hOr, hBr⟩ := hrel
          have Xr : Hid (_) := blkB X3.out hBr.out
          have Bw : Below w.heap.size w wr := B3.trans (hBr.out.mono B3.size)
          by_cases hlt : k < np
          case neg =>
            have c2 : ¬ (k : Int) < np := by omega
            have hkn : k = np := by omega
            have Ok : Hid (OwnN w.heap.size u3 (uniN [upK f np]) wr) := by have h := hOr.out; rw [hkn] at h; exact h
            clear hkn hOr
            have e0 : wr.cell? ⟨w.heap.size, 0, none⟩ = some (.int .i64 fk) := by rw [Lib.cell_of_heap Xr.out]; rfl
            have e3 : wr.cell? ⟨w.heap.size, 3, none⟩ = some (.slice pv nv cv) := by rw [Lib.cell_of_heap Xr.out]; rfl
            by_cases h10 : fk = 10
            case neg =>
              have k10 : (fk == 10) = false := by simpa using h10
              have k10' : (fk != 10) = true := by simpa using h10
              have hR : Hid (OwnN w.heap.size u3 R wr) := by rw [HFO.out h10 h19 h20a h21a]; exact Ok.out
              go_wp2
              go_ret
              exact ⟨_, rfl, hR.out, Bw⟩
            have HR1 : Hid (R = (uniN [upK f np]).filter (fun s => !Lib.containsS f.vars s)) := HFE.out h10
            obtain ⟨w5, ew5⟩ : ∃ W : World, W = wr := ⟨_, rfl⟩
            subst ew5
            subst h10
            obtain ⟨OU, eOU⟩ : ∃ OU : List ByteArray, Hid (uniN [upK f np] = OU) := ⟨_, rfl⟩
            have hOUl : OU.length ≤ 5000 := by rw [← eOU.out]; exact Nat.le_trans (uni1_len _) (HUL.out np)
            rw [eOU.out] at Ok HR1
            clear eOU
            obtain ⟨nu, enu⟩ : ∃ n : Nat, Hid (OU.length = n) := ⟨_, rfl⟩
            obtain ⟨p9, c9, rfl, hc9, HU⟩ := Ok.out.cap
            have HUc : Hid (∀ i (hi : i < OU.length), ∃ g, p9 = some ⟨g, 0, none⟩ ∧ g < w5.heap.size ∧ w5.cell? ⟨g, i, none⟩ = some (.string OU[i])) := fun i hi => by
              rcases HU with h | ⟨g, g1, -, g3, g4⟩
              · rw [h] at hi; simp at hi
              · exact ⟨g, g1, g3, g4 i hi⟩
            rw [enu.out] at hc9 hOUl ⊢
            have B50 : Below w0.heap.size w0 w5 := hw.trans (Bw.mono hw0)
            have hBr5 : Below w3.heap.size w3 w5 := hBr.out
            clear HU Ok hBr e0 e3
            have e0 : w5.cell? ⟨w.heap.size, 0, none⟩ = some (.int .i64 10) := by rw [Lib.cell_of_heap Xr.out]; rfl
            go_wp2
            clear e0 hlt c2 hk
            go_loopw [9, 10] (fun v0 v wr => ∃ k : Nat, k ≤ nu ∧ v = .int .i64 k ∧ Hid (OwnN w5.heap.size v0 ((OU.take k).filter (fun s => !Lib.containsS f.vars s)) wr) ∧ Below w5.heap.size w5 wr) (fun _ v _ => nu - (intOf v).toNat)
            case atStart => exact ⟨0, Nat.zero_le _, rfl, by rw [List.take_zero]; exact OwnN.nil _ _, Below.refl _ _⟩
            case round =>
              obtain ⟨k, hk, rfl, hOr, hB9⟩ := hrel
              have Xr9 : Hid (_) := blkB Xr.out hB9
              have Bw9 : Below w.heap.size w wr := Bw.trans (hB9.mono Bw.size)
              by_cases hlt : k < nu
              case neg =>
                have c2 : ¬ (k : Int) < nu := by omega
                have hR : Hid (OwnN w.heap.size u9 R wr) := by
                  have h := hOr.out
                  rw [List.take_of_length_le (by have := enu.out; omega), ← HR1.out] at h
                  exact own_monoB h Bw.size
                go_wp2
                go_ret
                exact ⟨_, rfl, hR.out, Bw9⟩
              have hlt' : (k : Int) < nu := by omega
              have k0 : (0 : Int) ≤ k := by omega
              have kx : k < OU.length := by have := enu.out; omega
              obtain ⟨g, rfl, hg, x1⟩ := HUc.out k kx
              have q1 : wr.cell? ⟨g, k, none⟩ = some (.string OU[k]) := (hB9.cell (p := ⟨g, k, none⟩) hg).trans x1
              have hg9 : g < wr.heap.size := Nat.lt_of_lt_of_le hg hB9.size
              have cH : ∀ m : Nat, Calls Tryz.prog 57 #[.slice pv nv cv, .string OU[k]] (wr.drewN m) fun e w' => e = .returned (.bool (Lib.containsS f.vars OU[k])) ∧ w' = wr.drewN m := fun m => by
                have h := HV.out
                exact rhasN_any _ f.vars OU[k] _ (h.below (bdrewA m (B50.trans (hB9.mono B50.size))))
              have hF : (OU.take (k + 1)).filter (fun s => !Lib.containsS f.vars s) = (OU.take k).filter (fun s => !Lib.containsS f.vars s) ++ (if Lib.containsS f.vars OU[k] = true then [] else [OU[k]]) := by
                rw [List.take_succ_eq_append_getElem kx, List.filter_append]
                congr 1
                cases hcc : Lib.containsS f.vars OU[k] <;> simp [hcc]
              have HF : Hid (type_of% hF) := hF
              have hTl : ((OU.take k).filter (fun s => !Lib.containsS f.vars s)).length ≤ 5000 := by
                have h := List.length_filter_le (fun s => !Lib.containsS f.vars s) (OU.take k)
                simp at h
                omega
              obtain ⟨M, eM⟩ : ∃ M : List ByteArray, Hid ((OU.take k).filter (fun s => !Lib.containsS f.vars s) = M) := ⟨_, rfl⟩
              rw [eM.out] at hOr HF hTl
              obtain ⟨x, ex⟩ : ∃ x : ByteArray, Hid (OU[k] = x) := ⟨OU[k], (show _ = _ from rfl)⟩
              rw [ex.out] at q1 HF
              have CH : Hid (∀ m : Nat, Calls Tryz.prog 57 #[.slice pv nv cv, .string x] (wr.drewN m) fun e w' => e = .returned (.bool (Lib.containsS f.vars x)) ∧ w' = wr.drewN m) := by rw [← ex.out]; exact cH
              clear hF cH x1 ex eM
              generalize Lib.containsS f.vars x = CB at *
              have e3 : wr.cell? ⟨w.heap.size, 3, none⟩ = some (.slice pv nv cv) := by rw [Lib.cell_of_heap Xr9.out]; rfl
              go_upto_region 26 with fail
              go_quiet (first | (go_at_call 57; exact Calls.quiet_of_same (CH.out _)))
              have K9 : Below w5.heap.size w5 (wr.drewN nq) := bdrewA nq hB9
              have O9 : Hid (OwnN w5.heap.size u9 M (wr.drewN nq)) := hOr.out
              have q9 : (wr.drewN nq).cell? ⟨g, k, none⟩ = some (.string x) := q1
              clear CH e3 q1 hOr Xr9 Bw9 hB9
              generalize wr.drewN nq = w9 at *
              cases CB with
              | true =>
                have O10 : Hid (OwnN w5.heap.size u9 ((OU.take (k + 1)).filter (fun s => !Lib.containsS f.vars s)) w9) := by rw [HF.out, if_pos rfl, List.append_nil]; exact O9.out
                go_wp2
                exact ⟨⟨k + 1, by omega, by go_num, O10, K9⟩, by simp [intOf]; omega⟩
              | false =>
                have HK : Hid (∀ q, u9.ownBlock = some q → w5.heap.size ≤ q ∧ q < w9.heap.size) := fun q hq => World.ownsRow.lt O9.out q hq
                have HO2 : Hid ((w9.alloc (.cells #[.string x] 9)).ownsRow w5.heap.size 9 1 u9 M.length (M.map Value.string)) := World.ownsRow.alloc O9.out _
                have HS2 : Hid (SrcA (w9.alloc (.cells #[.string x] 9)) 1 (.slice (some ⟨w9.heap.size, 0, none⟩) 1 1) 1 [.string x]) := Or.inr ⟨_, 1, rfl, rfl, fun i y hj => by
                  rw [Addr.add_lit, Nat.zero_add]
                  have hb := heap_allocA w9 (.cells #[.string x] 9)
                  rw [Lib.cell_of_heap hb]
                  simpa using hj⟩
                have hz9 : w5.heap.size ≤ w9.heap.size := K9.size
                go_wp2_with (at_builtin; refine wpList_append_srcA rfl _ _ 22 rfl w5.heap.size 9 i0 (.string ByteArray.empty) 1 16 Tryz.underlying22 hi hz0 hz1 hz2 rfl (by decide) u9 M.length (M.map Value.string) rfl HO2.out (.slice (some ⟨w9.heap.size, 0, none⟩) 1 1) 1 [.string x] rfl HS2.out ?bb1 ?bb2 ?bb3 ?bb4 ?_)
                try (case bb1 => (intro u hu; simp at hu; subst hu; rfl))
                try (case bb2 => (unfold maxLen; omega))
                try (case bb3 => omega)
                try (case bb4 => first | omega | (simp; done) | (simp; omega))
                intro v2 w10 h2 h3 _
                have B10 : Below w5.heap.size w5 w10 := (K9.alloc hz9 _).grown h3 (by simp; omega) (fun q hq => (HK.out q hq).1)
                have O10 : Hid (OwnN w5.heap.size v2 ((OU.take (k + 1)).filter (fun s => !Lib.containsS f.vars s)) w10) := by
                  rw [HF.out, if_neg (by decide)]
                  show World.ownsRow _ _ _ _ _ _ _
                  rw [List.length_append, List.map_append]
                  exact h2
                clear h2 h3 HK HO2 HS2 O9
                go_wp2
                exact ⟨⟨k + 1, by omega, by go_num, O10, B10⟩, by simp [intOf]; omega⟩
          have hlt' : (k : Int) < np := by omega
          have kx : k < (ptsF f).length := by have := enp.out; omega
          obtain ⟨b, off, z, rfl, hb, TC, QZ⟩ := HPP.out k kx
          have B0r : Below w0.heap.size w0 wr := hw.trans (Bw.mono hw0)
          obtain ⟨a0, a1, a2, a3, a4, a5, a6, a7, a8, a9⟩ := TC.below hBr.out hb
          have cI := IHp.out k kx z wr QZ B0r
          have CI : Hid (type_of% cI) := cI
          obtain ⟨hri, hrl⟩ := HRise.out k kx
          have cP : ∀ (W : World) (v : Value), Below w.heap.size w W → OwnN w.heap.size u3 (uniN [upK f k]) W → OwnN w.heap.size v (fre (ptsF f)[k]).1 W → Calls Tryz.prog 45 #[u3, v] W fun e w' => ∃ v, e = .returned v ∧ OwnN w.heap.size v (uniN [upK f (k + 1)]) w' ∧ Below W.heap.size W w' := fun W v h0 h1 h2 => by
            have l1 := uni1_len (upK f k)
            have l2 := HUL.out k
            have h := rputs_any w.heap.size u3 v _ _ W h0.size h1 (h2.nms (by omega)) (by omega)
            rw [puts_up hri, ← upK_succ f k kx] at h
            exact h
          have CP : Hid (type_of% cP) := cP
          obtain ⟨F2, eF2⟩ : ∃ F2 : List ByteArray, Hid ((fre (ptsF f)[k]).1 = F2) := ⟨(fre (ptsF f)[k]).1, (show _ = _ from rfl)⟩
          rw [eF2.out] at CI CP
          obtain ⟨N1, N2, N3, N4⟩ := QZ
          obtain ⟨zv, zt, zs, zr⟩ := z
          dsimp only at N1 N2 N3 N4 a0 a1 a2 a3 a4 a5 a6 a7 a8 a9 cI
          have CI2 : Hid (Calls Tryz.prog 41 #[.agg #[.int .i64 (ptsF f)[k].k, .string (ptsF f)[k].nm, .int .i64 (ptsF f)[k].op, zv, zt, .int .i64 (ptsF f)[k].lo, .int .i64 (ptsF f)[k].hi, .bool (ptsF f)[k].opn, zs, zr]] wr fun e w' => ∃ v, e = .returned v ∧ OwnN wr.heap.size v F2 w' ∧ Below wr.heap.size wr w') := CI
          obtain ⟨-, q1, d1, rfl, -⟩ := N1
          obtain ⟨q2, d2, rfl, -⟩ := N2.form
          obtain ⟨q3, d3, rfl, -⟩ := N3.form
          obtain ⟨q4, d4, rfl, -⟩ := N4.form
          clear TC N2 N3 N4 cI CI cP hri hrl eF2
          generalize (ptsF f)[k].k = Y0 at *
          generalize (ptsF f)[k].nm = Y1 at *
          generalize (ptsF f)[k].op = Y2 at *
          generalize (ptsF f)[k].lo = Y3 at *
          generalize (ptsF f)[k].hi = Y4 at *
          generalize (ptsF f)[k].opn = Y5 at *
          generalize (ptsF f)[k].vars.length = L1 at *
          generalize (ptsF f)[k].terms.length = L2 at *
          generalize (ptsF f)[k].subs.length = L3 at *
          generalize (ptsF f)[k].rgx.length = L4 at *
          have HO : Hid (OwnN w.heap.size u3 (uniN [upK f k]) wr) := hOr
          obtain ⟨p9, n9, c9, rfl⟩ := slice_ofA hOr.out
          clear hOr
          go_wp2_with fail
          refine CI2.out.mono ?_
          rintro e w4 ⟨v4, rfl, h4, hb4⟩
          have O4 : Hid (OwnN w.heap.size (.slice p9 n9 c9) (uniN [upK f k]) w4) := HO.out.bel hb4
          have V4 : Hid (OwnN w.heap.size v4 F2 w4) := own_monoB h4 Bw.size
          have B4 : Below w.heap.size w w4 := Bw.trans (hb4.mono Bw.size)
          have K4 : Hid (Below w3.heap.size w3 w4) := hBr.out.trans (hb4.mono hBr.out.size)
          obtain ⟨p4, n4, c4, rfl⟩ := slice_ofA V4.out
          clear h4 hb4 CI2 HO hBr Bw Xr a0 a1 a2 a3 a4 a5 a6 a7 a8 a9
          go_wp2_with fail
          refine (CP.out w4 _ B4 O4.out V4.out).mono ?_
          rintro e w5 ⟨v5, rfl, h5, hb5⟩
          have O5 : Hid (_) := h5
          have K5 : Hid (Below w3.heap.size w3 w5) := K4.out.trans (hb5.mono K4.out.size)
          clear h5 hb5 CP O4 V4 K4
          go_wp2
          exact ⟨⟨k + 1, by omega, by go_num, O5, K5⟩, by simp [intOf]; omega⟩
      have hlt' : (k : Int) < n := by omega
      have kx : k < f.terms.length := by have := en.out; omega
      obtain ⟨b, off, u, rfl, hb, TC, TS, -⟩ := HX.out k kx
      have hB0 : Below w0.heap.size w0 wr := hw.trans (hBr.mono hw0)
      obtain ⟨a0, a1, a2, a3, a4, a5, a6⟩ := TC.below hB0 hb
      have hle := tvs_get_le f.terms k kx
      have hle2 := tvss_take_le f.terms k
      have hL := HTL.out
      have cT := rtvars_any w0 _ f.terms[k] u wr (Nat.le_refl _) TS hB0 (by omega)
      have CT : Hid (type_of% cT) := cT
      have cP : ∀ (W : World) (v : Value), Below w.heap.size w W → OwnN w.heap.size u3 (uniN [tvss (f.terms.take k)]) W → OwnN w.heap.size v (uniN [tvs f.terms[k]]) W → Calls Tryz.prog 45 #[u3, v] W fun e w' => ∃ v, e = .returned v ∧ OwnN w.heap.size v (uniN [tvss (f.terms.take (k + 1))]) w' ∧ Below W.heap.size W w' := fun W v h0 h1 h2 => by
        have l1 := uni1_len (tvss (f.terms.take k))
        have l2 := uni1_len (tvs f.terms[k])
        have h := rputs_any w.heap.size u3 v _ _ W h0.size h1 (h2.nms (by omega)) (by omega)
        rw [puts_uni, ← tvss_take f.terms k kx] at h
        exact h
      have CP : Hid (type_of% cP) := cP
      clear TC TS cT cP hle hle2 hL
      generalize f.terms[k].k = X0 at *
      generalize f.terms[k].nm = X1 at *
      generalize f.terms[k].v.k = X2 at *
      generalize f.terms[k].v.n = X3 at *
      generalize f.terms[k].v.d = X4 at *
      generalize f.terms[k].v.s = X5 at *
      have HO : Hid (OwnN w.heap.size u3 (uniN [tvss (f.terms.take k)]) wr) := hOr
      obtain ⟨p3, n3, c3, rfl⟩ := slice_ofA hOr.out
      clear hOr
      go_wp2_with fail
      refine CT.out.mono ?_
      rintro e w2 ⟨v2, rfl, h2, hb2⟩
      have O2 : Hid (OwnN w.heap.size (.slice p3 n3 c3) (uniN [tvss (f.terms.take k)]) w2) := HO.out.bel hb2
      have V2 : Hid (OwnN w.heap.size v2 (uniN [tvs f.terms[k]]) w2) := own_monoB h2 hBr.size
      have B2 : Below w.heap.size w w2 := hBr.trans (hb2.mono hBr.size)
      have Z2 : Hid (w2.heap[w.heap.size]? = w1.heap[w.heap.size]?) := (hb2.block w.heap.size hsz).trans hXr.out
      have hsz2 : w.heap.size < w2.heap.size := Nat.lt_of_lt_of_le hsz hb2.size
      obtain ⟨p4, n4, c4, rfl⟩ := slice_ofA V2.out
      clear h2 hb2 CT HO hXr a0 a1 a2 a3 a4 a5 a6 r6 hBr
      go_wp2_with fail
      refine (CP.out w2 _ B2 O2.out V2.out).mono ?_
      rintro e w3 ⟨v3, rfl, h3, hb3⟩
      have O3 : Hid (_) := h3
      have B3 : Below w.heap.size w w3 := B2.trans (hb3.mono B2.size)
      have Z3 : Hid (w3.heap[w.heap.size]? = w1.heap[w.heap.size]?) := (hb3.block w.heap.size hsz2).trans Z2.out
      clear h3 hb3 CP O2 V2 Z2
      go_wp2
      exact ⟨⟨k + 1, by omega, by go_num, O3, B3, Z3⟩, by simp [intOf]; omega⟩
end Go.Proofs.YtfajjphfjilpnaaGreat

namespace Go.Proofs.YtfajjphfjilpnaaGreat
open Go.RowKit LX Go.Shelf
set_option linter.unusedVariables false

theorem wpW {P : Program} {c : Code} {Q : Exit → Act → World → Prop} {a : Act} {w : World} (h : ∀ W, W = w → c.wp P Q a W) : c.wp P Q a w := h w rfl
/-- Has a formula its form, but for names and the interval? -/
def formB (u : Us) (nm : ByteArray) (op lo hi : Int) (o : Bool) (nv nt ns nr : Nat) : Bool := (u.nm || nm.toList == ([] : List UInt8)) && (opB op u.op && ((u.iv || itvZ lo hi o) && (soB nv u.v && (soB nt u.t && (soB ns u.s && soB nr u.r)))))

set_option maxRecDepth 100000 in
set_option maxHeartbeats 16000000 in
theorem rform_any (k op lo hi : Int) (nm : ByteArray) (o : Bool) (pv pt ps pr : Option Addr) (nv cv nt ct ns cs nr cr : Nat) (w : World) :
    Calls Tryz.prog 54 #[.agg #[.int .i64 k, .string nm, .int .i64 op, .slice pv nv cv, .slice pt nt ct, .int .i64 lo, .int .i64 hi, .bool o, .slice ps ns cs, .slice pr nr cr]] w fun r w' => r = .returned (.bool (formB (usO k) nm op lo hi o nv nt ns nr)) ∧ Below w.heap.size w w' := by
  have cU : Hid (∀ W : World, Calls Tryz.prog 79 #[.int .i64 k] W fun e w' => e = .returned (.agg #[.bool (usO k).nm, .bool (usO k).op, .bool (usO k).iv, .int .i64 (usO k).v, .int .i64 (usO k).t, .int .i64 (usO k).s, .int .i64 (usO k).r]) ∧ Below W.heap.size W w') := fun W => ruses_any k W
  have cA : Hid (∀ W : World, Calls Tryz.prog 80 #[.int .i64 (nv : Int), .int .i64 (usO k).v] W fun e w' => e = .returned (.bool (soB nv (usO k).v)) ∧ w' = W) := fun W => rso_any _ _ W
  have cB : Hid (∀ W : World, Calls Tryz.prog 80 #[.int .i64 (nt : Int), .int .i64 (usO k).t] W fun e w' => e = .returned (.bool (soB nt (usO k).t)) ∧ w' = W) := fun W => rso_any _ _ W
  have cC : Hid (∀ W : World, Calls Tryz.prog 80 #[.int .i64 (ns : Int), .int .i64 (usO k).s] W fun e w' => e = .returned (.bool (soB ns (usO k).s)) ∧ w' = W) := fun W => rso_any _ _ W
  have cD : Hid (∀ W : World, Calls Tryz.prog 80 #[.int .i64 (nr : Int), .int .i64 (usO k).r] W fun e w' => e = .returned (.bool (soB nr (usO k).r)) ∧ w' = W) := fun W => rso_any _ _ W
  obtain ⟨R, eR⟩ : ∃ R : Bool, Hid (R = formB (usO k) nm op lo hi o nv nt ns nr) := ⟨_, rfl⟩
  rw [← eR.out]
  have hR0 : Hid (R = (((usO k).nm || nm.toList == ([] : List UInt8)) && (opB op (usO k).op && (((usO k).iv || itvZ lo hi o) && (soB nv (usO k).v && (soB nt (usO k).t && (soB ns (usO k).s && soB nr (usO k).r))))))) := eR.out
  clear eR
  generalize soB nv (usO k).v = A at *
  generalize soB nt (usO k).t = B at *
  generalize soB ns (usO k).s = C at *
  generalize soB nr (usO k).r = D at *
  generalize (usO k).nm = un at *
  generalize (usO k).op = uo at *
  generalize (usO k).iv = ui at *
  generalize (usO k).v = uv at *
  generalize (usO k).t = ut at *
  generalize (usO k).s = us at *
  generalize (usO k).r = ur at *
  obtain ⟨P1, hP1⟩ : ∃ b : Bool, Hid (b = (un || nm.toList == ([] : List UInt8))) := ⟨_, rfl⟩
  obtain ⟨P2, hP2⟩ : ∃ b : Bool, Hid (b = opB op uo) := ⟨_, rfl⟩
  obtain ⟨P3, hP3⟩ : ∃ b : Bool, Hid (b = (ui || itvZ lo hi o)) := ⟨_, rfl⟩
  have hR : Hid (R = (P1 && (P2 && (P3 && (A && (B && (C && D))))))) := by rw [hP1.out, hP2.out, hP3.out]; exact hR0.out
  clear hR0
  go_enter Tryz.func54, Tryz.ntmps54
  go_wp2_with fail
  refine (cU.out _).mono ?_
  rintro r w1 ⟨rfl, hb1⟩
  have hB1 : Below w.heap.size w w1 := Below.trans (by go_grown) (hb1.mono (by simp))
  have HX1 : Hid (w1.heap[w.heap.size]? = some (.cells #[.int .i64 k, .string nm, .int .i64 op, .slice pv nv cv, .slice pt nt ct, .int .i64 lo, .int .i64 hi, .bool o, .slice ps ns cs, .slice pr nr cr] 29 (0, 0))) := (hb1.block w.heap.size (by simp)).trans (heap_allocA w _)
  have hs1 : w.heap.size < w1.heap.size := blkL HX1.out
  clear hb1 cU
  go_upto_region 2 with fail
  refine wpW ?_
  intro W0 hW0
  have kA : Below w1.heap.size w1 W0 := by rw [hW0]; go_grown
  have hUB : Hid (W0.heap[w1.heap.size]? = some (.cells #[.bool un, .bool uo, .bool ui, .int .i64 uv, .int .i64 ut, .int .i64 us, .int .i64 ur] 105 (0, 0))) := by rw [hW0]; exact heap_allocA w1 _
  have hFB : Hid (W0.heap[w.heap.size]? = some (.cells #[.int .i64 k, .string nm, .int .i64 op, .slice pv nv cv, .slice pt nt ct, .int .i64 lo, .int .i64 hi, .bool o, .slice ps ns cs, .slice pr nr cr] 29 (0, 0))) := blkB HX1.out kA
  have K0 : Below w.heap.size w W0 := hB1.trans (kA.mono hB1.size)
  clear hW0 HX1 kA hB1
  have e0 : W0.cell? ⟨w.heap.size, 0, none⟩ = some (.int .i64 k) := by rw [Lib.cell_of_heap hFB.out]; rfl
  have e1 : W0.cell? ⟨w.heap.size, 1, none⟩ = some (.string nm) := by rw [Lib.cell_of_heap hFB.out]; rfl
  have e2 : W0.cell? ⟨w.heap.size, 2, none⟩ = some (.int .i64 op) := by rw [Lib.cell_of_heap hFB.out]; rfl
  have e3 : W0.cell? ⟨w.heap.size, 3, none⟩ = some (.slice pv nv cv) := by rw [Lib.cell_of_heap hFB.out]; rfl
  have e4 : W0.cell? ⟨w.heap.size, 4, none⟩ = some (.slice pt nt ct) := by rw [Lib.cell_of_heap hFB.out]; rfl
  have e5 : W0.cell? ⟨w.heap.size, 5, none⟩ = some (.int .i64 lo) := by rw [Lib.cell_of_heap hFB.out]; rfl
  have e6 : W0.cell? ⟨w.heap.size, 6, none⟩ = some (.int .i64 hi) := by rw [Lib.cell_of_heap hFB.out]; rfl
  have e7 : W0.cell? ⟨w.heap.size, 7, none⟩ = some (.bool o) := by rw [Lib.cell_of_heap hFB.out]; rfl
  have e8 : W0.cell? ⟨w.heap.size, 8, none⟩ = some (.slice ps ns cs) := by rw [Lib.cell_of_heap hFB.out]; rfl
  have e9 : W0.cell? ⟨w.heap.size, 9, none⟩ = some (.slice pr nr cr) := by rw [Lib.cell_of_heap hFB.out]; rfl
  have g0 : W0.cell? ⟨w1.heap.size, 0, none⟩ = some (.bool un) := by rw [Lib.cell_of_heap hUB.out]; rfl
  have g1 : W0.cell? ⟨w1.heap.size, 1, none⟩ = some (.bool uo) := by rw [Lib.cell_of_heap hUB.out]; rfl
  have g2 : W0.cell? ⟨w1.heap.size, 2, none⟩ = some (.bool ui) := by rw [Lib.cell_of_heap hUB.out]; rfl
  have g3 : W0.cell? ⟨w1.heap.size, 3, none⟩ = some (.int .i64 uv) := by rw [Lib.cell_of_heap hUB.out]; rfl
  have g4 : W0.cell? ⟨w1.heap.size, 4, none⟩ = some (.int .i64 ut) := by rw [Lib.cell_of_heap hUB.out]; rfl
  have g5 : W0.cell? ⟨w1.heap.size, 5, none⟩ = some (.int .i64 us) := by rw [Lib.cell_of_heap hUB.out]; rfl
  have g6 : W0.cell? ⟨w1.heap.size, 6, none⟩ = some (.int .i64 ur) := by rw [Lib.cell_of_heap hUB.out]; rfl
  clear hFB hUB
  cases un with
  | true =>
    have z1 : P1 = true := hP1.out
    cases uo with
    | false =>
      by_cases ho : op = 0
      case neg =>
        have ho1 : (op == 0) = false := by simp [ho]
        have ho2 : (op != 0) = true := by simp [ho]
        have hz : P2 = false := by rw [hP2.out]; exact ho1
        go_wp2
        go_ret
        exact ⟨retb (by rw [hR.out, hz, Bool.false_and, Bool.and_false]; try rfl), K0⟩
      have z2 : P2 = true := by rw [hP2.out, ho]; rfl
      have ho1 : (op == 0) = true := by simp [ho]
      have ho2 : (op != 0) = false := by simp [ho]
      clear ho
      cases ui with
      | true =>
        have z3 : P3 = true := hP3.out
        have hR2 : Hid (R = (A && (B && (C && D)))) := by rw [hR.out, z1, z2, z3]; rfl
        clear hR hP1 hP2 hP3 z1 z2 z3
        go_wp2_with fail
        refine (cA.out _).mono ?_
        rintro r w2 ⟨rfl, rfl⟩
        go_wp2_with fail
        refine (cB.out _).mono ?_
        rintro r w3 ⟨rfl, rfl⟩
        go_wp2_with fail
        refine (cC.out _).mono ?_
        rintro r w4 ⟨rfl, rfl⟩
        go_wp2_with fail
        refine (cD.out _).mono ?_
        rintro r w5 ⟨rfl, rfl⟩
        clear cA cB cC cD
        cases A with
        | false =>
          go_wp2
          go_ret
          exact ⟨retb hR2.out.symm, K0⟩
        | true =>
        cases B with
        | false =>
          go_wp2
          go_ret
          exact ⟨retb hR2.out.symm, K0⟩
        | true =>
        cases C with
        | false =>
          go_wp2
          go_ret
          exact ⟨retb hR2.out.symm, K0⟩
        | true =>
        go_wp2
        go_ret
        exact ⟨retb hR2.out.symm, K0⟩
      | false =>
        by_cases hl : lo = 0
        case neg =>
          have hl1 : (lo == 0) = false := by simp [hl]
          have hl2 : (lo != 0) = true := by simp [hl]
          have hz : P3 = false := by rw [hP3.out]; unfold itvZ; rw [hl1]; rfl
          go_wp2
          go_ret
          exact ⟨retb (by rw [hR.out, hz, Bool.false_and, Bool.and_false, Bool.and_false]; try rfl), K0⟩
        have hl1 : (lo == 0) = true := by simp [hl]
        by_cases hh : hi = 0
        case neg =>
          have hh1 : (hi == 0) = false := by simp [hh]
          have hh2 : (hi != 0) = true := by simp [hh]
          have hz : P3 = false := by rw [hP3.out]; unfold itvZ; rw [hh1]; simp
          go_wp2
          go_ret
          exact ⟨retb (by rw [hR.out, hz, Bool.false_and, Bool.and_false, Bool.and_false]; try rfl), K0⟩
        have hh1 : (hi == 0) = true := by simp [hh]
        cases o with
        | true =>
          have hz : P3 = false := by rw [hP3.out]; unfold itvZ; simp
          go_wp2
          go_ret
          exact ⟨retb (by rw [hR.out, hz, Bool.false_and, Bool.and_false, Bool.and_false]; try rfl), K0⟩
        | false =>
          have z3 : P3 = true := by rw [hP3.out]; unfold itvZ; rw [hl1, hh1]; rfl
          subst hl hh
          have hR2 : Hid (R = (A && (B && (C && D)))) := by rw [hR.out, z1, z2, z3]; rfl
          clear hR hP1 hP2 hP3 z1 z2 z3
          go_wp2_with fail
          refine (cA.out _).mono ?_
          rintro r w2 ⟨rfl, rfl⟩
          go_wp2_with fail
          refine (cB.out _).mono ?_
          rintro r w3 ⟨rfl, rfl⟩
          go_wp2_with fail
          refine (cC.out _).mono ?_
          rintro r w4 ⟨rfl, rfl⟩
          go_wp2_with fail
          refine (cD.out _).mono ?_
          rintro r w5 ⟨rfl, rfl⟩
          clear cA cB cC cD
          cases A with
          | false =>
            go_wp2
            go_ret
            exact ⟨retb hR2.out.symm, K0⟩
          | true =>
          cases B with
          | false =>
            go_wp2
            go_ret
            exact ⟨retb hR2.out.symm, K0⟩
          | true =>
          cases C with
          | false =>
            go_wp2
            go_ret
            exact ⟨retb hR2.out.symm, K0⟩
          | true =>
          go_wp2
          go_ret
          exact ⟨retb hR2.out.symm, K0⟩
    | true =>
      by_cases ho : 1 ≤ op
      case neg =>
        have ho2 : op < 1 := by omega
        have hz : P2 = false := by rw [hP2.out]; exact decide_eq_false (fun h => ho h.1)
        go_wp2
        go_ret
        exact ⟨retb (by rw [hR.out, hz, Bool.false_and, Bool.and_false]; try rfl), K0⟩
      have ho3 : ¬ op < 1 := by omega
      by_cases hp : op ≤ 6
      case neg =>
        have ho2 : 6 < op := by omega
        have hz : P2 = false := by rw [hP2.out]; exact decide_eq_false (fun h => hp h.2)
        go_wp2
        go_ret
        exact ⟨retb (by rw [hR.out, hz, Bool.false_and, Bool.and_false]; try rfl), K0⟩
      have ho2 : ¬ 6 < op := by omega
      have z2 : P2 = true := by rw [hP2.out]; exact decide_eq_true ⟨ho, hp⟩
      cases ui with
      | true =>
        have z3 : P3 = true := hP3.out
        have hR2 : Hid (R = (A && (B && (C && D)))) := by rw [hR.out, z1, z2, z3]; rfl
        clear hR hP1 hP2 hP3 z1 z2 z3
        go_wp2_with fail
        refine (cA.out _).mono ?_
        rintro r w2 ⟨rfl, rfl⟩
        go_wp2_with fail
        refine (cB.out _).mono ?_
        rintro r w3 ⟨rfl, rfl⟩
        go_wp2_with fail
        refine (cC.out _).mono ?_
        rintro r w4 ⟨rfl, rfl⟩
        go_wp2_with fail
        refine (cD.out _).mono ?_
        rintro r w5 ⟨rfl, rfl⟩
        clear cA cB cC cD
        cases A with
        | false =>
          go_wp2
          go_ret
          exact ⟨retb hR2.out.symm, K0⟩
        | true =>
        cases B with
        | false =>
          go_wp2
          go_ret
          exact ⟨retb hR2.out.symm, K0⟩
        | true =>
        cases C with
        | false =>
          go_wp2
          go_ret
          exact ⟨retb hR2.out.symm, K0⟩
        | true =>
        go_wp2
        go_ret
        exact ⟨retb hR2.out.symm, K0⟩
      | false =>
        by_cases hl : lo = 0
        case neg =>
          have hl1 : (lo == 0) = false := by simp [hl]
          have hl2 : (lo != 0) = true := by simp [hl]
          have hz : P3 = false := by rw [hP3.out]; unfold itvZ; rw [hl1]; rfl
          go_wp2
          go_ret
          exact ⟨retb (by rw [hR.out, hz, Bool.false_and, Bool.and_false, Bool.and_false]; try rfl), K0⟩
        have hl1 : (lo == 0) = true := by simp [hl]
        by_cases hh : hi = 0
        case neg =>
          have hh1 : (hi == 0) = false := by simp [hh]
          have hh2 : (hi != 0) = true := by simp [hh]
          have hz : P3 = false := by rw [hP3.out]; unfold itvZ; rw [hh1]; simp
          go_wp2
          go_ret
          exact ⟨retb (by rw [hR.out, hz, Bool.false_and, Bool.and_false, Bool.and_false]; try rfl), K0⟩
        have hh1 : (hi == 0) = true := by simp [hh]
        cases o with
        | true =>
          have hz : P3 = false := by rw [hP3.out]; unfold itvZ; simp
          go_wp2
          go_ret
          exact ⟨retb (by rw [hR.out, hz, Bool.false_and, Bool.and_false, Bool.and_false]; try rfl), K0⟩
        | false =>
          have z3 : P3 = true := by rw [hP3.out]; unfold itvZ; rw [hl1, hh1]; rfl
          subst hl hh
          have hR2 : Hid (R = (A && (B && (C && D)))) := by rw [hR.out, z1, z2, z3]; rfl
          clear hR hP1 hP2 hP3 z1 z2 z3
          go_wp2_with fail
          refine (cA.out _).mono ?_
          rintro r w2 ⟨rfl, rfl⟩
          go_wp2_with fail
          refine (cB.out _).mono ?_
          rintro r w3 ⟨rfl, rfl⟩
          go_wp2_with fail
          refine (cC.out _).mono ?_
          rintro r w4 ⟨rfl, rfl⟩
          go_wp2_with fail
          refine (cD.out _).mono ?_
          rintro r w5 ⟨rfl, rfl⟩
          clear cA cB cC cD
          cases A with
          | false =>
            go_wp2
            go_ret
            exact ⟨retb hR2.out.symm, K0⟩
          | true =>
          cases B with
          | false =>
            go_wp2
            go_ret
            exact ⟨retb hR2.out.symm, K0⟩
          | true =>
          cases C with
          | false =>
            go_wp2
            go_ret
            exact ⟨retb hR2.out.symm, K0⟩
          | true =>
          go_wp2
          go_ret
          exact ⟨retb hR2.out.symm, K0⟩
  | false =>
    cases hn : (nm.toList == ([] : List UInt8)) with
    | false =>
      have hz : P1 = false := by rw [hP1.out, hn]; rfl
      have hn2 : (nm.toList != ([] : List UInt8)) = true := by simp [bne, hn]
      go_wp2
      go_ret
      exact ⟨retb (by rw [hR.out, hz, Bool.false_and]; try rfl), K0⟩
    | true =>
      have z1 : P1 = true := by rw [hP1.out, hn]; rfl
      have hn2 : (nm.toList != ([] : List UInt8)) = false := by simp [bne, hn]
      cases uo with
      | false =>
        by_cases ho : op = 0
        case neg =>
          have ho1 : (op == 0) = false := by simp [ho]
          have ho2 : (op != 0) = true := by simp [ho]
          have hz : P2 = false := by rw [hP2.out]; exact ho1
          go_wp2
          go_ret
          exact ⟨retb (by rw [hR.out, hz, Bool.false_and, Bool.and_false]; try rfl), K0⟩
        have z2 : P2 = true := by rw [hP2.out, ho]; rfl
        have ho1 : (op == 0) = true := by simp [ho]
        have ho2 : (op != 0) = false := by simp [ho]
        clear ho
        cases ui with
        | true =>
          have z3 : P3 = true := hP3.out
          have hR2 : Hid (R = (A && (B && (C && D)))) := by rw [hR.out, z1, z2, z3]; rfl
          clear hR hP1 hP2 hP3 z1 z2 z3
          go_wp2_with fail
          refine (cA.out _).mono ?_
          rintro r w2 ⟨rfl, rfl⟩
          go_wp2_with fail
          refine (cB.out _).mono ?_
          rintro r w3 ⟨rfl, rfl⟩
          go_wp2_with fail
          refine (cC.out _).mono ?_
          rintro r w4 ⟨rfl, rfl⟩
          go_wp2_with fail
          refine (cD.out _).mono ?_
          rintro r w5 ⟨rfl, rfl⟩
          clear cA cB cC cD
          cases A with
          | false =>
            go_wp2
            go_ret
            exact ⟨retb hR2.out.symm, K0⟩
          | true =>
          cases B with
          | false =>
            go_wp2
            go_ret
            exact ⟨retb hR2.out.symm, K0⟩
          | true =>
          cases C with
          | false =>
            go_wp2
            go_ret
            exact ⟨retb hR2.out.symm, K0⟩
          | true =>
          go_wp2
          go_ret
          exact ⟨retb hR2.out.symm, K0⟩
        | false =>
          by_cases hl : lo = 0
          case neg =>
            have hl1 : (lo == 0) = false := by simp [hl]
            have hl2 : (lo != 0) = true := by simp [hl]
            have hz : P3 = false := by rw [hP3.out]; unfold itvZ; rw [hl1]; rfl
            go_wp2
            go_ret
            exact ⟨retb (by rw [hR.out, hz, Bool.false_and, Bool.and_false, Bool.and_false]; try rfl), K0⟩
          have hl1 : (lo == 0) = true := by simp [hl]
          by_cases hh : hi = 0
          case neg =>
            have hh1 : (hi == 0) = false := by simp [hh]
            have hh2 : (hi != 0) = true := by simp [hh]
            have hz : P3 = false := by rw [hP3.out]; unfold itvZ; rw [hh1]; simp
            go_wp2
            go_ret
            exact ⟨retb (by rw [hR.out, hz, Bool.false_and, Bool.and_false, Bool.and_false]; try rfl), K0⟩
          have hh1 : (hi == 0) = true := by simp [hh]
          cases o with
          | true =>
            have hz : P3 = false := by rw [hP3.out]; unfold itvZ; simp
            go_wp2
            go_ret
            exact ⟨retb (by rw [hR.out, hz, Bool.false_and, Bool.and_false, Bool.and_false]; try rfl), K0⟩
          | false =>
            have z3 : P3 = true := by rw [hP3.out]; unfold itvZ; rw [hl1, hh1]; rfl
            subst hl hh
            have hR2 : Hid (R = (A && (B && (C && D)))) := by rw [hR.out, z1, z2, z3]; rfl
            clear hR hP1 hP2 hP3 z1 z2 z3
            go_wp2_with fail
            refine (cA.out _).mono ?_
            rintro r w2 ⟨rfl, rfl⟩
            go_wp2_with fail
            refine (cB.out _).mono ?_
            rintro r w3 ⟨rfl, rfl⟩
            go_wp2_with fail
            refine (cC.out _).mono ?_
            rintro r w4 ⟨rfl, rfl⟩
            go_wp2_with fail
            refine (cD.out _).mono ?_
            rintro r w5 ⟨rfl, rfl⟩
            clear cA cB cC cD
            cases A with
            | false =>
              go_wp2
              go_ret
              exact ⟨retb hR2.out.symm, K0⟩
            | true =>
            cases B with
            | false =>
              go_wp2
              go_ret
              exact ⟨retb hR2.out.symm, K0⟩
            | true =>
            cases C with
            | false =>
              go_wp2
              go_ret
              exact ⟨retb hR2.out.symm, K0⟩
            | true =>
            go_wp2
            go_ret
            exact ⟨retb hR2.out.symm, K0⟩
      | true =>
        by_cases ho : 1 ≤ op
        case neg =>
          have ho2 : op < 1 := by omega
          have hz : P2 = false := by rw [hP2.out]; exact decide_eq_false (fun h => ho h.1)
          go_wp2
          go_ret
          exact ⟨retb (by rw [hR.out, hz, Bool.false_and, Bool.and_false]; try rfl), K0⟩
        have ho3 : ¬ op < 1 := by omega
        by_cases hp : op ≤ 6
        case neg =>
          have ho2 : 6 < op := by omega
          have hz : P2 = false := by rw [hP2.out]; exact decide_eq_false (fun h => hp h.2)
          go_wp2
          go_ret
          exact ⟨retb (by rw [hR.out, hz, Bool.false_and, Bool.and_false]; try rfl), K0⟩
        have ho2 : ¬ 6 < op := by omega
        have z2 : P2 = true := by rw [hP2.out]; exact decide_eq_true ⟨ho, hp⟩
        cases ui with
        | true =>
          have z3 : P3 = true := hP3.out
          have hR2 : Hid (R = (A && (B && (C && D)))) := by rw [hR.out, z1, z2, z3]; rfl
          clear hR hP1 hP2 hP3 z1 z2 z3
          go_wp2_with fail
          refine (cA.out _).mono ?_
          rintro r w2 ⟨rfl, rfl⟩
          go_wp2_with fail
          refine (cB.out _).mono ?_
          rintro r w3 ⟨rfl, rfl⟩
          go_wp2_with fail
          refine (cC.out _).mono ?_
          rintro r w4 ⟨rfl, rfl⟩
          go_wp2_with fail
          refine (cD.out _).mono ?_
          rintro r w5 ⟨rfl, rfl⟩
          clear cA cB cC cD
          cases A with
          | false =>
            go_wp2
            go_ret
            exact ⟨retb hR2.out.symm, K0⟩
          | true =>
          cases B with
          | false =>
            go_wp2
            go_ret
            exact ⟨retb hR2.out.symm, K0⟩
          | true =>
          cases C with
          | false =>
            go_wp2
            go_ret
            exact ⟨retb hR2.out.symm, K0⟩
          | true =>
          go_wp2
          go_ret
          exact ⟨retb hR2.out.symm, K0⟩
        | false =>
          by_cases hl : lo = 0
          case neg =>
            have hl1 : (lo == 0) = false := by simp [hl]
            have hl2 : (lo != 0) = true := by simp [hl]
            have hz : P3 = false := by rw [hP3.out]; unfold itvZ; rw [hl1]; rfl
            go_wp2
            go_ret
            exact ⟨retb (by rw [hR.out, hz, Bool.false_and, Bool.and_false, Bool.and_false]; try rfl), K0⟩
          have hl1 : (lo == 0) = true := by simp [hl]
          by_cases hh : hi = 0
          case neg =>
            have hh1 : (hi == 0) = false := by simp [hh]
            have hh2 : (hi != 0) = true := by simp [hh]
            have hz : P3 = false := by rw [hP3.out]; unfold itvZ; rw [hh1]; simp
            go_wp2
            go_ret
            exact ⟨retb (by rw [hR.out, hz, Bool.false_and, Bool.and_false, Bool.and_false]; try rfl), K0⟩
          have hh1 : (hi == 0) = true := by simp [hh]
          cases o with
          | true =>
            have hz : P3 = false := by rw [hP3.out]; unfold itvZ; simp
            go_wp2
            go_ret
            exact ⟨retb (by rw [hR.out, hz, Bool.false_and, Bool.and_false, Bool.and_false]; try rfl), K0⟩
          | false =>
            have z3 : P3 = true := by rw [hP3.out]; unfold itvZ; rw [hl1, hh1]; rfl
            subst hl hh
            have hR2 : Hid (R = (A && (B && (C && D)))) := by rw [hR.out, z1, z2, z3]; rfl
            clear hR hP1 hP2 hP3 z1 z2 z3
            go_wp2_with fail
            refine (cA.out _).mono ?_
            rintro r w2 ⟨rfl, rfl⟩
            go_wp2_with fail
            refine (cB.out _).mono ?_
            rintro r w3 ⟨rfl, rfl⟩
            go_wp2_with fail
            refine (cC.out _).mono ?_
            rintro r w4 ⟨rfl, rfl⟩
            go_wp2_with fail
            refine (cD.out _).mono ?_
            rintro r w5 ⟨rfl, rfl⟩
            clear cA cB cC cD
            cases A with
            | false =>
              go_wp2
              go_ret
              exact ⟨retb hR2.out.symm, K0⟩
            | true =>
            cases B with
            | false =>
              go_wp2
              go_ret
              exact ⟨retb hR2.out.symm, K0⟩
            | true =>
            cases C with
            | false =>
              go_wp2
              go_ret
              exact ⟨retb hR2.out.symm, K0⟩
            | true =>
            go_wp2
            go_ret
            exact ⟨retb hR2.out.symm, K0⟩

end Go.Proofs.YtfajjphfjilpnaaGreat

namespace Go.Proofs.YtfajjphfjilpnaaGreat
open Go.RowKit LX Go.Shelf
set_option linter.unusedVariables false

set_option maxRecDepth 100000 in
set_option maxHeartbeats 4000000 in
theorem form_eq (k op lo hi : Int) (nm : ByteArray) (o : Bool) (vs : List ByteArray) (nt ns nr : Nat) (hk : 1 ≤ k ∧ k ≤ 22) (hm : manyB k vs.length nt = false) (hs : ns ≤ 9223372036854775807) :
    formedM (frm k) op lo hi nm o vs nt ns nr = (formB (usO k) nm op lo hi o vs.length nt ns nr && namedB (usO k) nm vs lo hi o) := by
  have hk' : k = 1 ∨ k = 2 ∨ k = 3 ∨ k = 4 ∨ k = 5 ∨ k = 6 ∨ k = 7 ∨ k = 8 ∨ k = 9 ∨ k = 10 ∨ k = 11 ∨ k = 12 ∨ k = 13 ∨ k = 14 ∨ k = 15 ∨ k = 16 ∨ k = 17 ∨ k = 18 ∨ k = 19 ∨ k = 20 ∨ k = 21 ∨ k = 22 := by omega
  unfold formedM formB namedB
  generalize vs.length = nv at *
  generalize namesB vs = b1
  generalize nameB nm = b2
  rcases hk' with rfl | rfl | rfl | rfl | rfl | rfl | rfl | rfl | rfl | rfl | rfl | rfl | rfl | rfl | rfl | rfl | rfl | rfl | rfl | rfl | rfl | rfl <;>
  · simp [manyB] at hm
    rw [Bool.eq_iff_iff]
    simp [frm, usO, soB, itvB]
    grind
end Go.Proofs.YtfajjphfjilpnaaGreat
