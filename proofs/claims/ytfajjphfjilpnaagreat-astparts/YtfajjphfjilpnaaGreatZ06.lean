/- What live's calls answer. -/
import Derived.Test.YtfajjphfjilpnaaGreatZ05
import Derived.Test.YtfajjphfjilpnaaGreatZ01
import Derived.Test.YtfajjphfjilpnaaGreatZ03
import Derived.Test.YtfajjphfjilpnaaGreatZ04
import Derived.Deep.QuietTactic
import Derived.Deep.RegionLaw

namespace Go.Proofs.YtfajjphfjilpnaaGreat
open Go.RowKit LX Go.Shelf
set_option linter.unusedVariables false

theorem nameB_size {s : ByteArray} (h : nameB s = true) : s.size ≤ 16 := by
  unfold nameB nameL at h
  simp only [Bool.and_eq_true, decide_eq_true_eq] at h
  have : s.data.toList.length = s.size := by simp
  omega
theorem nil_size {s : ByteArray} (h : (s.toList == []) = true) : s.size = 0 := by
  have h1 : s.toList = [] := by simpa using h
  rw [ByteArray.toList_eq] at h1
  have : s.data.toList.length = s.size := by simp
  rw [h1] at this
  simpa using this.symm
theorem namesB_all : ∀ {l : List ByteArray}, namesB l = true → ∀ s ∈ l, nameB s = true
  | [], _, s, hs => by cases hs
  | x :: l, h, s, hs => by
    rw [namesB, Bool.and_eq_true] at h
    rcases List.mem_cons.1 hs with rfl | hs
    · exact h.1
    · exact namesB_all h.2 s hs
theorem fm_names {f : Fm} (h : fmE f = 0) : namesB f.vars = true ∧ (if (frm f.k).nm = true then nameB f.nm else f.nm.toList == []) = true := by
  unfold fmE at h
  by_cases h1 : f.k < 1 ∨ 22 < f.k
  · rw [if_pos h1] at h; simp at h
  rw [if_neg h1] at h
  by_cases h2 : manyB f.k f.vars.length f.terms.length = true
  · rw [if_pos h2] at h; simp at h
  rw [if_neg h2] at h
  by_cases h3 : formedM (frm f.k) f.op f.lo f.hi f.nm f.opn f.vars f.terms.length f.subs.length f.rgx.length = false
  · rw [if_pos h3] at h; simp at h
  have h4 : formedM (frm f.k) f.op f.lo f.hi f.nm f.opn f.vars f.terms.length f.subs.length f.rgx.length = true := by
    cases h5 : formedM (frm f.k) f.op f.lo f.hi f.nm f.opn f.vars f.terms.length f.subs.length f.rgx.length with
    | false => exact absurd h5 h3
    | true => rfl
  unfold formedM at h4
  rw [Bool.and_eq_true, Bool.and_eq_true, Bool.and_eq_true, Bool.and_eq_true, Bool.and_eq_true, Bool.and_eq_true] at h4
  exact ⟨h4.2.2.2.2.1, h4.2.2.2.2.2.1⟩
theorem name_size {f : Fm} (h : fmE f = 0) : f.nm.size ≤ 16 := by
  have h1 := (fm_names h).2
  by_cases h2 : (frm f.k).nm = true
  · rw [if_pos h2] at h1; exact nameB_size h1
  · rw [if_neg h2] at h1; have := nil_size h1; omega
theorem tm_sizes {t : Tm} (h : tmE t = 0) : t.nm.size ≤ 16 ∧ t.v.s.size ≤ 64 ∧ (t.k = 1 → nameB t.nm = true) := by
  unfold tmE at h
  by_cases h1 : t.k < 1 ∨ 5 < t.k
  · rw [if_pos h1] at h; simp at h
  rw [if_neg h1] at h
  by_cases h2 : (if t.k = 1 then nameB t.nm else t.nm.toList == []) = false ∨ t.subs.length ≠ (if 3 ≤ t.k then 2 else 0)
  · rw [if_pos h2] at h; simp at h
  rw [if_neg h2] at h
  have h3 : (if t.k = 1 then nameB t.nm else t.nm.toList == []) = true := by
    cases h4 : (if t.k = 1 then nameB t.nm else t.nm.toList == []) with
    | false => exact absurd (Or.inl h4) h2
    | true => rfl
  have hn : t.nm.size ≤ 16 := by
    by_cases h5 : t.k = 1
    · rw [if_pos h5] at h3; exact nameB_size h3
    · rw [if_neg h5] at h3; have := nil_size h3; omega
  refine ⟨hn, ?_, fun h5 => by rw [if_pos h5] at h3; exact h3⟩
  by_cases h6 : t.k = 2
  · rw [if_pos h6] at h
    unfold Val.may chk at h
    by_cases h7 : pureB t.v.k t.v.n t.v.d t.v.s = false
    · rw [if_pos h7] at h; simp at h
    · rw [if_neg h7] at h
      by_cases h8 : 64 < t.v.s.size
      · rw [if_pos h8] at h; simp at h
      · omega
  · rw [if_neg h6] at h
    by_cases h7 : sameB t.v.k t.v.n t.v.d t.v.s 0 0 0 ⟨#[]⟩ = true
    · unfold sameB at h7
      rw [Bool.and_eq_true, Bool.and_eq_true, Bool.and_eq_true] at h7
      have h8 : t.v.s.toList = [] := by have := h7.2.2.2; simpa using this
      have h9 := nil_size (s := t.v.s) (by rw [h8]; rfl)
      omega
    · rw [if_neg h7] at h; simp at h
theorem nodTs_len (a : List Tm) : a.length ≤ nodTs a := by
  induction a with
  | nil => simp
  | cons x l ih => rw [nodTs_cons, nodT_eq, List.length_cons]; omega
theorem nodRs_len (a : List Rx) : a.length ≤ nodRs a := by
  induction a with
  | nil => simp
  | cons x l ih => rw [nodRs_cons, nodR_eq, List.length_cons]; omega
theorem tms_lg : ∀ (m : Nat) (ts : List Tm), SizeOf.sizeOf ts ≤ m → wfTs ts → nodTs ts ≤ 256 → lgTs ts := by
  intro m
  induction m with
  | zero => intro ts hm; cases ts <;> simp at hm
  | succ m ih =>
    intro ts hm hw hn
    cases ts with
    | nil => rw [lgTs_nil]; trivial
    | cons t l =>
      rw [wfTs_cons, wfT_eq] at hw
      rw [nodTs_cons, nodT_eq] at hn
      have s1 : SizeOf.sizeOf l ≤ m := by simp at hm; omega
      have s2 : SizeOf.sizeOf t.subs ≤ m := by have := Tm.subs_lt t; simp at hm; omega
      obtain ⟨a, b, -⟩ := tm_sizes hw.1.1
      have c := nodTs_len t.subs
      rw [lgTs_cons, lgT_eq]
      exact ⟨⟨by omega, by omega, by omega, ih _ s2 hw.1.2 (by omega)⟩, ih _ s1 hw.2 (by omega)⟩
theorem both_lg : ∀ m : Nat, (∀ fs : List Fm, SizeOf.sizeOf fs ≤ m → wfFs fs → nodFs fs ≤ 256 → lgFs fs) ∧ (∀ rs : List Rx, SizeOf.sizeOf rs ≤ m → wfRs rs → nodRs rs ≤ 256 → lgRs rs) := by
  intro m
  induction m with
  | zero => exact ⟨fun fs hm => by cases fs <;> simp at hm, fun rs hm => by cases rs <;> simp at hm⟩
  | succ m ih =>
    constructor
    · intro fs hm hw hn
      cases fs with
      | nil => rw [lgFs_nil]; trivial
      | cons f l =>
        rw [wfFs_cons, wfF_eq] at hw
        rw [nodFs_cons, nodF_eq] at hn
        obtain ⟨⟨w1, w2, w3, w4⟩, w5⟩ := hw
        have s1 : SizeOf.sizeOf l ≤ m := by simp at hm; omega
        have s2 : SizeOf.sizeOf f.subs ≤ m := by have := Fm.subs_lt f; simp at hm; omega
        have s3 : SizeOf.sizeOf f.rgx ≤ m := by have := Fm.rgx_lt f; simp at hm; omega
        have a := name_size w1
        have b := fm_vars w1
        have c := nodTs_len f.terms
        have d := nodRs_len f.rgx
        have e := nodFs_len f.subs
        rw [lgFs_cons, lgF_eq]
        exact ⟨⟨by omega, ⟨by omega, fun s hs => by have := nameB_size (namesB_all (fm_names w1).1 s hs); omega⟩, ⟨by omega, tms_lg _ _ (Nat.le_refl _) w2 (by omega)⟩, ⟨by omega, ih.1 _ s2 w4 (by omega)⟩, ⟨by omega, ih.2 _ s3 w3 (by omega)⟩⟩, ih.1 _ s1 w5 (by omega)⟩
    · intro rs hm hw hn
      cases rs with
      | nil => rw [lgRs_nil]; trivial
      | cons r l =>
        rw [wfRs_cons, wfR_eq] at hw
        rw [nodRs_cons, nodR_eq] at hn
        obtain ⟨⟨w1, w2, w3⟩, w5⟩ := hw
        have s1 : SizeOf.sizeOf l ≤ m := by simp at hm; omega
        have s2 : SizeOf.sizeOf r.subs ≤ m := by have := Rx.subs_lt r; simp at hm; omega
        have s3 : SizeOf.sizeOf r.test ≤ m := by have := Rx.test_lt r; simp at hm; omega
        have d := nodRs_len r.subs
        have e := nodFs_len r.test
        rw [lgRs_cons, lgR_eq]
        exact ⟨⟨⟨by omega, ih.1 _ s3 w2 (by omega)⟩, ⟨by omega, ih.2 _ s2 w3 (by omega)⟩⟩, ih.2 _ s1 w5 (by omega)⟩
/-- What may be is of a size that a machine holds. -/
theorem chk_lg {f : Fm} (h : chkF f = 0) : lgF f := by
  have g := chk_good h
  have a := (both_lg _).1 [f] (Nat.le_refl _) (by rw [wfFs_cons, wfFs_nil]; exact ⟨g.1, trivial⟩) (by rw [nodFs_cons, nodFs_nil]; omega)
  rw [lgFs_cons] at a
  exact a.1

/-- The names rise. -/
def Rises (l : List ByteArray) : Prop := l.Pairwise fun x y => x.data.toList < y.data.toList
theorem cmp_up {d : Array (List UInt8)} (hd : ∀ i j, i < j → j < d.size → d[i]! ≤ d[j]!) : ∀ m, m ≤ d.size → (Lib.compactUpTo d m).Pairwise (· < ·) ∧ (∀ y ∈ Lib.compactUpTo d m, ∃ j, j < m ∧ y = d[j]!) ∧ ∀ j, j < m → d[j]! ∈ Lib.compactUpTo d m := by
  intro m
  induction m with
  | zero => intro _; exact ⟨by simp [Lib.compactUpTo], fun y hy => by simp [Lib.compactUpTo] at hy, fun j hj => by omega⟩
  | succ m ih =>
    intro hm
    obtain ⟨a, b, c⟩ := ih (by omega)
    rw [Lib.compactUpTo_succ]
    by_cases hk : Lib.keeps d m = true
    · rw [if_pos hk]
      refine ⟨List.pairwise_append.2 ⟨a, by simp, fun y hy z hz => ?_⟩, fun y hy => ?_, fun j hj => ?_⟩
      · simp only [List.mem_singleton] at hz
        subst hz
        obtain ⟨j, hj, rfl⟩ := b y hy
        have h1 : d[m]! ≠ d[m - 1]! := by
          unfold Lib.keeps at hk
          rcases of_decide_eq_true hk with h | h
          · omega
          · exact h
        have h2 : d[m - 1]! ≤ d[m]! := hd (m - 1) m (by omega) (by omega)
        have h3 : d[m - 1]! < d[m]! := by
          rcases Decidable.em (d[m - 1]! < d[m]!) with h | h
          · exact h
          · exact absurd (List.le_antisymm h h2) h1
        by_cases hjm : j = m - 1
        · subst hjm; exact h3
        · exact List.lt_of_le_of_lt (hd j (m - 1) (by omega) (by omega)) h3
      · rcases List.mem_append.1 hy with hy | hy
        · obtain ⟨j, hj, rfl⟩ := b y hy
          exact ⟨j, by omega, rfl⟩
        · simp only [List.mem_singleton] at hy
          exact ⟨m, by omega, hy⟩
      · by_cases hjm : j = m
        · subst hjm; simp
        · exact List.mem_append_left _ (c j (by omega))
    · rw [if_neg hk, List.append_nil]
      refine ⟨a, fun y hy => ?_, fun j hj => ?_⟩
      · obtain ⟨j, hj, rfl⟩ := b y hy
        exact ⟨j, by omega, rfl⟩
      · by_cases hjm : j = m
        · subst hjm
          unfold Lib.keeps at hk
          simp only [decide_eq_true_eq] at hk
          have h0 : j ≠ 0 := fun h => hk (Or.inl h)
          have h1 : d[j]! = d[j - 1]! := Decidable.byContradiction fun h => hk (Or.inr h)
          rw [h1]
          exact c (j - 1) (by omega)
        · exact c j (by omega)

theorem bts_unb (l : List (List UInt8)) : bts (unb l) = l := by
  unfold bts unb
  rw [List.map_map]
  have : ((fun x : ByteArray => x.data.toList) ∘ fun x : List UInt8 => (⟨x.toArray⟩ : ByteArray)) = id := by funext x; rfl
  rw [this, List.map_id]
theorem mem_unb {l : List (List UInt8)} {x : ByteArray} : x ∈ unb l ↔ x.data.toList ∈ l := by
  unfold unb
  constructor
  · intro h
    obtain ⟨y, hy, rfl⟩ := List.mem_map.1 h
    exact hy
  · intro h
    exact List.mem_map.2 ⟨_, h, by cases x; rfl⟩
theorem mem_bts {l : List ByteArray} {x : ByteArray} : x.data.toList ∈ bts l ↔ x ∈ l := by
  conv => rhs; rw [← unb_bts l]
  exact mem_unb.symm
theorem srt_up (L : List ByteArray) : ∀ i j, i < j → j < ((bts L).mergeSort fun x y => decide (x ≤ y)).toArray.size → ((bts L).mergeSort fun x y => decide (x ≤ y)).toArray[i]! ≤ ((bts L).mergeSort fun x y => decide (x ≤ y)).toArray[j]! := by
  intro i j hij hj
  have h := List.pairwise_mergeSort (le := fun x y : List UInt8 => decide (x ≤ y)) (fun a b c h1 h2 => by simp only [decide_eq_true_eq] at h1 h2 ⊢; exact List.le_trans h1 h2) (fun a b => by rcases List.le_total a b with h | h <;> simp [h]) (bts L)
  have h2 := List.pairwise_iff_getElem.1 h i j (by simp at hj; simp; omega) (by simpa using hj) hij
  rw [getElem!_pos _ i (by omega), getElem!_pos _ j hj]
  simpa using h2
theorem uni_up (rs : List (List ByteArray)) : Rises (uniN rs) ∧ ∀ x, x ∈ uniN rs ↔ x ∈ rs.flatten := by
  have e : uniN rs = unb (Lib.compact ((bts rs.flatten).mergeSort fun x y => decide (x ≤ y))) := by
    unfold uniN cmpN srtN
    rw [bts_unb]
  obtain ⟨a, b, c⟩ := cmp_up (srt_up rs.flatten) _ (Nat.le_refl _)
  have ec : Lib.compact ((bts rs.flatten).mergeSort fun x y => decide (x ≤ y)) = Lib.compactUpTo ((bts rs.flatten).mergeSort fun x y => decide (x ≤ y)).toArray ((bts rs.flatten).mergeSort fun x y => decide (x ≤ y)).toArray.size := by
    unfold Lib.compact
    simp
  rw [← ec] at a b c
  rw [e]
  refine ⟨?_, fun x => ?_⟩
  · unfold Rises unb
    rw [List.pairwise_map]
    exact a
  · rw [mem_unb]
    constructor
    · intro h
      obtain ⟨j, hj, h2⟩ := b _ h
      rw [getElem!_pos _ j hj] at h2
      have h3 : x.data.toList ∈ (bts rs.flatten).mergeSort fun x y => decide (x ≤ y) := by rw [h2]; simp
      exact mem_bts.1 (List.mem_mergeSort.1 h3)
    · intro h
      have h3 : x.data.toList ∈ (bts rs.flatten).mergeSort fun x y => decide (x ≤ y) := List.mem_mergeSort.2 (mem_bts.2 h)
      obtain ⟨j, hj, h4⟩ := List.getElem_of_mem h3
      have h5 := c j (by simpa using hj)
      rw [getElem!_pos _ j (by simpa using hj)] at h5
      simp at h5
      rw [h4] at h5
      exact h5
theorem tvss_names : ∀ (m : Nat) (ts : List Tm), SizeOf.sizeOf ts ≤ m → wfTs ts → ∀ x ∈ tvss ts, nameB x = true := by
  intro m
  induction m with
  | zero => intro ts hm; cases ts <;> simp at hm
  | succ m ih =>
    intro ts hm hw x hx
    cases ts with
    | nil => rw [tvss_nil] at hx; cases hx
    | cons t l =>
      rw [wfTs_cons, wfT_eq] at hw
      have s1 : SizeOf.sizeOf l ≤ m := by simp at hm; omega
      have s2 : SizeOf.sizeOf t.subs ≤ m := by have := Tm.subs_lt t; simp at hm; omega
      rw [tvss_cons, tvs_eq] at hx
      rcases List.mem_append.1 hx with hx | hx
      · rcases List.mem_append.1 hx with hx | hx
        · by_cases h1 : t.k = 1
          · rw [if_pos h1] at hx
            simp only [List.mem_singleton] at hx
            subst hx
            exact (tm_sizes hw.1.1).2.2 h1
          · rw [if_neg h1] at hx; cases hx
        · exact ih _ s2 hw.1.2 x hx
      · exact ih _ s1 hw.2 x hx
theorem hd_map {α : Type} (g : Fm → List α) : ∀ (l : List Fm) (h : 0 < l.length), (l.map g).headD [] = g l[0]
  | [], h => by simp at h
  | x :: l, _ => rfl
theorem fre_up : ∀ (m : Nat) (f : Fm), nodF f ≤ m → wfF f → Rises (fre f).1 ∧ (f.k ≠ 19 → ∀ x ∈ (fre f).1, x ∈ tvss f.terms ∨ ∃ i, ∃ h : i < (ptsF f).length, x ∈ (fre (ptsF f)[i]).1) ∧ ∀ x ∈ (fre f).1, nameB x = true := by
  intro m
  induction m with
  | zero => intro f hm; rw [nodF_eq] at hm; omega
  | succ m ih =>
    intro f hm hok
    have hp := pts_nod f
    have hpo := pts_ok hok
    have hE : fmE f = 0 := by rw [wfF_eq] at hok; exact hok.1
    have hT : wfTs f.terms := by rw [wfF_eq] at hok; exact hok.2.1
    have IH : ∀ i (h : i < (ptsF f).length), Rises (fre (ptsF f)[i]).1 ∧ ∀ x ∈ (fre (ptsF f)[i]).1, nameB x = true := fun i h => by
      have := nodFs_get (ptsF f) i h
      obtain ⟨a, -, c⟩ := ih (ptsF f)[i] (by omega) (wfFs_get _ i h hpo)
      exact ⟨a, c⟩
    rw [fre_eq]
    show Rises (freO f ((ptsF f).map fun g => (fre g).1)) ∧ (f.k ≠ 19 → ∀ x ∈ freO f ((ptsF f).map fun g => (fre g).1), _) ∧ ∀ x ∈ freO f ((ptsF f).map fun g => (fre g).1), nameB x = true
    unfold freO
    by_cases h10 : f.k = 10
    · rw [if_pos h10]
      have h0 := fm_10 hE h10
      rw [hd_map (fun g => (fre g).1) (ptsF f) h0]
      obtain ⟨a, c⟩ := IH 0 h0
      exact ⟨List.Pairwise.filter _ a, fun _ x hx => Or.inr ⟨0, h0, (List.mem_filter.1 hx).1⟩, fun x hx => c x (List.mem_filter.1 hx).1⟩
    rw [if_neg h10]
    by_cases h19 : f.k = 19
    · rw [if_pos h19]
      obtain ⟨a, b⟩ := uni_up [[f.nm], f.vars.drop 1]
      refine ⟨a, fun h => absurd h19 h, fun x hx => ?_⟩
      have h1 := (b x).1 hx
      rw [List.flatten_cons, List.flatten_cons, List.flatten_nil, List.append_nil] at h1
      obtain ⟨n1, n2⟩ := fm_names hE
      rcases List.mem_append.1 h1 with h1 | h1
      · simp only [List.mem_singleton] at h1
        subst h1
        rw [h19, if_pos (by decide)] at n2
        exact n2
      · exact namesB_all n1 x (List.mem_of_mem_drop h1)
    rw [if_neg h19]
    by_cases h20 : f.k = 20 ∨ f.k = 21
    · rw [if_pos h20]
      have h0 := fm_20 hE h20
      rw [getD_lt _ _ _ (by rw [List.length_map]; exact h0), List.getElem_map]
      obtain ⟨a, c⟩ := IH 1 h0
      exact ⟨a, fun _ x hx => Or.inr ⟨1, h0, hx⟩, c⟩
    rw [if_neg h20]
    obtain ⟨a, b⟩ := uni_up [tvss f.terms, uniN ((ptsF f).map fun g => (fre g).1)]
    have mem : ∀ x ∈ uniN [tvss f.terms, uniN ((ptsF f).map fun g => (fre g).1)], x ∈ tvss f.terms ∨ ∃ i, ∃ h : i < (ptsF f).length, x ∈ (fre (ptsF f)[i]).1 := fun x hx => by
      have h1 := (b x).1 hx
      rw [List.flatten_cons, List.flatten_cons, List.flatten_nil, List.append_nil] at h1
      rcases List.mem_append.1 h1 with h1 | h1
      · exact Or.inl h1
      · right
        have h2 := ((uni_up _).2 x).1 h1
        obtain ⟨l, hl, hx2⟩ := List.mem_flatten.1 h2
        obtain ⟨g, hg, rfl⟩ := List.mem_map.1 hl
        obtain ⟨i, hi, rfl⟩ := List.getElem_of_mem hg
        exact ⟨i, hi, hx2⟩
    refine ⟨a, fun _ => mem, fun x hx => ?_⟩
    rcases mem x hx with h1 | ⟨i, hi, h1⟩
    · exact tvss_names _ _ (Nat.le_refl _) hT x h1
    · exact (IH i hi).2 x h1

end Go.Proofs.YtfajjphfjilpnaaGreat

namespace Go.Proofs.YtfajjphfjilpnaaGreat
open Go.RowKit LX Go.Shelf
set_option linter.unusedVariables false

/-- Texts where they lie. -/
def StrAt (w : World) (v : Value) (vs : List (List UInt8)) : Prop := ∃ b c, v = .slice (some ⟨b, 0, none⟩) vs.length c ∧ b < w.heap.size ∧ ∀ i (h : i < vs.length), w.cell? ⟨b, i, none⟩ = some (.string ⟨vs[i].toArray⟩)
set_option maxRecDepth 100000 in
theorem words_any (w : World) :
    Calls Tryz.prog 97 #[] w fun e w' => e = .returned (.slice (some ⟨w.heap.size, 0, none⟩) 23 23) ∧ Below w.heap.size w w' ∧ StrAt w' (.slice (some ⟨w.heap.size, 0, none⟩) 23 23) resv := by
  go_enter Tryz.func97, Tryz.ntmps97
  go_wp2
  go_ret
  refine ⟨rfl, by go_grown, w.heap.size, 23, rfl, by simp, fun i hi => ?_⟩
  rw [World.cell?_alloc_at _ _ _ _ rfl]
  have hall : ∀ i : Fin 23, (#[.string ⟨#[116, 114, 117, 101]⟩, .string ⟨#[102, 97, 108, 115, 101]⟩, .string ⟨#[110, 111, 116]⟩, .string ⟨#[97, 110, 100]⟩, .string ⟨#[111, 114]⟩, .string ⟨#[101, 120, 105, 115, 116, 115]⟩, .string ⟨#[112, 114, 101, 118]⟩, .string ⟨#[110, 101, 120, 116]⟩, .string ⟨#[111, 110, 99, 101]⟩, .string ⟨#[115, 111, 111, 110]⟩, .string ⟨#[115, 105, 110, 99, 101]⟩, .string ⟨#[117, 110, 116, 105, 108]⟩, .string ⟨#[98, 101, 102, 111, 114, 101]⟩, .string ⟨#[97, 102, 116, 101, 114]⟩, .string ⟨#[97, 103, 103]⟩, .string ⟨#[108, 101, 116]⟩, .string ⟨#[108, 101, 116, 112, 97, 115, 116]⟩, .string ⟨#[106, 111, 105, 110]⟩, .string ⟨#[97, 110, 121]⟩, .string ⟨#[116, 101, 115, 116]⟩, .string ⟨#[97, 108, 116]⟩, .string ⟨#[115, 101, 113]⟩, .string ⟨#[115, 116, 97, 114]⟩] : Array Value)[i.1]? = some (.string ⟨(resv[i.1]'i.2).toArray⟩) := by
    intro i
    match i with
    | ⟨0, _⟩ => rfl
    | ⟨1, _⟩ => rfl
    | ⟨2, _⟩ => rfl
    | ⟨3, _⟩ => rfl
    | ⟨4, _⟩ => rfl
    | ⟨5, _⟩ => rfl
    | ⟨6, _⟩ => rfl
    | ⟨7, _⟩ => rfl
    | ⟨8, _⟩ => rfl
    | ⟨9, _⟩ => rfl
    | ⟨10, _⟩ => rfl
    | ⟨11, _⟩ => rfl
    | ⟨12, _⟩ => rfl
    | ⟨13, _⟩ => rfl
    | ⟨14, _⟩ => rfl
    | ⟨15, _⟩ => rfl
    | ⟨16, _⟩ => rfl
    | ⟨17, _⟩ => rfl
    | ⟨18, _⟩ => rfl
    | ⟨19, _⟩ => rfl
    | ⟨20, _⟩ => rfl
    | ⟨21, _⟩ => rfl
    | ⟨22, _⟩ => rfl
    | ⟨n + 23, h⟩ => exact absurd h (by omega)
  exact hall ⟨i, hi⟩

theorem contains_drop (x : List UInt8) (L : List (List UInt8)) (k : Nat) (h : k < L.length) : (L.drop k).contains x = (L[k] == x || (L.drop (k + 1)).contains x) := by
  rw [List.drop_eq_getElem_cons h, List.contains_cons]
  congr 1
  exact BEq.comm

set_option maxRecDepth 100000 in
set_option maxHeartbeats 1000000 in
theorem rhas_any (V : Value) (L : List (List UInt8)) (x : ByteArray) (w : World) (hV : StrAt w V L) (lL : L.length ≤ 1000000) :
    Calls Tryz.prog 57 #[V, .string x] w fun e w' => e = .returned (.bool (L.contains x.data.toList)) ∧ w' = w := by
  obtain ⟨b, c, rfl, hb, hc⟩ := hV
  have HC : Hid (∀ i (h : i < L.length), w.cell? ⟨b, i, none⟩ = some (.string ⟨L[i].toArray⟩)) := hc
  clear hc
  obtain ⟨n, en⟩ : ∃ n : Nat, Hid (L.length = n) := ⟨_, rfl⟩
  rw [en.out] at lL ⊢
  obtain ⟨R, eR⟩ : ∃ R : Bool, Hid (L.contains x.data.toList = R) := ⟨_, rfl⟩
  rw [eR.out]
  go_enter Tryz.func57, Tryz.ntmps57
  go_wp2
  go_loop [5] (fun i => ∃ k : Nat, k ≤ n ∧ i = .int .i64 k ∧ Hid (R = (L.drop k).contains x.data.toList)) (fun i => n - (intOf i).toNat)
  case atStart => exact ⟨0, Nat.zero_le _, rfl, by rw [List.drop_zero]; exact eR.out.symm⟩
  case round =>
    obtain ⟨k, hk, rfl, hr⟩ := hrel
    by_cases hlt : k < n
    · have kx : k < L.length := by have := en.out; omega
      have a0 := HC.out k kx
      have hr2 : Hid (R = (L[k] == x.data.toList || (L.drop (k + 1)).contains x.data.toList)) := by
        have h := hr.out
        rw [contains_drop _ _ _ kx] at h
        exact h
      have hlt' : (k : Int) < n := by omega
      clear hr
      generalize L[k] = y at a0 hr2
      by_cases hy : y = x.data.toList
      · have hr3 : Hid (R = true) := by unfold Hid; have h := hr2.out; rw [hy] at h; simpa using h
        have hq : ((⟨y.toArray⟩ : ByteArray).toList == x.toList) = true := by rw [ByteArray.toList_eq, ByteArray.toList_eq]; simpa using hy
        generalize (⟨y.toArray⟩ : ByteArray) = Y at a0 hq
        clear hr2 hy
        go_wp2
        go_ret
        exact ⟨retb hr3.out.symm, rfl⟩
      · have hr3 : Hid (R = (L.drop (k + 1)).contains x.data.toList) := by
          have h := hr2.out
          rw [beq_eq_false_iff_ne.mpr hy, Bool.false_or] at h
          exact h
        have hq : ((⟨y.toArray⟩ : ByteArray).toList == x.toList) = false := by rw [ByteArray.toList_eq, ByteArray.toList_eq]; simpa using hy
        generalize (⟨y.toArray⟩ : ByteArray) = Y at a0 hq
        clear hr2 hy
        go_wp2
        exact ⟨⟨k + 1, by omega, by go_num, hr3⟩, by simp [intOf]; omega⟩
    · have c2 : ¬ (k : Int) < n := by omega
      have hr3 : Hid (R = false) := by
        have h := hr.out
        rw [List.drop_eq_nil_of_le (by have := en.out; omega)] at h
        exact h
      go_wp2
      go_ret
      exact ⟨retb hr3.out.symm, rfl⟩

theorem nameL_no (l : List UInt8) (h : inAll l = false) : nameL l = false := by unfold nameL; rw [h, Bool.and_false]
theorem nameL_yes {l : List UInt8} (h1 : 1 ≤ l.length) (h2 : l.length ≤ 16) (h3 : lowN (hd l) = true) (h4 : inAll l = true) : nameL l = !resv.contains l := by
  unfold nameL
  rw [h3, h4, decide_eq_true h1, decide_eq_true h2]
  simp

set_option maxHeartbeats 4000000 in
set_option maxRecDepth 100000 in
theorem rname_any (s : ByteArray) (w : World) :
    Calls Tryz.prog 81 #[.string s] w fun e w' => e = .returned (.bool (nameB s)) ∧ Below w.heap.size w w' := by
  have hl : s.data.toList.length = s.size := by simp
  obtain ⟨R, eR⟩ : ∃ R : Bool, Hid (nameB s = R) := ⟨_, rfl⟩
  rw [eR.out]
  by_cases h0 : s.size = 0
  · have hn : Hid (R = false) := by
      rw [← eR.out]
      have hs : s = ⟨#[]⟩ := of_list (l := []) (List.eq_nil_of_length_eq_zero (by omega))
      rw [hs]
      rfl
    have h0' : (s.size : Int) < 1 := by omega
    go_enter Tryz.func81, Tryz.ntmps81
    go_wp2
    go_ret
    exact ⟨retb hn.out.symm, Below.refl _ _⟩
  have h0' : ¬ (s.size : Int) < 1 := by omega
  by_cases h1 : 16 < s.size
  · have hn : Hid (R = false) := by
      rw [← eR.out]
      unfold Hid nameB
      cases h : nameL s.data.toList with
      | false => rfl
      | true => exact absurd (nameL_len h) (by omega)
    have h1' : (16 : Int) < s.size := by omega
    go_enter Tryz.func81, Tryz.ntmps81
    go_wp2
    go_ret
    exact ⟨retb hn.out.symm, Below.refl _ _⟩
  have h1' : ¬ (16 : Int) < s.size := by omega
  have hp : 0 < s.size := by omega
  have hp' : (0 : Int) < s.size := by omega
  have hh : hd s.data.toList = s[0].toNat := by simpa using hd_drop s 0 hp
  by_cases hb : lowN (hd s.data.toList) = true
  · have hb1 : 97 ≤ s[0].toNat ∧ s[0].toNat ≤ 122 := by rw [hh] at hb; unfold lowN at hb; simpa using hb
    have b1 : ¬ ((s[0].toNat : Nat) : Int) < 97 := by omega
    have b2 : ¬ (122 : Int) < ((s[0].toNat : Nat) : Int) := by omega
    have HY : Hid (inAll s.data.toList = true → R = !resv.contains s.data.toList) := fun h => by rw [← eR.out]; exact nameL_yes (by omega) (by omega) hb h
    have HN : Hid (inAll s.data.toList = false → R = false) := fun h => by rw [← eR.out]; exact nameL_no _ h
    have cW : Hid (∀ W : World, Calls Tryz.prog 97 #[] W fun e w' => e = .returned (.slice (some ⟨W.heap.size, 0, none⟩) 23 23) ∧ Below W.heap.size W w' ∧ StrAt w' (.slice (some ⟨W.heap.size, 0, none⟩) 23 23) resv) := fun W => words_any W
    clear hb hb1 hh eR hl
    go_enter Tryz.func81, Tryz.ntmps81
    go_wp2
    go_loop [3] (fun i => ∃ k : Nat, k ≤ s.size ∧ i = .int .i64 k ∧ Hid (inAll s.data.toList = inAll (s.data.toList.drop k))) (fun i => s.size - (intOf i).toNat)
    case atStart => exact ⟨0, Nat.zero_le _, rfl, by rw [List.drop_zero]; exact (show inAll s.data.toList = inAll s.data.toList from rfl)⟩
    case round =>
      obtain ⟨k, hk, rfl, hrr⟩ := hrel
      by_cases hlt : k < s.size
      · have hd1 : s.data.toList.drop k = s[k] :: s.data.toList.drop (k + 1) := by
          rw [List.drop_eq_getElem_cons (by simpa using hlt)]
          rfl
        have hr2 : Hid (inAll s.data.toList = (inwN s[k].toNat && inAll (s.data.toList.drop (k + 1)))) := by
          have h := hrr.out
          rw [hd1] at h
          exact h
        have hlt' : (k : Int) < s.size := by omega
        have hC := s[k].toNat_lt
        clear hrr hd1
        obtain ⟨c, ec⟩ : ∃ c : Nat, Hid (s[k].toNat = c) := ⟨s[k].toNat, (show _ = _ from rfl)⟩
        rw [ec.out] at hr2 hC
        have ec2 := ec.out
        by_cases hI : inwN c = true
        · have hr3 : Hid (inAll s.data.toList = inAll (s.data.toList.drop (k + 1))) := by
            have h := hr2.out
            rw [hI, Bool.true_and] at h
            exact h
          have hx : (97 ≤ c ∧ c ≤ 122) ∨ ((48 ≤ c ∧ c ≤ 57) ∨ c = 95) := by
            unfold inwN lowN digN at hI
            simp at hI
            omega
          clear hI hr2
          rcases hx with ⟨x1, x2⟩ | ⟨x1, x2⟩ | x3
          · have y1 : ¬ (c : Int) < 97 := by omega
            have y2 : ¬ (122 : Int) < c := by omega
            go_wp2
            exact ⟨⟨k + 1, by omega, by go_num, hr3⟩, by simp [intOf]; omega⟩
          · have y1 : (c : Int) < 97 := by omega
            have y2 : ¬ (c : Int) < 48 := by omega
            have y3 : ¬ (57 : Int) < c := by omega
            go_wp2
            exact ⟨⟨k + 1, by omega, by go_num, hr3⟩, by simp [intOf]; omega⟩
          · subst x3
            go_wp2
            exact ⟨⟨k + 1, by omega, by go_num, hr3⟩, by simp [intOf]; omega⟩
        · have hI' : inwN c = false := by simpa using hI
          have hr3 : Hid (R = false) := HN.out (by have h := hr2.out; rw [hI', Bool.false_and] at h; exact h)
          have hx : (c < 97 ∨ 122 < c) ∧ (c < 48 ∨ 57 < c) ∧ c ≠ 95 := by
            unfold inwN lowN digN at hI'
            simp at hI'
            omega
          have y3 : ((c : Int) == 95) = false := by simp; omega
          clear hI hI' hr2
          obtain ⟨hx1, hx2, -⟩ := hx
          rcases hx1 with x1 | x1
          · have z1 : (c : Int) < 97 := by omega
            rcases hx2 with x2 | x2
            · have z2 : (c : Int) < 48 := by omega
              go_wp2
              go_ret
              exact ⟨retb hr3.out.symm, Below.refl _ _⟩
            · have z2 : ¬ (c : Int) < 48 := by omega
              have z3 : (57 : Int) < c := by omega
              go_wp2
              go_ret
              exact ⟨retb hr3.out.symm, Below.refl _ _⟩
          · have z1 : ¬ (c : Int) < 97 := by omega
            have z1' : (122 : Int) < c := by omega
            have z2 : ¬ (c : Int) < 48 := by omega
            have z3 : (57 : Int) < c := by omega
            go_wp2
            go_ret
            exact ⟨retb hr3.out.symm, Below.refl _ _⟩
      · have hlt' : ¬ (k : Int) < s.size := by omega
        have hr3 : Hid (R = !resv.contains s.data.toList) := HY.out (by
          have h := hrr.out
          rw [List.drop_eq_nil_of_le (by simpa using hlt)] at h
          exact h)
        obtain ⟨Q, eQ⟩ : ∃ Q : Bool, Hid (resv.contains s.data.toList = Q) := ⟨_, rfl⟩
        rw [eQ.out] at hr3
        go_wp2_with fail
        refine (cW.out _).mono ?_
        rintro e w1 ⟨rfl, hB1, hS1⟩
        have cH : Hid (Calls Tryz.prog 57 #[.slice (some ⟨w.heap.size, 0, none⟩) 23 23, .string s] w1 fun e w' => e = .returned (.bool Q) ∧ w' = w1) := by
          have h := rhas_any _ resv s w1 hS1 (by decide)
          rw [eQ.out] at h
          exact h
        clear hS1 cW
        go_wp2_with fail
        refine cH.out.mono ?_
        rintro e w2 ⟨rfl, rfl⟩
        clear cH
        go_wp2
        go_ret
        exact ⟨retb hr3.out.symm, hB1⟩
  · have hb' : lowN (hd s.data.toList) = false := by simpa using hb
    have hn : Hid (R = false) := by rw [← eR.out]; unfold Hid nameB nameL; rw [hb']; simp
    have hb1 : s[0].toNat < 97 ∨ 122 < s[0].toNat := by
      rw [hh] at hb'
      unfold lowN at hb'
      simp at hb'
      omega
    clear hb hb' hh eR hl
    rcases hb1 with x1 | x1
    · have b1 : ((s[0].toNat : Nat) : Int) < 97 := by omega
      go_enter Tryz.func81, Tryz.ntmps81
      go_wp2
      go_ret
      exact ⟨retb hn.out.symm, Below.refl _ _⟩
    · have b1 : ¬ ((s[0].toNat : Nat) : Int) < 97 := by omega
      have b2 : (122 : Int) < ((s[0].toNat : Nat) : Int) := by omega
      go_enter Tryz.func81, Tryz.ntmps81
      go_wp2
      go_ret
      exact ⟨retb hn.out.symm, Below.refl _ _⟩

end Go.Proofs.YtfajjphfjilpnaaGreat

namespace Go.Proofs.YtfajjphfjilpnaaGreat
open Go.RowKit LX Go.Shelf
set_option linter.unusedVariables false

theorem contS_drop (x : ByteArray) (M : List ByteArray) (k : Nat) (h : k < M.length) : Lib.containsS (M.drop k) x = (decide (M[k] = x) || Lib.containsS (M.drop (k + 1)) x) := by
  rw [Bool.eq_iff_iff, Bool.or_eq_true, Lib.containsS_iff, Lib.containsS_iff, List.drop_eq_getElem_cons h, List.mem_cons, decide_eq_true_eq, eq_comm]
theorem contS_nil (x : ByteArray) : Lib.containsS [] x = false := by
  rw [Bool.eq_false_iff]
  intro h
  have := (Lib.containsS_iff [] x).1 h
  simp at this

set_option maxRecDepth 100000 in
set_option maxHeartbeats 1000000 in
theorem rhasN_any (V : Value) (M : List ByteArray) (x : ByteArray) (w : World) (hV : NmsAt w V M) :
    Calls Tryz.prog 57 #[V, .string x] w fun e w' => e = .returned (.bool (Lib.containsS M x)) ∧ w' = w := by
  obtain ⟨p, c, rfl, hl, hc, HX0⟩ := hV.form
  have HX : Hid (∀ i (hi : i < M.length), ∃ b off, p = some ⟨b, off, none⟩ ∧ b < w.heap.size ∧ w.cell? ⟨b, off + i, none⟩ = some (.string M[i])) := HX0
  clear hV HX0
  obtain ⟨n, en⟩ : ∃ n : Nat, Hid (M.length = n) := ⟨_, rfl⟩
  obtain ⟨R, eR⟩ : ∃ R : Bool, Hid (Lib.containsS M x = R) := ⟨_, rfl⟩
  rw [eR.out, en.out]
  rw [en.out] at hl hc
  go_enter Tryz.func57, Tryz.ntmps57
  go_wp2
  go_loop [5] (fun i => ∃ k : Nat, k ≤ n ∧ i = .int .i64 k ∧ Hid (R = Lib.containsS (M.drop k) x)) (fun i => n - (intOf i).toNat)
  case atStart => exact ⟨0, Nat.zero_le _, rfl, by rw [List.drop_zero]; exact eR.out.symm⟩
  case round =>
    obtain ⟨k, hk, rfl, hr⟩ := hrel
    by_cases hlt : k < n
    · have kx : k < M.length := by have := en.out; omega
      obtain ⟨b, off, rfl, hb, a0⟩ := HX.out k kx
      have hr2 : Hid (R = (decide (M[k] = x) || Lib.containsS (M.drop (k + 1)) x)) := by
        have h := hr.out
        rw [contS_drop _ _ _ kx] at h
        exact h
      have hlt' : (k : Int) < n := by omega
      clear hr
      generalize M[k] = y at a0 hr2
      by_cases hy : y = x
      · have hr3 : Hid (R = true) := by unfold Hid; have h := hr2.out; rw [hy] at h; simpa using h
        have hq : (y.toList == x.toList) = true := by simp [hy]
        clear hr2 hy
        go_wp2
        go_ret
        exact ⟨retb hr3.out.symm, rfl⟩
      · have hr3 : Hid (R = Lib.containsS (M.drop (k + 1)) x) := by
          have h := hr2.out
          rw [decide_eq_false hy, Bool.false_or] at h
          exact h
        have hq : (y.toList == x.toList) = false := by
          rw [beq_eq_false_iff_ne]
          intro h
          rw [ByteArray.toList_eq, ByteArray.toList_eq] at h
          exact hy (of_list h |>.trans (by cases x; simp))
        clear hr2 hy
        go_wp2
        exact ⟨⟨k + 1, by omega, by go_num, hr3⟩, by simp [intOf]; omega⟩
    · have c2 : ¬ (k : Int) < n := by omega
      have hr3 : Hid (R = false) := by
        have h := hr.out
        rw [List.drop_eq_nil_of_le (by have := en.out; omega), contS_nil] at h
        exact h
      go_wp2
      go_ret
      exact ⟨retb hr3.out.symm, rfl⟩

set_option maxRecDepth 100000 in
set_option maxHeartbeats 2000000 in
theorem rtwice_any (V : Value) (vs : List ByteArray) (w : World) (hV : NmsAt w V vs) :
    Calls Tryz.prog 56 #[V] w fun r w' => r = .returned (.bool (repN [] vs)) ∧ Below w.heap.size w w' := by
  have HV0 : Hid (NmsAt w V vs) := hV
  obtain ⟨p, c, rfl, hl, hc, HX0⟩ := hV.form
  have HX : Hid (∀ i (hi : i < vs.length), ∃ b off, p = some ⟨b, off, none⟩ ∧ b < w.heap.size ∧ w.cell? ⟨b, off + i, none⟩ = some (.string vs[i])) := HX0
  have cC : Hid (∀ (W : World) (k : Nat) (X : ByteArray), Below w.heap.size w W → k ≤ vs.length → Calls Tryz.prog 57 #[.slice p k c, .string X] W fun e w' => e = .returned (.bool (Lib.containsS (vs.take k) X)) ∧ w' = W) := fun W k X hW hk => rhasN_any _ _ X W ((HV0.out.take k hk).below hW)
  clear hV HX0 HV0
  obtain ⟨R, eR⟩ : ∃ R : Bool, Hid (repN [] vs = R) := ⟨_, rfl⟩
  obtain ⟨n, en⟩ : ∃ n : Nat, Hid (vs.length = n) := ⟨_, rfl⟩
  rw [eR.out, en.out]
  rw [en.out] at hl hc
  go_enter Tryz.func56, Tryz.ntmps56
  go_wp2
  go_loopw [3] (fun i wr => ∃ k : Nat, k ≤ n ∧ i = .int .i64 k ∧ Hid (R = repN (vs.take k) (vs.drop k)) ∧ Below w.heap.size w wr) (fun i _ => n - (intOf i).toNat)
  case atStart => exact ⟨0, Nat.zero_le _, rfl, by rw [List.drop_zero]; exact eR.out.symm, Below.refl _ _⟩
  case round =>
    obtain ⟨k, hk, rfl, hr, hB⟩ := hrel
    by_cases hlt : k < n
    · have kx : k < vs.length := by have := en.out; omega
      obtain ⟨b, off, rfl, hb, r0⟩ := HX.out k kx
      have r1 : wr.cell? ⟨b, off + k, none⟩ = some (.string vs[k]) := (hB.cell (p := ⟨b, off + k, none⟩) hb).trans r0
      have hlt' : (k : Int) < n := by omega
      have hkc : (k : Int) ≤ c := by omega
      have hr2 : Hid (R = (Lib.containsS (vs.take k) vs[k] || repN (vs.take (k + 1)) (vs.drop (k + 1)))) := by
        have h := hr.out
        rw [List.drop_eq_getElem_cons kx] at h
        rw [h, List.take_succ_eq_append_getElem kx]
        rfl
      clear hr
      have CC1 : Hid (∀ m : Nat, Calls Tryz.prog 57 #[.slice (some ⟨b, off, none⟩) k c, .string vs[k]] (wr.drewN m) fun e w' => e = .returned (.bool (Lib.containsS (vs.take k) vs[k])) ∧ w' = wr.drewN m) := fun m => cC.out _ k vs[k] (bdrewA m hB) (by have := en.out; omega)
      clear r0 cC
      generalize vs[k] = X at r1 hr2 CC1
      generalize Lib.containsS (vs.take k) X = CB at CC1 hr2
      go_upto_region 4 with fail
      go_quiet (first | (go_at_call 57; exact Calls.quiet_of_same (CC1.out _)))
      have K9 : Below w.heap.size w (wr.drewN nq) := bdrewA nq hB
      clear CC1
      cases CB with
      | true =>
        have hr3 : Hid (R = true) := by have h := hr2.out; unfold Hid; simpa using h
        go_wp2
        go_ret
        exact ⟨retb hr3.out.symm, K9⟩
      | false =>
        have hr3 : Hid (R = repN (vs.take (k + 1)) (vs.drop (k + 1))) := by have h := hr2.out; unfold Hid; simpa using h
        go_wp2
        exact ⟨⟨k + 1, by omega, by go_num, hr3, K9⟩, by simp [intOf]; omega⟩
    · have c2 : ¬ (k : Int) < n := by omega
      have hr3 : Hid (R = false) := by
        have h := hr.out
        rw [List.drop_eq_nil_of_le (by have := en.out; omega)] at h
        exact h
      go_wp2
      go_ret
      exact ⟨retb hr3.out.symm, hB⟩

set_option maxRecDepth 100000 in
set_option maxHeartbeats 2000000 in
theorem rnames_any (V : Value) (vs : List ByteArray) (w : World) (hV : NmsAt w V vs) :
    Calls Tryz.prog 82 #[V] w fun r w' => r = .returned (.bool (namesB vs)) ∧ Below w.heap.size w w' := by
  obtain ⟨p, c, rfl, hl, hc, HX0⟩ := hV.form
  have HX : Hid (∀ i (hi : i < vs.length), ∃ b off, p = some ⟨b, off, none⟩ ∧ b < w.heap.size ∧ w.cell? ⟨b, off + i, none⟩ = some (.string vs[i])) := HX0
  clear hV HX0
  obtain ⟨R, eR⟩ : ∃ R : Bool, Hid (namesB vs = R) := ⟨_, rfl⟩
  obtain ⟨n, en⟩ : ∃ n : Nat, Hid (vs.length = n) := ⟨_, rfl⟩
  rw [eR.out, en.out]
  rw [en.out] at hl hc
  go_enter Tryz.func82, Tryz.ntmps82
  go_wp2
  go_loopw [3] (fun i wr => ∃ k : Nat, k ≤ n ∧ i = .int .i64 k ∧ Hid (R = namesB (vs.drop k)) ∧ Below w.heap.size w wr) (fun i _ => n - (intOf i).toNat)
  case atStart => exact ⟨0, Nat.zero_le _, rfl, by rw [List.drop_zero]; exact eR.out.symm, Below.refl _ _⟩
  case round =>
    obtain ⟨k, hk, rfl, hr, hB⟩ := hrel
    by_cases hlt : k < n
    · have kx : k < vs.length := by have := en.out; omega
      obtain ⟨b, off, rfl, hb, r0⟩ := HX.out k kx
      have r1 : wr.cell? ⟨b, off + k, none⟩ = some (.string vs[k]) := (hB.cell (p := ⟨b, off + k, none⟩) hb).trans r0
      have hlt' : (k : Int) < n := by omega
      have hr2 : Hid (R = (nameB vs[k] && namesB (vs.drop (k + 1)))) := by
        have h := hr.out
        rw [List.drop_eq_getElem_cons kx] at h
        rw [h]
        rfl
      clear hr r0
      have cN : Hid (∀ W : World, Calls Tryz.prog 81 #[.string vs[k]] W fun e w' => e = .returned (.bool (nameB vs[k])) ∧ Below W.heap.size W w') := fun W => rname_any _ W
      generalize vs[k] = X at r1 hr2 cN
      generalize nameB X = CB at cN hr2
      go_wp2_with fail
      refine (cN.out _).mono ?_
      rintro e w2 ⟨rfl, hb2⟩
      have K9 : Below w.heap.size w w2 := hB.trans (hb2.mono hB.size)
      clear cN hb2
      cases CB with
      | false =>
        have hr3 : Hid (R = false) := by have h := hr2.out; unfold Hid; simpa using h
        go_wp2
        go_ret
        exact ⟨retb hr3.out.symm, K9⟩
      | true =>
        have hr3 : Hid (R = namesB (vs.drop (k + 1))) := by have h := hr2.out; unfold Hid; simpa using h
        go_wp2
        exact ⟨⟨k + 1, by omega, by go_num, hr3, K9⟩, by simp [intOf]; omega⟩
    · have c2 : ¬ (k : Int) < n := by omega
      have hr3 : Hid (R = true) := by
        have h := hr.out
        rw [List.drop_eq_nil_of_le (by have := en.out; omega)] at h
        exact h
      go_wp2
      go_ret
      exact ⟨retb hr3.out.symm, hB⟩

end Go.Proofs.YtfajjphfjilpnaaGreat

namespace Go.Proofs.YtfajjphfjilpnaaGreat
open Go.RowKit LX Go.Shelf
set_option linter.unusedVariables false

/-- What a kind of formulas uses, as the document's table has it. -/
structure Us where
  nm : Bool
  op : Bool
  iv : Bool
  v : Int
  t : Int
  s : Int
  r : Int
def usO (k : Int) : Us := if k = 3 then ⟨true, false, false, 0, -2, 0, 0⟩ else if k = 4 then ⟨false, false, false, 0, 2, 0, 0⟩ else if k = 5 then ⟨false, false, false, 0, 2, 0, 0⟩ else if k = 6 then ⟨false, false, false, 0, 2, 0, 0⟩ else if k = 7 then ⟨false, false, false, 0, 0, 1, 0⟩ else if k = 8 then ⟨false, false, false, 0, 0, 2, 0⟩ else if k = 9 then ⟨false, false, false, 0, 0, 2, 0⟩ else if k = 10 then ⟨false, false, false, -1, 0, 1, 0⟩ else if k = 11 then ⟨false, false, true, 0, 0, 1, 0⟩ else if k = 12 then ⟨false, false, true, 0, 0, 1, 0⟩ else if k = 13 then ⟨false, false, true, 0, 0, 1, 0⟩ else if k = 14 then ⟨false, false, true, 0, 0, 1, 0⟩ else if k = 15 then ⟨false, false, true, 0, 0, 2, 0⟩ else if k = 16 then ⟨false, false, true, 0, 0, 2, 0⟩ else if k = 17 then ⟨false, false, true, 0, 0, 0, 1⟩ else if k = 18 then ⟨false, false, true, 0, 0, 0, 1⟩ else if k = 19 then ⟨true, true, false, -1, 0, 1, 0⟩ else if k = 20 then ⟨true, false, false, -2, 0, 2, 0⟩ else if k = 21 then ⟨true, false, false, -2, 0, 2, 0⟩ else if k = 22 then ⟨false, false, false, 0, 0, -1, 0⟩ else ⟨false, false, false, 0, 0, 0, 0⟩
set_option maxRecDepth 100000 in
set_option maxHeartbeats 1000000 in
theorem uses_3 (w : World) : Calls Tryz.prog 79 #[.int .i64 3] w fun e w' => e = .returned (.agg #[.bool true, .bool false, .bool false, .int .i64 (0), .int .i64 (-2), .int .i64 (0), .int .i64 (0)]) ∧ Below w.heap.size w w' := by
  go_enter Tryz.func79, Tryz.ntmps79
  go_wp2
  refine bodyPost_ret (by simp [results, Tryz.results79, go_sem]; try rfl) rfl ?_
  exact ⟨by first | rfl | (simp; done), by go_grown⟩
set_option maxRecDepth 100000 in
set_option maxHeartbeats 1000000 in
theorem uses_4 (w : World) : Calls Tryz.prog 79 #[.int .i64 4] w fun e w' => e = .returned (.agg #[.bool false, .bool false, .bool false, .int .i64 (0), .int .i64 (2), .int .i64 (0), .int .i64 (0)]) ∧ Below w.heap.size w w' := by
  go_enter Tryz.func79, Tryz.ntmps79
  go_wp2
  refine bodyPost_ret (by simp [results, Tryz.results79, go_sem]; try rfl) rfl ?_
  exact ⟨by first | rfl | (simp; done), by go_grown⟩
set_option maxRecDepth 100000 in
set_option maxHeartbeats 1000000 in
theorem uses_5 (w : World) : Calls Tryz.prog 79 #[.int .i64 5] w fun e w' => e = .returned (.agg #[.bool false, .bool false, .bool false, .int .i64 (0), .int .i64 (2), .int .i64 (0), .int .i64 (0)]) ∧ Below w.heap.size w w' := by
  go_enter Tryz.func79, Tryz.ntmps79
  go_wp2
  refine bodyPost_ret (by simp [results, Tryz.results79, go_sem]; try rfl) rfl ?_
  exact ⟨by first | rfl | (simp; done), by go_grown⟩
set_option maxRecDepth 100000 in
set_option maxHeartbeats 1000000 in
theorem uses_6 (w : World) : Calls Tryz.prog 79 #[.int .i64 6] w fun e w' => e = .returned (.agg #[.bool false, .bool false, .bool false, .int .i64 (0), .int .i64 (2), .int .i64 (0), .int .i64 (0)]) ∧ Below w.heap.size w w' := by
  go_enter Tryz.func79, Tryz.ntmps79
  go_wp2
  refine bodyPost_ret (by simp [results, Tryz.results79, go_sem]; try rfl) rfl ?_
  exact ⟨by first | rfl | (simp; done), by go_grown⟩
set_option maxRecDepth 100000 in
set_option maxHeartbeats 1000000 in
theorem uses_7 (w : World) : Calls Tryz.prog 79 #[.int .i64 7] w fun e w' => e = .returned (.agg #[.bool false, .bool false, .bool false, .int .i64 (0), .int .i64 (0), .int .i64 (1), .int .i64 (0)]) ∧ Below w.heap.size w w' := by
  go_enter Tryz.func79, Tryz.ntmps79
  go_wp2
  refine bodyPost_ret (by simp [results, Tryz.results79, go_sem]; try rfl) rfl ?_
  exact ⟨by first | rfl | (simp; done), by go_grown⟩
set_option maxRecDepth 100000 in
set_option maxHeartbeats 1000000 in
theorem uses_8 (w : World) : Calls Tryz.prog 79 #[.int .i64 8] w fun e w' => e = .returned (.agg #[.bool false, .bool false, .bool false, .int .i64 (0), .int .i64 (0), .int .i64 (2), .int .i64 (0)]) ∧ Below w.heap.size w w' := by
  go_enter Tryz.func79, Tryz.ntmps79
  go_wp2
  refine bodyPost_ret (by simp [results, Tryz.results79, go_sem]; try rfl) rfl ?_
  exact ⟨by first | rfl | (simp; done), by go_grown⟩
set_option maxRecDepth 100000 in
set_option maxHeartbeats 1000000 in
theorem uses_9 (w : World) : Calls Tryz.prog 79 #[.int .i64 9] w fun e w' => e = .returned (.agg #[.bool false, .bool false, .bool false, .int .i64 (0), .int .i64 (0), .int .i64 (2), .int .i64 (0)]) ∧ Below w.heap.size w w' := by
  go_enter Tryz.func79, Tryz.ntmps79
  go_wp2
  refine bodyPost_ret (by simp [results, Tryz.results79, go_sem]; try rfl) rfl ?_
  exact ⟨by first | rfl | (simp; done), by go_grown⟩
set_option maxRecDepth 100000 in
set_option maxHeartbeats 1000000 in
theorem uses_10 (w : World) : Calls Tryz.prog 79 #[.int .i64 10] w fun e w' => e = .returned (.agg #[.bool false, .bool false, .bool false, .int .i64 (-1), .int .i64 (0), .int .i64 (1), .int .i64 (0)]) ∧ Below w.heap.size w w' := by
  go_enter Tryz.func79, Tryz.ntmps79
  go_wp2
  refine bodyPost_ret (by simp [results, Tryz.results79, go_sem]; try rfl) rfl ?_
  exact ⟨by first | rfl | (simp; done), by go_grown⟩
set_option maxRecDepth 100000 in
set_option maxHeartbeats 1000000 in
theorem uses_11 (w : World) : Calls Tryz.prog 79 #[.int .i64 11] w fun e w' => e = .returned (.agg #[.bool false, .bool false, .bool true, .int .i64 (0), .int .i64 (0), .int .i64 (1), .int .i64 (0)]) ∧ Below w.heap.size w w' := by
  go_enter Tryz.func79, Tryz.ntmps79
  go_wp2
  refine bodyPost_ret (by simp [results, Tryz.results79, go_sem]; try rfl) rfl ?_
  exact ⟨by first | rfl | (simp; done), by go_grown⟩
set_option maxRecDepth 100000 in
set_option maxHeartbeats 1000000 in
theorem uses_12 (w : World) : Calls Tryz.prog 79 #[.int .i64 12] w fun e w' => e = .returned (.agg #[.bool false, .bool false, .bool true, .int .i64 (0), .int .i64 (0), .int .i64 (1), .int .i64 (0)]) ∧ Below w.heap.size w w' := by
  go_enter Tryz.func79, Tryz.ntmps79
  go_wp2
  refine bodyPost_ret (by simp [results, Tryz.results79, go_sem]; try rfl) rfl ?_
  exact ⟨by first | rfl | (simp; done), by go_grown⟩
set_option maxRecDepth 100000 in
set_option maxHeartbeats 1000000 in
theorem uses_13 (w : World) : Calls Tryz.prog 79 #[.int .i64 13] w fun e w' => e = .returned (.agg #[.bool false, .bool false, .bool true, .int .i64 (0), .int .i64 (0), .int .i64 (1), .int .i64 (0)]) ∧ Below w.heap.size w w' := by
  go_enter Tryz.func79, Tryz.ntmps79
  go_wp2
  refine bodyPost_ret (by simp [results, Tryz.results79, go_sem]; try rfl) rfl ?_
  exact ⟨by first | rfl | (simp; done), by go_grown⟩
set_option maxRecDepth 100000 in
set_option maxHeartbeats 1000000 in
theorem uses_14 (w : World) : Calls Tryz.prog 79 #[.int .i64 14] w fun e w' => e = .returned (.agg #[.bool false, .bool false, .bool true, .int .i64 (0), .int .i64 (0), .int .i64 (1), .int .i64 (0)]) ∧ Below w.heap.size w w' := by
  go_enter Tryz.func79, Tryz.ntmps79
  go_wp2
  refine bodyPost_ret (by simp [results, Tryz.results79, go_sem]; try rfl) rfl ?_
  exact ⟨by first | rfl | (simp; done), by go_grown⟩
set_option maxRecDepth 100000 in
set_option maxHeartbeats 1000000 in
theorem uses_15 (w : World) : Calls Tryz.prog 79 #[.int .i64 15] w fun e w' => e = .returned (.agg #[.bool false, .bool false, .bool true, .int .i64 (0), .int .i64 (0), .int .i64 (2), .int .i64 (0)]) ∧ Below w.heap.size w w' := by
  go_enter Tryz.func79, Tryz.ntmps79
  go_wp2
  refine bodyPost_ret (by simp [results, Tryz.results79, go_sem]; try rfl) rfl ?_
  exact ⟨by first | rfl | (simp; done), by go_grown⟩
set_option maxRecDepth 100000 in
set_option maxHeartbeats 1000000 in
theorem uses_16 (w : World) : Calls Tryz.prog 79 #[.int .i64 16] w fun e w' => e = .returned (.agg #[.bool false, .bool false, .bool true, .int .i64 (0), .int .i64 (0), .int .i64 (2), .int .i64 (0)]) ∧ Below w.heap.size w w' := by
  go_enter Tryz.func79, Tryz.ntmps79
  go_wp2
  refine bodyPost_ret (by simp [results, Tryz.results79, go_sem]; try rfl) rfl ?_
  exact ⟨by first | rfl | (simp; done), by go_grown⟩
set_option maxRecDepth 100000 in
set_option maxHeartbeats 1000000 in
theorem uses_17 (w : World) : Calls Tryz.prog 79 #[.int .i64 17] w fun e w' => e = .returned (.agg #[.bool false, .bool false, .bool true, .int .i64 (0), .int .i64 (0), .int .i64 (0), .int .i64 (1)]) ∧ Below w.heap.size w w' := by
  go_enter Tryz.func79, Tryz.ntmps79
  go_wp2
  refine bodyPost_ret (by simp [results, Tryz.results79, go_sem]; try rfl) rfl ?_
  exact ⟨by first | rfl | (simp; done), by go_grown⟩
set_option maxRecDepth 100000 in
set_option maxHeartbeats 1000000 in
theorem uses_18 (w : World) : Calls Tryz.prog 79 #[.int .i64 18] w fun e w' => e = .returned (.agg #[.bool false, .bool false, .bool true, .int .i64 (0), .int .i64 (0), .int .i64 (0), .int .i64 (1)]) ∧ Below w.heap.size w w' := by
  go_enter Tryz.func79, Tryz.ntmps79
  go_wp2
  refine bodyPost_ret (by simp [results, Tryz.results79, go_sem]; try rfl) rfl ?_
  exact ⟨by first | rfl | (simp; done), by go_grown⟩
set_option maxRecDepth 100000 in
set_option maxHeartbeats 1000000 in
theorem uses_19 (w : World) : Calls Tryz.prog 79 #[.int .i64 19] w fun e w' => e = .returned (.agg #[.bool true, .bool true, .bool false, .int .i64 (-1), .int .i64 (0), .int .i64 (1), .int .i64 (0)]) ∧ Below w.heap.size w w' := by
  go_enter Tryz.func79, Tryz.ntmps79
  go_wp2
  refine bodyPost_ret (by simp [results, Tryz.results79, go_sem]; try rfl) rfl ?_
  exact ⟨by first | rfl | (simp; done), by go_grown⟩
set_option maxRecDepth 100000 in
set_option maxHeartbeats 1000000 in
theorem uses_20 (w : World) : Calls Tryz.prog 79 #[.int .i64 20] w fun e w' => e = .returned (.agg #[.bool true, .bool false, .bool false, .int .i64 (-2), .int .i64 (0), .int .i64 (2), .int .i64 (0)]) ∧ Below w.heap.size w w' := by
  go_enter Tryz.func79, Tryz.ntmps79
  go_wp2
  refine bodyPost_ret (by simp [results, Tryz.results79, go_sem]; try rfl) rfl ?_
  exact ⟨by first | rfl | (simp; done), by go_grown⟩
set_option maxRecDepth 100000 in
set_option maxHeartbeats 1000000 in
theorem uses_21 (w : World) : Calls Tryz.prog 79 #[.int .i64 21] w fun e w' => e = .returned (.agg #[.bool true, .bool false, .bool false, .int .i64 (-2), .int .i64 (0), .int .i64 (2), .int .i64 (0)]) ∧ Below w.heap.size w w' := by
  go_enter Tryz.func79, Tryz.ntmps79
  go_wp2
  refine bodyPost_ret (by simp [results, Tryz.results79, go_sem]; try rfl) rfl ?_
  exact ⟨by first | rfl | (simp; done), by go_grown⟩
set_option maxRecDepth 100000 in
set_option maxHeartbeats 1000000 in
theorem uses_22 (w : World) : Calls Tryz.prog 79 #[.int .i64 22] w fun e w' => e = .returned (.agg #[.bool false, .bool false, .bool false, .int .i64 (0), .int .i64 (0), .int .i64 (-1), .int .i64 (0)]) ∧ Below w.heap.size w w' := by
  go_enter Tryz.func79, Tryz.ntmps79
  go_wp2
  refine bodyPost_ret (by simp [results, Tryz.results79, go_sem]; try rfl) rfl ?_
  exact ⟨by first | rfl | (simp; done), by go_grown⟩
set_option maxRecDepth 100000 in
set_option maxHeartbeats 2000000 in
theorem uses_no (k : Int) (w : World) (h : k < 3 ∨ 22 < k) : Calls Tryz.prog 79 #[.int .i64 k] w fun e w' => e = .returned (.agg #[.bool false, .bool false, .bool false, .int .i64 (0), .int .i64 (0), .int .i64 (0), .int .i64 (0)]) ∧ Below w.heap.size w w' := by
  have k3 : (k == 3) = false := by simp; omega
  have k4 : (k == 4) = false := by simp; omega
  have k5 : (k == 5) = false := by simp; omega
  have k6 : (k == 6) = false := by simp; omega
  have k7 : (k == 7) = false := by simp; omega
  have k8 : (k == 8) = false := by simp; omega
  have k9 : (k == 9) = false := by simp; omega
  have k10 : (k == 10) = false := by simp; omega
  have k11 : (k == 11) = false := by simp; omega
  have k12 : (k == 12) = false := by simp; omega
  have k13 : (k == 13) = false := by simp; omega
  have k14 : (k == 14) = false := by simp; omega
  have k15 : (k == 15) = false := by simp; omega
  have k16 : (k == 16) = false := by simp; omega
  have k17 : (k == 17) = false := by simp; omega
  have k18 : (k == 18) = false := by simp; omega
  have k19 : (k == 19) = false := by simp; omega
  have k20 : (k == 20) = false := by simp; omega
  have k21 : (k == 21) = false := by simp; omega
  have k22 : (k == 22) = false := by simp; omega
  go_enter Tryz.func79, Tryz.ntmps79
  go_wp2
  refine bodyPost_ret (by simp [results, Tryz.results79, go_sem]; try rfl) rfl ?_
  exact ⟨by first | rfl | (simp; done), by go_grown⟩
theorem ruses_any (k : Int) (w : World) : Calls Tryz.prog 79 #[.int .i64 k] w fun e w' => e = .returned (.agg #[.bool (usO k).nm, .bool (usO k).op, .bool (usO k).iv, .int .i64 (usO k).v, .int .i64 (usO k).t, .int .i64 (usO k).s, .int .i64 (usO k).r]) ∧ Below w.heap.size w w' := by
  by_cases h : k < 3 ∨ 22 < k
  · have e : usO k = ⟨false, false, false, 0, 0, 0, 0⟩ := by
      unfold usO
      rw [if_neg (by omega), if_neg (by omega), if_neg (by omega), if_neg (by omega), if_neg (by omega), if_neg (by omega), if_neg (by omega), if_neg (by omega), if_neg (by omega), if_neg (by omega), if_neg (by omega), if_neg (by omega), if_neg (by omega), if_neg (by omega), if_neg (by omega), if_neg (by omega), if_neg (by omega), if_neg (by omega), if_neg (by omega), if_neg (by omega)]
    rw [e]
    exact uses_no k w h
  have hk : k = 3 ∨ k = 4 ∨ k = 5 ∨ k = 6 ∨ k = 7 ∨ k = 8 ∨ k = 9 ∨ k = 10 ∨ k = 11 ∨ k = 12 ∨ k = 13 ∨ k = 14 ∨ k = 15 ∨ k = 16 ∨ k = 17 ∨ k = 18 ∨ k = 19 ∨ k = 20 ∨ k = 21 ∨ k = 22 := by omega
  rcases hk with rfl | rfl | rfl | rfl | rfl | rfl | rfl | rfl | rfl | rfl | rfl | rfl | rfl | rfl | rfl | rfl | rfl | rfl | rfl | rfl
  · exact uses_3 w
  · exact uses_4 w
  · exact uses_5 w
  · exact uses_6 w
  · exact uses_7 w
  · exact uses_8 w
  · exact uses_9 w
  · exact uses_10 w
  · exact uses_11 w
  · exact uses_12 w
  · exact uses_13 w
  · exact uses_14 w
  · exact uses_15 w
  · exact uses_16 w
  · exact uses_17 w
  · exact uses_18 w
  · exact uses_19 w
  · exact uses_20 w
  · exact uses_21 w
  · exact uses_22 w

/-- Are there as many as there must be? -/
def soB (n want : Int) : Bool := if want = -2 then true else if want = -1 then decide (0 < n) else n == want
set_option maxRecDepth 100000 in
theorem rso_any (n want : Int) (w : World) : Calls Tryz.prog 80 #[.int .i64 n, .int .i64 want] w fun e w' => e = .returned (.bool (soB n want)) ∧ w' = w := by
  by_cases h2 : want = -2
  · subst h2
    go_enter Tryz.func80, Tryz.ntmps80
    go_wp2
    go_ret
    exact ⟨rfl, rfl⟩
  by_cases h1 : want = -1
  · subst h1
    go_enter Tryz.func80, Tryz.ntmps80
    go_wp2
    go_ret
    exact ⟨by first | rfl | simp [soB], rfl⟩
  have e : soB n want = (n == want) := by unfold soB; rw [if_neg h2, if_neg h1]
  have k2 : (want == -2) = false := by simp [h2]
  have k1 : (want == -1) = false := by simp [h1]
  rw [e]
  go_enter Tryz.func80, Tryz.ntmps80
  go_wp2
  go_ret
  exact ⟨by first | rfl | simp, rfl⟩
set_option maxRecDepth 100000 in
set_option maxHeartbeats 1000000 in
theorem rinterval_any (lo hi : Int) (o : Bool) (w : World) : Calls Tryz.prog 83 #[.agg #[.int .i64 lo, .int .i64 hi, .bool o]] w fun r w' => r = .returned (.bool (itvU lo hi o)) ∧ Below w.heap.size w w' := by
  have e : itvU lo hi o = if lo < 0 ∨ 1099511627776 < lo then false else if o = true then hi == 0 else decide (lo ≤ hi ∧ hi ≤ 1099511627776) := rfl
  rw [e]
  by_cases h1 : lo < 0
  · rw [if_pos (Or.inl h1)]
    go_enter Tryz.func83, Tryz.ntmps83
    go_wp2
    go_ret
    exact ⟨by first | rfl | simp, by go_grown⟩
  by_cases h2 : 1099511627776 < lo
  · rw [if_pos (Or.inr h2)]
    go_enter Tryz.func83, Tryz.ntmps83
    go_wp2
    go_ret
    exact ⟨by first | rfl | simp, by go_grown⟩
  rw [if_neg (by omega)]
  cases o with
  | true =>
    rw [if_pos rfl]
    go_enter Tryz.func83, Tryz.ntmps83
    go_wp2
    go_ret
    exact ⟨by first | rfl | simp, by go_grown⟩
  | false =>
    rw [if_neg (by decide)]
    by_cases h3 : lo ≤ hi
    · by_cases h4 : hi ≤ 1099511627776
      · rw [decide_eq_true (show lo ≤ hi ∧ hi ≤ 1099511627776 from ⟨h3, h4⟩)]
        go_enter Tryz.func83, Tryz.ntmps83
        go_wp2
        go_ret
        exact ⟨by first | rfl | simp, by go_grown⟩
      · rw [decide_eq_false (show ¬ (lo ≤ hi ∧ hi ≤ 1099511627776) from fun h => h4 h.2)]
        go_enter Tryz.func83, Tryz.ntmps83
        go_wp2
        go_ret
        exact ⟨by first | rfl | simp, by go_grown⟩
    · rw [decide_eq_false (show ¬ (lo ≤ hi ∧ hi ≤ 1099511627776) from fun h => h3 h.1)]
      go_enter Tryz.func83, Tryz.ntmps83
      go_wp2
      go_ret
      exact ⟨by first | rfl | simp, by go_grown⟩
set_option maxRecDepth 100000 in
set_option maxHeartbeats 2000000 in
theorem rmany_any (k op lo hi : Int) (nm : ByteArray) (o : Bool) (pv pt ps pr : Option Addr) (nv cv nt ct ns cs nr cr : Nat) (w : World) :
    Calls Tryz.prog 53 #[.agg #[.int .i64 k, .string nm, .int .i64 op, .slice pv nv cv, .slice pt nt ct, .int .i64 lo, .int .i64 hi, .bool o, .slice ps ns cs, .slice pr nr cr]] w fun r w' => r = .returned (.bool (manyB k nv nt)) ∧ Below w.heap.size w w' := by
  have hv6 := dec_lt 6 nv
  have hv8 := dec_lt 8 nv
  have ht6 := dec_lt 6 nt
  obtain ⟨R, eR⟩ : ∃ R : Bool, Hid (manyB k nv nt = R) := ⟨_, rfl⟩
  rw [eR.out]
  have hR : Hid (R = if k = 3 then decide (6 < nt) else if k = 20 ∨ k = 21 then decide (6 < nv) else if k = 10 ∨ k = 19 then decide (8 < nv) else false) := eR.out.symm
  clear eR
  by_cases h3 : k = 3
  · have hR2 : Hid (R = decide (6 < nt)) := by have h := hR.out; rwa [if_pos h3] at h
    subst h3
    rw [hR2.out]
    go_enter Tryz.func53, Tryz.ntmps53
    go_wp2
    go_ret
    exact ⟨by first | rfl | (simp; done) | (simp; omega), by go_grown⟩
  by_cases h20 : k = 20 ∨ k = 21
  · have hR2 : Hid (R = decide (6 < nv)) := by have h := hR.out; rwa [if_neg h3, if_pos h20] at h
    rw [hR2.out]
    rcases h20 with rfl | rfl <;>
    · go_enter Tryz.func53, Tryz.ntmps53
      go_wp2
      go_ret
      exact ⟨by first | rfl | (simp; done) | (simp; omega), by go_grown⟩
  by_cases h10 : k = 10 ∨ k = 19
  · have hR2 : Hid (R = decide (8 < nv)) := by have h := hR.out; rwa [if_neg h3, if_neg h20, if_pos h10] at h
    rw [hR2.out]
    rcases h10 with rfl | rfl <;>
    · go_enter Tryz.func53, Tryz.ntmps53
      go_wp2
      go_ret
      exact ⟨by first | rfl | (simp; done) | (simp; omega), by go_grown⟩
  have hR2 : Hid (R = false) := by have h := hR.out; rwa [if_neg h3, if_neg h20, if_neg h10] at h
  rw [hR2.out]
  have k3 : (k == 3) = false := by simp; omega
  have k20 : (k == 20) = false := by simp; omega
  have k21 : (k == 21) = false := by simp; omega
  have k10 : (k == 10) = false := by simp; omega
  have k19 : (k == 19) = false := by simp; omega
  go_enter Tryz.func53, Tryz.ntmps53
  go_wp2
  go_ret
  exact ⟨by first | rfl | (simp; done) | (simp; omega), by go_grown⟩

end Go.Proofs.YtfajjphfjilpnaaGreat

namespace Go.Proofs.YtfajjphfjilpnaaGreat
open Go.RowKit LX Go.Shelf
set_option linter.unusedVariables false

theorem blkB {W W' : World} {B : Nat} {o : Obj} (h : W.heap[B]? = some o) (hb : Below W.heap.size W W') : W'.heap[B]? = some o := (hb.block B (Array.getElem?_eq_some_iff.1 h).1).trans h
theorem blkL {W : World} {B : Nat} {o : Obj} (h : W.heap[B]? = some o) : B < W.heap.size := (Array.getElem?_eq_some_iff.1 h).1
theorem box10 {w : World} {n : Nat} {c0 c1 c2 c3 c4 c5 c6 c7 c8 c9 : Value} {T : Nat} (h : w.heap[n]? = some (.cells #[c0, c1, c2, c3, c4, c5, c6, c7, c8, c9] T (0, 0))) : w.cell? ⟨n, 0, none⟩ = some c0 ∧ w.cell? ⟨n, 1, none⟩ = some c1 ∧ w.cell? ⟨n, 2, none⟩ = some c2 ∧ w.cell? ⟨n, 3, none⟩ = some c3 ∧ w.cell? ⟨n, 4, none⟩ = some c4 ∧ w.cell? ⟨n, 5, none⟩ = some c5 ∧ w.cell? ⟨n, 6, none⟩ = some c6 ∧ w.cell? ⟨n, 7, none⟩ = some c7 ∧ w.cell? ⟨n, 8, none⟩ = some c8 ∧ w.cell? ⟨n, 9, none⟩ = some c9 := by
  have e : ∀ i, w.cell? ⟨n, i, none⟩ = (#[c0, c1, c2, c3, c4, c5, c6, c7, c8, c9] : Array Value)[i]? := fun i => Lib.cell_of_heap h i
  exact ⟨(e 0).trans rfl, (e 1).trans rfl, (e 2).trans rfl, (e 3).trans rfl, (e 4).trans rfl, (e 5).trans rfl, (e 6).trans rfl, (e 7).trans rfl, (e 8).trans rfl, (e 9).trans rfl⟩
/-- Are the names that a formula uses names, and is the interval one? -/
def namedB (u : Us) (nm : ByteArray) (vs : List ByteArray) (lo hi : Int) (o : Bool) : Bool := (!u.nm || nameB nm) && namesB vs && (!u.iv || itvU lo hi o)

set_option maxRecDepth 100000 in
set_option maxHeartbeats 4000000 in
theorem rnamed_any (k op lo hi : Int) (nm : ByteArray) (o : Bool) (vs : List ByteArray) (pv pt ps pr : Option Addr) (nv cv nt ct ns cs nr cr : Nat) (w : World) (hV : NmsAt w (.slice pv nv cv) vs) :
    Calls Tryz.prog 55 #[.agg #[.int .i64 k, .string nm, .int .i64 op, .slice pv nv cv, .slice pt nt ct, .int .i64 lo, .int .i64 hi, .bool o, .slice ps ns cs, .slice pr nr cr]] w fun r w' => r = .returned (.bool (namedB (usO k) nm vs lo hi o)) ∧ Below w.heap.size w w' := by
  have cU : Hid (∀ W : World, Calls Tryz.prog 79 #[.int .i64 k] W fun e w' => e = .returned (.agg #[.bool (usO k).nm, .bool (usO k).op, .bool (usO k).iv, .int .i64 (usO k).v, .int .i64 (usO k).t, .int .i64 (usO k).s, .int .i64 (usO k).r]) ∧ Below W.heap.size W w') := fun W => ruses_any k W
  have cN : Hid (∀ W : World, Calls Tryz.prog 81 #[.string nm] W fun e w' => e = .returned (.bool (nameB nm)) ∧ Below W.heap.size W w') := fun W => rname_any nm W
  have cS : Hid (∀ W : World, Below w.heap.size w W → Calls Tryz.prog 82 #[.slice pv nv cv] W fun e w' => e = .returned (.bool (namesB vs)) ∧ Below W.heap.size W w') := fun W hW => rnames_any _ vs W (hV.below hW)
  have cI : Hid (∀ W : World, Calls Tryz.prog 83 #[.agg #[.int .i64 lo, .int .i64 hi, .bool o]] W fun e w' => e = .returned (.bool (itvU lo hi o)) ∧ Below W.heap.size W w') := fun W => rinterval_any lo hi o W
  clear hV
  unfold namedB
  generalize nameB nm = A at *
  generalize namesB vs = B at *
  generalize itvU lo hi o = C at *
  generalize (usO k).nm = un at *
  generalize (usO k).op = uo at *
  generalize (usO k).iv = ui at *
  generalize (usO k).v = uv at *
  generalize (usO k).t = ut at *
  generalize (usO k).s = us at *
  generalize (usO k).r = ur at *
  go_enter Tryz.func55, Tryz.ntmps55
  go_wp2_with fail
  refine (cU.out _).mono ?_
  rintro r w1 ⟨rfl, hb1⟩
  have hB1 : Below w.heap.size w w1 := Below.trans (by go_grown) (hb1.mono (by simp))
  have HX1 : Hid (w1.heap[w.heap.size]? = some (.cells #[.int .i64 k, .string nm, .int .i64 op, .slice pv nv cv, .slice pt nt ct, .int .i64 lo, .int .i64 hi, .bool o, .slice ps ns cs, .slice pr nr cr] 29 (0, 0))) := (hb1.block w.heap.size (by simp)).trans (heap_allocA w _)
  have hs1 : w.heap.size < w1.heap.size := blkL HX1.out
  clear hb1 cU
  have e0 : w1.cell? ⟨w.heap.size, 0, none⟩ = some (.int .i64 k) := by rw [Lib.cell_of_heap HX1.out]; rfl
  have e1 : w1.cell? ⟨w.heap.size, 1, none⟩ = some (.string nm) := by rw [Lib.cell_of_heap HX1.out]; rfl
  have e2 : w1.cell? ⟨w.heap.size, 2, none⟩ = some (.int .i64 op) := by rw [Lib.cell_of_heap HX1.out]; rfl
  have e3 : w1.cell? ⟨w.heap.size, 3, none⟩ = some (.slice pv nv cv) := by rw [Lib.cell_of_heap HX1.out]; rfl
  have e4 : w1.cell? ⟨w.heap.size, 4, none⟩ = some (.slice pt nt ct) := by rw [Lib.cell_of_heap HX1.out]; rfl
  have e5 : w1.cell? ⟨w.heap.size, 5, none⟩ = some (.int .i64 lo) := by rw [Lib.cell_of_heap HX1.out]; rfl
  have e6 : w1.cell? ⟨w.heap.size, 6, none⟩ = some (.int .i64 hi) := by rw [Lib.cell_of_heap HX1.out]; rfl
  have e7 : w1.cell? ⟨w.heap.size, 7, none⟩ = some (.bool o) := by rw [Lib.cell_of_heap HX1.out]; rfl
  have e8 : w1.cell? ⟨w.heap.size, 8, none⟩ = some (.slice ps ns cs) := by rw [Lib.cell_of_heap HX1.out]; rfl
  have e9 : w1.cell? ⟨w.heap.size, 9, none⟩ = some (.slice pr nr cr) := by rw [Lib.cell_of_heap HX1.out]; rfl
  go_wp2_with fail
  refine (cN.out _).mono ?_
  rintro r w2 ⟨rfl, hb2⟩
  have HU2 : Hid (w2.heap[w1.heap.size]? = some (.cells #[.bool un, .bool uo, .bool ui, .int .i64 uv, .int .i64 ut, .int .i64 us, .int .i64 ur] 105 (0, 0))) := (hb2.block w1.heap.size (by simp)).trans (heap_allocA w1 _)
  obtain ⟨B2, n2⟩ := bgX (n := w1.heap.size) (W0 := w1) (by go_grown) (by go_size) hb2
  have hB2 : Below w.heap.size w w2 := hB1.trans (B2.mono hB1.size)
  have HX2 : Hid (w2.heap[w.heap.size]? = some (.cells #[.int .i64 k, .string nm, .int .i64 op, .slice pv nv cv, .slice pt nt ct, .int .i64 lo, .int .i64 hi, .bool o, .slice ps ns cs, .slice pr nr cr] 29 (0, 0))) := blkB HX1.out B2
  clear hb2 B2 n2 HX1 cN e0 e1 e2 e3 e4 e5 e6 e7 e8 e9
  have e0 : w2.cell? ⟨w.heap.size, 0, none⟩ = some (.int .i64 k) := by rw [Lib.cell_of_heap HX2.out]; rfl
  have e1 : w2.cell? ⟨w.heap.size, 1, none⟩ = some (.string nm) := by rw [Lib.cell_of_heap HX2.out]; rfl
  have e2 : w2.cell? ⟨w.heap.size, 2, none⟩ = some (.int .i64 op) := by rw [Lib.cell_of_heap HX2.out]; rfl
  have e3 : w2.cell? ⟨w.heap.size, 3, none⟩ = some (.slice pv nv cv) := by rw [Lib.cell_of_heap HX2.out]; rfl
  have e4 : w2.cell? ⟨w.heap.size, 4, none⟩ = some (.slice pt nt ct) := by rw [Lib.cell_of_heap HX2.out]; rfl
  have e5 : w2.cell? ⟨w.heap.size, 5, none⟩ = some (.int .i64 lo) := by rw [Lib.cell_of_heap HX2.out]; rfl
  have e6 : w2.cell? ⟨w.heap.size, 6, none⟩ = some (.int .i64 hi) := by rw [Lib.cell_of_heap HX2.out]; rfl
  have e7 : w2.cell? ⟨w.heap.size, 7, none⟩ = some (.bool o) := by rw [Lib.cell_of_heap HX2.out]; rfl
  have e8 : w2.cell? ⟨w.heap.size, 8, none⟩ = some (.slice ps ns cs) := by rw [Lib.cell_of_heap HX2.out]; rfl
  have e9 : w2.cell? ⟨w.heap.size, 9, none⟩ = some (.slice pr nr cr) := by rw [Lib.cell_of_heap HX2.out]; rfl
  go_wp2_with fail
  refine (cS.out _ hB2).mono ?_
  rintro r w3 ⟨rfl, hb3⟩
  have hB3 : Below w.heap.size w w3 := hB2.trans (hb3.mono hB2.size)
  have HX3 : Hid (w3.heap[w.heap.size]? = some (.cells #[.int .i64 k, .string nm, .int .i64 op, .slice pv nv cv, .slice pt nt ct, .int .i64 lo, .int .i64 hi, .bool o, .slice ps ns cs, .slice pr nr cr] 29 (0, 0))) := blkB HX2.out hb3
  have HU3 : Hid (w3.heap[w1.heap.size]? = some (.cells #[.bool un, .bool uo, .bool ui, .int .i64 uv, .int .i64 ut, .int .i64 us, .int .i64 ur] 105 (0, 0))) := blkB HU2.out hb3
  clear hb3 HX2 HU2 cS e0 e1 e2 e3 e4 e5 e6 e7 e8 e9
  have e0 : w3.cell? ⟨w.heap.size, 0, none⟩ = some (.int .i64 k) := by rw [Lib.cell_of_heap HX3.out]; rfl
  have e1 : w3.cell? ⟨w.heap.size, 1, none⟩ = some (.string nm) := by rw [Lib.cell_of_heap HX3.out]; rfl
  have e2 : w3.cell? ⟨w.heap.size, 2, none⟩ = some (.int .i64 op) := by rw [Lib.cell_of_heap HX3.out]; rfl
  have e3 : w3.cell? ⟨w.heap.size, 3, none⟩ = some (.slice pv nv cv) := by rw [Lib.cell_of_heap HX3.out]; rfl
  have e4 : w3.cell? ⟨w.heap.size, 4, none⟩ = some (.slice pt nt ct) := by rw [Lib.cell_of_heap HX3.out]; rfl
  have e5 : w3.cell? ⟨w.heap.size, 5, none⟩ = some (.int .i64 lo) := by rw [Lib.cell_of_heap HX3.out]; rfl
  have e6 : w3.cell? ⟨w.heap.size, 6, none⟩ = some (.int .i64 hi) := by rw [Lib.cell_of_heap HX3.out]; rfl
  have e7 : w3.cell? ⟨w.heap.size, 7, none⟩ = some (.bool o) := by rw [Lib.cell_of_heap HX3.out]; rfl
  have e8 : w3.cell? ⟨w.heap.size, 8, none⟩ = some (.slice ps ns cs) := by rw [Lib.cell_of_heap HX3.out]; rfl
  have e9 : w3.cell? ⟨w.heap.size, 9, none⟩ = some (.slice pr nr cr) := by rw [Lib.cell_of_heap HX3.out]; rfl
  go_wp2_with fail
  refine (cI.out _).mono ?_
  rintro r w4 ⟨rfl, hb4⟩
  have hB4 : Below w.heap.size w w4 := hB3.trans (hb4.mono hB3.size)
  have HU4 : Hid (w4.heap[w1.heap.size]? = some (.cells #[.bool un, .bool uo, .bool ui, .int .i64 uv, .int .i64 ut, .int .i64 us, .int .i64 ur] 105 (0, 0))) := blkB HU3.out hb4
  clear hb4 HX3 HU3 cI e0 e1 e2 e3 e4 e5 e6 e7 e8 e9
  have g0 : w4.cell? ⟨w1.heap.size, 0, none⟩ = some (.bool un) := by rw [Lib.cell_of_heap HU4.out]; rfl
  have g1 : w4.cell? ⟨w1.heap.size, 1, none⟩ = some (.bool uo) := by rw [Lib.cell_of_heap HU4.out]; rfl
  have g2 : w4.cell? ⟨w1.heap.size, 2, none⟩ = some (.bool ui) := by rw [Lib.cell_of_heap HU4.out]; rfl
  have g3 : w4.cell? ⟨w1.heap.size, 3, none⟩ = some (.int .i64 uv) := by rw [Lib.cell_of_heap HU4.out]; rfl
  have g4 : w4.cell? ⟨w1.heap.size, 4, none⟩ = some (.int .i64 ut) := by rw [Lib.cell_of_heap HU4.out]; rfl
  have g5 : w4.cell? ⟨w1.heap.size, 5, none⟩ = some (.int .i64 us) := by rw [Lib.cell_of_heap HU4.out]; rfl
  have g6 : w4.cell? ⟨w1.heap.size, 6, none⟩ = some (.int .i64 ur) := by rw [Lib.cell_of_heap HU4.out]; rfl
  clear HU4
  cases un <;> cases A <;> cases B <;> cases ui <;> cases C <;>
  · go_wp2
    go_ret
    exact ⟨rfl, hB4⟩

end Go.Proofs.YtfajjphfjilpnaaGreat

namespace Go.Proofs.YtfajjphfjilpnaaGreat
open Go.RowKit LX Go.Shelf
set_option linter.unusedVariables false

theorem partP_neg {g : Fm} {n : Int} {l : List Int} (h : n < 0) : partP g (n :: l) = none := by rw [partP, if_pos h]
theorem partP_far {g : Fm} {n : Int} {l : List Int} (h : ¬ n < 0) (h2 : ((ptsF g).length : Int) ≤ n) : partP g (n :: l) = none := by
  rw [partP, if_neg h, List.getElem?_eq_none (by omega)]
theorem partP_in {g : Fm} {j : Nat} {l : List Int} (h2 : j < (ptsF g).length) : partP g ((j : Int) :: l) = partP (ptsF g)[j] l := by
  rw [partP, if_neg (by omega), Int.toNat_natCast, List.getElem?_eq_getElem h2]
theorem alloc_size (w : World) (o : Obj) : (w.alloc o).heap.size = w.heap.size + 1 := by simp
theorem frz10 {w : World} {n : Nat} (h : ∀ i, w.frozen? ⟨n, i, none⟩ = false) : w.frozen? ⟨n, 0, none⟩ = false ∧ w.frozen? ⟨n, 1, none⟩ = false ∧ w.frozen? ⟨n, 2, none⟩ = false ∧ w.frozen? ⟨n, 3, none⟩ = false ∧ w.frozen? ⟨n, 4, none⟩ = false ∧ w.frozen? ⟨n, 5, none⟩ = false ∧ w.frozen? ⟨n, 6, none⟩ = false ∧ w.frozen? ⟨n, 7, none⟩ = false ∧ w.frozen? ⟨n, 8, none⟩ = false ∧ w.frozen? ⟨n, 9, none⟩ = false := ⟨h 0, h 1, h 2, h 3, h 4, h 5, h 6, h 7, h 8, h 9⟩
set_option maxRecDepth 100000 in
set_option maxHeartbeats 8000000 in
theorem part_fm2 (f : Fm) (q : FQ) (w : World) (hq : QAt w (f, q)) (V : Value) (ns : List Int) (hV : PthAt w V ns) :
    Calls Tryz.prog 17 #[.agg #[.int .i64 f.k, .string f.nm, .int .i64 f.op, q.v, q.t, .int .i64 f.lo, .int .i64 f.hi, .bool f.opn, q.s, q.r], V] w (PartOut w f ns) := by
  have cK : Hid (∀ W : World, Below w.heap.size w W → Calls Tryz.prog 8 #[.agg #[.int .i64 f.k, .string f.nm, .int .i64 f.op, q.v, q.t, .int .i64 f.lo, .int .i64 f.hi, .bool f.opn, q.s, q.r]] W fun r w' => r = .returned (.int .i64 (chkF f)) ∧ Below W.heap.size W w') := fun W hW => check_fm f q W (hq.below hW)
  have cP : Hid (∀ (g : Fm) (r : FQ) (W : World), QAt w (g, r) → wfF g ∧ nodF g ≤ 256 ∧ lgF g → Below w.heap.size w W → Calls Tryz.prog 46 #[.agg #[.int .i64 g.k, .string g.nm, .int .i64 g.op, r.v, r.t, .int .i64 g.lo, .int .i64 g.hi, .bool g.opn, r.s, r.r]] W fun e w' => ∃ v, e = .returned v ∧ PtsAt w w' v (ptsF g) ∧ Below W.heap.size W w') := fun g r W h1 h2 h3 => parts_src w g r h1 W h3 (by
    have a := (rtss_nod _ g.rgx (Nat.le_refl _)).1
    have b := nodFs_len (rtss g.rgx)
    have c := nodF_eq g
    omega)
  have cC : Hid (∀ (g : Fm) (r : FQ) (W : World), QAt w (g, r) → lgF g → Below w.heap.size w W → Calls Tryz.prog 7 #[.agg #[.int .i64 g.k, .string g.nm, .int .i64 g.op, r.v, r.t, .int .i64 g.lo, .int .i64 g.hi, .bool g.opn, r.s, r.r]] W fun e w' => ∃ qv dv qt dt qs ds qr dr, e = .returned (.agg #[.int .i64 g.k, .string g.nm, .int .i64 g.op, .slice qv g.vars.length dv, .slice qt g.terms.length dt, .int .i64 g.lo, .int .i64 g.hi, .bool g.opn, .slice qs g.subs.length ds, .slice qr g.rgx.length dr]) ∧ QOwn (fun b => W.heap.size ≤ b) w' (g, ⟨.slice qv g.vars.length dv, .slice qt g.terms.length dt, .slice qs g.subs.length ds, .slice qr g.rgx.length dr⟩) ∧ Below W.heap.size W w') := fun g r W h1 h2 h3 => (clone_fm g r W (h1.below h3) h2).mono fun e w' ⟨q, h1, h2, h3⟩ => by
    obtain ⟨v1, v2, v3, v4⟩ := q
    have hA := h2.at
    obtain ⟨x1, x2, x3, x4⟩ := hA
    dsimp only at x1 x2 x3 x4 h1
    obtain ⟨qv, dv, rfl, -⟩ := x1.form
    obtain ⟨qt, dt, rfl, -⟩ := x2.form
    obtain ⟨qs, ds, rfl, -⟩ := x3.form
    obtain ⟨qr, dr, rfl, -⟩ := x4.form
    exact ⟨qv, dv, qt, dt, qs, ds, qr, dr, h1, h2, h3⟩
  have HQ : Hid (QAt w (f, q)) := hq
  obtain ⟨lp, p, c, rfl, hc, HX0⟩ := hV
  have HX : Hid (∀ i (hi : i < ns.length), ∃ b off, p = some ⟨b, off, none⟩ ∧ b < w.heap.size ∧ w.cell? ⟨b, off + i, none⟩ = some (.int .i64 ns[i])) := HX0
  obtain ⟨PO, ePO⟩ : ∃ PO, Hid (PartOut w f ns = PO) := ⟨_, rfl⟩
  rw [ePO.out]
  have hPO1 : Hid (∀ r w', Below w.heap.size w w' → ¬ chkF f = 0 → r = .returned (.tuple #[.agg #[.int .i64 0, .string ⟨#[]⟩, .int .i64 0, .slice none 0 0, .slice none 0 0, .int .i64 0, .int .i64 0, .bool false, .slice none 0 0, .slice none 0 0], .int .i64 (chkF f)]) → PO r w') := fun r w' h1 h2 h3 => by
    rw [← ePO.out]
    exact ⟨h1, Or.inl ⟨h2, h3⟩⟩
  have hPO2 : Hid (∀ r w', Below w.heap.size w w' → chkF f = 0 → partP f ns = none → r = .returned (.tuple #[.agg #[.int .i64 0, .string ⟨#[]⟩, .int .i64 0, .slice none 0 0, .slice none 0 0, .int .i64 0, .int .i64 0, .bool false, .slice none 0 0, .slice none 0 0], .int .i64 5]) → PO r w') := fun r w' h1 h2 h3 h4 => by
    rw [← ePO.out]
    exact ⟨h1, Or.inr (Or.inl ⟨h2, h3, h4⟩)⟩
  have hPO3 : Hid (∀ r w' g q, Below w.heap.size w w' → chkF f = 0 → partP f ns = some g → r = .returned (.tuple #[.agg #[.int .i64 g.k, .string g.nm, .int .i64 g.op, q.v, q.t, .int .i64 g.lo, .int .i64 g.hi, .bool g.opn, q.s, q.r], .int .i64 0]) → QOwn (fun b => w.heap.size ≤ b) w' (g, q) → PO r w') := fun r w' g q h1 h2 h3 h4 h5 => by
    rw [← ePO.out]
    exact ⟨h1, Or.inr (Or.inr ⟨h2, g, q, h3, h4, h5⟩)⟩
  have HG : Hid (chkF f = 0 → wfF f ∧ nodF f ≤ 256 ∧ lgF f) := fun h => ⟨(chk_good h).1, (chk_good h).2, chk_lg h⟩
  clear HX0 hq ePO
  obtain ⟨uv, ut, us, ur⟩ := q
  obtain ⟨h1, h2, h3, h4⟩ := HQ.out
  dsimp only at h1 h2 h3 h4 cK ⊢
  obtain ⟨-, pv, cv, rfl, -, -⟩ := h1
  obtain ⟨pt, ct, rfl, -⟩ := h2.form
  obtain ⟨ps, cs, rfl, -⟩ := h3.form
  obtain ⟨pr, cr, rfl, -⟩ := h4.form
  clear h2 h3 h4
  obtain ⟨n, en⟩ : ∃ n : Nat, Hid (ns.length = n) := ⟨_, rfl⟩
  rw [en.out] at lp hc ⊢
  go_enter Tryz.func17, Tryz.ntmps17
  go_wp2_with fail
  refine (cK.out _ (by go_grown)).mono ?_
  rintro r w1 ⟨rfl, hb1⟩
  have hB1 : Below w.heap.size w w1 := Below.trans (by go_grown) (hb1.mono (by first | (simp; done) | (simp; omega)))
  have X0 : BoxF w1 w.heap.size f ⟨.slice pv f.vars.length cv, .slice pt f.terms.length ct, .slice ps f.subs.length cs, .slice pr f.rgx.length cr⟩ := (hb1.block w.heap.size (by simp; omega)).trans ((Below.heap_alloc _ _ _ (by simp)).trans (heap_allocA w _))
  have Y0 : BoxF w1 (w.heap.size + 1) fm0 fq0 := (hb1.block (w.heap.size + 1) (by simp)).trans (by have h := heap_allocA (w.alloc (Obj.cells #[.int .i64 f.k, .string f.nm, .int .i64 f.op, .slice pv f.vars.length cv, .slice pt f.terms.length ct, .int .i64 f.lo, .int .i64 f.hi, .bool f.opn, .slice ps f.subs.length cs, .slice pr f.rgx.length cr] 29)) (Obj.cells #[.int .i64 0, .string ⟨#[]⟩, .int .i64 0, .slice none 0 0, .slice none 0 0, .int .i64 0, .int .i64 0, .bool false, .slice none 0 0, .slice none 0 0] 29); rw [alloc_size] at h; exact h)
  have HX0 : Hid (BoxF w1 w.heap.size f ⟨.slice pv f.vars.length cv, .slice pt f.terms.length ct, .slice ps f.subs.length cs, .slice pr f.rgx.length cr⟩) := X0
  have HY0 : Hid (BoxF w1 (w.heap.size + 1) fm0 fq0) := Y0
  clear hb1 cK X0 Y0
  by_cases hE : chkF f = 0
  case neg =>
    have hE' : (chkF f != 0) = true := by simp [hE]
    obtain ⟨z0, z1, z2, z3, z4, z5, z6, z7, z8, z9⟩ := box10 (show w1.heap[w.heap.size + 1]? = some (.cells #[.int .i64 0, .string ⟨#[]⟩, .int .i64 0, .slice none 0 0, .slice none 0 0, .int .i64 0, .int .i64 0, .bool false, .slice none 0 0, .slice none 0 0] 29 (0, 0)) from HY0.out)
    obtain ⟨zf0, zf1, zf2, zf3, zf4, zf5, zf6, zf7, zf8, zf9⟩ := frz10 (fun i => BoxF.fz HY0.out i)
    have HNE : Hid (¬ chkF f = 0) := hE
    clear hE
    generalize chkF f = CK at *
    go_wp2
    refine bodyPost_ret (by simp [results, Tryz.results17, go_sem, z0, z1, z2, z3, z4, z5, z6, z7, z8, z9]; try rfl) rfl ?_
    exact hPO1.out _ _ (hB1.trans (by go_grown)) HNE.out rfl
  have HG0 := HG.out hE
  have HE : Hid (chkF f = 0) := hE
  rw [hE]
  clear hE HG hPO1
  have hW0 : Hid (wfF f ∧ nodF f ≤ 256 ∧ lgF f) := HG0
  clear HG0
  go_wp2
  go_loopw [18] (fun v wr => ∃ (k : Nat) (g : Fm) (r : FQ), k ≤ n ∧ v = .int .i64 k ∧ Hid (partP f ns = partP g (ns.drop k)) ∧ Hid (wfF g ∧ nodF g ≤ 256 ∧ lgF g) ∧ Hid (QAt w (g, r)) ∧ Hid (BoxF wr w.heap.size g r) ∧ Hid (BoxF wr (w.heap.size + 1) fm0 fq0) ∧ Below w.heap.size w wr) (fun v _ => n - (intOf v).toNat)
  case atStart => exact ⟨0, f, ⟨.slice pv f.vars.length cv, .slice pt f.terms.length ct, .slice ps f.subs.length cs, .slice pr f.rgx.length cr⟩, Nat.zero_le _, rfl, (show _ = _ by simp), hW0, HQ, HX0, HY0, hB1⟩
  case round =>
    obtain ⟨k, g, r, hk, rfl, hP, hW, hq, hX, hY, hB⟩ := hrel
    have hsz := hB.size
    have hz1 : w.heap.size + 1 < wr.heap.size := hY.out.lt
    obtain ⟨uv, ut, us, ur⟩ := r
    obtain ⟨h1, h2, h3, h4⟩ := hq.out
    dsimp only at h1 h2 h3 h4
    obtain ⟨-, pv, cv, rfl, -, -⟩ := h1
    obtain ⟨pt, ct, rfl, -⟩ := h2.form
    obtain ⟨ps, cs, rfl, -⟩ := h3.form
    obtain ⟨pr, cr, rfl, -⟩ := h4.form
    have cP1 : Hid (∀ W : World, Below w.heap.size w W → Calls Tryz.prog 46 #[.agg #[.int .i64 g.k, .string g.nm, .int .i64 g.op, .slice pv g.vars.length cv, .slice pt g.terms.length ct, .int .i64 g.lo, .int .i64 g.hi, .bool g.opn, .slice ps g.subs.length cs, .slice pr g.rgx.length cr]] W fun e w' => ∃ v, e = .returned v ∧ PtsAt w w' v (ptsF g) ∧ Below W.heap.size W w') := fun W hW' => cP.out g ⟨.slice pv g.vars.length cv, .slice pt g.terms.length ct, .slice ps g.subs.length cs, .slice pr g.rgx.length cr⟩ W hq.out hW.out hW'
    have cC1 : Hid (∀ W : World, Below w.heap.size w W → Calls Tryz.prog 7 #[.agg #[.int .i64 g.k, .string g.nm, .int .i64 g.op, .slice pv g.vars.length cv, .slice pt g.terms.length ct, .int .i64 g.lo, .int .i64 g.hi, .bool g.opn, .slice ps g.subs.length cs, .slice pr g.rgx.length cr]] W fun e w' => ∃ qv dv qt dt qs ds qr dr, e = .returned (.agg #[.int .i64 g.k, .string g.nm, .int .i64 g.op, .slice qv g.vars.length dv, .slice qt g.terms.length dt, .int .i64 g.lo, .int .i64 g.hi, .bool g.opn, .slice qs g.subs.length ds, .slice qr g.rgx.length dr]) ∧ QOwn (fun b => W.heap.size ≤ b) w' (g, ⟨.slice qv g.vars.length dv, .slice qt g.terms.length dt, .slice qs g.subs.length ds, .slice qr g.rgx.length dr⟩) ∧ Below W.heap.size W w') := fun W hW' => cC.out g ⟨.slice pv g.vars.length cv, .slice pt g.terms.length ct, .slice ps g.subs.length cs, .slice pr g.rgx.length cr⟩ W hq.out hW.out.2.2 hW'
    have hBX : Hid (∀ W : World, W.heap[w.heap.size]? = wr.heap[w.heap.size]? → W.heap[w.heap.size]? = some (.cells #[.int .i64 g.k, .string g.nm, .int .i64 g.op, .slice pv g.vars.length cv, .slice pt g.terms.length ct, .int .i64 g.lo, .int .i64 g.hi, .bool g.opn, .slice ps g.subs.length cs, .slice pr g.rgx.length cr] 29 (0, 0))) := fun W h => h.trans hX.out
    have hPO4 : Hid (∀ r w' q, Below w.heap.size w w' → partP f ns = some g → r = .returned (.tuple #[.agg #[.int .i64 g.k, .string g.nm, .int .i64 g.op, q.v, q.t, .int .i64 g.lo, .int .i64 g.hi, .bool g.opn, q.s, q.r], .int .i64 0]) → QOwn (fun b => w.heap.size ≤ b) w' (g, q) → PO r w') := fun r w' q h1 h3 h4 h5 => hPO3.out r w' g q h1 HE.out h3 h4 h5
    have hput : Hid (∀ (W : World) (g' : Fm) (r' : FQ), W.heap[w.heap.size]? = wr.heap[w.heap.size]? → BoxF ((((((((((W.setCell ⟨w.heap.size, 0, none⟩ (Value.int .i64 g'.k)).setCell ⟨w.heap.size, 1, none⟩ (Value.string g'.nm)).setCell ⟨w.heap.size, 2, none⟩ (Value.int .i64 g'.op)).setCell ⟨w.heap.size, 3, none⟩ (r'.v)).setCell ⟨w.heap.size, 4, none⟩ (r'.t)).setCell ⟨w.heap.size, 5, none⟩ (Value.int .i64 g'.lo)).setCell ⟨w.heap.size, 6, none⟩ (Value.int .i64 g'.hi)).setCell ⟨w.heap.size, 7, none⟩ (Value.bool g'.opn)).setCell ⟨w.heap.size, 8, none⟩ (r'.s)).setCell ⟨w.heap.size, 9, none⟩ (r'.r)) w.heap.size g' r') := fun W g' r' h => BoxF.put (hX.out.at h)
    clear h2 h3 h4
    obtain ⟨nv, env⟩ : ∃ n : Nat, Hid (g.vars.length = n) := ⟨_, rfl⟩
    obtain ⟨nt, ent⟩ : ∃ n : Nat, Hid (g.terms.length = n) := ⟨_, rfl⟩
    obtain ⟨ns0, ens⟩ : ∃ n : Nat, Hid (g.subs.length = n) := ⟨_, rfl⟩
    obtain ⟨nr, enr⟩ : ∃ n : Nat, Hid (g.rgx.length = n) := ⟨_, rfl⟩
    rw [env.out, ent.out, ens.out, enr.out] at cP1 cC1 hBX
    generalize g.k = k0 at *
    generalize g.nm = nm at *
    generalize g.op = op at *
    generalize g.lo = lo at *
    generalize g.hi = hi at *
    generalize g.opn = o at *
    by_cases hlt : k < n
    case neg =>
      have c2 : ¬ (k : Int) < n := by omega
      have hP2 : Hid (partP f ns = some g) := by
        have h := hP.out
        rw [List.drop_eq_nil_of_le (by have := en.out; omega), partP] at h
        exact h
      obtain ⟨e0, e1, e2, e3, e4, e5, e6, e7, e8, e9⟩ := box10 (hBX.out wr rfl)
      go_wp2_with fail
      refine (cC1.out _ hB).mono ?_
      rintro e w2 ⟨qv, dv, qt, dt, qs, ds, qr, dr, rfl, hQ, hb2⟩
      have hB2 : Below w.heap.size w w2 := hB.trans (hb2.mono hsz)
      have hY2 : Hid (BoxF w2 (w.heap.size + 1) fm0 fq0) := hY.out.bel hb2
      obtain ⟨z0, z1, z2, z3, z4, z5, z6, z7, z8, z9⟩ := box10 (show w2.heap[w.heap.size + 1]? = some (.cells #[.int .i64 0, .string ⟨#[]⟩, .int .i64 0, .slice none 0 0, .slice none 0 0, .int .i64 0, .int .i64 0, .bool false, .slice none 0 0, .slice none 0 0] 29 (0, 0)) from hY2.out)
      obtain ⟨zf0, zf1, zf2, zf3, zf4, zf5, zf6, zf7, zf8, zf9⟩ := frz10 (fun i => BoxF.fz hY2.out i)
      have HQ2 : Hid (∀ W : World, (∀ q, w.heap.size + 2 ≤ q → W.heap[q]? = w2.heap[q]?) → QOwn (fun b => w.heap.size ≤ b) W (g, ⟨.slice qv nv dv, .slice qt nt dt, .slice qs ns0 ds, .slice qr nr dr⟩)) := fun W hW => ((hQ.mono (P' := fun q => w.heap.size + 2 ≤ q) fun q hq _ => by omega).keep (w' := W) fun q h1 _ => hW q h1).mono fun q h1 _ => by omega
      clear cC1 cP1 hb2 hQ e0 e1 e2 e3 e4 e5 e6 e7 e8 e9
      go_wp2
      refine bodyPost_ret (by simp [results, Tryz.results17, go_sem, z0, z1, z2, z3, z4, z5, z6, z7, z8, z9]; try rfl) rfl ?_
      refine hPO4.out _ _ ⟨.slice qv nv dv, .slice qt nt dt, .slice qs ns0 ds, .slice qr nr dr⟩ (hB2.trans (by go_grown)) hP2.out rfl (HQ2.out _ fun q hq => ?_)
      (repeat rw [set_block (by omega)])
    have hlt' : (k : Int) < n := by omega
    have kx : k < ns.length := by have := en.out; omega
    obtain ⟨b, off, rfl, hb, a0⟩ := HX.out k kx
    have a1 := (hB.cell (p := ⟨b, off + k, none⟩) hb).trans a0
    have hP3 : Hid (partP f ns = partP g (ns[k] :: ns.drop (k + 1))) := by
      have h := hP.out
      rw [List.drop_eq_getElem_cons kx] at h
      exact h
    clear hP a0 cC1
    generalize ns[k] = i at *
    obtain ⟨e0, e1, e2, e3, e4, e5, e6, e7, e8, e9⟩ := box10 (hBX.out wr rfl)
    go_wp2_with fail
    refine (cP1.out _ hB).mono ?_
    rintro e w2 ⟨v2, rfl, hPt, hb2⟩
    have hB2 : Below w.heap.size w w2 := hB.trans (hb2.mono hsz)
    have hn2 : w.heap.size + 1 < w2.heap.size := Nat.lt_of_lt_of_le hz1 hb2.size
    have hY2 : Hid (BoxF w2 (w.heap.size + 1) fm0 fq0) := hY.out.bel hb2
    have hX2 : w2.heap[w.heap.size]? = wr.heap[w.heap.size]? := hb2.block _ (by omega)
    obtain ⟨pl, cl, rfl, ll, lc, HL0⟩ := hPt
    have HL : Hid (∀ i (hi : i < (ptsF g).length), ∃ b off q, pl = some ⟨b, off, none⟩ ∧ b < w2.heap.size ∧ FmC w2 b (off + i * 10) (ptsF g)[i] q.v q.t q.s q.r ∧ QAt w ((ptsF g)[i], q)) := HL0
    have hfz : Hid (∀ i, w2.frozen? ⟨w.heap.size, i, none⟩ = false) := fun i => Lib.frozen_of_heap (hBX.out w2 hX2) i
    clear HL0 cP1 hb2 e0 e1 e2 e3 e4 e5 e6 e7 e8 e9
    obtain ⟨m, em⟩ : ∃ m : Nat, Hid ((ptsF g).length = m) := ⟨_, rfl⟩
    rw [em.out] at ll lc ⊢
    by_cases hi0 : i < 0
    · have hP4 : Hid (partP f ns = none) := hP3.out.trans (partP_neg hi0)
      obtain ⟨z0, z1, z2, z3, z4, z5, z6, z7, z8, z9⟩ := box10 (show w2.heap[w.heap.size + 1]? = some (.cells #[.int .i64 0, .string ⟨#[]⟩, .int .i64 0, .slice none 0 0, .slice none 0 0, .int .i64 0, .int .i64 0, .bool false, .slice none 0 0, .slice none 0 0] 29 (0, 0)) from hY2.out)
      obtain ⟨zf0, zf1, zf2, zf3, zf4, zf5, zf6, zf7, zf8, zf9⟩ := frz10 (fun i => BoxF.fz hY2.out i)
      go_wp2
      refine bodyPost_ret (by simp [results, Tryz.results17, go_sem, z0, z1, z2, z3, z4, z5, z6, z7, z8, z9]; try rfl) rfl ?_
      exact hPO2.out _ _ (hB2.trans (by go_grown)) HE.out hP4.out rfl
    by_cases him : (m : Int) ≤ i
    · have hP4 : Hid (partP f ns = none) := hP3.out.trans (partP_far hi0 (by rw [em.out]; exact him))
      obtain ⟨z0, z1, z2, z3, z4, z5, z6, z7, z8, z9⟩ := box10 (show w2.heap[w.heap.size + 1]? = some (.cells #[.int .i64 0, .string ⟨#[]⟩, .int .i64 0, .slice none 0 0, .slice none 0 0, .int .i64 0, .int .i64 0, .bool false, .slice none 0 0, .slice none 0 0] 29 (0, 0)) from hY2.out)
      obtain ⟨zf0, zf1, zf2, zf3, zf4, zf5, zf6, zf7, zf8, zf9⟩ := frz10 (fun i => BoxF.fz hY2.out i)
      go_wp2
      refine bodyPost_ret (by simp [results, Tryz.results17, go_sem, z0, z1, z2, z3, z4, z5, z6, z7, z8, z9]; try rfl) rfl ?_
      exact hPO2.out _ _ (hB2.trans (by go_grown)) HE.out hP4.out rfl
    obtain ⟨j, rfl⟩ : ∃ j : Nat, i = j := ⟨i.toNat, by omega⟩
    have jx : j < (ptsF g).length := by have := em.out; omega
    have hjm : (j : Int) < m := by omega
    obtain ⟨b2, off2, ⟨uv2, ut2, us2, ur2⟩, rfl, hb2, FC, hq2⟩ := HL.out j jx
    obtain ⟨c0, c1, c2, c3, c4, c5, c6, c7, c8, c9⟩ := FC
    have hP5 : Hid (partP f ns = partP (ptsF g)[j] (ns.drop (k + 1))) := hP3.out.trans (partP_in jx)
    have hW5 : Hid (wfF (ptsF g)[j] ∧ nodF (ptsF g)[j] ≤ 256 ∧ lgF (ptsF g)[j]) := by
      obtain ⟨x1, x2, x3⟩ := hW.out
      have y := pts_nod g
      have z := nodFs_get (ptsF g) j jx
      exact ⟨wfFs_get _ j jx (pts_ok x1), by omega, lgFs_get _ j jx (pts_lg x3)⟩
    have HQ5 : Hid (QAt w ((ptsF g)[j], ⟨uv2, ut2, us2, ur2⟩)) := hq2
    obtain ⟨h1, h2, h3, h4⟩ := hq2
    dsimp only at h1 h2 h3 h4 c3 c4 c8 c9
    obtain ⟨-, pv2, cv2, rfl, -, -⟩ := h1
    obtain ⟨pt2, ct2, rfl, -⟩ := h2.form
    obtain ⟨ps2, cs2, rfl, -⟩ := h3.form
    obtain ⟨pr2, cr2, rfl, -⟩ := h4.form
    have hput2 : Hid (∀ W : World, W.heap[w.heap.size]? = wr.heap[w.heap.size]? → BoxF ((((((((((W.setCell ⟨w.heap.size, 0, none⟩ (Value.int .i64 (ptsF g)[j].k)).setCell ⟨w.heap.size, 1, none⟩ (Value.string (ptsF g)[j].nm)).setCell ⟨w.heap.size, 2, none⟩ (Value.int .i64 (ptsF g)[j].op)).setCell ⟨w.heap.size, 3, none⟩ (.slice pv2 (ptsF g)[j].vars.length cv2)).setCell ⟨w.heap.size, 4, none⟩ (.slice pt2 (ptsF g)[j].terms.length ct2)).setCell ⟨w.heap.size, 5, none⟩ (Value.int .i64 (ptsF g)[j].lo)).setCell ⟨w.heap.size, 6, none⟩ (Value.int .i64 (ptsF g)[j].hi)).setCell ⟨w.heap.size, 7, none⟩ (Value.bool (ptsF g)[j].opn)).setCell ⟨w.heap.size, 8, none⟩ (.slice ps2 (ptsF g)[j].subs.length cs2)).setCell ⟨w.heap.size, 9, none⟩ (.slice pr2 (ptsF g)[j].rgx.length cr2)) w.heap.size (ptsF g)[j] ⟨.slice pv2 (ptsF g)[j].vars.length cv2, .slice pt2 (ptsF g)[j].terms.length ct2, .slice ps2 (ptsF g)[j].subs.length cs2, .slice pr2 (ptsF g)[j].rgx.length cr2⟩) := fun W h => hput.out W (ptsF g)[j] ⟨.slice pv2 (ptsF g)[j].vars.length cv2, .slice pt2 (ptsF g)[j].terms.length ct2, .slice ps2 (ptsF g)[j].subs.length cs2, .slice pr2 (ptsF g)[j].rgx.length cr2⟩ h
    obtain ⟨d0, d1, d2, d3, d4, d5, d6, d7, d8, d9⟩ := box10 (hBX.out w2 hX2)
    clear h2 h3 h4 hput HL hBX hPO4 hP3 hW hq hX
    obtain ⟨ef0, ef1, ef2, ef3, ef4, ef5, ef6, ef7, ef8, ef9⟩ := frz10 hfz.out
    have hY5 : Hid (∀ W : World, W.heap[w.heap.size + 1]? = w2.heap[w.heap.size + 1]? → BoxF W (w.heap.size + 1) fm0 fq0) := fun W h => hY2.out.at h
    go_wp2
    refine ⟨⟨k + 1, (ptsF g)[j], ⟨.slice pv2 (ptsF g)[j].vars.length cv2, .slice pt2 (ptsF g)[j].terms.length ct2, .slice ps2 (ptsF g)[j].subs.length cs2, .slice pr2 (ptsF g)[j].rgx.length cr2⟩, by omega, by go_num, hP5, hW5, HQ5, hput2.out w2 hX2, hY5.out _ ?_, hB2.trans (by go_grown)⟩, by simp [intOf]; omega⟩
    (repeat rw [set_block (by omega)])

theorem part_fm (f : Fm) (q : FQ) (w : World) (hq : QAt w (f, q)) (V : Value) (ns : List Int) (hV : PthAt w V ns) (hlg : lgF f) :
    Calls Tryz.prog 17 #[.agg #[.int .i64 f.k, .string f.nm, .int .i64 f.op, q.v, q.t, .int .i64 f.lo, .int .i64 f.hi, .bool f.opn, q.s, q.r], V] w (PartOut w f ns) := part_fm2 f q w hq V ns hV
end Go.Proofs.YtfajjphfjilpnaaGreat

namespace Go.Proofs.YtfajjphfjilpnaaGreat
open Go.RowKit LX Go.Shelf
set_option linter.unusedVariables false

/-- A variable. -/
def xT (s : ByteArray) : Tm := .mk 1 s ⟨0, 0, 0, ⟨#[]⟩⟩ []
/-- A predicate of variables. -/
def pF (vs : List ByteArray) : Fm := .mk 3 ⟨#[112]⟩ 0 [] (vs.map xT) 0 0 false [] []
def cT3 : Tm := .mk 2 ⟨#[]⟩ ⟨1, 3, 0, ⟨#[]⟩⟩ []
def lsF : Fm := .mk 5 ⟨#[]⟩ 0 [] [xT ⟨#[120]⟩, cT3] 0 0 false [] []
def andF (l : List Fm) : Fm := .mk 8 ⟨#[]⟩ 0 [] [] 0 0 false l []
def lvF : Fm := andF [pF [⟨#[120]⟩, ⟨#[121]⟩], lsF]
def adT : Tm := .mk 3 ⟨#[]⟩ ⟨0, 0, 0, ⟨#[]⟩⟩ [xT ⟨#[98]⟩, xT ⟨#[97]⟩]

theorem lv_run : frun 1 (0, 0) lvF = (0, (7, 3)) := by kernel_rfl
theorem lv_bad : (frun 1 (0, 0) (andF [lvF])).1 = 1 := by kernel_rfl
theorem lv_part : partP lvF [0] = some (pF [⟨#[120]⟩, ⟨#[121]⟩]) := by kernel_rfl
theorem lv_none : partP lvF [2] = none := by kernel_rfl
theorem lv_same : sameF lvF lvF = true := by kernel_rfl
theorem lv_sameP : sameF (pF [⟨#[120]⟩, ⟨#[121]⟩]) (pF [⟨#[120]⟩, ⟨#[121]⟩]) = true := by kernel_rfl
theorem lv_nm : nameB ⟨#[97, 95, 57]⟩ = true := by kernel_rfl
theorem lv_and : nameB ⟨#[97, 110, 100]⟩ = false := by kernel_rfl
theorem lv_tv : tvs adT = [⟨#[98]⟩, ⟨#[97]⟩] := by kernel_rfl
theorem srt2 : List.mergeSort [([98] : List UInt8), [97]] (fun x y => decide (x ≤ y)) = [[97], [98]] := by
  simp [List.mergeSort, List.MergeSort.Internal.splitInTwo, List.merge]
  decide
theorem srtXY : List.mergeSort [([120] : List UInt8), [121]] (fun x y => decide (x ≤ y)) = [[120], [121]] := by
  simp [List.mergeSort, List.MergeSort.Internal.splitInTwo, List.merge]
  decide
theorem srtX : List.mergeSort [([120] : List UInt8)] (fun x y => decide (x ≤ y)) = [[120]] := by
  simp
theorem srtXYX : List.mergeSort [([120] : List UInt8), [121], [120]] (fun x y => decide (x ≤ y)) = [[120], [120], [121]] := by
  simp [List.mergeSort, List.MergeSort.Internal.splitInTwo, List.merge]
  rw [if_pos (by decide), List.merge, if_pos (by decide), List.merge, if_neg (by decide)]
  simp
theorem lv_tvu : uniN [tvs adT] = [⟨#[97]⟩, ⟨#[98]⟩] := by
  rw [lv_tv]
  show unb (Lib.compact (bts (unb (List.mergeSort [([98] : List UInt8), [97]] (fun x y => decide (x ≤ y)))))) = _
  rw [srt2]
  rfl
theorem uni0 : uniN [] = [] := by
  show unb (Lib.compact (bts (unb (List.mergeSort [] (fun x y => decide (x ≤ y)))))) = _
  rw [List.mergeSort]
  rfl
theorem uniXY : uniN [[⟨#[120]⟩, ⟨#[121]⟩], []] = [⟨#[120]⟩, ⟨#[121]⟩] := by
  show unb (Lib.compact (bts (unb (List.mergeSort [([120] : List UInt8), [121]] (fun x y => decide (x ≤ y)))))) = _
  rw [srtXY]
  rfl
theorem uniXY2 : uniN [[], [⟨#[120]⟩, ⟨#[121]⟩]] = [⟨#[120]⟩, ⟨#[121]⟩] := by
  show unb (Lib.compact (bts (unb (List.mergeSort [([120] : List UInt8), [121]] (fun x y => decide (x ≤ y)))))) = _
  rw [srtXY]
  rfl
theorem uniX : uniN [[⟨#[120]⟩], []] = [⟨#[120]⟩] := by
  show unb (Lib.compact (bts (unb (List.mergeSort [([120] : List UInt8)] (fun x y => decide (x ≤ y)))))) = _
  rw [srtX]
  rfl
theorem uniXYX : uniN [[⟨#[120]⟩, ⟨#[121]⟩], [⟨#[120]⟩]] = [⟨#[120]⟩, ⟨#[121]⟩] := by
  show unb (Lib.compact (bts (unb (List.mergeSort [([120] : List UInt8), [121], [120]] (fun x y => decide (x ≤ y)))))) = _
  rw [srtXYX]
  rfl
theorem fre_p : fre (pF [⟨#[120]⟩, ⟨#[121]⟩]) = ([⟨#[120]⟩, ⟨#[121]⟩], 2) := by
  rw [fre_eq, show ptsF (pF [⟨#[120]⟩, ⟨#[121]⟩]) = [] from rfl]
  have h : freO (pF [⟨#[120]⟩, ⟨#[121]⟩]) (List.map (fun g => (fre g).1) []) = [⟨#[120]⟩, ⟨#[121]⟩] := by
    show uniN [tvss [xT ⟨#[120]⟩, xT ⟨#[121]⟩], uniN []] = _
    rw [uni0, show tvss [xT ⟨#[120]⟩, xT ⟨#[121]⟩] = [⟨#[120]⟩, ⟨#[121]⟩] by kernel_rfl, uniXY]
  rw [h]
  rfl
theorem fre_l : fre lsF = ([⟨#[120]⟩], 1) := by
  rw [fre_eq, show ptsF lsF = [] from rfl]
  have h : freO lsF (List.map (fun g => (fre g).1) []) = [⟨#[120]⟩] := by
    show uniN [tvss [xT ⟨#[120]⟩, cT3], uniN []] = _
    rw [uni0, show tvss [xT ⟨#[120]⟩, cT3] = [⟨#[120]⟩] by kernel_rfl, uniX]
  rw [h]
  rfl
theorem lv_fre : fre lvF = ([⟨#[120]⟩, ⟨#[121]⟩], 2) := by
  rw [fre_eq, show ptsF lvF = [pF [⟨#[120]⟩, ⟨#[121]⟩], lsF] from rfl]
  have h : freO lvF (List.map (fun g => (fre g).1) [pF [⟨#[120]⟩, ⟨#[121]⟩], lsF]) = [⟨#[120]⟩, ⟨#[121]⟩] := by
    rw [List.map_cons, List.map_cons, List.map_nil, fre_p, fre_l]
    show uniN [tvss [], uniN [[⟨#[120]⟩, ⟨#[121]⟩], [⟨#[120]⟩]]] = _
    rw [uniXYX, tvss_nil, uniXY2]
  rw [h, List.map_cons, List.map_cons, List.map_nil, fre_p, fre_l]
  rfl
theorem lv_chk : chkF lvF = 0 := by
  unfold chkF
  rw [lv_run, lv_fre]
  rfl
theorem lv_siz : sizF lvF = (7, 3) := by
  unfold sizF
  rw [if_pos lv_chk, lv_run]
theorem lv_var : varF lvF = [⟨#[120]⟩, ⟨#[121]⟩] := by
  unfold varF
  rw [if_pos lv_chk, lv_fre]
theorem lv_badc : chkF (andF [lvF]) = 1 := by
  unfold chkF
  rw [lv_bad]
  rfl
theorem lgT_x (s : ByteArray) (h : s.size ≤ 281474976710656) : lgT (xT s) := by
  rw [lgT_eq]
  exact ⟨h, by show (⟨#[]⟩ : ByteArray).size ≤ _; decide, by show 0 * 88 ≤ _; decide, by show lgTs []; rw [lgTs_nil]; trivial⟩
theorem lgF_p : lgF (pF [⟨#[120]⟩, ⟨#[121]⟩]) := by
  rw [lgF_eq]
  refine ⟨by decide, ⟨by decide, fun s hs => by cases hs⟩, ⟨by decide, ?_⟩, ⟨by decide, by show lgFs []; rw [lgFs_nil]; trivial⟩, ⟨by decide, by show lgRs []; rw [lgRs_nil]; trivial⟩⟩
  show lgTs [xT ⟨#[120]⟩, xT ⟨#[121]⟩]
  rw [lgTs_cons, lgTs_cons, lgTs_nil]
  exact ⟨lgT_x _ (by decide), lgT_x _ (by decide), trivial⟩
theorem lgF_l : lgF lsF := by
  rw [lgF_eq]
  refine ⟨by decide, ⟨by decide, fun s hs => by cases hs⟩, ⟨by decide, ?_⟩, ⟨by decide, by show lgFs []; rw [lgFs_nil]; trivial⟩, ⟨by decide, by show lgRs []; rw [lgRs_nil]; trivial⟩⟩
  show lgTs [xT ⟨#[120]⟩, cT3]
  rw [lgTs_cons, lgTs_cons, lgTs_nil]
  refine ⟨lgT_x _ (by decide), ?_, trivial⟩
  rw [lgT_eq]
  exact ⟨by decide, by decide, by decide, by show lgTs []; rw [lgTs_nil]; trivial⟩
theorem lv_lg : lgF lvF := by
  rw [lgF_eq]
  refine ⟨by decide, ⟨by decide, fun s hs => by cases hs⟩, ⟨by decide, by show lgTs []; rw [lgTs_nil]; trivial⟩, ⟨by decide, ?_⟩, ⟨by decide, by show lgRs []; rw [lgRs_nil]; trivial⟩⟩
  show lgFs [pF [⟨#[120]⟩, ⟨#[121]⟩], lsF]
  rw [lgFs_cons, lgFs_cons, lgFs_nil]
  exact ⟨lgF_p, lgF_l, trivial⟩

end Go.Proofs.YtfajjphfjilpnaaGreat

namespace Go.Proofs.YtfajjphfjilpnaaGreat
open Go.RowKit LX Go.Shelf
set_option linter.unusedVariables false

set_option maxRecDepth 100000 in
set_option maxHeartbeats 4000000 in
theorem same06_yes (A B : Value) (xs : List ByteArray) (w : World) (hA : NmsAt w A xs) (hB : NmsAt w B xs) : Calls Tryz.prog 16 #[A, B] w fun e w' => e = .returned (.bool true) ∧ Below w.heap.size w w' := by
  obtain ⟨p, c, rfl, lx, hc, HX0⟩ := hA.form
  obtain ⟨p', c', rfl, ly, hc', HY0⟩ := hB.form
  have HX : Hid (∀ i (hi : i < xs.length), ∃ b off, p = some ⟨b, off, none⟩ ∧ b < w.heap.size ∧ w.cell? ⟨b, off + i, none⟩ = some (.string xs[i])) := HX0
  have HY : Hid (∀ i (hi : i < xs.length), ∃ b off, p' = some ⟨b, off, none⟩ ∧ b < w.heap.size ∧ w.cell? ⟨b, off + i, none⟩ = some (.string xs[i])) := HY0
  clear HX0 HY0 hA hB ly
  obtain ⟨n, en⟩ : ∃ n : Nat, Hid (xs.length = n) := ⟨_, rfl⟩
  rw [en.out] at lx hc hc' ⊢
  go_enter Tryz.func16, Tryz.ntmps16
  go_wp2
  go_loopw [5] (fun i wr => ∃ k : Nat, k ≤ n ∧ i = .int .i64 k ∧ Below w.heap.size w wr) (fun i _ => n - (intOf i).toNat)
  case atStart => exact ⟨0, Nat.zero_le _, rfl, Below.refl _ _⟩
  case round =>
    obtain ⟨k, hk, rfl, hB⟩ := hrel
    by_cases hlt : k < n
    case neg =>
      have c2 : ¬ (k : Int) < n := by omega
      go_wp2
      go_ret
      exact ⟨rfl, hB⟩
    have hlt' : (k : Int) < n := by omega
    have kx : k < xs.length := by have := en.out; omega
    obtain ⟨b, off, rfl, hb, a0⟩ := HX.out k kx
    obtain ⟨b', off', rfl, hb', b0⟩ := HY.out k kx
    have a1 := (hB.cell (p := ⟨b, off + k, none⟩) hb).trans a0
    have b1 := (hB.cell (p := ⟨b', off' + k, none⟩) hb').trans b0
    clear a0 b0
    generalize xs[k] = X at *
    have hne : (!X.toList == X.toList) = false := by simp
    go_upto_region 6 with fail
    go_quiet (fail)
    go_wp2
    exact ⟨⟨k + 1, by omega, by go_num, bdrewA _ hB⟩, by simp [intOf]; omega⟩

theorem fms_two {W : World} {b : Nat} {f g : Fm} {q r : FQ} (hb : b < W.heap.size) (hq : QAt W (f, q)) (hr : QAt W (g, r)) (hc : FmC W b 0 f q.v q.t q.s q.r) (hd : FmC W b 10 g r.v r.t r.s r.r) : FmsAt W (.slice (some ⟨b, 0, none⟩) 2 2) [f, g] := by
  refine .row (b := b) (off := 0) (fs := [f, g]) (fun i => if i = 0 then q.v else r.v) (fun i => if i = 0 then q.t else r.t) (fun i => if i = 0 then q.s else r.s) (fun i => if i = 0 then q.r else r.r) (by simp) (by simp) hb ?_ ?_ ?_ ?_ ?_ <;> intro i hi
  · rcases i with _ | _ | i
    · exact hc
    · exact hd
    · simp at hi; omega
  · rcases i with _ | _ | i
    · exact hq.1
    · exact hr.1
    · simp at hi; omega
  · rcases i with _ | _ | i
    · exact hq.2.1
    · exact hr.2.1
    · simp at hi; omega
  · rcases i with _ | _ | i
    · exact hq.2.2.1
    · exact hr.2.2.1
    · simp at hi; omega
  · rcases i with _ | _ | i
    · exact hq.2.2.2
    · exact hr.2.2.2
    · simp at hi; omega
theorem nms_nil (W : World) : NmsAt W (.slice none 0 0) [] := ⟨by simp, none, 0, rfl, by simp, Or.inl rfl⟩

set_option maxRecDepth 100000 in
set_option maxHeartbeats 4000000 in
theorem both06_any (f g : Fm) (q r : FQ) (w : World) (hq : QAt w (f, q)) (hr : QAt w (g, r)) :
    Calls Tryz.prog 36 #[.agg #[.int .i64 f.k, .string f.nm, .int .i64 f.op, q.v, q.t, .int .i64 f.lo, .int .i64 f.hi, .bool f.opn, q.s, q.r], .agg #[.int .i64 g.k, .string g.nm, .int .i64 g.op, r.v, r.t, .int .i64 g.lo, .int .i64 g.hi, .bool g.opn, r.s, r.r]] w fun e w' => ∃ b, e = .returned (.agg #[.int .i64 8, .string ⟨#[]⟩, .int .i64 0, .slice none 0 0, .slice none 0 0, .int .i64 0, .int .i64 0, .bool false, .slice (some ⟨b, 0, none⟩) 2 2, .slice none 0 0]) ∧ QAt w' (andF [f, g], ⟨.slice none 0 0, .slice none 0 0, .slice (some ⟨b, 0, none⟩) 2 2, .slice none 0 0⟩) ∧ Below w.heap.size w w' := by
  have H : Hid (∀ (W : World) (b : Nat), Below w.heap.size w W → b < W.heap.size → FmC W b 0 f q.v q.t q.s q.r → FmC W b 10 g r.v r.t r.s r.r → QAt W (andF [f, g], ⟨.slice none 0 0, .slice none 0 0, .slice (some ⟨b, 0, none⟩) 2 2, .slice none 0 0⟩)) := fun W b hW hb h1 h2 => ⟨nms_nil W, .nil, fms_two hb (hq.below hW) (hr.below hW) h1 h2, .nil⟩
  obtain ⟨uv, ut, us, ur⟩ := q
  obtain ⟨uv', ut', us', ur'⟩ := r
  obtain ⟨h1, h2, h3, h4⟩ := hq
  obtain ⟨h1', h2', h3', h4'⟩ := hr
  dsimp only at h1 h2 h3 h4 h1' h2' h3' h4' H ⊢
  obtain ⟨-, pv, cv, rfl, -⟩ := h1
  obtain ⟨pt, ct, rfl, -⟩ := h2.form
  obtain ⟨ps, cs, rfl, -⟩ := h3.form
  obtain ⟨pr, cr, rfl, -⟩ := h4.form
  obtain ⟨-, pv', cv', rfl, -⟩ := h1'
  obtain ⟨pt', ct', rfl, -⟩ := h2'.form
  obtain ⟨ps', cs', rfl, -⟩ := h3'.form
  obtain ⟨pr', cr', rfl, -⟩ := h4'.form
  clear h2 h3 h4 h2' h3' h4'
  go_enter Tryz.func36, Tryz.ntmps36
  go_wp2
  refine bodyPost_ret (by simp [results, Tryz.results36, go_sem]; try rfl) rfl ?_
  refine ⟨_, rfl, H.out _ _ (by go_grown) (by first | (simp; done) | (simp; omega)) ?_ ?_, by go_grown⟩
  · refine ⟨?_, ?_, ?_, ?_, ?_, ?_, ?_, ?_, ?_, ?_⟩ <;> simp [go_sem]
  · refine ⟨?_, ?_, ?_, ?_, ?_, ?_, ?_, ?_, ?_, ?_⟩ <;> simp [go_sem]

end Go.Proofs.YtfajjphfjilpnaaGreat

namespace Go.Proofs.YtfajjphfjilpnaaGreat
open Go.RowKit LX Go.Shelf
set_option linter.unusedVariables false

theorem step_append_ownA {P : Program} {ops : Array Oper} {o : Oper} {a : Act} {w : World} {K : Act → World → Prop} {Q : Exit → Act → World → Prop} {E : Prop}
    (hg : o.guard = none) (s x : Operand) (t : TypeId) (ho : o.op = Op.call { callee := Callee.builtin Builtin.append, args := #[s, x], argTypes := #[t, t] })
    (base : Nat) (e : TypeId) (i : TypeInfo) (z : Value) (size bytes : Nat) (ht : P.underlying t = some (.slice e)) (hi : P.info? e = some i) (hz : i.zero = some z) (hsize : i.size = size) (hby : i.bytes = bytes) (hzs : z.cells.size = size) (hsz : 0 < size)
    (v : Value) (n : Nat) (xs : List Value) (hs : a.eval s = v) (hown : w.ownsRow base e size v n xs)
    (ad : Addr) (m c : Nat) (news : List Value) (hx : a.eval x = .slice (some ad) m c) (hl : news.length = m * size) (hnews : ∀ j u, news[j]? = some u → w.cell? (ad.add j) = some u) (h1 : ∀ u ∈ news, u.oneCell' = true)
    (h63 : n + m ≤ maxLen) (hbytes : (n + m) * bytes ≤ 140737488355328) (hbase : base ≤ w.heap.size)
    (h : ∀ v' w', w'.ownsRow base e size v' (n + m) (xs ++ news) → w.grownBy w' v.ownBlock → K (a.put o.dst v') w') :
    if Region.wanted o (yielded ops a.tmps) = true then Oper.wp P o a w K Q else E := by
  have hw : Region.wanted o (yielded ops a.tmps) = true := by simp [Region.wanted, hg]
  rw [if_pos hw]
  exact wp_append_own w s x t ho base e i z size bytes ht hi hz hsize hby hzs hsz v n xs hs hown ad m c news hx hl hnews h1 h63 hbytes hbase fun v' w' h2 h3 _ => h v' w' h2 h3

set_option maxRecDepth 100000 in
theorem x06_at (s : ByteArray) (w : World) : Calls Tryz.prog 38 #[.string s] w fun e w' => e = .returned (.agg #[.int .i64 1, .string s, .int .i64 0, .int .i64 0, .int .i64 0, .string ⟨#[]⟩, .slice none 0 0]) ∧ w' = w.alloc (.cells #[.int .i64 1, .string s, .int .i64 0, .int .i64 0, .int .i64 0, .string ⟨#[]⟩, .slice none 0 0] 39) := by
  go_enter Tryz.func38, Tryz.ntmps38
  go_wp2
  refine bodyPost_ret (by simp [results, Tryz.results38, go_sem]; try rfl) rfl ?_
  exact ⟨rfl, rfl⟩
/-- The variables, as terms with no parts. -/
def xPs (vs : List ByteArray) : List (Tm × Value) := vs.map fun s => (xT s, .slice none 0 0)
theorem xPs_fst (vs : List ByteArray) : (xPs vs).map Prod.fst = vs.map xT := by unfold xPs; rw [List.map_map]; rfl
theorem xPs_own {P : Nat → Prop} {w : World} {v : Value} {vs : List ByteArray} (hl : vs.length ≤ 9223372036854775807) (row : w.ownsRow 0 39 7 v vs.length (flatTm (xPs vs))) (pl : ∀ q, v.ownBlock = some q → P q) : TmsOwn P w v (vs.map xT) := by
  refine .mk (xPs vs) (xPs_fst vs) (by rw [List.length_map]; exact hl) (fun x hx => ?_) (by rw [List.length_map]; exact row) pl (fun x hx => ?_)
  · obtain ⟨s, -, rfl⟩ := List.mem_map.1 hx
    exact ⟨by show (-9223372036854775808 : Int) ≤ 0; decide, by show (0 : Int) ≤ 9223372036854775807; decide, by show (-9223372036854775808 : Int) ≤ 0; decide, by show (0 : Int) ≤ 9223372036854775807; decide⟩
  · obtain ⟨s, -, rfl⟩ := List.mem_map.1 hx
    exact TmsOwn.nil _ _

/-- A variable more behind the terms. -/
theorem p06_step {w wr w2 : World} {k c4 : Nat} {p4 : Option Addr} {v' : Value} {o1 o2 : Obj} {F G news : List Value}
    (hX : wr.heap[w.heap.size + 1]? = some (.cells #[.int .i64 3, .string ⟨#[112]⟩, .int .i64 0, .slice none 0 0, .slice p4 k c4, .int .i64 0, .int .i64 0, .bool false, .slice none 0 0, .slice none 0 0] 29 (0, 0))) (hZ : BoxF wr w.heap.size fm0 fq0) (hB : Below w.heap.size w wr) (hs : w.heap.size + 1 < wr.heap.size) (hs2 : w.heap.size ≤ wr.heap.size)
    (HK : ∀ q, (Value.slice p4 k c4).ownBlock = some q → w.heap.size + 2 ≤ q ∧ q < wr.heap.size) (hfl : G = F ++ news) (h2 : w2.ownsRow (w.heap.size + 2) 39 7 v' (k + 1) (F ++ news)) (h3 : ((wr.drew.alloc o1).alloc o2).grownBy w2 (Value.slice p4 k c4).ownBlock) :
    ∃ p5 c5, v' = .slice p5 (k + 1) c5 ∧ Hid ((w2.setCell ⟨w.heap.size + 1, 4, none⟩ (.slice p5 (k + 1) c5)).heap[w.heap.size + 1]? = some (.cells #[.int .i64 3, .string ⟨#[112]⟩, .int .i64 0, .slice none 0 0, .slice p5 (k + 1) c5, .int .i64 0, .int .i64 0, .bool false, .slice none 0 0, .slice none 0 0] 29 (0, 0))) ∧
      w2.cell? ⟨w.heap.size + 1, 4, none⟩ = some (.slice p4 k c4) ∧ w2.frozen? ⟨w.heap.size + 1, 4, none⟩ = false ∧ Hid (BoxF (w2.setCell ⟨w.heap.size + 1, 4, none⟩ (.slice p5 (k + 1) c5)) w.heap.size fm0 fq0) ∧ Hid (Below w.heap.size w (w2.setCell ⟨w.heap.size + 1, 4, none⟩ (.slice p5 (k + 1) c5))) ∧
      Hid ((w2.setCell ⟨w.heap.size + 1, 4, none⟩ (.slice p5 (k + 1) c5)).ownsRow (w.heap.size + 2) 39 7 (.slice p5 (k + 1) c5) (k + 1) G) := by
  have sz : ((wr.drew.alloc o1).alloc o2).heap.size = wr.heap.size + 1 + 1 := by rw [alloc_size, alloc_size]; rfl
  have blk : ∀ q, q < wr.heap.size → (Value.slice p4 k c4).ownBlock ≠ some q → w2.heap[q]? = wr.heap[q]? := fun q hq hne => ((h3.block q (by rw [sz]; omega) (fun h => hne h.symm)).trans (Below.heap_alloc _ _ q (by rw [alloc_size]; show q < wr.heap.size + 1; omega))).trans (Below.heap_alloc _ _ q hq)
  have n1 : (Value.slice p4 k c4).ownBlock ≠ some (w.heap.size + 1) := fun h => by have := HK _ h; omega
  have n0 : (Value.slice p4 k c4).ownBlock ≠ some w.heap.size := fun h => by have := HK _ h; omega
  have x1 := (blk (w.heap.size + 1) hs n1).trans hX
  have z1 := (blk w.heap.size (by omega) n0).trans hZ
  obtain ⟨p5, c5, rfl⟩ : ∃ p5 c5, v' = .slice p5 (k + 1) c5 := by
    obtain ⟨-, ⟨e, hn⟩ | ⟨g, cap, cur, e, -⟩⟩ := h2
    · omega
    · exact ⟨_, _, e⟩
  have hB2 : Below w.heap.size w w2 := Below.grown (((Below.drew hB).alloc hs2 _).alloc (by rw [alloc_size]; show w.heap.size ≤ wr.heap.size + 1; omega) _) h3 (by rw [sz]; omega) (fun q hq => by have := HK q hq; omega)
  refine ⟨p5, c5, rfl, set_heapB x1 (by simp), ?_, Lib.frozen_of_heap x1 4, (set_block (by omega)).trans z1, ?_, ?_⟩
  · rw [Lib.cell_of_heap x1]; rfl
  · exact hB2.setCell (p := ⟨w.heap.size + 1, 4, none⟩) (by show w.heap.size ≤ w.heap.size + 1; omega) _
  · unfold Hid
    rw [hfl]
    exact own_keepP h2 fun q hq _ => set_block (by have := (World.ownsRow.lt h2 q hq).1; omega)

set_option maxRecDepth 100000 in
set_option maxHeartbeats 8000000 in
theorem p06_any (V : Value) (vs : List ByteArray) (w : World) (hV : NmsAt w V vs) (lv : vs.length ≤ 1000000) :
    Calls Tryz.prog 37 #[V] w fun e w' => ∃ pt ct, e = .returned (.agg #[.int .i64 3, .string ⟨#[112]⟩, .int .i64 0, .slice none 0 0, .slice pt vs.length ct, .int .i64 0, .int .i64 0, .bool false, .slice none 0 0, .slice none 0 0]) ∧ TmsOwn (fun b => w.heap.size ≤ b) w' (.slice pt vs.length ct) (vs.map xT) ∧ Below w.heap.size w w' := by
  obtain ⟨i0, hi, hz0, hz1, hz2⟩ := info_parts inTmA
  obtain ⟨p, c, rfl, lx, hc, HX0⟩ := hV.form
  have HX : Hid (∀ i (hi : i < vs.length), ∃ b off, p = some ⟨b, off, none⟩ ∧ b < w.heap.size ∧ w.cell? ⟨b, off + i, none⟩ = some (.string vs[i])) := HX0
  clear HX0 hV
  obtain ⟨n, en⟩ : ∃ n : Nat, Hid (vs.length = n) := ⟨_, rfl⟩
  rw [en.out] at lx hc lv ⊢
  go_enter Tryz.func37, Tryz.ntmps37
  go_wp2
  go_loopw [4] (fun v wr => ∃ (k : Nat) (p4 : Option Addr) (c4 : Nat), k ≤ n ∧ v = .int .i64 k ∧ Hid (wr.heap[w.heap.size + 1]? = some (.cells #[.int .i64 3, .string ⟨#[112]⟩, .int .i64 0, .slice none 0 0, .slice p4 k c4, .int .i64 0, .int .i64 0, .bool false, .slice none 0 0, .slice none 0 0] 29 (0, 0))) ∧ Hid (BoxF wr w.heap.size fm0 fq0) ∧ Hid (wr.ownsRow (w.heap.size + 2) 39 7 (.slice p4 k c4) k (flatTm (xPs (vs.take k)))) ∧ Below w.heap.size w wr) (fun v _ => n - (intOf v).toNat)
  case atStart =>
    refine ⟨0, none, 0, Nat.zero_le _, rfl, ?_, ?_, ⟨rfl, .inl ⟨rfl, rfl⟩⟩, by go_grown⟩
    · have h := heap_allocA (w.alloc (Obj.cells #[.int .i64 0, .string ⟨#[]⟩, .int .i64 0, .slice none 0 0, .slice none 0 0, .int .i64 0, .int .i64 0, .bool false, .slice none 0 0, .slice none 0 0] 29)) (Obj.cells #[.int .i64 3, .string ⟨#[112]⟩, .int .i64 0, .slice none 0 0, .slice none 0 0, .int .i64 0, .int .i64 0, .bool false, .slice none 0 0, .slice none 0 0] 29)
      rw [alloc_size] at h
      exact h
    · exact (Below.heap_alloc _ _ _ (by rw [alloc_size]; omega)).trans (heap_allocA w _)
  case round =>
    obtain ⟨k, p4, c4, hk, rfl, hX, hZ, hO, hB⟩ := hrel
    have hzz : w.heap.size + 1 < wr.heap.size := (Array.getElem?_eq_some_iff.1 hX.out).1
    have hsz := hB.size
    by_cases hlt : k < n
    case neg =>
      have c2 : ¬ (k : Int) < n := by omega
      obtain rfl : k = n := by omega
      have hE : Hid (∀ W : World, (∀ q, w.heap.size + 2 ≤ q → W.heap[q]? = wr.heap[q]?) → TmsOwn (fun b => w.heap.size ≤ b) W (.slice p4 k c4) (vs.map xT)) := fun W hW => by
        have h := hO.out
        rw [List.take_of_length_le (by have := en.out; omega)] at h
        have h' := own_keepP (w' := W) h fun q hq _ => hW q (World.ownsRow.lt h q hq).1
        exact xPs_own (by have := en.out; omega) (by rw [en.out]; exact own_monoB h' (Nat.zero_le _)) (fun q hq => by have := (World.ownsRow.lt h q hq).1; omega)
      have e0 : wr.cell? ⟨w.heap.size + 1, 0, none⟩ = some (.int .i64 3) := by rw [Lib.cell_of_heap hX.out]; rfl
      have e1 : wr.cell? ⟨w.heap.size + 1, 1, none⟩ = some (.string ⟨#[112]⟩) := by rw [Lib.cell_of_heap hX.out]; rfl
      have e2 : wr.cell? ⟨w.heap.size + 1, 2, none⟩ = some (.int .i64 0) := by rw [Lib.cell_of_heap hX.out]; rfl
      have e3 : wr.cell? ⟨w.heap.size + 1, 3, none⟩ = some (.slice none 0 0) := by rw [Lib.cell_of_heap hX.out]; rfl
      have e4 : wr.cell? ⟨w.heap.size + 1, 4, none⟩ = some (.slice p4 k c4) := by rw [Lib.cell_of_heap hX.out]; rfl
      have e5 : wr.cell? ⟨w.heap.size + 1, 5, none⟩ = some (.int .i64 0) := by rw [Lib.cell_of_heap hX.out]; rfl
      have e6 : wr.cell? ⟨w.heap.size + 1, 6, none⟩ = some (.int .i64 0) := by rw [Lib.cell_of_heap hX.out]; rfl
      have e7 : wr.cell? ⟨w.heap.size + 1, 7, none⟩ = some (.bool false) := by rw [Lib.cell_of_heap hX.out]; rfl
      have e8 : wr.cell? ⟨w.heap.size + 1, 8, none⟩ = some (.slice none 0 0) := by rw [Lib.cell_of_heap hX.out]; rfl
      have e9 : wr.cell? ⟨w.heap.size + 1, 9, none⟩ = some (.slice none 0 0) := by rw [Lib.cell_of_heap hX.out]; rfl
      have z0 : wr.cell? ⟨w.heap.size, 0, none⟩ = some (.int .i64 0) := by have h := hZ.out; unfold BoxF at h; rw [Lib.cell_of_heap h]; rfl
      have zf0 : wr.frozen? ⟨w.heap.size, 0, none⟩ = false := BoxF.fz hZ.out 0
      have z1 : wr.cell? ⟨w.heap.size, 1, none⟩ = some (.string ⟨#[]⟩) := by have h := hZ.out; unfold BoxF at h; rw [Lib.cell_of_heap h]; rfl
      have zf1 : wr.frozen? ⟨w.heap.size, 1, none⟩ = false := BoxF.fz hZ.out 1
      have z2 : wr.cell? ⟨w.heap.size, 2, none⟩ = some (.int .i64 0) := by have h := hZ.out; unfold BoxF at h; rw [Lib.cell_of_heap h]; rfl
      have zf2 : wr.frozen? ⟨w.heap.size, 2, none⟩ = false := BoxF.fz hZ.out 2
      have z3 : wr.cell? ⟨w.heap.size, 3, none⟩ = some (.slice none 0 0) := by have h := hZ.out; unfold BoxF at h; rw [Lib.cell_of_heap h]; rfl
      have zf3 : wr.frozen? ⟨w.heap.size, 3, none⟩ = false := BoxF.fz hZ.out 3
      have z4 : wr.cell? ⟨w.heap.size, 4, none⟩ = some (.slice none 0 0) := by have h := hZ.out; unfold BoxF at h; rw [Lib.cell_of_heap h]; rfl
      have zf4 : wr.frozen? ⟨w.heap.size, 4, none⟩ = false := BoxF.fz hZ.out 4
      have z5 : wr.cell? ⟨w.heap.size, 5, none⟩ = some (.int .i64 0) := by have h := hZ.out; unfold BoxF at h; rw [Lib.cell_of_heap h]; rfl
      have zf5 : wr.frozen? ⟨w.heap.size, 5, none⟩ = false := BoxF.fz hZ.out 5
      have z6 : wr.cell? ⟨w.heap.size, 6, none⟩ = some (.int .i64 0) := by have h := hZ.out; unfold BoxF at h; rw [Lib.cell_of_heap h]; rfl
      have zf6 : wr.frozen? ⟨w.heap.size, 6, none⟩ = false := BoxF.fz hZ.out 6
      have z7 : wr.cell? ⟨w.heap.size, 7, none⟩ = some (.bool false) := by have h := hZ.out; unfold BoxF at h; rw [Lib.cell_of_heap h]; rfl
      have zf7 : wr.frozen? ⟨w.heap.size, 7, none⟩ = false := BoxF.fz hZ.out 7
      have z8 : wr.cell? ⟨w.heap.size, 8, none⟩ = some (.slice none 0 0) := by have h := hZ.out; unfold BoxF at h; rw [Lib.cell_of_heap h]; rfl
      have zf8 : wr.frozen? ⟨w.heap.size, 8, none⟩ = false := BoxF.fz hZ.out 8
      have z9 : wr.cell? ⟨w.heap.size, 9, none⟩ = some (.slice none 0 0) := by have h := hZ.out; unfold BoxF at h; rw [Lib.cell_of_heap h]; rfl
      have zf9 : wr.frozen? ⟨w.heap.size, 9, none⟩ = false := BoxF.fz hZ.out 9
      go_wp2
      refine bodyPost_ret (by simp [results, Tryz.results37, go_sem, z0, z1, z2, z3, z4, z5, z6, z7, z8, z9]; try rfl) rfl ?_
      refine ⟨p4, c4, rfl, hE.out _ fun q hq => ?_, hB.trans (by go_grown)⟩
      (repeat rw [set_block (by omega)])
    have hlt' : (k : Int) < n := by omega
    have kx : k < vs.length := by have := en.out; omega
    obtain ⟨b, off, rfl, hb, a0⟩ := HX.out k kx
    have a1 := (hB.cell (p := ⟨b, off + k, none⟩) hb).trans a0
    have hb2 : b ≠ w.heap.size + 1 := by omega
    have hbr : b < wr.heap.size := by omega
    have e4 : wr.cell? ⟨w.heap.size + 1, 4, none⟩ = some (.slice p4 k c4) := by rw [Lib.cell_of_heap hX.out]; rfl
    have f4 : wr.frozen? ⟨w.heap.size + 1, 4, none⟩ = false := Lib.frozen_of_heap hX.out 4
    have hfl : Hid (flatTm (xPs (vs.take (k + 1))) = flatTm (xPs (vs.take k)) ++ [.int .i64 1, .string vs[k], .int .i64 0, .int .i64 0, .int .i64 0, .string ⟨#[]⟩, .slice none 0 0]) := by
      unfold Hid
      rw [List.take_succ_eq_append_getElem kx]
      unfold xPs
      rw [List.map_append, flatTm_append]
      rfl
    clear a0
    generalize vs[k] = X at *
    have HKq : Hid (∀ q, (Value.slice p4 k c4).ownBlock = some q → w.heap.size + 2 ≤ q ∧ q < wr.heap.size) := fun q hq => World.ownsRow.lt hO.out q hq
    go_upto_region 5 with fail
    have hO2 : Hid (∀ o1 o2, ((wr.drew.alloc o1).alloc o2).ownsRow (w.heap.size + 2) 39 7 (.slice p4 k c4) k (flatTm (xPs (vs.take k)))) := fun o1 o2 => World.ownsRow.alloc (World.ownsRow.alloc (World.ownsRow.drew hO.out) _) _
    have hsz9 : ∀ o1 o2, w.heap.size + 2 ≤ ((wr.drew.alloc o1).alloc o2).heap.size := fun o1 o2 => by
      rw [alloc_size, alloc_size]
      show w.heap.size + 2 ≤ wr.heap.size + 1 + 1
      omega
    have hne1 : w.heap.size < wr.heap.size := by omega
    have hne2 : w.heap.size ≠ wr.heap.size := by omega
    have hne3 : w.heap.size + 1 ≠ wr.heap.size := by omega
    have hml : k + 1 ≤ maxLen := by unfold maxLen; omega
    have hby : (k + 1) * 88 ≤ 140737488355328 := by omega
    have hone : ∀ u ∈ ([.int .i64 1, .string X, .int .i64 0, .int .i64 0, .int .i64 0, .string ⟨#[]⟩, .slice none 0 0] : List Value), u.oneCell' = true := by intro u hu; simp at hu; rcases hu with rfl | rfl | rfl | rfl | rfl | rfl | rfl <;> rfl
    go_region_law (first
      | (go_simp; go_at_call 38; refine (x06_at X _).mono ?_; rintro e w9 ⟨rfl, rfl⟩)
      | (refine step_append_ownA rfl (.tmp 13) (.tmp 19) 23 rfl (w.heap.size + 2) 39 i0 (.agg #[.int .i64 0, .string ByteArray.empty, .int .i64 0, .int .i64 0, .int .i64 0, .string ByteArray.empty, .slice none 0 0]) 7 88 Tryz.underlying23 hi hz0 hz1 hz2 rfl (by decide) (.slice p4 k c4) k (flatTm (xPs (vs.take k))) ?a1 (hO2.out _ _) ⟨wr.heap.size + 1, 0, none⟩ 1 1 [.int .i64 1, .string X, .int .i64 0, .int .i64 0, .int .i64 0, .string ⟨#[]⟩, .slice none 0 0] ?a2 rfl ?a3 hone hml hby (hsz9 _ _) (fun v' w2 h2 h3 => ?_)
         case a1 => simp [Act.eval]
         case a2 => simp [Act.eval]
         case a3 => (intro j u hj; rw [Addr.add_lit]; (rcases j with _ | _ | _ | _ | _ | _ | _ | j) <;> simp at hj <;> subst hj <;> simp (maxDischargeDepth := 12) [go_sem])
         obtain ⟨p5, c5, rfl, hX5, e5, f5, hZ5, hB5, hO5⟩ := p06_step hX.out hZ.out hB hzz hsz HKq.out hfl.out h2 h3
         clear h2 h3))
    all_goals
      go_wp2
      exact ⟨⟨k + 1, p5, c5, by omega, by go_num, hX5, hZ5, hO5, hB5.out⟩, by simp [intOf]; omega⟩

end Go.Proofs.YtfajjphfjilpnaaGreat

namespace Go.Proofs.YtfajjphfjilpnaaGreat
open Go.RowKit LX Go.Shelf
set_option linter.unusedVariables false

theorem wpL_world {P : Program} {c : Code} {Q : Exit → Act → World → Prop} {a : Act} {w : World} (h : ∀ W, W = w → c.wp P Q a W) : c.wp P Q a w := h w rfl
theorem bclL {n : Nat} {W0 wx : World} (h : Below n W0 wx) {a : Addr} {v : Value} (hv : W0.cell? a = some v) (ha : a.block < n) : wx.cell? a = some v := (h.cell ha).trans hv
theorem nms_two {W : World} {b : Nat} {x y : ByteArray} (hb : b < W.heap.size) (h0 : W.cell? ⟨b, 0, none⟩ = some (.string x)) (h1 : W.cell? ⟨b, 1, none⟩ = some (.string y)) : NmsAt W (.slice (some ⟨b, 0, none⟩) 2 2) [x, y] := by
  refine ⟨by simp, _, _, rfl, by simp, Or.inr ⟨b, 0, rfl, hb, fun i hi => ?_⟩⟩
  rcases i with _ | _ | i
  · exact h0
  · exact h1
  · simp at hi; omega
theorem tms_two {W : World} {b : Nat} {s t : Tm} {u v : Value} (hb : b < W.heap.size) (hf : s.v.Fits) (hg : t.v.Fits) (hs : TmsAt W u s.subs) (ht : TmsAt W v t.subs) (hc : TmC W b 0 s u) (hd : TmC W b 7 t v) : TmsAt W (.slice (some ⟨b, 0, none⟩) 2 2) [s, t] := by
  refine .row (b := b) (off := 0) (ts := [s, t]) (fun i => if i = 0 then u else v) (by simp) ?_ (by simp) hb ?_ ?_ <;> intro i hi
  · rcases i with _ | _ | i
    · exact hf
    · exact hg
    · simp at hi; omega
  · rcases i with _ | _ | i
    · exact hc
    · exact hd
    · simp at hi; omega
  · rcases i with _ | _ | i
    · exact hs
    · exact ht
    · simp at hi; omega
theorem pth_one {W : World} {b : Nat} {n : Int} (hb : b < W.heap.size) (h0 : W.cell? ⟨b, 0, none⟩ = some (.int .i64 n)) : PthAt W (.slice (some ⟨b, 0, none⟩) 1 1) [n] := by
  refine ⟨by simp, _, _, rfl, by simp, fun i hi => ⟨b, 0, rfl, hb, ?_⟩⟩
  rcases i with _ | i
  · exact h0
  · simp at hi
theorem fits_0 (s : ByteArray) : (xT s).v.Fits := ⟨by show (-9223372036854775808 : Int) ≤ 0; decide, by show (0 : Int) ≤ 9223372036854775807; decide, by show (-9223372036854775808 : Int) ≤ 0; decide, by show (0 : Int) ≤ 9223372036854775807; decide⟩
theorem fits_3 : cT3.v.Fits := ⟨by show (-9223372036854775808 : Int) ≤ 3; decide, by show (3 : Int) ≤ 9223372036854775807; decide, by show (-9223372036854775808 : Int) ≤ 0; decide, by show (0 : Int) ≤ 9223372036854775807; decide⟩
theorem qat_forms {W : World} {f : Fm} {q : FQ} (h : QAt W (f, q)) : ∃ qv dv qt dt qs ds qr dr, q = ⟨.slice qv f.vars.length dv, .slice qt f.terms.length dt, .slice qs f.subs.length ds, .slice qr f.rgx.length dr⟩ := by
  obtain ⟨v1, v2, v3, v4⟩ := q
  obtain ⟨x1, x2, x3, x4⟩ := h
  dsimp only at x1 x2 x3 x4
  obtain ⟨qv, dv, rfl, -⟩ := x1.form
  obtain ⟨qt, dt, rfl, -⟩ := x2.form
  obtain ⟨qs, ds, rfl, -⟩ := x3.form
  obtain ⟨qr, dr, rfl, -⟩ := x4.form
  exact ⟨qv, dv, qt, dt, qs, ds, qr, dr, rfl⟩
/-- live's formula, its parts at a block. -/
def LvAt (W : World) (b : Nat) : Prop := QAt W (lvF, ⟨.slice none 0 0, .slice none 0 0, .slice (some ⟨b, 0, none⟩) 2 2, .slice none 0 0⟩)
theorem LvAt.below {W W' : World} {b : Nat} (h : LvAt W b) (hb : Below W.heap.size W W') : LvAt W' b := QAt.below h hb

theorem lv_part0 (W : World) (b bp : Nat) (h : LvAt W b) (hb : bp < W.heap.size) (h0 : W.cell? ⟨bp, 0, none⟩ = some (.int .i64 0)) : Calls Tryz.prog 17 #[.agg #[.int .i64 8, .string ⟨#[]⟩, .int .i64 0, .slice none 0 0, .slice none 0 0, .int .i64 0, .int .i64 0, .bool false, .slice (some ⟨b, 0, none⟩) 2 2, .slice none 0 0], .slice (some ⟨bp, 0, none⟩) 1 1] W fun e w' => ∃ qv dv qt dt qs ds qr dr, e = .returned (.tuple #[.agg #[.int .i64 3, .string ⟨#[112]⟩, .int .i64 0, .slice qv 0 dv, .slice qt 2 dt, .int .i64 0, .int .i64 0, .bool false, .slice qs 0 ds, .slice qr 0 dr], .int .i64 0]) ∧ QAt w' (pF [⟨#[120]⟩, ⟨#[121]⟩], ⟨.slice qv 0 dv, .slice qt 2 dt, .slice qs 0 ds, .slice qr 0 dr⟩) ∧ Below W.heap.size W w' :=
  (part_fm lvF ⟨.slice none 0 0, .slice none 0 0, .slice (some ⟨b, 0, none⟩) 2 2, .slice none 0 0⟩ W h _ [0] (pth_one hb h0) lv_lg).mono fun e w' ⟨h1, h2⟩ => by
    rcases h2 with ⟨h3, -⟩ | ⟨-, h3, -⟩ | ⟨-, g, q, h3, h4, h5⟩
    · exact absurd lv_chk h3
    · rw [lv_part] at h3; cases h3
    · rw [lv_part] at h3
      injection h3 with h3
      subst h3
      obtain ⟨qv, dv, qt, dt, qs, ds, qr, dr, rfl⟩ := qat_forms h5.at
      exact ⟨qv, dv, qt, dt, qs, ds, qr, dr, h4, h5.at, h1⟩
theorem lv_part2 (W : World) (b bp : Nat) (h : LvAt W b) (hb : bp < W.heap.size) (h0 : W.cell? ⟨bp, 0, none⟩ = some (.int .i64 2)) : Calls Tryz.prog 17 #[.agg #[.int .i64 8, .string ⟨#[]⟩, .int .i64 0, .slice none 0 0, .slice none 0 0, .int .i64 0, .int .i64 0, .bool false, .slice (some ⟨b, 0, none⟩) 2 2, .slice none 0 0], .slice (some ⟨bp, 0, none⟩) 1 1] W fun e w' => e = .returned (.tuple #[.agg #[.int .i64 0, .string ⟨#[]⟩, .int .i64 0, .slice none 0 0, .slice none 0 0, .int .i64 0, .int .i64 0, .bool false, .slice none 0 0, .slice none 0 0], .int .i64 5]) ∧ Below W.heap.size W w' :=
  (part_fm lvF ⟨.slice none 0 0, .slice none 0 0, .slice (some ⟨b, 0, none⟩) 2 2, .slice none 0 0⟩ W h _ [2] (pth_one hb h0) lv_lg).mono fun e w' ⟨h1, h2⟩ => by
    rcases h2 with ⟨h3, -⟩ | ⟨-, h3, h4⟩ | ⟨-, g, q, h3, h4, h5⟩
    · exact absurd lv_chk h3
    · exact ⟨h4, h1⟩
    · rw [lv_none] at h3; cases h3
theorem lv_check (W : World) (b : Nat) (h : LvAt W b) : Calls Tryz.prog 8 #[.agg #[.int .i64 8, .string ⟨#[]⟩, .int .i64 0, .slice none 0 0, .slice none 0 0, .int .i64 0, .int .i64 0, .bool false, .slice (some ⟨b, 0, none⟩) 2 2, .slice none 0 0]] W fun e w' => e = .returned (.int .i64 0) ∧ Below W.heap.size W w' :=
  (check_fm lvF ⟨.slice none 0 0, .slice none 0 0, .slice (some ⟨b, 0, none⟩) 2 2, .slice none 0 0⟩ W h).mono fun e w' ⟨h1, h2⟩ => ⟨by rw [h1, lv_chk], h2⟩
theorem lv_checkb (W : World) (b : Nat) (h : QAt W (andF [lvF], ⟨.slice none 0 0, .slice none 0 0, .slice (some ⟨b, 0, none⟩) 1 1, .slice none 0 0⟩)) : Calls Tryz.prog 8 #[.agg #[.int .i64 8, .string ⟨#[]⟩, .int .i64 0, .slice none 0 0, .slice none 0 0, .int .i64 0, .int .i64 0, .bool false, .slice (some ⟨b, 0, none⟩) 1 1, .slice none 0 0]] W fun e w' => e = .returned (.int .i64 1) ∧ Below W.heap.size W w' :=
  (check_fm (andF [lvF]) ⟨.slice none 0 0, .slice none 0 0, .slice (some ⟨b, 0, none⟩) 1 1, .slice none 0 0⟩ W h).mono fun e w' ⟨h1, h2⟩ => ⟨by rw [h1, lv_badc], h2⟩
theorem lv_tvars (W : World) (b : Nat) (h : TmsAt W (.slice (some ⟨b, 0, none⟩) 2 2) [xT ⟨#[98]⟩, xT ⟨#[97]⟩]) : Calls Tryz.prog 14 #[.agg #[.int .i64 3, .string ⟨#[]⟩, .int .i64 0, .int .i64 0, .int .i64 0, .string ⟨#[]⟩, .slice (some ⟨b, 0, none⟩) 2 2]] W fun e w' => ∃ p c, e = .returned (.slice p 2 c) ∧ NmsAt w' (.slice p 2 c) [⟨#[97]⟩, ⟨#[98]⟩] ∧ Below W.heap.size W w' :=
  (tvars_any adT (.slice (some ⟨b, 0, none⟩) 2 2) W h (fits_0 ⟨#[]⟩) (by rw [lv_tv]; decide) (by rw [lv_tvu]; decide)).mono fun e w' ⟨v, h1, h2, h3⟩ => by
    rw [lv_tvu] at h2
    have h4 := h2.nms (by decide)
    obtain ⟨p, c, rfl, -⟩ := h4.form
    exact ⟨p, c, h1, h4, h3⟩
theorem lv_free (W : World) (b : Nat) (h : LvAt W b) : Calls Tryz.prog 12 #[.agg #[.int .i64 8, .string ⟨#[]⟩, .int .i64 0, .slice none 0 0, .slice none 0 0, .int .i64 0, .int .i64 0, .bool false, .slice (some ⟨b, 0, none⟩) 2 2, .slice none 0 0]] W fun e w' => ∃ p c, e = .returned (.slice p 2 c) ∧ NmsAt w' (.slice p 2 c) [⟨#[120]⟩, ⟨#[121]⟩] ∧ Below W.heap.size W w' :=
  (free_fm lvF ⟨.slice none 0 0, .slice none 0 0, .slice (some ⟨b, 0, none⟩) 2 2, .slice none 0 0⟩ W h (by rw [lv_var]; decide)).mono fun e w' ⟨v, h1, h2, h3⟩ => by
    rw [lv_var] at h2
    have h4 := h2.nms (by decide)
    obtain ⟨p, c, rfl, -⟩ := h4.form
    exact ⟨p, c, h1, h4, h3⟩
theorem lv_nodes (W : World) (b : Nat) (h : LvAt W b) : Calls Tryz.prog 22 #[.agg #[.int .i64 8, .string ⟨#[]⟩, .int .i64 0, .slice none 0 0, .slice none 0 0, .int .i64 0, .int .i64 0, .bool false, .slice (some ⟨b, 0, none⟩) 2 2, .slice none 0 0]] W fun e w' => e = .returned (.int .i64 7) ∧ Below W.heap.size W w' :=
  (nodes_fm lvF ⟨.slice none 0 0, .slice none 0 0, .slice (some ⟨b, 0, none⟩) 2 2, .slice none 0 0⟩ W h).mono fun e w' ⟨h1, h2⟩ => ⟨by rw [h1, lv_siz], h2⟩
theorem lv_depth (W : World) (b : Nat) (h : LvAt W b) : Calls Tryz.prog 23 #[.agg #[.int .i64 8, .string ⟨#[]⟩, .int .i64 0, .slice none 0 0, .slice none 0 0, .int .i64 0, .int .i64 0, .bool false, .slice (some ⟨b, 0, none⟩) 2 2, .slice none 0 0]] W fun e w' => e = .returned (.int .i64 3) ∧ Below W.heap.size W w' :=
  (depth_fm lvF ⟨.slice none 0 0, .slice none 0 0, .slice (some ⟨b, 0, none⟩) 2 2, .slice none 0 0⟩ W h).mono fun e w' ⟨h1, h2⟩ => ⟨by rw [h1, lv_siz], h2⟩
theorem lv_clone (W : World) (b : Nat) (h : LvAt W b) : Calls Tryz.prog 7 #[.agg #[.int .i64 8, .string ⟨#[]⟩, .int .i64 0, .slice none 0 0, .slice none 0 0, .int .i64 0, .int .i64 0, .bool false, .slice (some ⟨b, 0, none⟩) 2 2, .slice none 0 0]] W fun e w' => ∃ qv dv qt dt qs ds qr dr, e = .returned (.agg #[.int .i64 8, .string ⟨#[]⟩, .int .i64 0, .slice qv 0 dv, .slice qt 0 dt, .int .i64 0, .int .i64 0, .bool false, .slice qs 2 ds, .slice qr 0 dr]) ∧ QAt w' (lvF, ⟨.slice qv 0 dv, .slice qt 0 dt, .slice qs 2 ds, .slice qr 0 dr⟩) ∧ Below W.heap.size W w' :=
  (clone_fm lvF ⟨.slice none 0 0, .slice none 0 0, .slice (some ⟨b, 0, none⟩) 2 2, .slice none 0 0⟩ W h lv_lg).mono fun e w' ⟨q, h1, h2, h3⟩ => by
    obtain ⟨qv, dv, qt, dt, qs, ds, qr, dr, rfl⟩ := qat_forms h2.at
    exact ⟨qv, dv, qt, dt, qs, ds, qr, dr, h1, h2.at, h3⟩
theorem lv_p (W : World) (b : Nat) (hb : b < W.heap.size) (h0 : W.cell? ⟨b, 0, none⟩ = some (.string ⟨#[120]⟩)) (h1 : W.cell? ⟨b, 1, none⟩ = some (.string ⟨#[121]⟩)) : Calls Tryz.prog 37 #[.slice (some ⟨b, 0, none⟩) 2 2] W fun e w' => ∃ pt ct, e = .returned (.agg #[.int .i64 3, .string ⟨#[112]⟩, .int .i64 0, .slice none 0 0, .slice pt 2 ct, .int .i64 0, .int .i64 0, .bool false, .slice none 0 0, .slice none 0 0]) ∧ QAt w' (pF [⟨#[120]⟩, ⟨#[121]⟩], ⟨.slice none 0 0, .slice pt 2 ct, .slice none 0 0, .slice none 0 0⟩) ∧ Below W.heap.size W w' :=
  (p06_any _ [⟨#[120]⟩, ⟨#[121]⟩] W (nms_two hb h0 h1) (by decide)).mono fun e w' ⟨pt, ct, h1, h2, h3⟩ => ⟨pt, ct, h1, ⟨nms_nil _, h2.at, .nil, .nil⟩, h3⟩
theorem lv_sameg (W : World) (pt : Option Addr) (ct : Nat) {qv qt qs qr : Option Addr} {dv dt ds dr : Nat} (h : QAt W (pF [⟨#[120]⟩, ⟨#[121]⟩], ⟨.slice qv 0 dv, .slice qt 2 dt, .slice qs 0 ds, .slice qr 0 dr⟩)) (h' : QAt W (pF [⟨#[120]⟩, ⟨#[121]⟩], ⟨.slice none 0 0, .slice pt 2 ct, .slice none 0 0, .slice none 0 0⟩)) : Calls Tryz.prog 39 #[.agg #[.int .i64 3, .string ⟨#[112]⟩, .int .i64 0, .slice qv 0 dv, .slice qt 2 dt, .int .i64 0, .int .i64 0, .bool false, .slice qs 0 ds, .slice qr 0 dr], .agg #[.int .i64 3, .string ⟨#[112]⟩, .int .i64 0, .slice none 0 0, .slice pt 2 ct, .int .i64 0, .int .i64 0, .bool false, .slice none 0 0, .slice none 0 0]] W fun e w' => e = .returned (.bool true) ∧ Below W.heap.size W w' :=
  (same_fm (pF [⟨#[120]⟩, ⟨#[121]⟩]) (pF [⟨#[120]⟩, ⟨#[121]⟩]) ⟨.slice qv 0 dv, .slice qt 2 dt, .slice qs 0 ds, .slice qr 0 dr⟩ ⟨.slice none 0 0, .slice pt 2 ct, .slice none 0 0, .slice none 0 0⟩ W h h').mono fun e w' ⟨h1, h2⟩ => ⟨by rw [h1, lv_sameP], h2⟩
theorem lv_samec (W : World) (b : Nat) {qv qt qs qr : Option Addr} {dv dt ds dr : Nat} (h : QAt W (lvF, ⟨.slice qv 0 dv, .slice qt 0 dt, .slice qs 2 ds, .slice qr 0 dr⟩)) (h' : LvAt W b) : Calls Tryz.prog 39 #[.agg #[.int .i64 8, .string ⟨#[]⟩, .int .i64 0, .slice qv 0 dv, .slice qt 0 dt, .int .i64 0, .int .i64 0, .bool false, .slice qs 2 ds, .slice qr 0 dr], .agg #[.int .i64 8, .string ⟨#[]⟩, .int .i64 0, .slice none 0 0, .slice none 0 0, .int .i64 0, .int .i64 0, .bool false, .slice (some ⟨b, 0, none⟩) 2 2, .slice none 0 0]] W fun e w' => e = .returned (.bool true) ∧ Below W.heap.size W w' :=
  (same_fm lvF lvF ⟨.slice qv 0 dv, .slice qt 0 dt, .slice qs 2 ds, .slice qr 0 dr⟩ ⟨.slice none 0 0, .slice none 0 0, .slice (some ⟨b, 0, none⟩) 2 2, .slice none 0 0⟩ W h h').mono fun e w' ⟨h1, h2⟩ => ⟨by rw [h1, lv_same], h2⟩
theorem lv_both (W : World) (pt : Option Addr) (ct bt : Nat) (h : QAt W (pF [⟨#[120]⟩, ⟨#[121]⟩], ⟨.slice none 0 0, .slice pt 2 ct, .slice none 0 0, .slice none 0 0⟩)) (ht : TmsAt W (.slice (some ⟨bt, 0, none⟩) 2 2) [xT ⟨#[120]⟩, cT3]) :
    Calls Tryz.prog 36 #[.agg #[.int .i64 3, .string ⟨#[112]⟩, .int .i64 0, .slice none 0 0, .slice pt 2 ct, .int .i64 0, .int .i64 0, .bool false, .slice none 0 0, .slice none 0 0], .agg #[.int .i64 5, .string ⟨#[]⟩, .int .i64 0, .slice none 0 0, .slice (some ⟨bt, 0, none⟩) 2 2, .int .i64 0, .int .i64 0, .bool false, .slice none 0 0, .slice none 0 0]] W fun e w' => ∃ b, e = .returned (.agg #[.int .i64 8, .string ⟨#[]⟩, .int .i64 0, .slice none 0 0, .slice none 0 0, .int .i64 0, .int .i64 0, .bool false, .slice (some ⟨b, 0, none⟩) 2 2, .slice none 0 0]) ∧ LvAt w' b ∧ Below W.heap.size W w' :=
  both06_any (pF [⟨#[120]⟩, ⟨#[121]⟩]) lsF ⟨.slice none 0 0, .slice pt 2 ct, .slice none 0 0, .slice none 0 0⟩ ⟨.slice none 0 0, .slice (some ⟨bt, 0, none⟩) 2 2, .slice none 0 0, .slice none 0 0⟩ W h ⟨nms_nil _, ht, .nil, .nil⟩

end Go.Proofs.YtfajjphfjilpnaaGreat
