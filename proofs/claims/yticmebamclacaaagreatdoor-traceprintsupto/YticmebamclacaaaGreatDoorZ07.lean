/- The walk of the law TracePrints. -/
import Derived.Test.YticmebamclacaaaGreatDoorZ06
import Derived.Test.YticmebamclacaaaGreatDoorZ02
import Derived.Lib.SplitLaws
import Derived.WalkKit
import Derived.Handy
import Derived.Deep.RegionWith
import Derived.Test.YticmebamclacaaaGreatDoorZ04
import Derived.Laws.StructEq
import Derived.Test.YticmebamclacaaaGreatDoorZ03

namespace Go.Proofs.YticmebamclacaaaGreatDoor
open Go.RowKit LX Go.Shelf
set_option linter.unusedVariables false

/-- The cells of declarations of the call's own. -/
def DcC (B : Nat) (w : World) : List Dec → List Value → Prop
  | [], [] => True
  | e :: es, a :: b :: zs => a = .string e.name ∧ OwnK B b e.kinds w ∧ DcC B w es zs
  | _, _ => False
theorem DcC.snoc {B : Nat} {w : World} {es : List Dec} {zs : List Value} {e : Dec} {b : Value} (h : DcC B w es zs) (hb : OwnK B b e.kinds w) : DcC B w (es ++ [e]) (zs ++ [.string e.name, b]) := by
  induction es generalizing zs with
  | nil =>
    match zs, h with
    | [], _ => exact ⟨rfl, hb, trivial⟩
  | cons x es ih =>
    match zs, h with
    | a :: b' :: zs, h => exact ⟨h.1, h.2.1, ih h.2.2⟩
theorem DcC.mono {B : Nat} {w w' : World} (k : ∀ b xs, OwnK B b xs w → OwnK B b xs w') {es : List Dec} {zs : List Value} (h : DcC B w es zs) : DcC B w' es zs := by
  induction es generalizing zs with
  | nil =>
    match zs, h with
    | [], _ => trivial
  | cons x es ih =>
    match zs, h with
    | a :: b' :: zs, h => exact ⟨h.1, k _ _ h.2.1, ih h.2.2⟩
theorem DcC.get {B : Nat} {w : World} {es : List Dec} {zs : List Value} (h : DcC B w es zs) (i : Nat) (hi : i < es.length) : zs[i * 2]? = some (.string es[i].name) ∧ ∃ u, zs[i * 2 + 1]? = some u ∧ OwnK B u es[i].kinds w := by
  induction es generalizing zs i with
  | nil => simp at hi
  | cons x es ih =>
    match zs, h with
    | a :: b' :: zs, h =>
      cases i with
      | zero => exact ⟨by rw [h.1]; rfl, b', rfl, h.2.1⟩
      | succ i =>
        have g := ih h.2.2 i (by simpa using hi)
        rw [show (i + 1) * 2 = i * 2 + 2 by omega]
        exact g
theorem DcC.len {B : Nat} {w : World} {es : List Dec} {zs : List Value} (h : DcC B w es zs) : zs.length = es.length * 2 := by
  induction es generalizing zs with
  | nil =>
    match zs, h with
    | [], _ => rfl
  | cons x es ih =>
    match zs, h with
    | a :: b' :: zs, h => simp only [List.length_cons, ih h.2.2]; omega
/-- Declarations of the call's own. -/
def OwnG (B : Nat) (v : Value) (es : List Dec) (w : World) : Prop := ∃ zs, w.ownsRow B 40 2 v es.length zs ∧ DcC B w es zs
theorem OwnG.form {B : Nat} {v : Value} {es : List Dec} {w : World} (h : OwnG B v es w) : ∃ p c, v = .slice p es.length c := by
  obtain ⟨zs, ⟨-, ⟨e, hn⟩ | ⟨g, cap, cur, e, -⟩⟩, -⟩ := h
  · exact ⟨none, 0, by rw [e, hn]⟩
  · exact ⟨_, _, e⟩
theorem OwnG.at {B : Nat} {v : Value} {es : List Dec} {w : World} (h : OwnG B v es w) : SigAt w v es := by
  obtain ⟨zs, h, hc⟩ := h
  have h' := h
  obtain ⟨hl, ⟨e, hn⟩ | ⟨g, cap, cur, rfl, hg1, hg2, hg3, hg4⟩⟩ := h
  · exact ⟨none, 0, by rw [e, hn], by omega, Or.inl (List.length_eq_zero_iff.1 hn)⟩
  · refine ⟨_, _, rfl, by omega, Or.inr ⟨g, 0, rfl, (Array.getElem?_eq_some_iff.1 hg2).1, fun i hi => ?_⟩⟩
    obtain ⟨c0, u, c1, ho⟩ := hc.get i hi
    refine ⟨u, ?_, ?_, ho.at⟩
    · rw [Nat.zero_add, h'.cellAt _ (by omega)]; exact c0
    · rw [Nat.zero_add, h'.cellAt _ (by omega)]; exact c1
theorem OwnG.below {B : Nat} {v : Value} {es : List Dec} {w w' : World} (h : OwnG B v es w) (hb : Below w.heap.size w w') : OwnG B v es w' := by
  obtain ⟨zs, h, hc⟩ := h
  exact ⟨zs, own_belX h hb, hc.mono fun b xs k => own_belX k hb⟩

/-- One declaration more. -/
theorem sig_step {w2 w4 : World} {B : Nat} {v v' u : Value} {es : List Dec} {e : Dec} {zs : List Value} (h2 : B ≤ w2.heap.size) (ho : w2.ownsRow B 40 2 v es.length zs) (hc : DcC B w2 es zs) (hu : OwnK B u e.kinds w2)
    (h4 : w4.ownsRow B 40 2 v' (es.length + 1) (zs ++ [.string e.name, u])) (hg : w2.grownBy w4 v.ownBlock) : OwnG B v' (es ++ [e]) w4 := by
  refine ⟨zs ++ [.string e.name, u], by rw [List.length_append]; exact h4, ?_⟩
  have k : ∀ b xs, OwnK B b xs w2 → OwnK B b xs w4 := fun b xs hb => World.ownsRow.kept hb hg (own_ne2X hb ho (by decide))
  exact (hc.mono k).snoc (k _ _ hu)


theorem inD : (Tryz.prog.info? 40).map (fun i => (i.zero, i.size, i.bytes)) = some (some (.agg #[.string ⟨#[]⟩, .slice none 0 0]), 2, 40) := by kernel_rfl
/-- A signature, and a line's tokens: an error's number, or the declaration more. -/
def wdD (A : List Dec) : Option Dec → Int × List Dec
  | none => (70, [])
  | some d => if 6 < d.kinds.length ∨ A.length = 32 then (3, []) else if 0 ≤ findI d.name A 0 then (1, []) else (0, A ++ [d])
/-- What withDecl answers. -/
def WdOut (B : Nat) (w : World) (D : Int × List Dec) (r : Ending) (w' : World) : Prop := Below B w w' ∧ ∃ p c, r = .returned (.tuple #[.slice p D.2.length c, errV D.1]) ∧ OwnG B (.slice p D.2.length c) D.2 w'
theorem WdOut.no {B : Nat} {w w' : World} {D : Int × List Dec} {r : Ending} {E : Int} {v : Value} (hb : Below B w w') (h : D = (E, [])) (hv : v = errV E) (hr : r = .returned (.tuple #[.slice none 0 0, v])) : WdOut B w D r w' := by
  subst h hv
  exact ⟨hb, none, 0, hr, [], ⟨rfl, .inl ⟨rfl, rfl⟩⟩, trivial⟩
theorem WdOut.yes {B : Nat} {w w' : World} {D : Int × List Dec} {r : Ending} {es : List Dec} {p : Option Addr} {m c : Nat} (hb : Below B w w') (h : D = (0, es)) (hm : m = es.length) (ho : OwnG B (.slice p m c) es w') (hr : r = .returned (.tuple #[.slice p m c, .nilIface])) : WdOut B w D r w' := by
  subst h hm
  exact ⟨hb, p, c, hr, ho⟩

set_option maxRecDepth 100000 in
set_option maxHeartbeats 2000000 in
theorem wdecl_any (B : Nat) (A V : Value) (L : List Dec) (t : Tok Val) (l : List (Tok Val)) (w : World) (hB : B ≤ w.heap.size) (hA : OwnG B A L w) (hV : ToksAt w V (t :: l)) (lL : (t :: l).length ≤ 16384) (lA : L.length ≤ 32) :
    Calls Tryz.prog 56 #[A, V] w fun r w' => WdOut B w (wdD L (rdD (t :: l))) r w' := by
  have HA : Hid (OwnG B A L w) := hA
  have cR : Hid (Calls Tryz.prog 77 #[V] w fun r w' => DdOut w.heap.size w (t :: l) r w') := rddecl_any V t l w hV lL
  obtain ⟨i0, hi, hz0, hz1, hz2⟩ := info_parts inD
  obtain ⟨pa, ca, rfl⟩ := hA.form
  obtain ⟨pt, ct, rfl, -⟩ := hV.form
  clear hA hV lL
  generalize hO : rdD (t :: l) = O
  have HO : Hid (rdD (t :: l) = O) := hO
  clear hO
  obtain ⟨D, eD⟩ : ∃ D, Hid (wdD L O = D) := ⟨_, rfl⟩
  obtain ⟨m, em⟩ : ∃ m : Nat, Hid (L.length = m) := ⟨_, rfl⟩
  generalize (t :: l).length = nt at *
  rw [eD.out]
  rw [em.out] at HA lA ⊢
  go_enter Tryz.func56, Tryz.ntmps56
  go_wp2_with fail
  refine cR.out.mono ?_
  rintro r w1 ⟨hB1, ⟨hn, rfl⟩ | ⟨d, p, c, hsome, rfl, hown⟩⟩
  · have hE : Hid (D = (70, [])) := by rw [← eD.out, ← HO.out, hn]; rfl
    have K1 : Below B w w1 := hB1.mono hB
    clear cR hn HO eD
    go_wp2
    go_ret2
    exact WdOut.no (K1.alloc (Nat.le_trans hB hB1.size) _) hE.out rfl rfl
  · have hE0 : Hid (D = if 6 < d.kinds.length ∨ L.length = 32 then (3, []) else if 0 ≤ findI d.name L 0 then (1, []) else (0, L ++ [d])) := by rw [← eD.out, ← HO.out, hsome]; rfl
    have HA1 : Hid (OwnG B (.slice pa m ca) L w1) := HA.out.below hB1
    have HK1 : Hid (OwnK B (.slice p d.kinds.length c) d.kinds w1) := own_baseX hown (by omega)
    have K1 : Below B w w1 := hB1.mono hB
    have z1 : B ≤ w1.heap.size := Nat.le_trans hB hB1.size
    have cF : Hid (∀ W : World, Below w1.heap.size w1 W → Calls Tryz.prog 70 #[.slice pa m ca, .string d.name] W fun e' w' => e' = .returned (.int .i64 (findI d.name L 0)) ∧ Below W.heap.size W w') := fun W hW => find_any _ L d.name W (HA1.out.at.below hW) (by have := em.out; omega)
    clear cR hsome HO eD hown HA hB1
    obtain ⟨nk, enk⟩ : ∃ nk : Nat, Hid (d.kinds.length = nk) := ⟨_, rfl⟩
    obtain ⟨X, eX⟩ : ∃ X : ByteArray, Hid (d.name = X) := ⟨_, rfl⟩
    obtain ⟨I, eI⟩ : ∃ I : Int, Hid (findI X L 0 = I) := ⟨_, rfl⟩
    rw [enk.out, em.out, eX.out, eI.out] at hE0
    rw [eX.out, eI.out] at cF
    rw [enk.out] at HK1
    rw [enk.out, eX.out]
    by_cases h6 : 6 < nk
    · have hE : Hid (D = (3, [])) := by have h := hE0.out; rwa [if_pos (Or.inl h6)] at h
      have h6' : (6 : Int) < nk := by omega
      clear hE0 cF
      go_wp2
      go_ret2
      exact WdOut.no (K1.alloc z1 _) hE.out rfl rfl
    · have h6' : ¬ (6 : Int) < nk := by omega
      by_cases h32 : m = 32
      · have hE : Hid (D = (3, [])) := by have h := hE0.out; rwa [if_pos (Or.inr h32)] at h
        subst h32
        clear hE0 cF
        go_wp2
        go_ret2
        exact WdOut.no (K1.alloc z1 _) hE.out rfl rfl
      · have hE1 : Hid (D = if 0 ≤ I then (1, []) else (0, L ++ [d])) := by have h := hE0.out; rwa [if_neg (by omega)] at h
        have h32' : ((m : Int) == 32) = false := by simp; omega
        clear hE0
        go_wp2_with fail
        refine (cF.out _ (by go_grown)).mono ?_
        rintro e' w2 ⟨rfl, hb2⟩
        have d0 : w2.cell? ⟨w1.heap.size, 0, none⟩ = some (.string X) := (hb2.cell (p := ⟨w1.heap.size, 0, none⟩) (by simp)).trans (by simp [go_sem])
        have d1 : w2.cell? ⟨w1.heap.size, 1, none⟩ = some (.slice p nk c) := (hb2.cell (p := ⟨w1.heap.size, 1, none⟩) (by simp)).trans (by simp [go_sem])
        obtain ⟨hB2, -⟩ := bgX (n := w1.heap.size) (W0 := w1) (by go_grown) (by go_size) hb2
        have K2 : Below B w w2 := K1.trans (hB2.mono z1)
        have z2 : B ≤ w2.heap.size := Nat.le_trans z1 hB2.size
        have HA2 : Hid (OwnG B (.slice pa m ca) L w2) := HA1.out.below hB2
        have HK2 : Hid (OwnK B (.slice p nk c) d.kinds w2) := own_belX HK1.out hB2
        clear hb2 hB2 cF HA1 HK1
        by_cases hI : 0 ≤ I
        · have hE : Hid (D = (1, [])) := by have h := hE1.out; rwa [if_pos hI] at h
          clear hE1
          go_wp2
          go_ret2
          exact WdOut.no K2 hE.out rfl rfl
        · have hE : Hid (D = (0, L ++ [d])) := by have h := hE1.out; rwa [if_neg hI] at h
          have hI' : I < 0 := by omega
          clear hE1
          obtain ⟨zs, ho, hcc⟩ := HA2.out
          have HC2 : Hid (w2.ownsRow B 40 2 (.slice pa m ca) m zs) := by have h := ho; rwa [em.out] at h
          have HCC : Hid (DcC B w2 L zs) := hcc
          clear ho hcc HA2
          go_wp2_with (at_builtin; refine wpList_append_own _ rfl _ _ 28 rfl B 40 i0 (.agg #[.string ⟨#[]⟩, .slice none 0 0]) 2 40 Tryz.underlying28 hi hz0 hz1 hz2 rfl (by decide) _ _ _ rfl (World.ownsRow.alloc HC2.out _) ⟨w2.heap.size, 0, none⟩ 1 1 [.string X, .slice p nk c] rfl rfl ?c1 ?c2 ?c3 ?c4 ?c5 ?_)
          case c1 => (intro j u hj; rw [Addr.add_lit]; (rcases j with _ | _ | j) <;> simp at hj <;> subst hj <;> simp (maxDischargeDepth := 12) [go_sem])
          case c2 => (intro u hu; simp at hu; rcases hu with rfl | rfl <;> rfl)
          case c3 => unfold maxLen; omega
          case c4 => omega
          case c5 => simp; omega
          intro v' w4 hown' hgrow _
          have hA1 : Below B w (w2.alloc (.cells #[.string X, .slice p nk c] 40)) := K2.alloc z2 _
          have K4 : Below B w w4 := Below.grown hA1 hgrow (by simp; omega) (fun q hq => (World.ownsRow.lt HC2.out q hq).1)
          have HO4 : Hid (OwnG B v' (L ++ [d]) w4) := by
            refine sig_step (zs := zs) (u := .slice p nk c) (by simp; omega) (World.ownsRow.alloc (by rw [em.out]; exact HC2.out) _) (HCC.out.mono fun b xs k => World.ownsRow.alloc k _) (World.ownsRow.alloc HK2.out _) ?_ hgrow
            rw [em.out, eX.out]
            exact hown'
          clear hown' hgrow hA1 HC2 HCC HK2
          obtain ⟨pv, cv, rfl⟩ := HO4.out.form
          obtain ⟨n9, en9⟩ : ∃ n9 : Nat, Hid ((L ++ [d]).length = n9) := ⟨_, rfl⟩
          rw [en9.out] at HO4 ⊢
          go_wp2
          go_ret2
          exact WdOut.yes K4 hE.out en9.out.symm HO4.out rfl

end Go.Proofs.YticmebamclacaaaGreatDoor



namespace Go.Proofs.YticmebamclacaaaGreatDoor
open Go.RowKit Go.Shelf
set_option linter.unusedVariables false

theorem inS : (Tryz.prog.info? 9).map (fun i => (i.zero, i.size, i.bytes)) = some (some (.string ByteArray.empty), 1, 16) := by kernel_rfl
/-- The lines of a text. -/
def linesB (s : ByteArray) : List ByteArray := Lib.splitB ⟨#[10]⟩ 0 (Lib.countB s ⟨#[10]⟩) s
theorem linesB_len (s : ByteArray) : (linesB s).length = Lib.countB s ⟨#[10]⟩ + 1 := Lib.splitB_all ⟨#[10]⟩ (by decide) 0 _ s rfl

set_option maxHeartbeats 1000000 in
theorem lines_any (s : ByteArray) (w : World) (hs : s.size ≤ 16384) :
    Calls Tryz.prog 54 #[.string s, .string ⟨#[10]⟩] w fun e w' => e = .returned (.slice (some ⟨w.heap.size, 0, none⟩) (linesB s).length (linesB s).length) ∧ w' = w.alloc (.cells ((linesB s).map Value.string).toArray 9) := by
  have hlen := linesB_len s
  have hC : Calls Tryz.prog 102 #[.string s, .string ⟨#[10]⟩] w fun e w' => e = .returned (.int .i64 (Lib.countB s ⟨#[10]⟩)) ∧ w' = w := by
    refine (Tryz.strings_Count_one s 10 w).mono fun e w' ⟨he, hw⟩ => ⟨?_, hw⟩
    rw [he]
    show _ = Ending.returned (Value.int .i64 ((Lib.count s.data.toList [10] : Nat) : Int))
    rw [Lib.count_one]
    rfl
  have hI : ∀ (x : ByteArray) (c : Array Value), x.size ≤ s.size → Calls Tryz.prog 103 #[.string x, .string ⟨#[10]⟩] (w.alloc (.cells c 9)) fun e w' => e = .returned (.int .i64 (Lib.indexB x ⟨#[10]⟩)) ∧ w' = w.alloc (.cells c 9) := fun x c hx => by
    refine (Tryz.strings_Index_one x 10 _).mono fun e w' ⟨he, hw⟩ => ⟨?_, hw⟩
    rw [he]
    show _ = Ending.returned (Value.int .i64 (Lib.index x.data.toList [10]))
    rw [Lib.index_one]
  have hle := Lib.countB_le ⟨#[10]⟩ (by decide) s.size s (Nat.le_refl _)
  have c := Any.strings_genSplit_core Tryz.lays221 inS s ⟨#[10]⟩ 0 (-1) (Lib.countB s ⟨#[10]⟩ + 1) w (by omega) (by decide) (Nat.zero_le _) hI hC (by decide) (by decide) (by rw [if_pos (by decide)]; omega)
  rw [Nat.add_sub_cancel] at c
  have e2 : Lib.cellsOf (Lib.splitB ⟨#[10]⟩ 0 (Lib.countB s ⟨#[10]⟩) s) (Lib.countB s ⟨#[10]⟩ + 1) = ((linesB s).map Value.string).toArray := by rw [← hlen]; exact Lib.cellsOf_full _
  rw [e2] at c
  have c' : Hid (Calls Tryz.prog 75 #[.string s, .string ⟨#[10]⟩, .int .i64 0, .int .i64 (-1)] w fun e w' => e = .returned (.slice (some ⟨w.heap.size, 0, none⟩) (linesB s).length (linesB s).length) ∧ w' = w.alloc (.cells ((linesB s).map Value.string).toArray 9)) := by
    rw [hlen]
    have h := c
    rw [show (Lib.splitB ⟨#[10]⟩ 0 (Lib.countB s ⟨#[10]⟩) s).length = Lib.countB s ⟨#[10]⟩ + 1 from hlen] at h
    exact h
  clear c e2 hle hI hC hlen
  generalize (linesB s).length = n at c' ⊢
  generalize ((linesB s).map Value.string).toArray = cs at c' ⊢
  go_enter Tryz.func54, Tryz.ntmps54
  go_wp2_with fail
  refine c'.out.mono ?_
  rintro e w' ⟨rfl, rfl⟩
  clear c'
  go_wp2
  go_ret
  exact ⟨rfl, rfl⟩
end Go.Proofs.YticmebamclacaaaGreatDoor

namespace Go.Proofs.YticmebamclacaaaGreatDoor
open Go.RowKit LX Go.Shelf
set_option linter.unusedVariables false

theorem T_lenX (n : Nat) (l : List UInt8) (hn : l.length ≤ n) (p : Nat) : (T sdB l p).1.length ≤ l.length := by
  induction n generalizing l p with
  | zero =>
    have : l = [] := List.length_eq_zero_iff.mp (by omega)
    subst this
    simp [T_nil]
  | succ n ih =>
    rcases T_cases sdB l p with ⟨h1, h2⟩ | ⟨b, h1, h2, h2a, h2b, h3, h4⟩ | ⟨b, h1, h2, h2a, h2b, h3, h4⟩
    · rw [h2]; simp
    · rw [h4]
      have hle := beh_le _ h3.1
      simp only [List.length_drop] at hle
      have := ih (l.drop (b + (beh (l.drop b)).2)) (by simp; omega) (p + b + (beh (l.drop b)).2)
      simp only [List.length_drop] at this
      simp
      omega
    · rw [h4]; simp

/-- What events behind a time say; what tokens say; what a line says: an error's number, a time, events. -/
def rdM (n : Int) : Option (List Evt) → Int × Int × List Evt
  | none => (70, 0, [])
  | some es => if 64 < es.length then (3, 0, []) else (0, n, es)
def rdL : List (Tok Val) → Int × Int × List Evt
  | [] => (70, 0, [])
  | t :: L => if t.k = 7 then rdM t.v.n (rdEs (L.length + 1) [] L) else (70, 0, [])
def rdP (s : ByteArray) : Int × Int × List Evt := if cutE s = 0 then rdL (tks s) else (cutE s, 0, [])
/-- What readPoint answers; what ParsePoint answers. -/
def PtOut (N : Nat) (w : World) (D : Int × Int × List Evt) (r : Ending) (w' : World) : Prop := Below N w w' ∧ ∃ p c, r = .returned (.tuple #[.agg #[.int .i64 D.2.1, .slice p D.2.2.length c], errV D.1]) ∧ OwnE N (.slice p D.2.2.length c) D.2.2 w'
def PpOut (N : Nat) (w : World) (D : Int × Int × List Evt) (r : Ending) (w' : World) : Prop := Below N w w' ∧ ∃ p c, r = .returned (.tuple #[.agg #[.int .i64 D.2.1, .slice p D.2.2.length c], .int .i64 D.1]) ∧ OwnE N (.slice p D.2.2.length c) D.2.2 w'
theorem PtOut.no {N : Nat} {w w' : World} {D : Int × Int × List Evt} {r : Ending} {E : Int} {v : Value} (hb : Below N w w') (h : D = (E, 0, [])) (hv : v = errV E) (hr : r = .returned (.tuple #[.agg #[.int .i64 0, .slice none 0 0], v])) : PtOut N w D r w' := by
  subst h hv
  exact ⟨hb, none, 0, hr, [], ⟨rfl, .inl ⟨rfl, rfl⟩⟩, trivial⟩
theorem PtOut.yes {N : Nat} {w w' : World} {D : Int × Int × List Evt} {r : Ending} {t : Int} {es : List Evt} {p : Option Addr} {m c : Nat} (hb : Below N w w') (h : D = (0, t, es)) (hm : m = es.length) (hr : r = .returned (.tuple #[.agg #[.int .i64 t, .slice p m c], .nilIface])) (ho : OwnE N (.slice p m c) es w') : PtOut N w D r w' := by
  subst h hm
  exact ⟨hb, p, c, hr, ho⟩
theorem own_setE {w : World} {N : Nat} {v : Value} {es : List Evt} (h : OwnE N v es w) {a : Addr} (ha : a.block < N) (u : Value) : OwnE N v es (w.setCell a u) := by
  obtain ⟨zs, h1, h2⟩ := h
  exact ⟨zs, ownsRow_setCell_below h1 ha u, h2.mono fun b xs k => ownsRow_setCell_below k ha u⟩
theorem OwnE.base {N N' : Nat} {w : World} {v : Value} {es : List Evt} (h : OwnE N' v es w) (hN : N ≤ N') : OwnE N v es w := by
  obtain ⟨zs, h1, h2⟩ := h
  refine ⟨zs, own_baseX h1 hN, ?_⟩
  clear h1
  induction es generalizing zs with
  | nil =>
    match zs, h2 with
    | [], _ => trivial
  | cons x es ih =>
    match zs, h2 with
    | a :: b :: zs, h2 => exact ⟨h2.1, own_baseX h2.2.1 hN, ih zs h2.2.2⟩

set_option maxRecDepth 100000 in
set_option maxHeartbeats 8000000 in
theorem rdpt_any (s : ByteArray) (w : World) (ht : Pow w) (he : Errs w) (h8 : 9 ≤ w.heap.size) :
    Calls Tryz.prog 41 #[.string s] w fun r w' => PtOut w.heap.size w (rdP s) r w' := by
  have cC : Hid (∀ W : World, Below w.heap.size w W → Calls Tryz.prog 55 #[.string s] W fun r w' => ∃ p n c, r = .returned (.tuple #[.slice p n c, errV (cutE s)]) ∧ Below W.heap.size W w' ∧ (cutE s = 0 → ToksAt w' (.slice p n c) (tks s))) := fun W hW => cut_any s W (ht.below hW) (he.below hW h8) (Nat.le_trans h8 hW.size)
  have hD : Hid (rdP s = if cutE s = 0 then rdL (tks s) else (cutE s, 0, [])) := rfl
  have hTl : Hid (cutE s = 0 → (tks s).length ≤ 4096) := fun h => by
    unfold cutE at h
    have h1 : ¬ 4096 < s.size := fun hh => by rw [if_pos hh] at h; cases h
    have h2 := T_lenX s.data.toList.length s.data.toList (Nat.le_refl _) 0
    have h3 : s.data.toList.length = s.size := by simp
    unfold tks
    omega
  clear ht he h8
  generalize rdP s = D at *
  generalize cutE s = C at *
  generalize tks s = TL at *
  go_enter Tryz.func41, Tryz.ntmps41
  go_wp2_with fail
  refine (cC.out _ (by go_grown)).mono ?_
  rintro r w1 ⟨p, n, c, rfl, hb1, hT⟩
  have q0 : w1.cell? ⟨w.heap.size, 0, none⟩ = some (.int .i64 0) := (hb1.cell (p := ⟨w.heap.size, 0, none⟩) (by simp)).trans (by simp [go_sem])
  have q1 : w1.cell? ⟨w.heap.size, 1, none⟩ = some (.slice none 0 0) := (hb1.cell (p := ⟨w.heap.size, 1, none⟩) (by simp)).trans (by simp [go_sem])
  have f0 : w1.frozen? ⟨w.heap.size, 0, none⟩ = false := (hb1.frozen (p := ⟨w.heap.size, 0, none⟩) (by simp)).trans (by simp [go_sem])
  have f1 : w1.frozen? ⟨w.heap.size, 1, none⟩ = false := (hb1.frozen (p := ⟨w.heap.size, 1, none⟩) (by simp)).trans (by simp [go_sem])
  have hs1 : w.heap.size < w1.heap.size := by have := hb1.size; simp at this; omega
  obtain ⟨hB1, -⟩ := bgX (n := w.heap.size) (W0 := w) (by go_grown) (by go_size) hb1
  clear hb1 cC
  by_cases hC : C = 0
  · have hT1 := hT hC
    have l4 := hTl.out hC
    have hD1 : Hid (D = rdL TL) := by have h := hD.out; rwa [if_pos hC] at h
    subst hC
    clear hT hTl hD
    rw [errV_0]
    obtain ⟨p', c', e9, hc, HX⟩ := hT1.form
    injection e9 with e1 e2 e3
    subst e1 e2 e3
    cases TL with
    | nil =>
      have hE : Hid (D = (70, 0, [])) := hD1.out
      simp only [List.length_nil]
      have g0 : ((w1.setCell ⟨w.heap.size, 0, none⟩ (.int .i64 0)).setCell ⟨w.heap.size, 1, none⟩ (.slice none 0 0)).cell? ⟨w.heap.size, 0, none⟩ = some (.int .i64 0) := by simp (maxDischargeDepth := 8) [go_sem, q0]
      have g1 : ((w1.setCell ⟨w.heap.size, 0, none⟩ (.int .i64 0)).setCell ⟨w.heap.size, 1, none⟩ (.slice none 0 0)).cell? ⟨w.heap.size, 1, none⟩ = some (.slice none 0 0) := by simp (maxDischargeDepth := 8) [go_sem, q1]
      have K9 : Below w.heap.size w ((w1.setCell ⟨w.heap.size, 0, none⟩ (.int .i64 0)).setCell ⟨w.heap.size, 1, none⟩ (.slice none 0 0)) := (hB1.setCell (p := ⟨w.heap.size, 0, none⟩) (Nat.le_refl _) _).setCell (p := ⟨w.heap.size, 1, none⟩) (Nat.le_refl _) _
      go_wp2
      generalize (w1.setCell ⟨w.heap.size, 0, none⟩ (.int .i64 0)).setCell ⟨w.heap.size, 1, none⟩ (.slice none 0 0) = W9 at g0 g1 K9 ⊢
      refine bodyPost_ret (by simp [results, Tryz.results41, go_sem, g0, g1]; try rfl) rfl ?_
      exact PtOut.no K9 hE.out rfl rfl
    | cons t L =>
      have hD2 : Hid (D = if t.k = 7 then rdM t.v.n (rdEs (L.length + 1) [] L) else (70, 0, [])) := hD1.out
      clear hD1
      obtain ⟨b, off, rfl, hb, TK⟩ := HX 0 (by simp)
      simp only [Nat.zero_mul, Nat.add_zero, List.getElem_cons_zero] at TK
      obtain ⟨a0, a1, a2, a3, a4, a5, a6⟩ := TK
      have HT1 : Hid (ToksAt w1 (.slice (some ⟨b, off, none⟩) (t :: L).length c) (t :: L)) := hT1
      obtain ⟨n, en⟩ : ∃ n : Nat, Hid ((t :: L).length = n) := ⟨_, rfl⟩
      have hn1 : 1 ≤ n := by have := en.out; simp at this; omega
      rw [en.out] at HT1 hc l4 ⊢
      clear hT1 HX
      have hn0 : ((n : Int) == 0) = false := by simp; omega
      have hn' : (0 : Int) < n := by omega
      by_cases h7 : t.k = 7
      · have hD3 : Hid (D = rdM t.v.n (rdEs (L.length + 1) [] L)) := by have h := hD2.out; rwa [if_pos h7] at h
        have h7' : (((t.k : Nat) : Int) == 7) = true := by simp; omega
        have hLn : L.length = n - 1 := by have := en.out; simp at this; omega
        have ct : Hid (∀ (W : World) (q : Option Addr) (c9 : Nat), c9 = c - 1 → (1 < n → q = some ⟨b, off + 7, none⟩) → Below w1.heap.size w1 W → Calls Tryz.prog 58 #[.slice q (n - 1) c9] W fun r w' => RsOut W.heap.size W L r w') := fun W q c9 hc9 hq hW => by
          have h9 := ToksAt.drop HT1.out 1 (by simp) q (fun hlt => hq (by have := en.out; omega))
          rw [en.out, ← hc9] at h9
          exact rdevs_any _ L W (ToksAt.below h9 hW) (by omega)
        clear hD2 h7 HT1
        have hc1 : (1 : Int) ≤ n := by omega
        generalize t.k = tk at a0 h7'
        by_cases hc2 : c = 1
        · subst hc2
          obtain rfl : n = 1 := by omega
          have ct1 : Hid (Calls Tryz.prog 58 #[.slice (some ⟨b, off, none⟩) 0 0] w1 fun r w' => RsOut w1.heap.size w1 L r w') := ct.out w1 (some ⟨b, off, none⟩) 0 rfl (fun h => absurd h (by omega)) (Below.refl _ _)
          clear ct hLn hc l4 hn1
          go_wp2_with fail
          refine ct1.out.mono ?_
          rintro r w2 ⟨hB2, ⟨hn9, rfl⟩ | ⟨es, pe, ce, hsome, rfl, hown, hle⟩⟩
          · have hE : Hid (D = (70, 0, [])) := by have h := hD3.out; rw [hn9] at h; exact h
            have p0 : w2.cell? ⟨w.heap.size, 0, none⟩ = some (.int .i64 0) := (hB2.cell (p := ⟨w.heap.size, 0, none⟩) hs1).trans q0
            have p1 : w2.cell? ⟨w.heap.size, 1, none⟩ = some (.slice none 0 0) := (hB2.cell (p := ⟨w.heap.size, 1, none⟩) hs1).trans q1
            have h0 : w2.frozen? ⟨w.heap.size, 0, none⟩ = false := (hB2.frozen (p := ⟨w.heap.size, 0, none⟩) hs1).trans f0
            have h1 : w2.frozen? ⟨w.heap.size, 1, none⟩ = false := (hB2.frozen (p := ⟨w.heap.size, 1, none⟩) hs1).trans f1
            have K2 : Below w.heap.size w w2 := hB1.trans (hB2.mono hB1.size)
            clear ct1 hn9 hD3 a0 a1 a2 a3 a4 a5 a6 q0 q1 f0 f1
            have g0 : ((w2.setCell ⟨w.heap.size, 0, none⟩ (.int .i64 0)).setCell ⟨w.heap.size, 1, none⟩ (.slice none 0 0)).cell? ⟨w.heap.size, 0, none⟩ = some (.int .i64 0) := by simp (maxDischargeDepth := 8) [go_sem, p0]
            have g1 : ((w2.setCell ⟨w.heap.size, 0, none⟩ (.int .i64 0)).setCell ⟨w.heap.size, 1, none⟩ (.slice none 0 0)).cell? ⟨w.heap.size, 1, none⟩ = some (.slice none 0 0) := by simp (maxDischargeDepth := 8) [go_sem, p1]
            have K9 : Below w.heap.size w ((w2.setCell ⟨w.heap.size, 0, none⟩ (.int .i64 0)).setCell ⟨w.heap.size, 1, none⟩ (.slice none 0 0)) := (K2.setCell (p := ⟨w.heap.size, 0, none⟩) (Nat.le_refl _) _).setCell (p := ⟨w.heap.size, 1, none⟩) (Nat.le_refl _) _
            go_wp2
            generalize (w2.setCell ⟨w.heap.size, 0, none⟩ (.int .i64 0)).setCell ⟨w.heap.size, 1, none⟩ (.slice none 0 0) = W9 at g0 g1 K9 ⊢
            refine bodyPost_ret (by simp [results, Tryz.results41, go_sem, g0, g1]; try rfl) rfl ?_
            exact PtOut.no K9 hE.out rfl rfl
          · have hD4 : Hid (D = if 64 < es.length then (3, 0, []) else (0, t.v.n, es)) := by have h := hD3.out; rw [hsome] at h; exact h
            have p0 : w2.cell? ⟨w.heap.size, 0, none⟩ = some (.int .i64 0) := (hB2.cell (p := ⟨w.heap.size, 0, none⟩) hs1).trans q0
            have p1 : w2.cell? ⟨w.heap.size, 1, none⟩ = some (.slice none 0 0) := (hB2.cell (p := ⟨w.heap.size, 1, none⟩) hs1).trans q1
            have h0 : w2.frozen? ⟨w.heap.size, 0, none⟩ = false := (hB2.frozen (p := ⟨w.heap.size, 0, none⟩) hs1).trans f0
            have h1 : w2.frozen? ⟨w.heap.size, 1, none⟩ = false := (hB2.frozen (p := ⟨w.heap.size, 1, none⟩) hs1).trans f1
            have K2 : Below w.heap.size w w2 := hB1.trans (hB2.mono hB1.size)
            have d4 : w2.cell? ⟨b, off + 4, none⟩ = some (.int .i64 t.v.n) := (hB2.cell (p := ⟨b, off + 4, none⟩) hb).trans a4
            have HO : Hid (OwnE w1.heap.size (.slice pe es.length ce) es w2) := hown
            obtain ⟨m, em⟩ : ∃ m : Nat, Hid (es.length = m) := ⟨_, rfl⟩
            rw [em.out] at HO ⊢
            clear ct1 hsome hD3 a0 a1 a2 a3 a4 a5 a6 q0 q1 f0 f1 hown
            by_cases h64 : 64 < m
            · have hE : Hid (D = (3, 0, [])) := by have h := hD4.out; rwa [if_pos (by have := em.out; omega)] at h
              have h64' : (64 : Int) < m := by omega
              clear hD4 d4
              have g0 : ((w2.setCell ⟨w.heap.size, 0, none⟩ (.int .i64 0)).setCell ⟨w.heap.size, 1, none⟩ (.slice none 0 0)).cell? ⟨w.heap.size, 0, none⟩ = some (.int .i64 0) := by simp (maxDischargeDepth := 8) [go_sem, p0]
              have g1 : ((w2.setCell ⟨w.heap.size, 0, none⟩ (.int .i64 0)).setCell ⟨w.heap.size, 1, none⟩ (.slice none 0 0)).cell? ⟨w.heap.size, 1, none⟩ = some (.slice none 0 0) := by simp (maxDischargeDepth := 8) [go_sem, p1]
              have K9 : Below w.heap.size w ((w2.setCell ⟨w.heap.size, 0, none⟩ (.int .i64 0)).setCell ⟨w.heap.size, 1, none⟩ (.slice none 0 0)) := (K2.setCell (p := ⟨w.heap.size, 0, none⟩) (Nat.le_refl _) _).setCell (p := ⟨w.heap.size, 1, none⟩) (Nat.le_refl _) _
              go_wp2
              generalize (w2.setCell ⟨w.heap.size, 0, none⟩ (.int .i64 0)).setCell ⟨w.heap.size, 1, none⟩ (.slice none 0 0) = W9 at g0 g1 K9 ⊢
              refine bodyPost_ret (by simp [results, Tryz.results41, go_sem, g0, g1]; try rfl) rfl ?_
              exact PtOut.no K9 hE.out rfl rfl
            · have hE : Hid (D = (0, t.v.n, es)) := by have h := hD4.out; rwa [if_neg (by have := em.out; omega)] at h
              have h64' : ¬ (64 : Int) < m := by omega
              clear hD4
              generalize t.v.n = tn at d4 hE
              have g0 : ((w2.setCell ⟨w.heap.size, 0, none⟩ (.int .i64 tn)).setCell ⟨w.heap.size, 1, none⟩ (.slice pe m ce)).cell? ⟨w.heap.size, 0, none⟩ = some (.int .i64 tn) := by simp (maxDischargeDepth := 8) [go_sem, p0]
              have g1 : ((w2.setCell ⟨w.heap.size, 0, none⟩ (.int .i64 tn)).setCell ⟨w.heap.size, 1, none⟩ (.slice pe m ce)).cell? ⟨w.heap.size, 1, none⟩ = some (.slice pe m ce) := by simp (maxDischargeDepth := 8) [go_sem, p1]
              have K9 : Below w.heap.size w ((w2.setCell ⟨w.heap.size, 0, none⟩ (.int .i64 tn)).setCell ⟨w.heap.size, 1, none⟩ (.slice pe m ce)) := (K2.setCell (p := ⟨w.heap.size, 0, none⟩) (Nat.le_refl _) _).setCell (p := ⟨w.heap.size, 1, none⟩) (Nat.le_refl _) _
              have O9 : Hid (OwnE w.heap.size (.slice pe m ce) es ((w2.setCell ⟨w.heap.size, 0, none⟩ (.int .i64 tn)).setCell ⟨w.heap.size, 1, none⟩ (.slice pe m ce))) := (own_setE (own_setE HO.out (a := ⟨w.heap.size, 0, none⟩) hs1 _) (a := ⟨w.heap.size, 1, none⟩) hs1 _).base (Nat.le_of_lt hs1)
              go_wp2
              generalize (w2.setCell ⟨w.heap.size, 0, none⟩ (.int .i64 tn)).setCell ⟨w.heap.size, 1, none⟩ (.slice pe m ce) = W9 at g0 g1 K9 O9 ⊢
              refine bodyPost_ret (by simp [results, Tryz.results41, go_sem, g0, g1]; try rfl) rfl ?_
              exact PtOut.yes K9 hE.out em.out.symm rfl O9.out
        · have hc3 : ¬ c = 1 := hc2
          have ct1 : Hid (Calls Tryz.prog 58 #[.slice (some ⟨b, off + 7, none⟩) (n - 1) (c - 1)] w1 fun r w' => RsOut w1.heap.size w1 L r w') := ct.out w1 (some ⟨b, off + 7, none⟩) (c - 1) rfl (fun h => rfl) (Below.refl _ _)
          clear ct hLn hc l4 hn1
          go_wp2_with fail
          refine ct1.out.mono ?_
          rintro r w2 ⟨hB2, ⟨hn9, rfl⟩ | ⟨es, pe, ce, hsome, rfl, hown, hle⟩⟩
          · have hE : Hid (D = (70, 0, [])) := by have h := hD3.out; rw [hn9] at h; exact h
            have p0 : w2.cell? ⟨w.heap.size, 0, none⟩ = some (.int .i64 0) := (hB2.cell (p := ⟨w.heap.size, 0, none⟩) hs1).trans q0
            have p1 : w2.cell? ⟨w.heap.size, 1, none⟩ = some (.slice none 0 0) := (hB2.cell (p := ⟨w.heap.size, 1, none⟩) hs1).trans q1
            have h0 : w2.frozen? ⟨w.heap.size, 0, none⟩ = false := (hB2.frozen (p := ⟨w.heap.size, 0, none⟩) hs1).trans f0
            have h1 : w2.frozen? ⟨w.heap.size, 1, none⟩ = false := (hB2.frozen (p := ⟨w.heap.size, 1, none⟩) hs1).trans f1
            have K2 : Below w.heap.size w w2 := hB1.trans (hB2.mono hB1.size)
            clear ct1 hn9 hD3 a0 a1 a2 a3 a4 a5 a6 q0 q1 f0 f1
            have g0 : ((w2.setCell ⟨w.heap.size, 0, none⟩ (.int .i64 0)).setCell ⟨w.heap.size, 1, none⟩ (.slice none 0 0)).cell? ⟨w.heap.size, 0, none⟩ = some (.int .i64 0) := by simp (maxDischargeDepth := 8) [go_sem, p0]
            have g1 : ((w2.setCell ⟨w.heap.size, 0, none⟩ (.int .i64 0)).setCell ⟨w.heap.size, 1, none⟩ (.slice none 0 0)).cell? ⟨w.heap.size, 1, none⟩ = some (.slice none 0 0) := by simp (maxDischargeDepth := 8) [go_sem, p1]
            have K9 : Below w.heap.size w ((w2.setCell ⟨w.heap.size, 0, none⟩ (.int .i64 0)).setCell ⟨w.heap.size, 1, none⟩ (.slice none 0 0)) := (K2.setCell (p := ⟨w.heap.size, 0, none⟩) (Nat.le_refl _) _).setCell (p := ⟨w.heap.size, 1, none⟩) (Nat.le_refl _) _
            go_wp2
            generalize (w2.setCell ⟨w.heap.size, 0, none⟩ (.int .i64 0)).setCell ⟨w.heap.size, 1, none⟩ (.slice none 0 0) = W9 at g0 g1 K9 ⊢
            refine bodyPost_ret (by simp [results, Tryz.results41, go_sem, g0, g1]; try rfl) rfl ?_
            exact PtOut.no K9 hE.out rfl rfl
          · have hD4 : Hid (D = if 64 < es.length then (3, 0, []) else (0, t.v.n, es)) := by have h := hD3.out; rw [hsome] at h; exact h
            have p0 : w2.cell? ⟨w.heap.size, 0, none⟩ = some (.int .i64 0) := (hB2.cell (p := ⟨w.heap.size, 0, none⟩) hs1).trans q0
            have p1 : w2.cell? ⟨w.heap.size, 1, none⟩ = some (.slice none 0 0) := (hB2.cell (p := ⟨w.heap.size, 1, none⟩) hs1).trans q1
            have h0 : w2.frozen? ⟨w.heap.size, 0, none⟩ = false := (hB2.frozen (p := ⟨w.heap.size, 0, none⟩) hs1).trans f0
            have h1 : w2.frozen? ⟨w.heap.size, 1, none⟩ = false := (hB2.frozen (p := ⟨w.heap.size, 1, none⟩) hs1).trans f1
            have K2 : Below w.heap.size w w2 := hB1.trans (hB2.mono hB1.size)
            have d4 : w2.cell? ⟨b, off + 4, none⟩ = some (.int .i64 t.v.n) := (hB2.cell (p := ⟨b, off + 4, none⟩) hb).trans a4
            have HO : Hid (OwnE w1.heap.size (.slice pe es.length ce) es w2) := hown
            obtain ⟨m, em⟩ : ∃ m : Nat, Hid (es.length = m) := ⟨_, rfl⟩
            rw [em.out] at HO ⊢
            clear ct1 hsome hD3 a0 a1 a2 a3 a4 a5 a6 q0 q1 f0 f1 hown
            by_cases h64 : 64 < m
            · have hE : Hid (D = (3, 0, [])) := by have h := hD4.out; rwa [if_pos (by have := em.out; omega)] at h
              have h64' : (64 : Int) < m := by omega
              clear hD4 d4
              have g0 : ((w2.setCell ⟨w.heap.size, 0, none⟩ (.int .i64 0)).setCell ⟨w.heap.size, 1, none⟩ (.slice none 0 0)).cell? ⟨w.heap.size, 0, none⟩ = some (.int .i64 0) := by simp (maxDischargeDepth := 8) [go_sem, p0]
              have g1 : ((w2.setCell ⟨w.heap.size, 0, none⟩ (.int .i64 0)).setCell ⟨w.heap.size, 1, none⟩ (.slice none 0 0)).cell? ⟨w.heap.size, 1, none⟩ = some (.slice none 0 0) := by simp (maxDischargeDepth := 8) [go_sem, p1]
              have K9 : Below w.heap.size w ((w2.setCell ⟨w.heap.size, 0, none⟩ (.int .i64 0)).setCell ⟨w.heap.size, 1, none⟩ (.slice none 0 0)) := (K2.setCell (p := ⟨w.heap.size, 0, none⟩) (Nat.le_refl _) _).setCell (p := ⟨w.heap.size, 1, none⟩) (Nat.le_refl _) _
              go_wp2
              generalize (w2.setCell ⟨w.heap.size, 0, none⟩ (.int .i64 0)).setCell ⟨w.heap.size, 1, none⟩ (.slice none 0 0) = W9 at g0 g1 K9 ⊢
              refine bodyPost_ret (by simp [results, Tryz.results41, go_sem, g0, g1]; try rfl) rfl ?_
              exact PtOut.no K9 hE.out rfl rfl
            · have hE : Hid (D = (0, t.v.n, es)) := by have h := hD4.out; rwa [if_neg (by have := em.out; omega)] at h
              have h64' : ¬ (64 : Int) < m := by omega
              clear hD4
              generalize t.v.n = tn at d4 hE
              have g0 : ((w2.setCell ⟨w.heap.size, 0, none⟩ (.int .i64 tn)).setCell ⟨w.heap.size, 1, none⟩ (.slice pe m ce)).cell? ⟨w.heap.size, 0, none⟩ = some (.int .i64 tn) := by simp (maxDischargeDepth := 8) [go_sem, p0]
              have g1 : ((w2.setCell ⟨w.heap.size, 0, none⟩ (.int .i64 tn)).setCell ⟨w.heap.size, 1, none⟩ (.slice pe m ce)).cell? ⟨w.heap.size, 1, none⟩ = some (.slice pe m ce) := by simp (maxDischargeDepth := 8) [go_sem, p1]
              have K9 : Below w.heap.size w ((w2.setCell ⟨w.heap.size, 0, none⟩ (.int .i64 tn)).setCell ⟨w.heap.size, 1, none⟩ (.slice pe m ce)) := (K2.setCell (p := ⟨w.heap.size, 0, none⟩) (Nat.le_refl _) _).setCell (p := ⟨w.heap.size, 1, none⟩) (Nat.le_refl _) _
              have O9 : Hid (OwnE w.heap.size (.slice pe m ce) es ((w2.setCell ⟨w.heap.size, 0, none⟩ (.int .i64 tn)).setCell ⟨w.heap.size, 1, none⟩ (.slice pe m ce))) := (own_setE (own_setE HO.out (a := ⟨w.heap.size, 0, none⟩) hs1 _) (a := ⟨w.heap.size, 1, none⟩) hs1 _).base (Nat.le_of_lt hs1)
              go_wp2
              generalize (w2.setCell ⟨w.heap.size, 0, none⟩ (.int .i64 tn)).setCell ⟨w.heap.size, 1, none⟩ (.slice pe m ce) = W9 at g0 g1 K9 O9 ⊢
              refine bodyPost_ret (by simp [results, Tryz.results41, go_sem, g0, g1]; try rfl) rfl ?_
              exact PtOut.yes K9 hE.out em.out.symm rfl O9.out
      · have hE : Hid (D = (70, 0, [])) := by have h := hD2.out; rwa [if_neg h7] at h
        have h7' : (((t.k : Nat) : Int) == 7) = false := by simp; omega
        generalize t.k = tk at a0 h7'
        clear hD2 h7 HT1
        have g0 : ((w1.setCell ⟨w.heap.size, 0, none⟩ (.int .i64 0)).setCell ⟨w.heap.size, 1, none⟩ (.slice none 0 0)).cell? ⟨w.heap.size, 0, none⟩ = some (.int .i64 0) := by simp (maxDischargeDepth := 8) [go_sem, q0]
        have g1 : ((w1.setCell ⟨w.heap.size, 0, none⟩ (.int .i64 0)).setCell ⟨w.heap.size, 1, none⟩ (.slice none 0 0)).cell? ⟨w.heap.size, 1, none⟩ = some (.slice none 0 0) := by simp (maxDischargeDepth := 8) [go_sem, q1]
        have K9 : Below w.heap.size w ((w1.setCell ⟨w.heap.size, 0, none⟩ (.int .i64 0)).setCell ⟨w.heap.size, 1, none⟩ (.slice none 0 0)) := (hB1.setCell (p := ⟨w.heap.size, 0, none⟩) (Nat.le_refl _) _).setCell (p := ⟨w.heap.size, 1, none⟩) (Nat.le_refl _) _
        go_wp2
        generalize (w1.setCell ⟨w.heap.size, 0, none⟩ (.int .i64 0)).setCell ⟨w.heap.size, 1, none⟩ (.slice none 0 0) = W9 at g0 g1 K9 ⊢
        refine bodyPost_ret (by simp [results, Tryz.results41, go_sem, g0, g1]; try rfl) rfl ?_
        exact PtOut.no K9 hE.out rfl rfl
  · have hE : Hid (D = (C, 0, [])) := by have h := hD.out; rwa [if_neg hC] at h
    have hd : Hid (errV C = .iface 92 (.agg #[.int .i64 C])) := errV_ne hC
    rw [hd.out]
    clear hC hT hTl hD
    have g0 : ((w1.setCell ⟨w.heap.size, 0, none⟩ (.int .i64 0)).setCell ⟨w.heap.size, 1, none⟩ (.slice none 0 0)).cell? ⟨w.heap.size, 0, none⟩ = some (.int .i64 0) := by simp (maxDischargeDepth := 8) [go_sem, q0]
    have g1 : ((w1.setCell ⟨w.heap.size, 0, none⟩ (.int .i64 0)).setCell ⟨w.heap.size, 1, none⟩ (.slice none 0 0)).cell? ⟨w.heap.size, 1, none⟩ = some (.slice none 0 0) := by simp (maxDischargeDepth := 8) [go_sem, q1]
    have K9 : Below w.heap.size w ((w1.setCell ⟨w.heap.size, 0, none⟩ (.int .i64 0)).setCell ⟨w.heap.size, 1, none⟩ (.slice none 0 0)) := (hB1.setCell (p := ⟨w.heap.size, 0, none⟩) (Nat.le_refl _) _).setCell (p := ⟨w.heap.size, 1, none⟩) (Nat.le_refl _) _
    go_wp2
    generalize (w1.setCell ⟨w.heap.size, 0, none⟩ (.int .i64 0)).setCell ⟨w.heap.size, 1, none⟩ (.slice none 0 0) = W9 at g0 g1 K9 ⊢
    refine bodyPost_ret (by simp [results, Tryz.results41, go_sem, g0, g1]; try rfl) rfl ?_
    exact PtOut.no K9 hE.out hd.out.symm rfl

end Go.Proofs.YticmebamclacaaaGreatDoor

namespace Go.Proofs.YticmebamclacaaaGreatDoor
open Go.RowKit LX Go.Shelf
set_option linter.unusedVariables false

/-- What lines say behind a signature: an error's number, its line, the declarations. -/
def rdT (A : List Dec) : List (Tok Val) → Int × List Dec
  | [] => (0, A)
  | t :: l => wdD A (rdD (t :: l))
def rdS (A : List Dec) (i : Nat) : List ByteArray → Int × Int × List Dec
  | [] => (0, 0, A)
  | x :: ls => if cutE x = 0 then (if (rdT A (tks x)).1 = 0 then rdS (rdT A (tks x)).2 (i + 1) ls else ((rdT A (tks x)).1, (i : Int) + 1, [])) else (cutE x, (i : Int) + 1, [])
/-- What a text says. -/
def rsg (s : ByteArray) : Int × Int × List Dec := if 16384 < s.size then (2, 0, []) else rdS [] 0 (linesB s)
theorem wdD_len {A : List Dec} {o : Option Dec} (hA : A.length ≤ 32) : (wdD A o).2.length ≤ 32 := by
  unfold wdD
  cases o with
  | none => simp
  | some d =>
    dsimp only
    by_cases h1 : 6 < d.kinds.length ∨ A.length = 32
    · rw [if_pos h1]; simp
    · rw [if_neg h1]
      by_cases h2 : 0 ≤ findI d.name A 0
      · rw [if_pos h2]; simp
      · rw [if_neg h2]; simp; omega
theorem tks_len {s : ByteArray} (h : cutE s = 0) : (tks s).length ≤ 4096 := by
  unfold cutE at h
  have h1 : ¬ 4096 < s.size := fun hh => by rw [if_pos hh] at h; cases h
  have h2 := T_lenX s.data.toList.length s.data.toList (Nat.le_refl _) 0
  have h3 : s.data.toList.length = s.size := by simp
  unfold tks
  omega
theorem OwnG.base {N N' : Nat} {w : World} {v : Value} {es : List Dec} (h : OwnG N' v es w) (hN : N ≤ N') : OwnG N v es w := by
  obtain ⟨zs, h1, h2⟩ := h
  refine ⟨zs, own_baseX h1 hN, ?_⟩
  clear h1
  induction es generalizing zs with
  | nil =>
    match zs, h2 with
    | [], _ => trivial
  | cons x es ih =>
    match zs, h2 with
    | a :: b :: zs, h2 => exact ⟨h2.1, own_baseX h2.2.1 hN, ih zs h2.2.2⟩
/-- The error that readSignature answers. -/
def sgV (E l : Int) : Value := if E = 0 then .nilIface else if l = 0 then .iface 92 (.agg #[.int .i64 E]) else lineV l E
/-- What readSignature answers. -/
def SgOut (N : Nat) (w : World) (D : Int × Int × List Dec) (r : Ending) (w' : World) : Prop := Below N w w' ∧ ∃ p c, r = .returned (.tuple #[.slice p D.2.2.length c, sgV D.1 D.2.1]) ∧ OwnG N (.slice p D.2.2.length c) D.2.2 w'
theorem SgOut.no {N : Nat} {w w' : World} {D : Int × Int × List Dec} {r : Ending} {E l : Int} {v : Value} (hb : Below N w w') (h : D = (E, l, [])) (hv : v = sgV E l) (hr : r = .returned (.tuple #[.slice none 0 0, v])) : SgOut N w D r w' := by
  subst h hv
  exact ⟨hb, none, 0, hr, [], ⟨rfl, .inl ⟨rfl, rfl⟩⟩, trivial⟩
theorem SgOut.yes {N : Nat} {w w' : World} {D : Int × Int × List Dec} {r : Ending} {es : List Dec} {p : Option Addr} {m c : Nat} (hb : Below N w w') (h : D = (0, 0, es)) (hm : m = es.length) (ho : OwnG N (.slice p m c) es w') (hr : r = .returned (.tuple #[.slice p m c, .nilIface])) : SgOut N w D r w' := by
  subst h hm
  exact ⟨hb, p, c, hr, ho⟩
theorem sgV_line {E : Int} {i : Nat} (h : ¬ E = 0) : sgV E ((i : Int) + 1) = lineV ((i : Int) + 1) E := by
  unfold sgV
  rw [if_neg h, if_neg (by omega)]

set_option maxRecDepth 100000 in
set_option maxHeartbeats 2000000 in
theorem rdsig_any (s : ByteArray) (w : World) (ht : Pow w) (he : Errs w) (h8 : 9 ≤ w.heap.size) :
    Calls Tryz.prog 34 #[.string s] w fun r w' => SgOut w.heap.size w (rsg s) r w' := by
  by_cases h : 16384 < s.size
  · have hE : Hid (rsg s = (2, 0, [])) := if_pos h
    have h' : (16384 : Int) < s.size := by omega
    generalize rsg s = D at *
    go_enter Tryz.func34, Tryz.ntmps34
    go_wp2
    go_ret2
    exact SgOut.no (Below.refl _ _) hE.out rfl rfl
  · have hE : Hid (rsg s = rdS [] 0 (linesB s)) := if_neg h
    have h' : ¬ (16384 : Int) < s.size := by omega
    have cS : Hid (Calls Tryz.prog 54 #[.string s, .string ⟨#[10]⟩] w fun e w' => e = .returned (.slice (some ⟨w.heap.size, 0, none⟩) (linesB s).length (linesB s).length) ∧ w' = w.alloc (.cells ((linesB s).map Value.string).toArray 9)) := lines_any s w (by omega)
    have cC : Hid (∀ (x : ByteArray) (W : World), Below w.heap.size w W → Calls Tryz.prog 55 #[.string x] W fun r w' => ∃ p n c, r = .returned (.tuple #[.slice p n c, errV (cutE x)]) ∧ Below W.heap.size W w' ∧ (cutE x = 0 → ToksAt w' (.slice p n c) (tks x))) := fun x W hW => cut_any x W (ht.below hW) (he.below hW h8) (Nat.le_trans h8 hW.size)
    have hln : (linesB s).length ≤ 16385 := by
      rw [linesB_len]
      have := Lib.countB_le ⟨#[10]⟩ (by decide) s.size s (Nat.le_refl _)
      omega
    clear h ht he h8
    generalize rsg s = D at *
    generalize linesB s = LS at *
    obtain ⟨n, en⟩ : ∃ n : Nat, Hid (LS.length = n) := ⟨_, rfl⟩
    rw [en.out] at cS hln
    go_enter Tryz.func34, Tryz.ntmps34
    go_wp2_with fail
    refine cS.out.mono ?_
    rintro e w1 ⟨rfl, hw1⟩
    have HC : Hid (∀ i (hi : i < LS.length), w1.cell? ⟨w.heap.size, i, none⟩ = some (.string LS[i])) := fun i hi => by
      rw [hw1, World.cell?_alloc_at _ _ _ _ rfl]
      simp [hi]
    have hB1 : Below w.heap.size w w1 := by rw [hw1]; go_grown
    have hs1 : w1.heap.size = w.heap.size + 1 := by rw [hw1]; simp
    have HS1 : Hid (w1.heap.size = w.heap.size + 1) := hs1
    have z1 : w.heap.size < w1.heap.size := by omega
    clear hw1 cS hs1
    go_wp2
    go_loopw [4, 17] (fun v4 v17 wr => ∃ (k : Nat) (A : List Dec), k ≤ n ∧ v17 = .int .i64 k ∧ Hid (D = rdS A k (LS.drop k)) ∧ A.length ≤ 32 ∧ Hid (OwnG w1.heap.size v4 A wr) ∧ Below w1.heap.size w1 wr) (fun _ v17 _ => n - (intOf v17).toNat)
    case atStart => exact ⟨0, [], Nat.zero_le _, rfl, by rw [List.drop_zero]; exact hE, by simp, ⟨[], ⟨rfl, .inl ⟨rfl, rfl⟩⟩, trivial⟩, Below.refl _ _⟩
    case round =>
      obtain ⟨k, A, hk, rfl, hr, hA, hO, hB⟩ := hrel
      obtain ⟨p4, c4, rfl⟩ := hO.out.form
      have KW : Below w.heap.size w wr := hB1.trans (hB.mono hB1.size)
      by_cases hlt : k < n
      · have kx : k < LS.length := by have := en.out; omega
        have a0 := (hB.cell (p := ⟨w.heap.size, k, none⟩) z1).trans (HC.out k kx)
        have hr2 : Hid (D = if cutE LS[k] = 0 then (if (rdT A (tks LS[k])).1 = 0 then rdS (rdT A (tks LS[k])).2 (k + 1) (LS.drop (k + 1)) else ((rdT A (tks LS[k])).1, (k : Int) + 1, [])) else (cutE LS[k], (k : Int) + 1, [])) := by
          have h := hr.out
          rw [List.drop_eq_getElem_cons kx] at h
          exact h
        have ct := cC.out LS[k] wr KW
        have hTl := @tks_len LS[k]
        clear hr
        generalize LS[k] = x at a0 hr2 ct hTl
        have CT : Hid (Calls Tryz.prog 55 #[.string x] wr fun r w' => ∃ p n c, r = .returned (.tuple #[.slice p n c, errV (cutE x)]) ∧ Below wr.heap.size wr w' ∧ (cutE x = 0 → ToksAt w' (.slice p n c) (tks x))) := ct
        have HTL : Hid (cutE x = 0 → (tks x).length ≤ 4096) := hTl
        clear ct hTl
        generalize cutE x = C at hr2 CT HTL
        generalize tks x = TL at hr2 CT HTL
        have hlt' : (k : Int) < n := by omega
        have zr : w1.heap.size ≤ wr.heap.size := hB.size
        obtain ⟨m, em⟩ : ∃ m : Nat, Hid (A.length = m) := ⟨_, rfl⟩
        have HO : Hid (OwnG w1.heap.size (.slice p4 m c4) A wr) := by have h := hO.out; rwa [em.out] at h
        rw [em.out] at hA ⊢
        clear hO
        by_cases hC : C = 0
        · have hr3 : Hid (D = if (rdT A TL).1 = 0 then rdS (rdT A TL).2 (k + 1) (LS.drop (k + 1)) else ((rdT A TL).1, (k : Int) + 1, [])) := by have h := hr2.out; rwa [if_pos hC] at h
          have l4 := HTL.out hC
          subst hC
          rw [errV_0] at CT
          clear hr2 HTL
          go_wp2_with fail
          refine CT.out.mono ?_
          rintro r w2 ⟨p, nt, c, rfl, hB2, hT⟩
          have hT2 := hT (by first | trivial | rfl)
          have K2 : Below w1.heap.size w1 w2 := hB.trans (hB2.mono zr)
          have HO2 : Hid (OwnG w1.heap.size (.slice p4 m c4) A w2) := HO.out.below hB2
          have z2 : w1.heap.size ≤ w2.heap.size := Nat.le_trans zr hB2.size
          obtain ⟨p', c', e9, -⟩ := hT2.form
          injection e9 with e1 e2 e3
          subst e1 e2 e3
          clear CT HO hT a0
          cases TL with
          | nil =>
            have hr4 : Hid (D = rdS A (k + 1) (LS.drop (k + 1))) := hr3.out
            simp only [List.length_nil]
            clear hr3 hT2 l4
            go_wp2
            exact ⟨⟨k + 1, A, by omega, by go_num, hr4, by have := em.out; omega, by rw [← em.out] at HO2 ⊢; exact HO2, K2⟩, by simp [intOf]; omega⟩
          | cons t l =>
            have cW : Hid (Calls Tryz.prog 56 #[.slice p4 m c4, .slice p (t :: l).length c] w2 fun r w' => WdOut w1.heap.size w2 (wdD A (rdD (t :: l))) r w') := wdecl_any w1.heap.size _ _ A t l w2 z2 HO2.out hT2 (by omega) (by have := em.out; omega)
            have hr4 : Hid (D = if (wdD A (rdD (t :: l))).1 = 0 then rdS (wdD A (rdD (t :: l))).2 (k + 1) (LS.drop (k + 1)) else ((wdD A (rdD (t :: l))).1, (k : Int) + 1, [])) := hr3.out
            have hwl : (wdD A (rdD (t :: l))).2.length ≤ 32 := wdD_len (by have := em.out; omega)
            have hnl : (0 : Int) < (t :: l).length := by first | (simp; done) | (simp; omega)
            generalize (t :: l).length = nl at *
            generalize wdD A (rdD (t :: l)) = G at cW hr4 hwl
            obtain ⟨E, G2⟩ := G
            dsimp only at hr4 hwl
            clear hr3 hT2 HO2
            go_wp2_with fail
            refine cW.out.mono ?_
            rintro r w3 ⟨hB3, p3, c3, rfl, ho3⟩
            have K3 : Below w1.heap.size w1 w3 := K2.trans hB3
            dsimp only at ho3 ⊢
            have HO3 : Hid (OwnG w1.heap.size (.slice p3 G2.length c3) G2 w3) := ho3
            clear cW ho3 hB3
            obtain ⟨g2, eg2⟩ : ∃ g2 : Nat, Hid (G2.length = g2) := ⟨_, rfl⟩
            rw [eg2.out] at HO3 ⊢
            by_cases hEz : E = 0
            · have hr5 : Hid (D = rdS G2 (k + 1) (LS.drop (k + 1))) := by have h := hr4.out; rwa [if_pos hEz] at h
              subst hEz
              rw [errV_0]
              clear hr4
              go_wp2
              exact ⟨⟨k + 1, G2, by omega, by go_num, hr5, hwl, by rw [← eg2.out] at HO3 ⊢; exact HO3, K3⟩, by simp [intOf]; omega⟩
            · have hr5 : Hid (D = (E, (k : Int) + 1, [])) := by have h := hr4.out; rwa [if_neg hEz] at h
              have hd : Hid (errV E = .iface 92 (.agg #[.int .i64 E])) := errV_ne hEz
              have hv : Hid (sgV E ((k : Int) + 1) = lineV ((k : Int) + 1) E) := sgV_line hEz
              rw [hd.out]
              clear hr4 hEz
              go_wp2
              go_ret2
              exact SgOut.no (hB1.trans (K3.mono hB1.size)) hr5.out hv.out.symm rfl
        · have hr3 : Hid (D = (C, (k : Int) + 1, [])) := by have h := hr2.out; rwa [if_neg hC] at h
          have hd : Hid (errV C = .iface 92 (.agg #[.int .i64 C])) := errV_ne hC
          have hv : Hid (sgV C ((k : Int) + 1) = lineV ((k : Int) + 1) C) := sgV_line hC
          rw [hd.out] at CT
          clear hr2 hC HTL
          go_wp2_with fail
          refine CT.out.mono ?_
          rintro r w2 ⟨p, nt, c, rfl, hB2, -⟩
          have K2 : Below w.heap.size w w2 := KW.trans (hB2.mono KW.size)
          clear CT a0
          go_wp2
          go_ret2
          exact SgOut.no K2 hr3.out hv.out.symm rfl
      · have c2 : ¬ (k : Int) < n := by omega
        have hr3 : Hid (D = (0, 0, A)) := by
          have h := hr.out
          rw [List.drop_eq_nil_of_le (by have := en.out; omega)] at h
          exact h
        obtain ⟨m, em⟩ : ∃ m : Nat, Hid (A.length = m) := ⟨_, rfl⟩
        have HO : Hid (OwnG w.heap.size (.slice p4 m c4) A wr) := by have h := hO.out; rw [em.out] at h; exact h.base (Nat.le_of_lt z1)
        rw [em.out]
        clear hO
        go_wp2
        go_ret2
        exact SgOut.yes KW hr3.out em.out.symm HO.out rfl

end Go.Proofs.YticmebamclacaaaGreatDoor

namespace Go.Proofs.YticmebamclacaaaGreatDoor
open Go.RowKit LX Go.Shelf Go.Extern.Stop Go.Stop Go.Extern
set_option linter.unusedVariables false

set_option maxRecDepth 100000 in
set_option maxHeartbeats 2000000 in
theorem wrong_any (E l : Int) (w : World) (hg : ErrT w) (hl : E = 0 → l = 0) :
    Calls Tryz.prog 35 #[sgV E l] w fun r w' => r = .returned (.agg #[.int .i64 E, .int .i64 l]) ∧ Below w.heap.size w w' := by
  by_cases hE : E = 0
  · have hl0 := hl hE
    subst hE hl0
    have hv : sgV 0 0 = .nilIface := rfl
    rw [hv]
    have cn : Hid (∀ W : World, ErrT W → Calls Tryz.prog 24 #[.nilIface] W fun r w' => r = .returned (.int .i64 0) ∧ Below W.heap.size W w') := fun W hW => tnumber_any 0 W hW
    clear hv hl
    go_enter Tryz.func35, Tryz.ntmps35
    go_wp2_with (first | (go_at_call 47; refine (as_nil _ _).mono ?_; rintro e w' ⟨rfl, rfl⟩) | fail)
    refine (cn.out _ (hg.below (by go_grown))).mono ?_
    rintro e w1 ⟨rfl, hb1⟩
    have q0 : w1.cell? ⟨w.heap.size, 0, none⟩ = some (.int .i64 0) := (hb1.cell (p := ⟨w.heap.size, 0, none⟩) (by first | (simp; done) | (simp; omega))).trans (by simp [go_sem])
    have q1 : w1.cell? ⟨w.heap.size, 1, none⟩ = some (.int .i64 0) := (hb1.cell (p := ⟨w.heap.size, 1, none⟩) (by first | (simp; done) | (simp; omega))).trans (by simp [go_sem])
    have f0 : w1.frozen? ⟨w.heap.size, 0, none⟩ = false := (hb1.frozen (p := ⟨w.heap.size, 0, none⟩) (by first | (simp; done) | (simp; omega))).trans (by simp [go_sem])
    have f1 : w1.frozen? ⟨w.heap.size, 1, none⟩ = false := (hb1.frozen (p := ⟨w.heap.size, 1, none⟩) (by first | (simp; done) | (simp; omega))).trans (by simp [go_sem])
    obtain ⟨hB1, -⟩ := bgX (n := w.heap.size) (W0 := w) (by go_grown) (by go_size) hb1
    clear hb1 cn
    have g0 : ((w1.setCell ⟨w.heap.size, 0, none⟩ (.int .i64 0)).setCell ⟨w.heap.size, 1, none⟩ (.int .i64 0)).cell? ⟨w.heap.size, 0, none⟩ = some (.int .i64 0) := by simp (maxDischargeDepth := 8) [go_sem, q0]
    have g1 : ((w1.setCell ⟨w.heap.size, 0, none⟩ (.int .i64 0)).setCell ⟨w.heap.size, 1, none⟩ (.int .i64 0)).cell? ⟨w.heap.size, 1, none⟩ = some (.int .i64 0) := by simp (maxDischargeDepth := 8) [go_sem, q1]
    have K9 : Below w.heap.size w ((w1.setCell ⟨w.heap.size, 0, none⟩ (.int .i64 0)).setCell ⟨w.heap.size, 1, none⟩ (.int .i64 0)) := (hB1.setCell (p := ⟨w.heap.size, 0, none⟩) (Nat.le_refl _) _).setCell (p := ⟨w.heap.size, 1, none⟩) (Nat.le_refl _) _
    go_wp2
    generalize (w1.setCell ⟨w.heap.size, 0, none⟩ (.int .i64 0)).setCell ⟨w.heap.size, 1, none⟩ (.int .i64 0) = W9 at g0 g1 K9 ⊢
    refine bodyPost_ret (by simp [results, Tryz.results35, go_sem, g0, g1]; try rfl) rfl ?_
    exact ⟨rfl, K9⟩
  · by_cases hl0 : l = 0
    · subst hl0
      have hv : sgV E 0 = errV E := by unfold sgV errV; rw [if_neg hE, if_neg hE, if_pos rfl]
      have cn : Hid (∀ W : World, ErrT W → Calls Tryz.prog 24 #[errV E] W fun r w' => r = .returned (.int .i64 E) ∧ Below W.heap.size W w') := fun W hW => tnumber_any E W hW
      rw [hv]
      rw [errV_ne hE] at cn ⊢
      clear hv hl hE
      go_enter Tryz.func35, Tryz.ntmps35
      go_wp2_with (first | (go_at_call 47; refine (as_missF E _ _ (hg.below (by go_grown))).mono ?_; rintro e w' ⟨rfl, rfl⟩) | fail)
      refine (cn.out _ (hg.below (by go_grown))).mono ?_
      rintro e w1 ⟨rfl, hb1⟩
      have q0 : w1.cell? ⟨w.heap.size, 0, none⟩ = some (.int .i64 0) := (hb1.cell (p := ⟨w.heap.size, 0, none⟩) (by first | (simp; done) | (simp; omega))).trans (by simp [go_sem])
      have q1 : w1.cell? ⟨w.heap.size, 1, none⟩ = some (.int .i64 0) := (hb1.cell (p := ⟨w.heap.size, 1, none⟩) (by first | (simp; done) | (simp; omega))).trans (by simp [go_sem])
      have f0 : w1.frozen? ⟨w.heap.size, 0, none⟩ = false := (hb1.frozen (p := ⟨w.heap.size, 0, none⟩) (by first | (simp; done) | (simp; omega))).trans (by simp [go_sem])
      have f1 : w1.frozen? ⟨w.heap.size, 1, none⟩ = false := (hb1.frozen (p := ⟨w.heap.size, 1, none⟩) (by first | (simp; done) | (simp; omega))).trans (by simp [go_sem])
      obtain ⟨hB1, -⟩ := bgX (n := w.heap.size) (W0 := w) (by go_grown) (by go_size) hb1
      clear hb1 cn
      have g0 : ((w1.setCell ⟨w.heap.size, 0, none⟩ (.int .i64 E)).setCell ⟨w.heap.size, 1, none⟩ (.int .i64 0)).cell? ⟨w.heap.size, 0, none⟩ = some (.int .i64 E) := by simp (maxDischargeDepth := 8) [go_sem, q0]
      have g1 : ((w1.setCell ⟨w.heap.size, 0, none⟩ (.int .i64 E)).setCell ⟨w.heap.size, 1, none⟩ (.int .i64 0)).cell? ⟨w.heap.size, 1, none⟩ = some (.int .i64 0) := by simp (maxDischargeDepth := 8) [go_sem, q1]
      have K9 : Below w.heap.size w ((w1.setCell ⟨w.heap.size, 0, none⟩ (.int .i64 E)).setCell ⟨w.heap.size, 1, none⟩ (.int .i64 0)) := (hB1.setCell (p := ⟨w.heap.size, 0, none⟩) (Nat.le_refl _) _).setCell (p := ⟨w.heap.size, 1, none⟩) (Nat.le_refl _) _
      go_wp2
      generalize (w1.setCell ⟨w.heap.size, 0, none⟩ (.int .i64 E)).setCell ⟨w.heap.size, 1, none⟩ (.int .i64 0) = W9 at g0 g1 K9 ⊢
      refine bodyPost_ret (by simp [results, Tryz.results35, go_sem, g0, g1]; try rfl) rfl ?_
      exact ⟨rfl, K9⟩
    · have hv : sgV E l = lineV l E := by unfold sgV; rw [if_neg hE, if_neg hl0]
      have cn : Hid (∀ W : World, ErrT W → Calls Tryz.prog 24 #[lineV l E] W fun r w' => r = .returned (.int .i64 E) ∧ Below W.heap.size W w') := fun W hW => tnumber_line l E W hW
      rw [hv]
      clear hv hl hE hl0
      go_enter Tryz.func35, Tryz.ntmps35
      go_upto_region 4 with (first | (go_at_call 47; refine (as_hitL l 0 (.iface 92 (.agg #[.int .i64 E])) .nilIface (w.heap.size + 1) _ (hg.below (by go_grown)) (by simp) (by simp) (by simp) (by simp) ⟨_, _, rfl⟩).mono ?_; rintro e w' ⟨rfl, rfl⟩))
      refine wpX_world ?_
      intro W0 hW0
      have d0 : W0.cell? ⟨w.heap.size + 1, 0, none⟩ = some (.int .i64 l) := by rw [hW0]; simp (maxDischargeDepth := 12) [go_sem]
      have q0 : W0.cell? ⟨w.heap.size, 0, none⟩ = some (.int .i64 0) := by rw [hW0]; simp (maxDischargeDepth := 12) [go_sem]
      have q1 : W0.cell? ⟨w.heap.size, 1, none⟩ = some (.int .i64 0) := by rw [hW0]; simp (maxDischargeDepth := 12) [go_sem]
      have f0 : W0.frozen? ⟨w.heap.size, 0, none⟩ = false := by rw [hW0]; simp (maxDischargeDepth := 12) [go_sem]
      have f1 : W0.frozen? ⟨w.heap.size, 1, none⟩ = false := by rw [hW0]; simp (maxDischargeDepth := 12) [go_sem]
      have k0 : Below w.heap.size w W0 := by rw [hW0]; go_grown
      have k1 : w.heap.size + 1 < W0.heap.size := by rw [hW0]; first | (simp; done) | (simp; omega)
      clear hW0
      have HG : Hid (ErrT W0) := hg.below k0
      have Q0 : Hid (∀ W, Below W0.heap.size W0 W → W.cell? ⟨w.heap.size, 0, none⟩ = some (.int .i64 0) ∧ W.cell? ⟨w.heap.size, 1, none⟩ = some (.int .i64 0) ∧ W.frozen? ⟨w.heap.size, 0, none⟩ = false ∧ W.frozen? ⟨w.heap.size, 1, none⟩ = false ∧ W.cell? ⟨w.heap.size + 1, 0, none⟩ = some (.int .i64 l) ∧ Below w.heap.size w W) := fun W hW =>
        ⟨(hW.cell (p := ⟨w.heap.size, 0, none⟩) (by first | (simp; done) | (simp; omega))).trans q0, (hW.cell (p := ⟨w.heap.size, 1, none⟩) (by first | (simp; done) | (simp; omega))).trans q1, (hW.frozen (p := ⟨w.heap.size, 0, none⟩) (by first | (simp; done) | (simp; omega))).trans f0, (hW.frozen (p := ⟨w.heap.size, 1, none⟩) (by first | (simp; done) | (simp; omega))).trans f1, (hW.cell (p := ⟨w.heap.size + 1, 0, none⟩) k1).trans d0, k0.trans (hW.mono k0.size)⟩
      go_region_with (go_at_call 24; refine (cn.out _ (HG.out.below (by go_grown))).mono ?_; rintro e w1 ⟨rfl, hb1⟩; obtain ⟨hB1, -⟩ := bgX (n := W0.heap.size) (W0 := W0) (by go_grown) (by go_size) hb1; clear hb1; obtain ⟨x0, x1, x2, x3, x4, x5⟩ := Q0.out w1 hB1)
      all_goals
        have g0 : ((w1.setCell ⟨w.heap.size, 0, none⟩ (.int .i64 E)).setCell ⟨w.heap.size, 1, none⟩ (.int .i64 l)).cell? ⟨w.heap.size, 0, none⟩ = some (.int .i64 E) := by simp (maxDischargeDepth := 8) [go_sem, x0]
        have g1 : ((w1.setCell ⟨w.heap.size, 0, none⟩ (.int .i64 E)).setCell ⟨w.heap.size, 1, none⟩ (.int .i64 l)).cell? ⟨w.heap.size, 1, none⟩ = some (.int .i64 l) := by simp (maxDischargeDepth := 8) [go_sem, x1]
        have K9 : Below w.heap.size w ((w1.setCell ⟨w.heap.size, 0, none⟩ (.int .i64 E)).setCell ⟨w.heap.size, 1, none⟩ (.int .i64 l)) := (x5.setCell (p := ⟨w.heap.size, 0, none⟩) (Nat.le_refl _) _).setCell (p := ⟨w.heap.size, 1, none⟩) (Nat.le_refl _) _
        go_wp2
        generalize (w1.setCell ⟨w.heap.size, 0, none⟩ (.int .i64 E)).setCell ⟨w.heap.size, 1, none⟩ (.int .i64 l) = W9 at g0 g1 K9 ⊢
        refine bodyPost_ret (by simp [results, Tryz.results35, go_sem, g0, g1]; try rfl) rfl ?_
        exact ⟨rfl, K9⟩

theorem own_setG {w : World} {N : Nat} {v : Value} {es : List Dec} (h : OwnG N v es w) {a : Addr} (ha : a.block < N) (u : Value) : OwnG N v es (w.setCell a u) := by
  obtain ⟨zs, h1, h2⟩ := h
  exact ⟨zs, ownsRow_setCell_below h1 ha u, h2.mono fun b xs k => ownsRow_setCell_below k ha u⟩
/-- What ParseSignature answers. -/
def PsOut (N : Nat) (w : World) (D : Int × Int × List Dec) (r : Ending) (w' : World) : Prop := Below N w w' ∧ ∃ p c, r = .returned (.tuple #[.slice p D.2.2.length c, .agg #[.int .i64 D.1, .int .i64 D.2.1]]) ∧ OwnG N (.slice p D.2.2.length c) D.2.2 w'
theorem PsOut.mk {N : Nat} {w w' : World} {D1 D2 : Int} {D3 : List Dec} {r : Ending} {p : Option Addr} {m c : Nat} (hb : Below N w w') (hm : m = D3.length) (ho : OwnG N (.slice p m c) D3 w') (hr : r = .returned (.tuple #[.slice p m c, .agg #[.int .i64 D1, .int .i64 D2]])) : PsOut N w (D1, D2, D3) r w' := by
  subst hm
  exact ⟨hb, p, c, hr, ho⟩
theorem rdS_zero (A : List Dec) (i : Nat) (L : List ByteArray) (h : (rdS A i L).1 = 0) : (rdS A i L).2.1 = 0 := by
  induction L generalizing A i with
  | nil => rfl
  | cons x ls ih =>
    unfold rdS at h ⊢
    by_cases h1 : cutE x = 0
    · rw [if_pos h1] at h ⊢
      by_cases h2 : (rdT A (tks x)).1 = 0
      · rw [if_pos h2] at h ⊢; exact ih _ _ h
      · rw [if_neg h2] at h; exact absurd h h2
    · rw [if_neg h1] at h; exact absurd h h1
theorem rsg_zero (s : ByteArray) (h : (rsg s).1 = 0) : (rsg s).2.1 = 0 := by
  unfold rsg at h ⊢
  by_cases h1 : 16384 < s.size
  · rw [if_pos h1] at h; cases h
  · rw [if_neg h1] at h ⊢; exact rdS_zero _ _ _ h

set_option maxRecDepth 100000 in
set_option maxHeartbeats 2000000 in
theorem parsesig_any (s : ByteArray) (w : World) (ht : Pow w) (he : Errs w) (h8 : 9 ≤ w.heap.size) (hg : ErrT w) :
    Calls Tryz.prog 15 #[.string s] w fun r w' => PsOut w.heap.size w (rsg s) r w' := by
  have ct : Hid (∀ W : World, Below w.heap.size w W → Calls Tryz.prog 34 #[.string s] W fun r w' => SgOut W.heap.size W (rsg s) r w') := fun W hW => rdsig_any s W (ht.below hW) (he.below hW h8) (Nat.le_trans h8 hW.size)
  have hz := rsg_zero s
  generalize rsg s = D at *
  obtain ⟨D1, D2, D3⟩ := D
  dsimp only at hz
  have cn : Hid (∀ W : World, ErrT W → Calls Tryz.prog 35 #[sgV D1 D2] W fun r w' => r = .returned (.agg #[.int .i64 D1, .int .i64 D2]) ∧ Below W.heap.size W w') := fun W hW => wrong_any D1 D2 W hW hz
  clear ht he h8
  go_enter Tryz.func15, Tryz.ntmps15
  go_wp2_with fail
  refine (ct.out _ (by go_grown)).mono ?_
  rintro r w1 ⟨hb1, p, c, rfl, ho⟩
  dsimp only
  have q0 : w1.cell? ⟨w.heap.size, 0, none⟩ = some (.int .i64 0) := (hb1.cell (p := ⟨w.heap.size, 0, none⟩) (by first | (simp; done) | (simp; omega))).trans (by simp [go_sem])
  have q1 : w1.cell? ⟨w.heap.size, 1, none⟩ = some (.int .i64 0) := (hb1.cell (p := ⟨w.heap.size, 1, none⟩) (by first | (simp; done) | (simp; omega))).trans (by simp [go_sem])
  have f0 : w1.frozen? ⟨w.heap.size, 0, none⟩ = false := (hb1.frozen (p := ⟨w.heap.size, 0, none⟩) (by first | (simp; done) | (simp; omega))).trans (by simp [go_sem])
  have f1 : w1.frozen? ⟨w.heap.size, 1, none⟩ = false := (hb1.frozen (p := ⟨w.heap.size, 1, none⟩) (by first | (simp; done) | (simp; omega))).trans (by simp [go_sem])
  have hs1 : w.heap.size < w1.heap.size := by have := hb1.size; simp at this; omega
  obtain ⟨hB1, -⟩ := bgX (n := w.heap.size) (W0 := w) (by go_grown) (by go_size) hb1
  have HO : Hid (OwnG (w.heap.size + 1) (.slice p D3.length c) D3 w1) := ho.base (by simp)
  clear hb1 ct ho
  obtain ⟨m, em⟩ : ∃ m : Nat, Hid (D3.length = m) := ⟨_, rfl⟩
  rw [em.out] at HO ⊢
  have cn2 : Hid (Calls Tryz.prog 35 #[sgV D1 D2] w1 fun r w' => r = .returned (.agg #[.int .i64 D1, .int .i64 D2]) ∧ Below w1.heap.size w1 w') := cn.out w1 (hg.below hB1)
  clear cn
  generalize sgV D1 D2 = EV at *
  go_wp2_with fail
  refine cn2.out.mono ?_
  rintro r w2 ⟨rfl, hb2⟩
  have p0 : w2.cell? ⟨w.heap.size, 0, none⟩ = some (.int .i64 0) := (hb2.cell (p := ⟨w.heap.size, 0, none⟩) hs1).trans q0
  have p1 : w2.cell? ⟨w.heap.size, 1, none⟩ = some (.int .i64 0) := (hb2.cell (p := ⟨w.heap.size, 1, none⟩) hs1).trans q1
  have h0 : w2.frozen? ⟨w.heap.size, 0, none⟩ = false := (hb2.frozen (p := ⟨w.heap.size, 0, none⟩) hs1).trans f0
  have h1 : w2.frozen? ⟨w.heap.size, 1, none⟩ = false := (hb2.frozen (p := ⟨w.heap.size, 1, none⟩) hs1).trans f1
  have K2 : Below w.heap.size w w2 := hB1.trans (hb2.mono hB1.size)
  have HO2 : Hid (OwnG (w.heap.size + 1) (.slice p m c) D3 w2) := HO.out.below hb2
  clear cn2 q0 q1 f0 f1 HO hb2
  have g0 : ((w2.setCell ⟨w.heap.size, 0, none⟩ (.int .i64 D1)).setCell ⟨w.heap.size, 1, none⟩ (.int .i64 D2)).cell? ⟨w.heap.size, 0, none⟩ = some (.int .i64 D1) := by simp (maxDischargeDepth := 8) [go_sem, p0]
  have g1 : ((w2.setCell ⟨w.heap.size, 0, none⟩ (.int .i64 D1)).setCell ⟨w.heap.size, 1, none⟩ (.int .i64 D2)).cell? ⟨w.heap.size, 1, none⟩ = some (.int .i64 D2) := by simp (maxDischargeDepth := 8) [go_sem, p1]
  have K9 : Below w.heap.size w ((w2.setCell ⟨w.heap.size, 0, none⟩ (.int .i64 D1)).setCell ⟨w.heap.size, 1, none⟩ (.int .i64 D2)) := (K2.setCell (p := ⟨w.heap.size, 0, none⟩) (Nat.le_refl _) _).setCell (p := ⟨w.heap.size, 1, none⟩) (Nat.le_refl _) _
  have O9 : Hid (OwnG w.heap.size (.slice p m c) D3 ((w2.setCell ⟨w.heap.size, 0, none⟩ (.int .i64 D1)).setCell ⟨w.heap.size, 1, none⟩ (.int .i64 D2))) := (own_setG (own_setG HO2.out (a := ⟨w.heap.size, 0, none⟩) (by simp) _) (a := ⟨w.heap.size, 1, none⟩) (by simp) _).base (by omega)
  go_wp2
  generalize (w2.setCell ⟨w.heap.size, 0, none⟩ (.int .i64 D1)).setCell ⟨w.heap.size, 1, none⟩ (.int .i64 D2) = W9 at g0 g1 K9 O9 ⊢
  refine bodyPost_ret (by simp [results, Tryz.results15, go_sem, g0, g1]; try rfl) rfl ?_
  exact PsOut.mk K9 em.out.symm O9.out rfl

end Go.Proofs.YticmebamclacaaaGreatDoor

namespace Go.Proofs.YticmebamclacaaaGreatDoor
open Go.RowKit LX Go.Shelf
set_option linter.unusedVariables false

theorem PpOut.mk {N N' : Nat} {w w' : World} {D1 D2 : Int} {D3 : List Evt} {r : Ending} {p : Option Addr} {m c : Nat} (hb : Below N w w') (hm : m = D3.length) (hN : N ≤ N') (ho : OwnE N' (.slice p m c) D3 w') (hr : r = .returned (.tuple #[.agg #[.int .i64 D2, .slice p m c], .int .i64 D1])) : PpOut N w (D1, D2, D3) r w' := by
  subst hm
  exact ⟨hb, p, c, hr, ho.base hN⟩
set_option maxRecDepth 100000 in
set_option maxHeartbeats 2000000 in
theorem parsept_any (s : ByteArray) (w : World) (ht : Pow w) (he : Errs w) (h8 : 9 ≤ w.heap.size) (hg : ErrT w) :
    Calls Tryz.prog 19 #[.string s] w fun r w' => PpOut w.heap.size w (rdP s) r w' := by
  have ct : Hid (∀ W : World, Below w.heap.size w W → Calls Tryz.prog 41 #[.string s] W fun r w' => PtOut W.heap.size W (rdP s) r w') := fun W hW => rdpt_any s W (ht.below hW) (he.below hW h8) (Nat.le_trans h8 hW.size)
  generalize rdP s = D at *
  obtain ⟨D1, D2, D3⟩ := D
  have cn : Hid (∀ W : World, ErrT W → Calls Tryz.prog 24 #[errV D1] W fun r w' => r = .returned (.int .i64 D1) ∧ Below W.heap.size W w') := fun W hW => tnumber_any D1 W hW
  clear ht he h8
  go_enter Tryz.func19, Tryz.ntmps19
  go_wp2_with fail
  refine (ct.out _ (by go_grown)).mono ?_
  rintro r w1 ⟨hb1, p, c, rfl, ho⟩
  dsimp only
  have q0 : w1.cell? ⟨w.heap.size, 0, none⟩ = some (.int .i64 0) := (hb1.cell (p := ⟨w.heap.size, 0, none⟩) (by simp)).trans (by simp [go_sem])
  have q1 : w1.cell? ⟨w.heap.size, 1, none⟩ = some (.slice none 0 0) := (hb1.cell (p := ⟨w.heap.size, 1, none⟩) (by simp)).trans (by simp [go_sem])
  have f0 : w1.frozen? ⟨w.heap.size, 0, none⟩ = false := (hb1.frozen (p := ⟨w.heap.size, 0, none⟩) (by simp)).trans (by simp [go_sem])
  have f1 : w1.frozen? ⟨w.heap.size, 1, none⟩ = false := (hb1.frozen (p := ⟨w.heap.size, 1, none⟩) (by simp)).trans (by simp [go_sem])
  have hs1 : w.heap.size < w1.heap.size := by have := hb1.size; simp at this; omega
  obtain ⟨hB1, -⟩ := bgX (n := w.heap.size) (W0 := w) (by go_grown) (by go_size) hb1
  have HO : Hid (OwnE (w.heap.size + 1) (.slice p D3.length c) D3 w1) := ho.base (by simp)
  clear hb1 ct ho
  obtain ⟨m, em⟩ : ∃ m : Nat, Hid (D3.length = m) := ⟨_, rfl⟩
  have HG : Hid (ErrT w1) := hg.below hB1
  rw [em.out] at HO ⊢
  generalize errV D1 = EV at *
  go_upto_region 2 with fail
  refine wpX_world ?_
  intro W0 hW0
  have d0 : W0.cell? ⟨w1.heap.size, 0, none⟩ = some (.int .i64 D2) := by rw [hW0]; simp [go_sem]
  have d1 : W0.cell? ⟨w1.heap.size, 1, none⟩ = some (.slice p m c) := by rw [hW0]; simp [go_sem]
  have k0 : Below w1.heap.size w1 W0 := by rw [hW0]; go_grown
  have k1 : w1.heap.size < W0.heap.size := by rw [hW0]; simp
  clear hW0
  have Q0 : Hid (∀ W, Below W0.heap.size W0 W → W.cell? ⟨w.heap.size, 0, none⟩ = some (.int .i64 0) ∧ W.cell? ⟨w.heap.size, 1, none⟩ = some (.slice none 0 0) ∧ W.frozen? ⟨w.heap.size, 0, none⟩ = false ∧ W.frozen? ⟨w.heap.size, 1, none⟩ = false ∧ W.cell? ⟨w1.heap.size, 0, none⟩ = some (.int .i64 D2) ∧ W.cell? ⟨w1.heap.size, 1, none⟩ = some (.slice p m c) ∧ Below w.heap.size w W ∧ OwnE (w.heap.size + 1) (.slice p m c) D3 W) := fun W hW => by
    have hx := k0.trans (hW.mono k0.size)
    exact ⟨(hx.cell (p := ⟨w.heap.size, 0, none⟩) hs1).trans q0, (hx.cell (p := ⟨w.heap.size, 1, none⟩) hs1).trans q1, (hx.frozen (p := ⟨w.heap.size, 0, none⟩) hs1).trans f0, (hx.frozen (p := ⟨w.heap.size, 1, none⟩) hs1).trans f1, (hW.cell (p := ⟨w1.heap.size, 0, none⟩) k1).trans d0, (hW.cell (p := ⟨w1.heap.size, 1, none⟩) k1).trans d1, hB1.trans (hx.mono hB1.size), HO.out.below hx⟩
  have HG0 : Hid (ErrT W0) := HG.out.below k0
  go_region_with (go_at_call 24; refine (cn.out _ (HG0.out.below (by go_grown))).mono ?_; rintro e w2 ⟨rfl, hb2⟩; obtain ⟨hB2, -⟩ := bgX (n := W0.heap.size) (W0 := W0) (by go_grown) (by go_size) hb2; clear hb2; obtain ⟨x0, x1, x2, x3, x4, x5, x6, x7⟩ := Q0.out w2 hB2)
  all_goals
    have g0 : ((w2.setCell ⟨w.heap.size, 0, none⟩ (.int .i64 D2)).setCell ⟨w.heap.size, 1, none⟩ (.slice p m c)).cell? ⟨w.heap.size, 0, none⟩ = some (.int .i64 D2) := by simp (maxDischargeDepth := 8) [go_sem, x0]
    have g1 : ((w2.setCell ⟨w.heap.size, 0, none⟩ (.int .i64 D2)).setCell ⟨w.heap.size, 1, none⟩ (.slice p m c)).cell? ⟨w.heap.size, 1, none⟩ = some (.slice p m c) := by simp (maxDischargeDepth := 8) [go_sem, x1]
    have K9 : Below w.heap.size w ((w2.setCell ⟨w.heap.size, 0, none⟩ (.int .i64 D2)).setCell ⟨w.heap.size, 1, none⟩ (.slice p m c)) := (x6.setCell (p := ⟨w.heap.size, 0, none⟩) (Nat.le_refl _) _).setCell (p := ⟨w.heap.size, 1, none⟩) (Nat.le_refl _) _
    have O9 : Hid (OwnE (w.heap.size + 1) (.slice p m c) D3 ((w2.setCell ⟨w.heap.size, 0, none⟩ (.int .i64 D2)).setCell ⟨w.heap.size, 1, none⟩ (.slice p m c))) := own_setE (own_setE x7 (a := ⟨w.heap.size, 0, none⟩) (by simp) _) (a := ⟨w.heap.size, 1, none⟩) (by simp) _
    go_wp2
    generalize (w2.setCell ⟨w.heap.size, 0, none⟩ (.int .i64 D2)).setCell ⟨w.heap.size, 1, none⟩ (.slice p m c) = W9 at g0 g1 K9 O9 ⊢
    refine bodyPost_ret (by simp [results, Tryz.results19, go_sem, g0, g1]; try rfl) rfl ?_
    exact PpOut.mk K9 em.out.symm (by omega) O9.out rfl

end Go.Proofs.YticmebamclacaaaGreatDoor

namespace Go.Proofs.YticmebamclacaaaGreatDoor
open Go.RowKit LX Go.Shelf
set_option linter.unusedVariables false

/-- Why events may not be told. -/
def wevsE : List Evt → Int
  | [] => 0
  | e :: l => if wevE e = 0 then wevsE l else wevE e
def evsT : List Evt → List UInt8
  | [] => []
  | e :: l => evtT e ++ evsT l
def evW (e : Evt) : Nat := 301 * e.args.length + e.name.size + 500
def evsW : List Evt → Nat
  | [] => 0
  | e :: l => evW e + evsW l
theorem evsT_snoc (l : List Evt) (v : Evt) : evsT (l ++ [v]) = evsT l ++ evtT v := by
  induction l with
  | nil => simp [evsT]
  | cons x l ih => simp only [List.cons_append, evsT, ih, List.append_assoc]
theorem evsW_snoc (l : List Evt) (v : Evt) : evsW (l ++ [v]) = evsW l + evW v := by
  induction l with
  | nil => simp [evsW]
  | cons x l ih => simp only [List.cons_append, evsW, ih]; omega
theorem evsW_app (l r : List Evt) : evsW (l ++ r) = evsW l + evsW r := by
  induction l with
  | nil => simp [evsW]
  | cons x l ih => simp only [List.cons_append, evsW, ih]; omega
theorem evsW_take (l : List Evt) (k : Nat) (h : k < l.length) : evsW (l.take k) + evW l[k] ≤ evsW l := by
  have e1 : l.take (k + 1) = l.take k ++ [l[k]] := List.take_succ_eq_append_getElem h
  have e2 : evsW l = evsW (l.take (k + 1)) + evsW (l.drop (k + 1)) := by rw [← evsW_app, List.take_append_drop]
  rw [e2, e1, evsW_snoc]
  omega
theorem wevE_vals {e : Evt} (h : wevE e = 0) : nameB e.name = true ∧ valsE e.args = 0 := by
  unfold wevE at h
  by_cases hn : nameB e.name = true
  · rw [if_pos hn] at h; exact ⟨hn, h⟩
  · rw [if_neg hn] at h; cases h
theorem evtT_len {e : Evt} (h : wevE e = 0) (fx : ∀ v ∈ e.args, v.Fits) : (evtT e).length ≤ evW e := by
  obtain ⟨-, hv⟩ := wevE_vals h
  have h1 := argsT_len e.args (fun v hm => ⟨valsE_all hv v hm, fx v hm⟩)
  have h2 : e.name.data.toList.length = e.name.size := by simp
  unfold evtT evW
  simp only [List.length_append, List.length_cons, List.length_nil]
  omega
theorem evsT_len {l : List Evt} (h : ∀ e ∈ l, wevE e = 0) (fx : ∀ e ∈ l, ∀ v ∈ e.args, v.Fits) : (evsT l).length ≤ evsW l := by
  induction l with
  | nil => simp [evsT]
  | cons x l ih =>
    have h1 := evtT_len (h x (by simp)) (fx x (by simp))
    have h2 := ih (fun v hv => h v (by simp [hv])) (fun v hv => fx v (by simp [hv]))
    simp only [evsT, evsW, List.length_append]
    omega
/-- A point's line, and why it has none. -/
def lineT (t : Int) (es : List Evt) : List UInt8 := (64 :: Lib.itoa t) ++ evsT es
def ppE (t : Int) (es : List Evt) : Int := if sizeE t es.length = 0 then (if wevsE es = 0 then (if 4096 < (lineT t es).length then 2 else 0) else wevsE es) else sizeE t es.length
def ppT (t : Int) (es : List Evt) : List UInt8 := if ppE t es = 0 then lineT t es else []
theorem sizeE_ok {t : Int} {n : Nat} (h : sizeE t n = 0) : 0 ≤ t ∧ t ≤ 1099511627776 ∧ n ≤ 64 := by
  unfold sizeE at h
  split at h
  · cases h
  · split at h
    · cases h
    · omega
theorem ret2 {s : ByteArray} {E n : Int} {v : Value} {l : List UInt8} (hs : (⟨l.toArray⟩ : ByteArray) = s) (h : E = n) (hv : v = errV n) : Ending.returned (.tuple #[.string s, v]) = .returned (.tuple #[.string ⟨l.toArray⟩, errV E]) := by rw [h, hv, hs]

set_option maxRecDepth 100000 in
set_option maxHeartbeats 8000000 in
theorem ptext_any (V : Value) (t : Int) (es : List Evt) (w : World) (t1 : -9223372036854775808 ≤ t) (t2 : t ≤ 9223372036854775807) (hV : EvsAt w V es) (ht : Pow w) (fx : ∀ e ∈ es, ∀ v ∈ e.args, v.Fits) (lv : ∀ e ∈ es, e.args.length ≤ 9223372036854775807) (le : es.length ≤ 9223372036854775807) (hl : evsW es + 1000 ≤ 140737488355328) :
    Calls Tryz.prog 44 #[.agg #[.int .i64 t, V]] w fun r w' => r = .returned (.tuple #[.string ⟨(ppT t es).toArray⟩, errV (ppE t es)]) ∧ Below w.heap.size w w' := by
  obtain ⟨pv, cv, rfl, HY0⟩ := hV.form
  have HY : Hid (∀ i (hi : i < es.length), ∃ b off u, pv = some ⟨b, off, none⟩ ∧ b < w.heap.size ∧ w.cell? ⟨b, off + i * 2, none⟩ = some (.string es[i].name) ∧ w.cell? ⟨b, off + i * 2 + 1, none⟩ = some u ∧ RowAt w u es[i].args) := HY0
  have HT : Hid (Pow w) := ht
  have hp : Hid (ppE t es = if sizeE t es.length = 0 then (if wevsE es = 0 then (if 4096 < (lineT t es).length then 2 else 0) else wevsE es) else sizeE t es.length) := rfl
  have hq : Hid (ppT t es = if ppE t es = 0 then lineT t es else []) := rfl
  have lI := Lib.itoa_length_le t t1 t2
  clear hV HY0 ht
  obtain ⟨m, em⟩ : ∃ m : Nat, Hid (es.length = m) := ⟨_, rfl⟩
  obtain ⟨E, eE⟩ : ∃ E : Int, Hid (ppE t es = E) := ⟨_, rfl⟩
  obtain ⟨Q, eQ⟩ : ∃ Q : List UInt8, Hid (ppT t es = Q) := ⟨_, rfl⟩
  obtain ⟨Z, eZ⟩ : ∃ Z : Int, Hid (sizeE t m = Z) := ⟨_, rfl⟩
  rw [eE.out, em.out, eZ.out] at hp
  rw [eE.out, eQ.out] at hq
  rw [em.out] at le
  rw [eE.out, eQ.out, em.out]
  have cZ : Hid (∀ W : World, Calls Tryz.prog 48 #[.agg #[.int .i64 t, .slice pv m cv]] W fun e w' => e = .returned (errV Z) ∧ Below W.heap.size W w') := fun W => by
    have h := csize_any t pv m cv W
    rw [eZ.out] at h
    exact h
  go_enter Tryz.func44, Tryz.ntmps44
  by_cases hZ : Z = 0
  · have hp1 : Hid (E = if wevsE es = 0 then (if 4096 < (lineT t es).length then 2 else 0) else wevsE es) := by have h := hp.out; rwa [if_pos hZ] at h
    have h64 : m ≤ 64 := (sizeE_ok (eZ.out.trans hZ)).2.2
    subst hZ
    rw [errV_0] at cZ
    obtain ⟨A, eA⟩ : ∃ A : ByteArray, Hid (⟨(Lib.itoa t).toArray⟩ = A) := ⟨_, rfl⟩
    obtain ⟨S, eS⟩ : ∃ S : ByteArray, Hid (S = (⟨#[64]⟩ : ByteArray) ++ A) := ⟨_, rfl⟩
    have sA : A.size ≤ 21 := by rw [← eA.out]; show (Lib.itoa t).toArray.size ≤ 21; simpa using lI
    have x1 : ∀ W : World, (Op.stringOp .add ⟨#[64]⟩ A).run Tryz.prog W = .ok (.string S) W := fun W => by
      rw [run_string_add_sum W _ _ (by have : (⟨#[64]⟩ : ByteArray).size = 1 := rfl
                                       omega), eS.out]
    have sS : S.size ≤ 22 := by
      rw [eS.out, ByteArray.size_append]
      have : (⟨#[64]⟩ : ByteArray).size = 1 := rfl
      omega
    have lS : Hid (S.data.toList = 64 :: Lib.itoa t) := by unfold Hid; rw [eS.out, ← eA.out]; simp
    have cI : Hid (∀ W : World, Pow W → Calls Tryz.prog 60 #[.int .i64 t, .int .i64 10] W fun e w' => e = .returned (.string A) ∧ Below W.heap.size W w') := fun W hW => by
      refine (Tryz.strconv_FormatInt_10 t t1 t2 W hW).mono ?_
      rintro e w1 ⟨rfl, k, os, rfl⟩
      rw [eA.out]
      exact ⟨rfl, below_grow W k os⟩
    go_wp2_with fail
    refine (cZ.out _).mono ?_
    rintro e w1 ⟨rfl, hb1⟩
    have b0 : w1.cell? ⟨w.heap.size, 0, none⟩ = some (.int .i64 t) := (hb1.cell (p := ⟨w.heap.size, 0, none⟩) (by simp)).trans (by simp [go_sem])
    have b1 : w1.cell? ⟨w.heap.size, 1, none⟩ = some (.slice pv m cv) := (hb1.cell (p := ⟨w.heap.size, 1, none⟩) (by simp)).trans (by simp [go_sem])
    have hs1 : w.heap.size < w1.heap.size := by have := hb1.size; simp at this; omega
    obtain ⟨hB1, -⟩ := bgX (n := w.heap.size) (W0 := w) (by go_grown) (by go_size) hb1
    clear hb1 cZ
    go_wp2_with fail
    refine (cI.out _ (HT.out.below (hB1.trans (Below.mono (B := w1.heap.size) (by go_grown) hB1.size)))).mono ?_
    rintro e w2 ⟨rfl, hb2⟩
    have HB2 : Hid (Bld w1.heap.size w1.heap.size [] w2) := by
      have h0 : Bld w1.heap.size w1.heap.size [] (w1.alloc (.cells #[.pointer none, .slice none 0 0] 62)) := Lib.fresh_isBuilder _ _ w1
      exact h0.below hb2
    have hs2 : w1.heap.size < w2.heap.size := by have := hb2.size; simp at this; omega
    have c1 : w2.cell? ⟨w.heap.size, 1, none⟩ = some (.slice pv m cv) := (hb2.cell (p := ⟨w.heap.size, 1, none⟩) (by simp; omega)).trans (by rw [World.cell?_alloc_lt _ _ ⟨w.heap.size, 1, none⟩ hs1]; exact b1)
    obtain ⟨hB2, -⟩ := bgX (n := w1.heap.size) (W0 := w1) (by go_grown) (by go_size) hb2
    clear hb2 cI b0 b1
    go_wp2_with fail
    refine (wsB w1.heap.size w1.heap.size [] S _ HB2.out (by simp; omega) (by omega)).mono ?_
    rintro e w3 ⟨rfl, hb3, hB3, -⟩
    have d1 : w3.cell? ⟨w.heap.size, 1, none⟩ = some (.slice pv m cv) := (hB3.cell (p := ⟨w.heap.size, 1, none⟩) hs1).trans c1
    have K3 : Below w1.heap.size w1 w3 := hB2.trans hB3
    have HB3 : Hid (Bld w1.heap.size w1.heap.size (64 :: Lib.itoa t) w3) := by rw [← lS.out]; exact hb3
    have hs3 : w1.heap.size < w3.heap.size := Nat.lt_of_lt_of_le hs2 hB3.size
    clear hb3 hB3 hB2 HB2 c1 x1
    go_wp2
    go_loopw [22] (fun i wr => ∃ k : Nat, k ≤ m ∧ i = .int .i64 k ∧ Hid (wevsE es = wevsE (es.drop k)) ∧ Hid (∀ v ∈ es.take k, wevE v = 0) ∧ Hid (Bld w1.heap.size w1.heap.size ((64 :: Lib.itoa t) ++ evsT (es.take k)) wr) ∧ Below w1.heap.size w1 wr) (fun i _ => m - (intOf i).toNat)
    case atStart => exact ⟨0, Nat.zero_le _, rfl, by rw [List.drop_zero]; exact (show wevsE es = wevsE es from rfl), (fun v hv => by simp at hv), by simpa [evsT, Hid] using HB3.out, K3⟩
    case round =>
      obtain ⟨k, hk, rfl, hr, hok, hbl, hBw⟩ := hrel
      have lT : (evsT (es.take k)).length ≤ evsW (es.take k) := evsT_len hok.out (fun e he => fx e (List.mem_of_mem_take he))
      have lG : ((64 :: Lib.itoa t) ++ evsT (es.take k)).length ≤ evsW (es.take k) + 22 := by
        rw [List.length_append, List.length_cons]
        omega
      have hBww : Below w.heap.size w wr := hB1.trans (hBw.mono hB1.size)
      by_cases hlt : k < m
      · have kx : k < es.length := by have := em.out; omega
        obtain ⟨b, off, u, rfl, hb, r0, r1, r2⟩ := HY.out k kx
        have a0 := (hBww.cell (p := ⟨b, off + k * 2, none⟩) hb).trans r0
        have a1 := (hBww.cell (p := ⟨b, off + k * 2 + 1, none⟩) hb).trans r1
        have hr2 : Hid (wevsE es = if wevE es[k] = 0 then wevsE (es.drop (k + 1)) else wevE es[k]) := by
          have h := hr.out
          rw [List.drop_eq_getElem_cons kx] at h
          exact h
        have hbl2 : Hid (∀ W, Bld w1.heap.size w1.heap.size ((64 :: Lib.itoa t) ++ evsT (es.take k) ++ evtT es[k]) W → Bld w1.heap.size w1.heap.size ((64 :: Lib.itoa t) ++ evsT (es.take (k + 1))) W) := fun W h => by
          rw [List.take_succ_eq_append_getElem kx, evsT_snoc, ← List.append_assoc]
          exact h
        have hok2 : Hid (wevE es[k] = 0 → ∀ v ∈ es.take (k + 1), wevE v = 0) := fun hz v hv => by
          rw [List.take_succ_eq_append_getElem kx] at hv
          rcases List.mem_append.1 hv with hv | hv
          · exact hok.out v hv
          · rw [List.mem_singleton] at hv; rw [hv]; exact hz
        have hwk := evsW_take es k kx
        obtain ⟨D, eD⟩ : ∃ D : Int, Hid (wevE es[k] = D) := ⟨wevE es[k], (show _ = _ from rfl)⟩
        have HBL : Hid (Bld w1.heap.size w1.heap.size ((64 :: Lib.itoa t) ++ evsT (es.take k)) wr) := hbl
        have ct : Hid (∀ W : World, Below wr.heap.size wr W → Calls Tryz.prog 61 #[.pointer (some ⟨w1.heap.size, 0, none⟩), .agg #[.string es[k].name, u]] W fun r w' => r = .returned (errV D) ∧ Below w1.heap.size W w' ∧ (D = 0 → Bld w1.heap.size w1.heap.size ((64 :: Lib.itoa t) ++ evsT (es.take k) ++ evtT es[k]) w')) := fun W hW => by
          have h := wev_any w1.heap.size w1.heap.size ((64 :: Lib.itoa t) ++ evsT (es.take k)) es[k] u w W (hBww.trans (hW.mono hBww.size)) (Nat.le_of_lt hs1) (Nat.le_trans hBw.size hW.size) (HBL.out.below hW) r2 HT.out (fx _ (List.getElem_mem kx)) (lv _ (List.getElem_mem kx)) (by unfold evW at hwk; omega)
          rw [eD.out] at h
          exact h
        rw [eD.out] at hr2 hok2
        obtain ⟨pu, cu, rfl, -⟩ := r2.formX
        clear r0 r1 r2 hr eD hok hbl HBL lG lT
        generalize es[k].args.length = nk at a1 ct
        generalize (64 :: Lib.itoa t) ++ evsT (es.take k) ++ evtT es[k] = G at ct hbl2
        generalize es[k].name = X at a0 ct
        by_cases hD : D = 0
        · have hr3 : Hid (wevsE es = wevsE (es.drop (k + 1))) := by have h := hr2.out; rwa [if_pos hD] at h
          have hok3 : Hid (∀ v ∈ es.take (k + 1), wevE v = 0) := hok2.out hD
          subst hD
          rw [errV_0] at ct
          clear hr2 hok2
          go_wp2_with fail
          refine (ct.out _ (by go_grown)).mono ?_
          rintro e w4 ⟨rfl, hb4, hg4⟩
          have K4 : Below w1.heap.size w1 w4 := hBw.trans (Below.trans (Below.mono (B := wr.heap.size) (by go_grown) hBw.size) hb4)
          have HB4 : Hid (Bld w1.heap.size w1.heap.size ((64 :: Lib.itoa t) ++ evsT (es.take (k + 1))) w4) := hbl2.out w4 (hg4 (by first | trivial | rfl))
          clear ct a0 a1 hb4 hg4 hbl2
          go_wp2
          exact ⟨⟨k + 1, by omega, by go_num, hr3, hok3, HB4, K4⟩, by simp [intOf]; omega⟩
        · have hr3 : Hid (wevsE es = D) := by have h := hr2.out; rwa [if_neg hD] at h
          have hE : Hid (E = D) := by
            have h := hp1.out
            rw [hr3.out, if_neg hD] at h
            exact h
          have hQ : Hid (Q = []) := by have h := hq.out; rwa [if_neg (by rw [hE.out]; exact hD)] at h
          have hd : Hid (errV D = .iface 92 (.agg #[.int .i64 D])) := errV_ne hD
          rw [hd.out] at ct
          clear hr2 hD hok2
          go_wp2_with fail
          refine (ct.out _ (by go_grown)).mono ?_
          rintro e w4 ⟨rfl, hb4, -⟩
          have K4 : Below w1.heap.size w1 w4 := hBw.trans (Below.trans (Below.mono (B := wr.heap.size) (by go_grown) hBw.size) hb4)
          have K5 : Below w.heap.size w w4 := hB1.trans (K4.mono hB1.size)
          clear ct a0 a1 hb4 hbl2
          go_wp2
          go_ret2
          exact ⟨ret2 (by rw [hQ.out]) hE.out hd.out.symm, K5⟩
      · have c2 : ¬ (k : Int) < m := by omega
        have hr3 : Hid (wevsE es = 0) := by
          have h := hr.out
          rw [List.drop_eq_nil_of_le (by have := em.out; omega)] at h
          exact h
        have hall : es.take k = es := List.take_of_length_le (by have := em.out; omega)
        rw [hall] at hbl
        have HBL : Hid (Bld w1.heap.size w1.heap.size (lineT t es) wr) := hbl
        have hE1 : Hid (E = if 4096 < (lineT t es).length then 2 else 0) := by have h := hp1.out; rwa [if_pos hr3.out] at h
        have cL : Hid (Calls Tryz.prog 62 #[.pointer (some ⟨w1.heap.size, 0, none⟩)] wr fun e w' => e = .returned (.int .i64 (lineT t es).length) ∧ w' = wr) := by
          have h := Tryz.Builder_Len w1.heap.size w1.heap.size _ wr HBL.out
          rw [Lib.byteCells_length] at h
          exact h
        have cT : Hid (Calls Tryz.prog 32 #[.pointer (some ⟨w1.heap.size, 0, none⟩)] wr fun e w' => e = .returned (.string ⟨(lineT t es).toArray⟩) ∧ Below w1.heap.size wr w') := Tryz.Builder_String_any w1.heap.size w1.heap.size _ wr HBL.out hBw.size
        clear hbl hall lT lG hr hok HBL
        generalize hN : (lineT t es).length = N at cL hE1
        have hN' : Hid ((lineT t es).length = N) := hN
        clear hN
        generalize lineT t es = LT at cT hq hN'
        by_cases h4 : 4096 < N
        · have hE : Hid (E = 2) := by have h := hE1.out; rwa [if_pos h4] at h
          have hQ : Hid (Q = []) := by have h := hq.out; rwa [if_neg (by rw [hE.out]; decide)] at h
          have h4' : (4096 : Int) < N := by omega
          go_wp2_with fail
          refine cL.out.mono ?_
          rintro e w4 ⟨rfl, rfl⟩
          clear cL cT
          go_wp2
          go_ret2
          exact ⟨ret2 (by rw [hQ.out]) hE.out rfl, hBww⟩
        · have hE : Hid (E = 0) := by have h := hE1.out; rwa [if_neg h4] at h
          have hQ : Hid (Q = LT) := by have h := hq.out; rwa [if_pos hE.out] at h
          have h4' : ¬ (4096 : Int) < N := by omega
          go_wp2_with fail
          refine cL.out.mono ?_
          rintro e w4 ⟨rfl, rfl⟩
          clear cL
          go_wp2_with fail
          refine cT.out.mono ?_
          rintro e w5 ⟨rfl, hb5⟩
          have K5 : Below w.heap.size w w5 := hBww.trans (hb5.mono (Nat.le_of_lt hs1))
          clear cT hb5
          go_wp2
          go_ret2
          exact ⟨ret2 (by rw [hQ.out]) hE.out rfl, K5⟩
  · have hE : Hid (E = Z) := by have h := hp.out; rwa [if_neg hZ] at h
    have hQ : Hid (Q = []) := by have h := hq.out; rwa [if_neg (by rw [hE.out]; exact hZ)] at h
    have hd : Hid (errV Z = .iface 92 (.agg #[.int .i64 Z])) := errV_ne hZ
    rw [hd.out] at cZ
    clear hZ
    go_wp2_with fail
    refine (cZ.out _).mono ?_
    rintro e w1 ⟨rfl, hb1⟩
    obtain ⟨hB1, -⟩ := bgX (n := w.heap.size) (W0 := w) (by go_grown) (by go_size) hb1
    clear hb1 cZ
    go_wp2
    go_ret2
    exact ⟨ret2 (by rw [hQ.out]) hE.out hd.out.symm, hB1⟩

set_option maxRecDepth 100000 in
theorem ppoint_any (V : Value) (t : Int) (es : List Evt) (w : World) (hg : ErrT w) (t1 : -9223372036854775808 ≤ t) (t2 : t ≤ 9223372036854775807) (hV : EvsAt w V es) (ht : Pow w) (fx : ∀ e ∈ es, ∀ v ∈ e.args, v.Fits) (lv : ∀ e ∈ es, e.args.length ≤ 9223372036854775807) (le : es.length ≤ 9223372036854775807) (hl : evsW es + 1000 ≤ 140737488355328) :
    Calls Tryz.prog 22 #[.agg #[.int .i64 t, V]] w fun r w' => r = .returned (.tuple #[.string ⟨(ppT t es).toArray⟩, .int .i64 (ppE t es)]) ∧ Below w.heap.size w w' := by
  have ct : Hid (∀ W : World, Below w.heap.size w W → Calls Tryz.prog 44 #[.agg #[.int .i64 t, V]] W fun r w' => r = .returned (.tuple #[.string ⟨(ppT t es).toArray⟩, errV (ppE t es)]) ∧ Below W.heap.size W w') := fun W hW => ptext_any V t es W t1 t2 (hV.below hW) (ht.below hW) fx lv le hl
  obtain ⟨pv, cv, rfl, -⟩ := hV.form
  generalize (⟨(ppT t es).toArray⟩ : ByteArray) = Q at *
  generalize ppE t es = E at *
  clear hV fx lv hl
  generalize es.length = m at *
  have cn : Hid (∀ W : World, ErrT W → Calls Tryz.prog 24 #[errV E] W fun r w' => r = .returned (.int .i64 E) ∧ Below W.heap.size W w') := fun W hW => tnumber_any E W hW
  generalize errV E = EV at *
  go_enter Tryz.func22, Tryz.ntmps22
  go_wp2_with fail
  refine (ct.out _ (by go_grown)).mono ?_
  rintro e w1 ⟨rfl, hw1⟩
  obtain ⟨hB1, -⟩ := bgX (n := w.heap.size) (W0 := w) (by go_grown) (by go_size) hw1
  clear ct hw1
  go_wp2_with fail
  refine (cn.out _ (hg.below hB1)).mono ?_
  rintro e w2 ⟨rfl, hw2⟩
  have K : Below w.heap.size w w2 := hB1.trans (hw2.mono hB1.size)
  clear cn hB1 hw2
  go_wp2
  go_ret2
  exact ⟨rfl, K⟩

end Go.Proofs.YticmebamclacaaaGreatDoor

namespace Go.Proofs.YticmebamclacaaaGreatDoor
open Go.RowKit LX Go.Shelf
set_option linter.unusedVariables false

end Go.Proofs.YticmebamclacaaaGreatDoor

namespace Go.Proofs.YticmebamclacaaaGreatDoor
open Go.RowKit LX Go.Shelf
set_option maxRecDepth 100000

abbrev s1 : ByteArray := ⟨#[112, 32, 105, 110, 116, 10, 10, 113, 32, 105, 110, 116, 32, 115, 116, 114]⟩
abbrev s2 : ByteArray := ⟨#[112, 32, 105, 110, 116, 10, 112]⟩
abbrev s3 : ByteArray := ⟨#[64, 53, 32, 40, 112, 32, 49, 41, 32, 40, 113, 32, 50, 32, 34, 120, 34, 41]⟩
abbrev s4 : ByteArray := ⟨#[53]⟩
def lvL : List Dec := [⟨⟨#[112]⟩, [1]⟩, ⟨⟨#[113]⟩, [1, 3]⟩]
def lvE : List Evt := [⟨⟨#[112]⟩, [⟨1, 1, 0, ⟨#[]⟩⟩]⟩, ⟨⟨#[113]⟩, [⟨1, 2, 0, ⟨#[]⟩⟩, ⟨3, 0, 0, ⟨#[120]⟩⟩]⟩]
theorem lv1 : rsg s1 = (0, 0, lvL) := by kernel_rfl
theorem lv2 : rsg s2 = (1, 2, []) := by kernel_rfl
theorem lv3 : rdP s3 = (0, 5, lvE) := by kernel_rfl
theorem lv4 : rdP s4 = (70, 0, []) := by kernel_rfl
theorem lv5 : ppT 5 lvE = s3.data.toList := by kernel_rfl
theorem lv6 : ppE 5 lvE = 0 := by kernel_rfl
theorem lv7 : pointE lvL 5 lvE = 0 := by kernel_rfl
theorem lv8 : pointE (lvL.take 1) 5 lvE = 90 := by kernel_rfl
end Go.Proofs.YticmebamclacaaaGreatDoor

namespace Go.Proofs.YticmebamclacaaaGreatDoor
open Go.RowKit LX Go.Shelf
set_option linter.unusedVariables false

/-- What the library's variables hold. -/
structure Env (w : World) : Prop where
  pow : Pow w
  errs : Errs w
  size : 9 ≤ w.heap.size
  err : ErrT w
theorem Env.below {w W : World} (h : Env w) (hb : Below w.heap.size w W) : Env W := ⟨h.pow.below hb, h.errs.below hb h.size, Nat.le_trans h.size hb.size, h.err.below hb⟩

set_option maxRecDepth 100000 in
set_option maxHeartbeats 2000000 in
theorem trlive_any (w : World) (he : Env w) :
    Calls Tryz.prog 10 #[] w fun r w' => r = .returned (.bool true) ∧ Below w.heap.size w w' := by
  have c1 : Hid (∀ W : World, Below w.heap.size w W → Calls Tryz.prog 15 #[.string s1] W fun r w' => Below W.heap.size W w' ∧ ∃ p c, r = .returned (.tuple #[.slice p 2 c, .agg #[.int .i64 0, .int .i64 0]]) ∧ OwnG W.heap.size (.slice p 2 c) lvL w') := fun W hW => by
    have e := he.below hW
    have h := parsesig_any s1 W e.pow e.errs e.size e.err
    rw [lv1] at h
    exact h
  have c2 : Hid (∀ W : World, Below w.heap.size w W → Calls Tryz.prog 15 #[.string s2] W fun r w' => Below W.heap.size W w' ∧ ∃ p c, r = .returned (.tuple #[.slice p 0 c, .agg #[.int .i64 1, .int .i64 2]])) := fun W hW => by
    have e := he.below hW
    have h := parsesig_any s2 W e.pow e.errs e.size e.err
    rw [lv2] at h
    exact h.mono fun r w' ⟨k1, p, c, k2, _⟩ => ⟨k1, p, c, k2⟩
  have c3 : Hid (∀ W : World, Below w.heap.size w W → Calls Tryz.prog 19 #[.string s3] W fun r w' => Below W.heap.size W w' ∧ ∃ p c, r = .returned (.tuple #[.agg #[.int .i64 5, .slice p 2 c], .int .i64 0]) ∧ OwnE W.heap.size (.slice p 2 c) lvE w') := fun W hW => by
    have e := he.below hW
    have h := parsept_any s3 W e.pow e.errs e.size e.err
    rw [lv3] at h
    exact h
  have c4 : Hid (∀ W : World, Below w.heap.size w W → Calls Tryz.prog 19 #[.string s4] W fun r w' => Below W.heap.size W w' ∧ ∃ p c, r = .returned (.tuple #[.agg #[.int .i64 0, .slice p 0 c], .int .i64 70])) := fun W hW => by
    have e := he.below hW
    have h := parsept_any s4 W e.pow e.errs e.size e.err
    rw [lv4] at h
    exact h.mono fun r w' ⟨k1, p, c, k2, _⟩ => ⟨k1, p, c, k2⟩
  have fx : ∀ e ∈ lvE, ∀ v ∈ e.args, v.Fits := by
    intro e he v hv
    simp only [lvE, List.mem_cons, List.not_mem_nil, or_false] at he
    rcases he with rfl | rfl
    · simp only [List.mem_cons, List.not_mem_nil, or_false] at hv
      subst hv
      exact ⟨by decide, by decide, by decide, by decide⟩
    · simp only [List.mem_cons, List.not_mem_nil, or_false] at hv
      rcases hv with rfl | rfl
      · exact ⟨by decide, by decide, by decide, by decide⟩
      · exact ⟨by decide, by decide, by decide, by decide⟩
  have lv : ∀ e ∈ lvE, e.args.length ≤ 9223372036854775807 := by
    intro e he
    simp only [lvE, List.mem_cons, List.not_mem_nil, or_false] at he
    rcases he with rfl | rfl <;> decide
  have lk : ∀ d ∈ lvL, d.kinds.length ≤ 9223372036854775807 := by
    intro e he
    simp only [lvL, List.mem_cons, List.not_mem_nil, or_false] at he
    rcases he with rfl | rfl <;> decide
  have c5 : Hid (∀ (W : World) (p : Option Addr) (c : Nat), Below w.heap.size w W → EvsAt W (.slice p 2 c) lvE → Calls Tryz.prog 22 #[.agg #[.int .i64 5, .slice p 2 c]] W fun r w' => r = .returned (.tuple #[.string s3, .int .i64 0]) ∧ Below W.heap.size W w') := fun W p c hW hE => by
    have e := he.below hW
    have h := ppoint_any (.slice p 2 c) 5 lvE W e.err (by decide) (by decide) hE e.pow fx lv (by decide) (by decide)
    rw [lv5, lv6] at h
    exact h
  have c6 : Hid (∀ (W : World) (p q : Option Addr) (c d : Nat), Below w.heap.size w W → SigAt W (.slice q 2 d) lvL → EvsAt W (.slice p 2 c) lvE → Calls Tryz.prog 9 #[.slice q 2 d, .agg #[.int .i64 5, .slice p 2 c]] W fun r w' => r = .returned (.int .i64 0) ∧ Below W.heap.size W w') := fun W p q c d hW hS hE => by
    have e := he.below hW
    have h := checkpoint_any (.slice q 2 d) (.slice p 2 c) lvL 5 lvE W e.err hS hE fx (by decide) lk lv (by decide)
    rw [lv7] at h
    exact h
  have c7 : Hid (∀ (W : World) (p q : Option Addr) (c d : Nat), Below w.heap.size w W → SigAt W (.slice q 2 d) lvL → EvsAt W (.slice p 2 c) lvE → Calls Tryz.prog 9 #[.slice q 1 d, .agg #[.int .i64 5, .slice p 2 c]] W fun r w' => r = .returned (.int .i64 90) ∧ Below W.heap.size W w') := fun W p q c d hW hS hE => by
    have e := he.below hW
    have h := checkpoint_any (.slice q 1 d) (.slice p 2 c) (lvL.take 1) 5 lvE W e.err (hS.take 1 (by decide)) hE fx (by decide) (fun x hx => lk x (List.mem_of_mem_take hx)) lv (by decide)
    rw [lv8] at h
    exact h
  clear he fx lv lk
  go_enter Tryz.func10, Tryz.ntmps10
  go_wp2_with fail
  refine (c1.out _ (Below.refl _ _)).mono ?_
  rintro r w1 ⟨hB1, p1, d1, rfl, hO1⟩
  have HO1 : Hid (SigAt w1 (.slice p1 2 d1) lvL) := hO1.at
  have hd2 : 2 ≤ d1 := by
    obtain ⟨p1', d1', e1, hd1, -⟩ := HO1.out.form
    injection e1 with _ _ e1
    subst e1
    exact hd1
  have hd3 : (1 : Int) ≤ d1 := by omega
  clear hO1 c1
  go_wp2_with fail
  refine (c2.out _ (hB1.trans (Below.mono (B := w1.heap.size) (by go_grown) hB1.size))).mono ?_
  rintro r w2 ⟨hb2, p2, d2, rfl⟩
  have w0 : w2.cell? ⟨w1.heap.size, 0, none⟩ = some (.int .i64 0) := (hb2.cell (p := ⟨w1.heap.size, 0, none⟩) (by simp)).trans (by simp [go_sem])
  have w0' : w2.cell? ⟨w1.heap.size, 1, none⟩ = some (.int .i64 0) := (hb2.cell (p := ⟨w1.heap.size, 1, none⟩) (by simp)).trans (by simp [go_sem])
  have hs2 : w1.heap.size < w2.heap.size := by have := hb2.size; simp at this; omega
  obtain ⟨hB2, -⟩ := bgX (n := w1.heap.size) (W0 := w1) (by go_grown) (by go_size) hb2
  have K2 : Below w.heap.size w w2 := hB1.trans (hB2.mono hB1.size)
  have HO2 : Hid (SigAt w2 (.slice p1 2 d1) lvL) := HO1.out.below hB2
  clear hb2 c2 HO1 hB1
  go_wp2_with fail
  refine (c3.out _ (K2.trans (Below.mono (B := w2.heap.size) (by go_grown) K2.size))).mono ?_
  rintro r w3 ⟨hb3, p3, d3, rfl, hE3⟩
  have v0 : w3.cell? ⟨w2.heap.size, 0, none⟩ = some (.int .i64 1) := (hb3.cell (p := ⟨w2.heap.size, 0, none⟩) (by simp)).trans (by simp [go_sem])
  have v0' : w3.cell? ⟨w2.heap.size, 1, none⟩ = some (.int .i64 2) := (hb3.cell (p := ⟨w2.heap.size, 1, none⟩) (by simp)).trans (by simp [go_sem])
  have hs3 : w2.heap.size < w3.heap.size := by have := hb3.size; simp at this; omega
  obtain ⟨hB3, -⟩ := bgX (n := w2.heap.size) (W0 := w2) (by go_grown) (by go_size) hb3
  have K3 : Below w.heap.size w w3 := K2.trans (hB3.mono K2.size)
  have HO3 : Hid (SigAt w3 (.slice p1 2 d1) lvL) := HO2.out.below hB3
  have HE3 : Hid (EvsAt w3 (.slice p3 2 d3) lvE) := hE3.at
  have u0 := (hB3.cell (p := ⟨w1.heap.size, 0, none⟩) hs2).trans w0
  have u0' := (hB3.cell (p := ⟨w1.heap.size, 1, none⟩) hs2).trans w0'
  clear hb3 c3 HO2 hE3 w0 w0' hB2 K2
  go_wp2_with fail
  refine (c5.out _ _ _ (K3.trans (Below.mono (B := w3.heap.size) (by go_grown) K3.size)) (HE3.out.below (by go_grown))).mono ?_
  rintro r w4 ⟨rfl, hb4⟩
  have t0 : w4.cell? ⟨w3.heap.size, 0, none⟩ = some (.int .i64 5) := (hb4.cell (p := ⟨w3.heap.size, 0, none⟩) (by simp)).trans (by simp [go_sem])
  have t1 : w4.cell? ⟨w3.heap.size, 1, none⟩ = some (.slice p3 2 d3) := (hb4.cell (p := ⟨w3.heap.size, 1, none⟩) (by simp)).trans (by simp [go_sem])
  have hs4 : w3.heap.size < w4.heap.size := by have := hb4.size; simp at this; omega
  obtain ⟨hB4, -⟩ := bgX (n := w3.heap.size) (W0 := w3) (by go_grown) (by go_size) hb4
  have K4 : Below w.heap.size w w4 := K3.trans (hB4.mono K3.size)
  have hs13 : w1.heap.size < w3.heap.size := Nat.lt_of_lt_of_le hs2 hB3.size
  clear hb4 c5
  go_wp2_with fail
  refine (c4.out _ K4).mono ?_
  rintro r w5 ⟨hB5, p5, d5, rfl⟩
  have KB : Below w3.heap.size w3 w5 := hB4.trans (hB5.mono hB4.size)
  have K5 : Below w.heap.size w w5 := K4.trans (hB5.mono K4.size)
  have y0 := (KB.cell (p := ⟨w1.heap.size, 0, none⟩) hs13).trans u0
  have y0' := (KB.cell (p := ⟨w1.heap.size, 1, none⟩) hs13).trans u0'
  have x0 := (KB.cell (p := ⟨w2.heap.size, 0, none⟩) hs3).trans v0
  have x0' := (KB.cell (p := ⟨w2.heap.size, 1, none⟩) hs3).trans v0'
  have z0 := (hB5.cell (p := ⟨w3.heap.size, 0, none⟩) hs4).trans t0
  have z1 := (hB5.cell (p := ⟨w3.heap.size, 1, none⟩) hs4).trans t1
  have HO5 : Hid (SigAt w5 (.slice p1 2 d1) lvL) := HO3.out.below KB
  have HE5 : Hid (EvsAt w5 (.slice p3 2 d3) lvE) := HE3.out.below KB
  have hs15 : w1.heap.size < w5.heap.size := Nat.lt_of_lt_of_le hs13 KB.size
  have hs25 : w2.heap.size < w5.heap.size := Nat.lt_of_lt_of_le hs3 KB.size
  have hs35 : w3.heap.size < w5.heap.size := Nat.lt_of_lt_of_le hs4 hB5.size
  clear c4 HO3 HE3 u0 u0' v0 v0' t0 t1 hB4 hB5 KB K4 K3 hB3 hs13 hs4 hs3 hs2
  go_upto_region 7 with fail
  refine wpX_world ?_
  intro W0 hW0
  have kA : Below w5.heap.size w5 W0 := by rw [hW0]; go_grown
  clear hW0
  have d0 := (kA.cell (p := ⟨w3.heap.size, 0, none⟩) hs35).trans z0
  have d1' := (kA.cell (p := ⟨w3.heap.size, 1, none⟩) hs35).trans z1
  have k1 : w3.heap.size < W0.heap.size := Nat.lt_of_lt_of_le hs35 kA.size
  have K0 : Below w.heap.size w W0 := K5.trans (kA.mono K5.size)
  have C6 : Hid (∀ W : World, Below W0.heap.size W0 W → Calls Tryz.prog 9 #[.slice p1 2 d1, .agg #[.int .i64 5, .slice p3 2 d3]] W fun r w' => r = .returned (.int .i64 0) ∧ Below W.heap.size W w') := fun W hW => c6.out W _ _ _ _ (K0.trans (hW.mono K0.size)) ((HO5.out.below kA).below hW) ((HE5.out.below kA).below hW)
  have C7 : Hid (∀ W : World, Below W0.heap.size W0 W → Calls Tryz.prog 9 #[.slice p1 1 d1, .agg #[.int .i64 5, .slice p3 2 d3]] W fun r w' => r = .returned (.int .i64 90) ∧ Below W.heap.size W w') := fun W hW => c7.out W _ _ _ _ (K0.trans (hW.mono K0.size)) ((HO5.out.below kA).below hW) ((HE5.out.below kA).below hW)
  clear c6 c7 HO5 HE5 kA z0 z1 y0 y0' x0 x0' hs15 hs25 hs35 K5
  go_region_held3 (fun w' => w'.cell? ⟨w3.heap.size, 0, none⟩ = some (.int .i64 5) ∧ w'.cell? ⟨w3.heap.size, 1, none⟩ = some (.slice p3 2 d3)) (exact ⟨bclX (n := W0.heap.size) (by go_grown) d0 k1, bclX (n := W0.heap.size) (by go_grown) d1' k1⟩)
    (first
      | (go_at_call_of 9 (Value.slice p1 2 d1); refine (C6.out _ (by go_grown)).mono ?_; rintro e v1 ⟨rfl, hb1⟩; obtain ⟨hX1, hn1⟩ := bgX (n := W0.heap.size) (W0 := W0) (by go_grown) (by go_size) hb1)
      | (go_at_call_of 9 (Value.slice p1 1 d1); refine (C7.out _ (by go_grown)).mono ?_; rintro e v2 ⟨rfl, hb2⟩; obtain ⟨hX2, hn2⟩ := bgX (n := W0.heap.size) (W0 := W0) (by go_grown) (by go_size) hb2))
  all_goals
    go_wp2
    go_ret
    exact ⟨rfl, K0.trans (Below.mono (B := W0.heap.size) (by go_grown) K0.size)⟩

end Go.Proofs.YticmebamclacaaaGreatDoor

namespace Go.Proofs.YticmebamclacaaaGreatDoor
open Go.RowKit LX Go.Shelf
set_option linter.unusedVariables false

set_option maxRecDepth 100000 in
set_option maxHeartbeats 2000000 in
theorem trchecks_walk (A V : Value) (L : List Dec) (t : Int) (es : List Evt) (w : World) (he : Env w) (hA : SigAt w A L) (lL : L.length ≤ 9223372036854775807) (lk : ∀ d ∈ L, d.kinds.length ≤ 9223372036854775807) (hV : EvsAt w V es) (fx : ∀ e ∈ es, ∀ v ∈ e.args, v.Fits) (lv : ∀ e ∈ es, e.args.length ≤ 9223372036854775807) (le : es.length ≤ 9223372036854775807) :
    Calls Tryz.prog 6 #[A, .agg #[.int .i64 t, V]] w fun r w' => r = .returned (.bool true) ∧ Below w.heap.size w w' := by
  have c1 : Hid (∀ W : World, Below w.heap.size w W → Calls Tryz.prog 9 #[A, .agg #[.int .i64 t, V]] W fun e w' => e = .returned (.int .i64 (pointE L t es)) ∧ Below W.heap.size W w') := fun W hW => checkpoint_any A V L t es W (he.below hW).err (hA.below hW) (hV.below hW) fx lL lk lv le
  have c2 : Hid (∀ W : World, Below w.heap.size w W → Calls Tryz.prog 18 #[A, .agg #[.int .i64 t, V]] W fun e w' => e = .returned (.int .i64 (pointE L t es)) ∧ Below W.heap.size W w') := fun W hW => rcpoint_any A V L t es W (hA.below hW) (hV.below hW) fx lL lk lv le
  have c5 : Hid (∀ W : World, Below w.heap.size w W → Calls Tryz.prog 10 #[] W fun r w' => r = .returned (.bool true) ∧ Below W.heap.size W w') := fun W hW => trlive_any W (he.below hW)
  obtain ⟨p, c, rfl, -⟩ := hA.form
  obtain ⟨pv, cv, rfl, -⟩ := hV.form
  generalize pointE L t es = E at *
  clear hA hV lk fx lv he
  generalize L.length = n at *
  generalize es.length = m at *
  go_enter Tryz.func6, Tryz.ntmps6
  go_wp2_with fail
  refine (c1.out _ (by go_grown)).mono ?_
  rintro r w1 ⟨rfl, hb1⟩
  have b0 : w1.cell? ⟨w.heap.size, 0, none⟩ = some (.int .i64 t) := (hb1.cell (p := ⟨w.heap.size, 0, none⟩) (by simp)).trans (by simp [go_sem])
  have b1 : w1.cell? ⟨w.heap.size, 1, none⟩ = some (.slice pv m cv) := (hb1.cell (p := ⟨w.heap.size, 1, none⟩) (by simp)).trans (by simp [go_sem])
  have hs1 : w.heap.size < w1.heap.size := by have := hb1.size; simp at this; omega
  obtain ⟨K1, -⟩ := bgX (n := w.heap.size) (W0 := w) (by go_grown) (by go_size) hb1
  clear hb1 c1
  go_wp2_with fail
  refine (c2.out _ K1).mono ?_
  rintro r w2 ⟨rfl, hB2⟩
  have K2 : Below w.heap.size w w2 := K1.trans (hB2.mono K1.size)
  clear b0 b1 c2
  go_wp2_with fail
  refine (c5.out _ K2).mono ?_
  rintro r w5 ⟨rfl, hB5⟩
  have K5 : Below w.heap.size w w5 := K2.trans (hB5.mono K2.size)
  clear c5 hB2 hB5 K2 K1
  go_wp2
  go_ret
  exact ⟨by first | rfl | simp, K5⟩
end Go.Proofs.YticmebamclacaaaGreatDoor

namespace Go.Proofs.YticmebamclacaaaGreatDoor
open Go.RowKit LX Go.Shelf
set_option linter.unusedVariables false

end Go.Proofs.YticmebamclacaaaGreatDoor

namespace Go.Proofs.YticmebamclacaaaGreatDoor
open Go.RowKit Go.Shelf
set_option linter.unusedVariables false

set_option maxRecDepth 100000 in
set_option maxHeartbeats 2000000 in
theorem dprint_no (k n d : Int) (s : ByteArray) (w : World) (h1 : -9223372036854775808 ≤ n) (h2 : n ≤ 9223372036854775807) (g1 : -9223372036854775808 ≤ d) (g2 : d ≤ 9223372036854775807) (hc1 : (chk k n d s != 0) = true) :
    Calls Tryz.prog 46 #[.agg #[.int .i64 k, .int .i64 n, .int .i64 d, .string s]] w fun e w' => e = .returned (.tuple #[.string ⟨#[]⟩, .int .i64 (chk k n d s)]) ∧ Below w.heap.size w w' := by
  go_enter Tryz.func46, Tryz.ntmps46
  go_wp2_with fail
  refine (rcheck_any k n d s _ h1 h2 g1 g2).mono ?_
  rintro e w1 ⟨rfl, hb⟩
  obtain ⟨hc, hf, hz, hB⟩ := bf (w := w) (by go_grown) hb
  go_wp2
  go_ret2
  exact ⟨rfl, hB⟩

set_option maxRecDepth 100000 in
set_option maxHeartbeats 2000000 in
theorem dprint_1 (n d : Int) (s : ByteArray) (w : World) (h1 : -9223372036854775808 ≤ n) (h2 : n ≤ 9223372036854775807) (g1 : -9223372036854775808 ≤ d) (g2 : d ≤ 9223372036854775807) (c0 : chk 1 n d s = 0) :
    Calls Tryz.prog 46 #[.agg #[.int .i64 1, .int .i64 n, .int .i64 d, .string s]] w fun e w' => e = .returned (.tuple #[.string ⟨(Lib.itoa n).toArray⟩, .int .i64 0]) ∧ Below w.heap.size w w' := by
  go_enter Tryz.func46, Tryz.ntmps46
  go_wp2_with fail
  refine (rcheck_any 1 n d s _ h1 h2 g1 g2).mono ?_
  rintro e w1 ⟨rfl, hb⟩
  obtain ⟨hc, hf, hz, hB⟩ := bf (w := w) (by go_grown) hb
  rw [c0]
  have a1 : w1.cell? ⟨w.heap.size, 0, none⟩ = some (.int .i64 1) := by rw [hc _ _ (by simp)]; simp [go_sem]
  have a2 : w1.cell? ⟨w.heap.size, 1, none⟩ = some (.int .i64 n) := by rw [hc _ _ (by simp)]; simp [go_sem]
  clear hc hf hz hb
  go_wp2_with fail
  refine (ddec_any n _ h1 h2).mono ?_
  rintro e w2 ⟨rfl, hb2⟩
  go_wp2
  go_ret2
  exact ⟨rfl, hB.trans (hb2.mono hB.size)⟩

set_option maxRecDepth 100000 in
set_option maxHeartbeats 2000000 in
theorem dprint_3 (n d : Int) (s : ByteArray) (w : World) (h1 : -9223372036854775808 ≤ n) (h2 : n ≤ 9223372036854775807) (g1 : -9223372036854775808 ≤ d) (g2 : d ≤ 9223372036854775807) (c0 : chk 3 n d s = 0) :
    Calls Tryz.prog 46 #[.agg #[.int .i64 3, .int .i64 n, .int .i64 d, .string s]] w fun e w' => e = .returned (.tuple #[.string ⟨(quoted s.data.toList).toArray⟩, .int .i64 0]) ∧ Below w.heap.size w w' := by
  have hs := chk_size c0
  go_enter Tryz.func46, Tryz.ntmps46
  go_wp2_with fail
  refine (rcheck_any 3 n d s _ h1 h2 g1 g2).mono ?_
  rintro e w1 ⟨rfl, hb⟩
  obtain ⟨hc, hf, hz, hB⟩ := bf (w := w) (by go_grown) hb
  rw [c0]
  have a1 : w1.cell? ⟨w.heap.size, 0, none⟩ = some (.int .i64 3) := by rw [hc _ _ (by simp)]; simp [go_sem]
  have a2 : w1.cell? ⟨w.heap.size, 3, none⟩ = some (.string s) := by rw [hc _ _ (by simp)]; simp [go_sem]
  clear hc hf hz hb
  go_wp2_with fail
  refine (dquote_any s _ (by omega)).mono ?_
  rintro e w2 ⟨rfl, hb2⟩
  go_wp2
  go_ret2
  exact ⟨rfl, hB.trans (hb2.mono hB.size)⟩

set_option maxRecDepth 100000 in
set_option maxHeartbeats 2000000 in
theorem dprint_2 (n d : Int) (s : ByteArray) (w : World) (h1 : -9223372036854775808 ≤ n) (h2 : n ≤ 9223372036854775807) (g1 : -9223372036854775808 ≤ d) (g2 : d ≤ 9223372036854775807) (c0 : chk 2 n d s = 0) :
    Calls Tryz.prog 46 #[.agg #[.int .i64 2, .int .i64 n, .int .i64 d, .string s]] w fun e w' => e = .returned (.tuple #[.string ⟨(Lib.itoa n ++ 47 :: Lib.itoa d).toArray⟩, .int .i64 0]) ∧ Below w.heap.size w w' := by
  go_enter Tryz.func46, Tryz.ntmps46
  go_wp2_with fail
  refine (rcheck_any 2 n d s _ h1 h2 g1 g2).mono ?_
  rintro e W0 ⟨rfl, hb⟩
  obtain ⟨hc, hf, hz, hB⟩ := bf (w := w) (by go_grown) hb
  rw [c0]
  have c3 : W0.cell? ⟨w.heap.size, 0, none⟩ = some (.int .i64 2) := by rw [hc _ _ (by simp)]; simp [go_sem]
  have c1 : W0.cell? ⟨w.heap.size, 1, none⟩ = some (.int .i64 n) := by rw [hc _ _ (by simp)]; simp [go_sem]
  have c2 : W0.cell? ⟨w.heap.size, 2, none⟩ = some (.int .i64 d) := by rw [hc _ _ (by simp)]; simp [go_sem]
  have k1 : w.heap.size < W0.heap.size := by simp at hz; omega
  have k0 : Below w.heap.size w W0 := hB
  clear hc hf hz hb hB
  go_upto_region 8 with fail
  have lA := Lib.itoa_length_le n h1 h2
  have lB := Lib.itoa_length_le d g1 g2
  obtain ⟨A, eA⟩ : ∃ A : ByteArray, A = ⟨(Lib.itoa n).toArray⟩ := ⟨_, rfl⟩
  obtain ⟨B, eB⟩ : ∃ B : ByteArray, B = ⟨(Lib.itoa d).toArray⟩ := ⟨_, rfl⟩
  have sA : A.size ≤ 21 := by rw [eA]; show (Lib.itoa n).toArray.size ≤ 21; simpa using lA
  have sB : B.size ≤ 21 := by rw [eB]; show (Lib.itoa d).toArray.size ≤ 21; simpa using lB
  have DA := fun (W : World) => ddec_any n W h1 h2
  have DB := fun (W : World) => ddec_any d W g1 g2
  rw [← eA] at DA
  rw [← eB] at DB
  obtain ⟨C, eC⟩ : ∃ C : ByteArray, C = A ++ ⟨#[47]⟩ := ⟨_, rfl⟩
  have sC : C.size ≤ 22 := by rw [eC, ByteArray.size_append]; have : (⟨#[47]⟩ : ByteArray).size = 1 := rfl
                              omega
  have x1 : ∀ W : World, (Op.stringOp .add A ⟨#[47]⟩).run Tryz.prog W = .ok (.string C) W := fun W => by
    rw [run_string_add_sum W _ _ (by have : (⟨#[47]⟩ : ByteArray).size = 1 := rfl
                                     omega), eC]
  have x2 : ∀ W : World, (Op.stringOp .add C B).run Tryz.prog W = .ok (.string (C ++ B)) W := fun W => run_string_add_sum W _ _ (by omega)
  have eF : Hid (C ++ B = ⟨(Lib.itoa n ++ 47 :: Lib.itoa d).toArray⟩) := by
    rw [eC, eA, eB]
    apply ByteArray.ext
    simp
  have DA' : Hid (∀ W : World, Calls Tryz.prog 45 #[.int .i64 n] W fun e w' => e = .returned (.string A) ∧ Below W.heap.size W w') := DA
  have DB' : Hid (∀ W : World, Calls Tryz.prog 45 #[.int .i64 d] W fun e w' => e = .returned (.string B) ∧ Below W.heap.size W w') := DB
  clear DA DB eA eB eC sA sB sC lA lB
  go_region_held3 (fun w' => w'.cell? ⟨w.heap.size, 1, none⟩ = some (.int .i64 n) ∧ w'.cell? ⟨w.heap.size, 2, none⟩ = some (.int .i64 d)) (exact ⟨bcl (n := W0.heap.size) (by go_grown) c1 k1, bcl (n := W0.heap.size) (by go_grown) c2 k1⟩)
    (first
      | (go_at_call_of 45 (Value.int IntKind.i64 n); refine (DA'.out _).mono ?_; rintro e w1 ⟨rfl, hb1⟩; obtain ⟨hB1, hn1⟩ := bg0 (n := W0.heap.size) (W0 := W0) (by go_grown) (by go_size) hb1)
      | (go_at_call_of 45 (Value.int IntKind.i64 d); refine (DB'.out _).mono ?_; rintro e w2 ⟨rfl, hb2⟩; obtain ⟨hB2, hn2⟩ := bg0 (n := W0.heap.size) (W0 := W0) (by go_grown) (by go_size) hb2))
  all_goals
    go_wp2
    go_ret2
    exact ⟨by rw [eF.out]; rfl, k0.trans (Below.mono (B := W0.heap.size) (by go_grown) k0.size)⟩

theorem chk_kind0 {k n d : Int} {s : ByteArray} (h : chk k n d s = 0) : k = 1 ∨ k = 2 ∨ k = 3 := by
  by_cases k1 : k = 1
  · exact Or.inl k1
  · by_cases k2 : k = 2
    · exact Or.inr (Or.inl k2)
    · by_cases k3 : k = 3
      · exact Or.inr (Or.inr k3)
      · exfalso
        have e0 : chk k n d s = 20 := by simp [chk, pureB, k1, k2, k3]
        omega

theorem dprint_any (k n d : Int) (s : ByteArray) (w : World) (h1 : -9223372036854775808 ≤ n) (h2 : n ≤ 9223372036854775807) (g1 : -9223372036854775808 ≤ d) (g2 : d ≤ 9223372036854775807) :
    Calls Tryz.prog 46 #[.agg #[.int .i64 k, .int .i64 n, .int .i64 d, .string s]] w fun e w' => e = .returned (.tuple #[.string ⟨(if chk k n d s = 0 then vtext k n d s else []).toArray⟩, .int .i64 (chk k n d s)]) ∧ Below w.heap.size w w' := by
  by_cases hc0 : chk k n d s = 0
  · rw [if_pos hc0, hc0]
    rcases chk_kind0 hc0 with rfl | rfl | rfl
    · have h := dprint_1 n d s w h1 h2 g1 g2 hc0
      exact h
    · have h := dprint_2 n d s w h1 h2 g1 g2 hc0
      exact h
    · have h := dprint_3 n d s w h1 h2 g1 g2 hc0
      exact h
  · rw [if_neg hc0]
    exact dprint_no k n d s w h1 h2 g1 g2 (by simpa using hc0)

end Go.Proofs.YticmebamclacaaaGreatDoor

namespace Go.Proofs.YticmebamclacaaaGreatDoor
open Go.RowKit LX Go.Shelf
set_option linter.unusedVariables false

theorem run_addB (a b : List UInt8) (h : a.length + b.length ≤ 140737488355328) (W : World) : (Op.stringOp .add ⟨a.toArray⟩ ⟨b.toArray⟩).run Tryz.prog W = .ok (.string ⟨(a ++ b).toArray⟩) W := by
  have sa : (⟨a.toArray⟩ : ByteArray).size = a.length := by show a.toArray.size = _; simp
  have sb : (⟨b.toArray⟩ : ByteArray).size = b.length := by show b.toArray.size = _; simp
  rw [run_string_add_sum W _ _ (by omega)]
  have e : (⟨a.toArray⟩ : ByteArray) ++ ⟨b.toArray⟩ = ⟨(a ++ b).toArray⟩ := by
    apply ByteArray.ext
    rw [ByteArray.data_append]
    simp
  rw [e]
theorem dprint_ok (v : Val) (f : v.Fits) (h : v.may = 0) (W : World) :
    Calls Tryz.prog 46 #[.agg #[.int .i64 v.k, .int .i64 v.n, .int .i64 v.d, .string v.s]] W fun e w' => e = .returned (.tuple #[.string ⟨v.text.toArray⟩, .int .i64 0]) ∧ Below W.heap.size W w' := by
  have e := dprint_any v.k v.n v.d v.s W f.n1 f.n2 f.d1 f.d2
  have h' : chk v.k v.n v.d v.s = 0 := h
  rw [if_pos h', h'] at e
  exact e

set_option maxRecDepth 100000 in
set_option maxHeartbeats 4000000 in
theorem rppoint_any (V : Value) (t : Int) (es : List Evt) (w : World) (t1 : -9223372036854775808 ≤ t) (t2 : t ≤ 9223372036854775807) (hV : EvsAt w V es) (fx : ∀ e ∈ es, ∀ v ∈ e.args, v.Fits) (lv : ∀ e ∈ es, e.args.length ≤ 9223372036854775807) (le : es.length ≤ 9223372036854775807) (hl : evsW es + 1000 ≤ 140737488355328) :
    Calls Tryz.prog 23 #[.agg #[.int .i64 t, V]] w fun r w' => r = .returned (.tuple #[.string ⟨(ppT t es).toArray⟩, .int .i64 (ppE t es)]) ∧ Below w.heap.size w w' := by
  have cV : Hid (∀ (W : World) (U : Value) (e : Evt), e ∈ es → RowAt W U e.args → Calls Tryz.prog 39 #[U] W fun r w' => r = .returned (.int .i64 (valsE e.args)) ∧ Below W.heap.size W w') := fun W U e he hU => rvals_any U e.args W hU (fx e he) (lv e he)
  have FX : Hid (∀ e ∈ es, ∀ v ∈ e.args, v.Fits) := fx
  have cD : Hid (∀ W : World, Calls Tryz.prog 45 #[.int .i64 t] W fun e w' => e = .returned (.string ⟨(Lib.itoa t).toArray⟩) ∧ Below W.heap.size W w') := fun W => ddec_any t W t1 t2
  have lD := Lib.itoa_length_le t t1 t2
  obtain ⟨pv, cv, rfl, HY0⟩ := hV.form
  have HY : Hid (∀ i (hi : i < es.length), ∃ b off u, pv = some ⟨b, off, none⟩ ∧ b < w.heap.size ∧ w.cell? ⟨b, off + i * 2, none⟩ = some (.string es[i].name) ∧ w.cell? ⟨b, off + i * 2 + 1, none⟩ = some u ∧ RowAt w u es[i].args) := HY0
  have hp : Hid (ppE t es = if sizeE t es.length = 0 then (if wevsE es = 0 then (if 4096 < (lineT t es).length then 2 else 0) else wevsE es) else sizeE t es.length) := rfl
  have hq : Hid (ppT t es = if ppE t es = 0 then lineT t es else []) := rfl
  clear hV HY0 fx lv
  obtain ⟨m, em⟩ : ∃ m : Nat, Hid (es.length = m) := ⟨_, rfl⟩
  obtain ⟨E, eE⟩ : ∃ E : Int, Hid (ppE t es = E) := ⟨_, rfl⟩
  obtain ⟨Q, eQ⟩ : ∃ Q : List UInt8, Hid (ppT t es = Q) := ⟨_, rfl⟩
  obtain ⟨Z, eZ⟩ : ∃ Z : Int, Hid (sizeE t m = Z) := ⟨_, rfl⟩
  rw [eE.out, em.out, eZ.out] at hp
  rw [eE.out, eQ.out] at hq
  rw [em.out] at le
  rw [eE.out, eQ.out, em.out]
  have cZ : Hid (∀ W : World, Calls Tryz.prog 38 #[.agg #[.int .i64 t, .slice pv m cv]] W fun e w' => e = .returned (.int .i64 Z) ∧ Below W.heap.size W w') := fun W => by
    have h := rsizes_any t pv m cv W
    rw [eZ.out] at h
    exact h
  have hQ0 : Hid (E ≠ 0 → (⟨Q.toArray⟩ : ByteArray) = ⟨#[]⟩) := fun h => by have h' := hq.out; rw [if_neg h] at h'; rw [h']
  go_enter Tryz.func23, Tryz.ntmps23
  go_wp2_with fail
  refine (cZ.out _).mono ?_
  rintro e w1 ⟨rfl, hb1⟩
  have b0 : w1.cell? ⟨w.heap.size, 0, none⟩ = some (.int .i64 t) := (hb1.cell (p := ⟨w.heap.size, 0, none⟩) (by simp)).trans (by simp [go_sem])
  have b1 : w1.cell? ⟨w.heap.size, 1, none⟩ = some (.slice pv m cv) := (hb1.cell (p := ⟨w.heap.size, 1, none⟩) (by simp)).trans (by simp [go_sem])
  have hs1 : w.heap.size < w1.heap.size := by have := hb1.size; simp at this; omega
  obtain ⟨hB1, -⟩ := bgX (n := w.heap.size) (W0 := w) (by go_grown) (by go_size) hb1
  clear hb1 cZ
  by_cases hZ : Z = 0
  · have hp1 : Hid (E = if wevsE es = 0 then (if 4096 < (lineT t es).length then 2 else 0) else wevsE es) := by have h := hp.out; rwa [if_pos hZ] at h
    subst hZ
    have x0 := run_addB [64] (Lib.itoa t) (by simp; omega)
    have hG0 : Hid ((⟨([64] ++ Lib.itoa t).toArray⟩ : ByteArray) = ⟨(lineT t (es.take 0)).toArray⟩) := by unfold Hid lineT; simp [evsT]
    rw [hG0.out] at x0
    generalize hg0 : (⟨(lineT t (es.take 0)).toArray⟩ : ByteArray) = G0 at x0 hG0
    have HG0 : Hid (G0 = ⟨(lineT t (es.take 0)).toArray⟩) := hg0.symm
    generalize (⟨(Lib.itoa t).toArray⟩ : ByteArray) = DD at cD x0
    clear hp hg0 hG0
    go_wp2_with fail
    refine (cD.out _).mono ?_
    rintro e w2 ⟨rfl, hb2⟩
    have c1 : w2.cell? ⟨w.heap.size, 1, none⟩ = some (.slice pv m cv) := (hb2.cell (p := ⟨w.heap.size, 1, none⟩) hs1).trans b1
    have hs2 : w.heap.size < w2.heap.size := Nat.lt_of_lt_of_le hs1 hb2.size
    have hB2 : Below w.heap.size w w2 := hB1.trans (hb2.mono hB1.size)
    clear b0 b1 cD hb2 hB1
    go_wp2
    clear x0
    go_loopw [5, 6] (fun v5 v6 wr => ∃ k : Nat, k ≤ m ∧ v6 = .int .i64 k ∧ v5 = .string ⟨(lineT t (es.take k)).toArray⟩ ∧ Hid (wevsE es = wevsE (es.drop k)) ∧ Hid (∀ e ∈ es.take k, wevE e = 0) ∧ Below w2.heap.size w2 wr) (fun _ v6 _ => m - (intOf v6).toNat)
    case atStart => exact ⟨0, Nat.zero_le _, rfl, by rw [HG0.out], (show _ = _ by rw [List.drop_zero]), fun e h => by simp at h, Below.refl _ _⟩
    case round =>
      obtain ⟨k, hk, rfl, rfl, hr, hz, hB0⟩ := hrel
      have hBw : Below w.heap.size w wr := hB2.trans (hB0.mono hB2.size)
      have y1 : wr.cell? ⟨w.heap.size, 1, none⟩ = some (.slice pv m cv) := (hB0.cell (p := ⟨w.heap.size, 1, none⟩) hs2).trans c1
      have ys : w.heap.size < wr.heap.size := Nat.lt_of_lt_of_le hs2 hB0.size
      have lT : (lineT t (es.take k)).length ≤ 40 + evsW (es.take k) := by
        have h := evsT_len (l := es.take k) hz.out (fun e he => FX.out e (List.mem_of_mem_take he))
        unfold lineT
        simp only [List.length_append, List.length_cons]
        omega
      by_cases hlt : k < m
      · have kx : k < es.length := by have := em.out; omega
        obtain ⟨b, off, u, rfl, hb, r0, r1, r2⟩ := HY.out k kx
        have a0 := (hBw.cell (p := ⟨b, off + k * 2, none⟩) hb).trans r0
        have a1 := (hBw.cell (p := ⟨b, off + k * 2 + 1, none⟩) hb).trans r1
        have hlt' : (k : Int) < m := by omega
        have hr2 : Hid (wevsE es = if wevE es[k] = 0 then wevsE (es.drop (k + 1)) else wevE es[k]) := by
          have h := hr.out
          rw [List.drop_eq_getElem_cons kx] at h
          exact h
        have hwe : Hid (wevE es[k] = if nameB es[k].name = true then valsE es[k].args else 1) := rfl
        have hsn : Hid (lineT t (es.take (k + 1)) = lineT t (es.take k) ++ evtT es[k]) := by
          unfold Hid lineT
          rw [List.take_succ_eq_append_getElem kx, evsT_snoc]
          simp
        have hz2 : Hid (wevE es[k] = 0 → ∀ e ∈ es.take (k + 1), wevE e = 0) := fun h e he => by
          rw [List.take_succ_eq_append_getElem kx] at he
          rcases List.mem_append.1 he with h1 | h1
          · exact hz.out e h1
          · rw [List.mem_singleton.1 h1]; exact h
        have hev : Hid (evtT es[k] = (32 :: 40 :: es[k].name.data.toList) ++ (argsT es[k].args ++ [41])) := rfl
        have hW := evsW_take es k kx
        have hWk : evW es[k] = 301 * es[k].args.length + es[k].name.size + 500 := rfl
        have cN : Hid (∀ W : World, Calls Tryz.prog 27 #[.string es[k].name] W fun e w' => e = .returned (.bool (nameB es[k].name)) ∧ Below W.heap.size W w') := fun W => rname_any _ W
        have ct : Hid (∀ W : World, Below wr.heap.size wr W → Calls Tryz.prog 39 #[u] W fun r w' => r = .returned (.int .i64 (valsE es[k].args)) ∧ Below W.heap.size W w') := fun W hW => cV.out W u es[k] (List.getElem_mem kx) (r2.below (hBw.trans (hW.mono hBw.size)))
        obtain ⟨pu, cu, hu, HA0⟩ := r2.formX
        subst hu
        have HA : Hid (∀ i (hi : i < es[k].args.length), ∃ b off, pu = some ⟨b, off, none⟩ ∧ b < w.heap.size ∧ w.cell? ⟨b, off + i * 4, none⟩ = some (.int .i64 es[k].args[i].k) ∧ w.cell? ⟨b, off + i * 4 + 1, none⟩ = some (.int .i64 es[k].args[i].n) ∧ w.cell? ⟨b, off + i * 4 + 2, none⟩ = some (.int .i64 es[k].args[i].d) ∧ w.cell? ⟨b, off + i * 4 + 3, none⟩ = some (.string es[k].args[i].s)) := HA0
        have hfx : Hid (∀ v ∈ es[k].args, v.Fits) := FX.out _ (List.getElem_mem kx)
        have hbr : b < wr.heap.size := Nat.lt_of_lt_of_le hb hBw.size
        clear r0 r1 r2 hr hz HA0
        obtain ⟨LN, eLN⟩ : ∃ LN : List UInt8, Hid (lineT t (es.take (k + 1)) = LN) := ⟨_, rfl⟩
        rw [eLN.out] at hsn
        rw [hev.out] at hsn
        rw [hWk] at hW
        generalize lineT t (es.take k) = G at lT hsn ⊢
        generalize wevE es[k] = EE at hr2 hwe hz2
        generalize es[k].args = vs at ct HA hfx hwe hsn hW a1
        have sX : es[k].name.size = es[k].name.data.toList.length := by simp
        rw [sX] at hW
        obtain ⟨X, eX⟩ : ∃ X : List UInt8, Hid (es[k].name = ⟨X.toArray⟩ ∧ es[k].name.data.toList = X) := ⟨es[k].name.data.toList, (show _ ∧ _ from ⟨by simp, rfl⟩)⟩
        rw [eX.out.2] at hW hsn
        rw [eX.out.1] at a0 cN hwe
        have y2 := run_addB G [32, 40] (by simp; omega)
        have y3 := run_addB (G ++ [32, 40]) X (by simp; omega)
        obtain ⟨n, en⟩ : ∃ n : Nat, Hid (vs.length = n) := ⟨_, rfl⟩
        rw [en.out] at a1 ct hW
        generalize nameB ⟨X.toArray⟩ = NB at cN hwe
        obtain ⟨C, eC⟩ : ∃ C : Int, Hid (valsE vs = C) := ⟨_, rfl⟩
        rw [eC.out] at ct hwe
        clear sX hWk hev
        obtain ⟨XA, eXA⟩ : ∃ XA : ByteArray, Hid (XA = ⟨X.toArray⟩) := ⟨⟨X.toArray⟩, (show _ = _ from rfl)⟩
        obtain ⟨GA, eGA⟩ : ∃ GA : ByteArray, Hid (GA = ⟨G.toArray⟩) := ⟨⟨G.toArray⟩, (show _ = _ from rfl)⟩
        obtain ⟨GB, eGB⟩ : ∃ GB : ByteArray, Hid (GB = ⟨(G ++ [32, 40]).toArray⟩) := ⟨⟨(G ++ [32, 40]).toArray⟩, (show _ = _ from rfl)⟩
        obtain ⟨GC, eGC⟩ : ∃ GC : ByteArray, Hid (GC = ⟨(G ++ [32, 40] ++ X).toArray⟩) := ⟨⟨(G ++ [32, 40] ++ X).toArray⟩, (show _ = _ from rfl)⟩
        rw [← eGA.out, ← eGB.out] at y2
        rw [← eGB.out, ← eXA.out, ← eGC.out] at y3
        rw [← eXA.out] at a0 cN
        rw [← eGA.out]
        go_wp2_with fail
        refine (cN.out _).mono ?_
        rintro e w3 ⟨rfl, hb3⟩
        have z0 : w3.cell? ⟨wr.heap.size, 0, none⟩ = some (.string XA) := (hb3.cell (p := ⟨wr.heap.size, 0, none⟩) (by simp)).trans (by simp [go_sem])
        have z1 : w3.cell? ⟨wr.heap.size, 1, none⟩ = some (.slice pu n cu) := (hb3.cell (p := ⟨wr.heap.size, 1, none⟩) (by simp)).trans (by simp [go_sem])
        have zs : wr.heap.size < w3.heap.size := by have := hb3.size; simp at this; omega
        obtain ⟨hB3, -⟩ := bgX (n := wr.heap.size) (W0 := wr) (by go_grown) (by go_size) hb3
        clear hb3 cN a0 a1 y1
        cases hNB : NB with
        | false =>
          have hE3 : Hid (E = 1) := by
            have h1 := hwe.out
            rw [hNB] at h1
            have h2 : EE = 1 := h1
            have h3 := hr2.out
            rw [h2, if_neg (by decide)] at h3
            have h4 := hp1.out
            rw [h3, if_neg (by decide)] at h4
            exact h4
          have hQ1 : Hid ((⟨Q.toArray⟩ : ByteArray) = ⟨#[]⟩) := hQ0.out (by have := hE3.out; omega)
          clear hq eQ hQ0 hwe hr2 hp1
          go_wp2
          go_ret2
          exact ⟨by rw [hQ1.out, hE3.out]; try rfl, hBw.trans (hB3.mono hBw.size)⟩
        | true =>
          have hwe2 : Hid (EE = C) := by have h1 := hwe.out; rw [hNB] at h1; exact h1
          clear hwe
          go_wp2_with fail
          refine (ct.out _ hB3).mono ?_
          rintro e w4 ⟨rfl, hb4⟩
          have q0 := (hb4.cell (p := ⟨wr.heap.size, 0, none⟩) zs).trans z0
          have q1 := (hb4.cell (p := ⟨wr.heap.size, 1, none⟩) zs).trans z1
          have zs4 : wr.heap.size < w4.heap.size := Nat.lt_of_lt_of_le zs hb4.size
          have hB4 : Below wr.heap.size wr w4 := hB3.trans (hb4.mono hB3.size)
          clear hb4 hB3 ct z0 z1 zs
          by_cases hC : C = 0
          · have hVM : Hid (∀ v ∈ vs, v.may = 0) := valsE_all (eC.out.trans hC)
            have hr3 : Hid (wevsE es = wevsE (es.drop (k + 1))) := by have h3 := hr2.out; rwa [hwe2.out, if_pos hC] at h3
            have hz3 : Hid (∀ e ∈ es.take (k + 1), wevE e = 0) := hz2.out (hwe2.out.trans hC)
            subst hC
            clear hr2 hwe2 hz2 eC hNB
            go_wp2
            clear q0 y2 y3
            have hBX : Below w.heap.size w w4 := hBw.trans (hB4.mono hBw.size)
            have hBY : Below w2.heap.size w2 w4 := hB0.trans (hB4.mono hB0.size)
            obtain ⟨N0, eN0⟩ : ∃ N0 : Nat, Hid (wr.heap.size = N0) := ⟨_, rfl⟩
            rw [eN0.out] at q1 zs4 ⊢
            clear hbr hB4 eN0
            go_loopw [5, 10] (fun v5 v10 wr => ∃ j : Nat, j ≤ n ∧ v10 = .int .i64 j ∧ v5 = .string ⟨(G ++ [32, 40] ++ X ++ argsT (vs.take j)).toArray⟩ ∧ Below w4.heap.size w4 wr) (fun _ v10 _ => n - (intOf v10).toNat)
            case atStart => exact ⟨0, Nat.zero_le _, rfl, by rw [eGC.out]; simp [argsT], Below.refl _ _⟩
            case round =>
              obtain ⟨j, hj, rfl, rfl, hBq⟩ := hrel
              have hBz : Below w.heap.size w wr := hBX.trans (hBq.mono hBX.size)
              have p1 := (hBq.cell (p := ⟨N0, 1, none⟩) zs4).trans q1
              have lA : (argsT (vs.take j)).length ≤ 301 * j := by
                have h := argsT_len (vs.take j) (fun v hv => ⟨hVM.out v (List.mem_of_mem_take hv), hfx.out v (List.mem_of_mem_take hv)⟩)
                rw [List.length_take, Nat.min_eq_left (by have := en.out; omega)] at h
                exact h
              have lH : (G ++ [32, 40] ++ X ++ argsT (vs.take j)).length ≤ G.length + 2 + X.length + 301 * j := by
                rw [List.length_append, List.length_append, List.length_append]
                simp only [List.length_cons, List.length_nil]
                omega
              by_cases hlj : j < n
              · have jx : j < vs.length := by have := en.out; omega
                obtain ⟨b9, off9, rfl, hb9, s0, s1, s2, s3⟩ := HA.out j jx
                have g0 := (hBz.cell (p := ⟨b9, off9 + j * 4, none⟩) hb9).trans s0
                have g1 := (hBz.cell (p := ⟨b9, off9 + j * 4 + 1, none⟩) hb9).trans s1
                have g2 := (hBz.cell (p := ⟨b9, off9 + j * 4 + 2, none⟩) hb9).trans s2
                have g3 := (hBz.cell (p := ⟨b9, off9 + j * 4 + 3, none⟩) hb9).trans s3
                have hb9q : b9 < wr.heap.size := Nat.lt_of_lt_of_le hb9 hBz.size
                have hlj' : (j : Int) < n := by omega
                have vm := hVM.out _ (List.getElem_mem jx)
                have vf := hfx.out _ (List.getElem_mem jx)
                have cP : Hid (∀ W : World, Calls Tryz.prog 46 #[.agg #[.int .i64 vs[j].k, .int .i64 vs[j].n, .int .i64 vs[j].d, .string vs[j].s]] W fun e w' => e = .returned (.tuple #[.string ⟨vs[j].text.toArray⟩, .int .i64 0]) ∧ Below W.heap.size W w') := fun W => dprint_ok vs[j] vf vm W
                have lV := Val.text_len vm vf
                have hks : Hid (G ++ [32, 40] ++ X ++ argsT (vs.take (j + 1)) = (G ++ [32, 40] ++ X ++ argsT (vs.take j) ++ [32]) ++ vs[j].text) := by
                  unfold Hid
                  rw [List.take_succ_eq_append_getElem jx, argsT_snoc]
                  simp
                clear s0 s1 s2 s3 vm vf
                generalize vs[j].text = TX at cP lV hks
                generalize vs[j] = Y at g0 g1 g2 g3 cP
                obtain ⟨GN, eGN⟩ : ∃ GN : List UInt8, Hid (G ++ [32, 40] ++ X ++ argsT (vs.take (j + 1)) = GN) := ⟨G ++ [32, 40] ++ X ++ argsT (vs.take (j + 1)), (show _ = _ from rfl)⟩
                rw [eGN.out] at hks
                generalize G ++ [32, 40] ++ X ++ argsT (vs.take j) = G2 at lH hks ⊢
                have x2 := run_addB G2 [32] (by simp; omega)
                have x3 := run_addB (G2 ++ [32]) TX (by simp; omega)
                rw [← hks.out] at x3
                generalize (⟨TX.toArray⟩ : ByteArray) = KW at cP x3
                generalize (⟨(G2 ++ [32]).toArray⟩ : ByteArray) = G3 at x2 x3
                generalize (⟨G2.toArray⟩ : ByteArray) = G4 at x2 ⊢
                generalize hGN : (⟨GN.toArray⟩ : ByteArray) = G5 at x3
                have HG5 : Hid (G5 = ⟨GN.toArray⟩) := hGN.symm
                clear hGN hks
                go_wp2_with fail
                refine (cP.out _).mono ?_
                rintro e w5 ⟨rfl, hb5⟩
                obtain ⟨hB5, -⟩ := bgX (n := wr.heap.size) (W0 := wr) (by go_grown) (by go_size) hb5
                have hBn : Below w4.heap.size w4 w5 := hBq.trans (hB5.mono hBq.size)
                clear hb5 hB5 cP g0 g1 g2 g3 p1
                go_wp2
                exact ⟨⟨j + 1, by omega, by go_num, by rw [HG5.out, eGN.out], hBn⟩, by simp [intOf]; omega⟩
              · have c9 : ¬ (j : Int) < n := by omega
                have hal : vs.take j = vs := List.take_of_length_le (by have := en.out; omega)
                rw [hal] at lH ⊢
                have x4 := run_addB (G ++ [32, 40] ++ X ++ argsT vs) [41] (by rw [List.length_singleton]; omega)
                have hfin : Hid ((⟨(G ++ [32, 40] ++ X ++ argsT vs ++ [41]).toArray⟩ : ByteArray) = ⟨LN.toArray⟩) := by
                  unfold Hid
                  rw [hsn.out]
                  simp
                rw [hfin.out] at x4
                generalize (⟨(G ++ [32, 40] ++ X ++ argsT vs).toArray⟩ : ByteArray) = G6 at x4 ⊢
                have hBn : Below w2.heap.size w2 wr := hBY.trans (hBq.mono hBY.size)
                clear hal lA
                go_wp2
                exact ⟨⟨k + 1, by omega, by go_num, by rw [eLN.out], hr3, hz3, hBn⟩, by simp [intOf]; omega⟩
          · have hE3 : Hid (E = C) := by
              have h3 := hr2.out
              rw [hwe2.out, if_neg hC] at h3
              have h4 := hp1.out
              rw [h3, if_neg hC] at h4
              exact h4
            have hQ1 : Hid ((⟨Q.toArray⟩ : ByteArray) = ⟨#[]⟩) := hQ0.out (by have := hE3.out; omega)
            have hC' : (C == 0) = false := by simpa using hC
            clear hq eQ hQ0 hwe2 hr2 hp1
            go_wp2
            go_ret2
            exact ⟨by rw [hQ1.out, hE3.out]; try rfl, hBw.trans (hB4.mono hBw.size)⟩
      · have c2 : ¬ (k : Int) < m := by omega
        have hal : es.take k = es := List.take_of_length_le (by have := em.out; omega)
        have hE2 : Hid (E = if 4096 < (lineT t es).length then 2 else 0) := by
          have h := hp1.out
          have h1 := hr.out
          rw [List.drop_eq_nil_of_le (by have := em.out; omega)] at h1
          have h' : wevsE es = 0 := h1
          rw [if_pos h'] at h
          exact h
        rw [hal] at lT ⊢
        have sz : (⟨(lineT t es).toArray⟩ : ByteArray).size = (lineT t es).length := by show (lineT t es).toArray.size = _; simp
        clear hr hz hp1 hal
        by_cases h4 : 4096 < (lineT t es).length
        · have hE3 : Hid (E = 2) := by have h := hE2.out; rwa [if_pos h4] at h
          have hQ1 : Hid ((⟨Q.toArray⟩ : ByteArray) = ⟨#[]⟩) := hQ0.out (by have := hE3.out; omega)
          have h4' : 4096 < (⟨(lineT t es).toArray⟩ : ByteArray).size := by omega
          have h5' : (4096 : Int) < (⟨(lineT t es).toArray⟩ : ByteArray).size := by omega
          clear hE2 hq eQ hQ0
          generalize (⟨(lineT t es).toArray⟩ : ByteArray) = GG at h4' h5' sz ⊢
          go_wp2
          go_ret2
          exact ⟨by rw [hQ1.out, hE3.out]; try rfl, hBw⟩
        · have hE3 : Hid (E = 0) := by have h := hE2.out; rwa [if_neg h4] at h
          have hQ1 : Hid ((⟨Q.toArray⟩ : ByteArray) = ⟨(lineT t es).toArray⟩) := by have h := hq.out; rw [if_pos hE3.out] at h; rw [h]; exact (show _ = _ from rfl)
          have h5' : ¬ (4096 : Int) < (⟨(lineT t es).toArray⟩ : ByteArray).size := by omega
          clear hE2 hq eQ hQ0
          generalize (⟨(lineT t es).toArray⟩ : ByteArray) = GG at h5' sz hQ1 ⊢
          go_wp2
          go_ret2
          exact ⟨by rw [hQ1.out, hE3.out]; try rfl, hBw⟩
  · have hE : Hid (E = Z) := by have h := hp.out; rwa [if_neg hZ] at h
    have hZ' : (Z == 0) = false := by simpa using hZ
    have hQ1 : Hid ((⟨Q.toArray⟩ : ByteArray) = ⟨#[]⟩) := hQ0.out (by have := hE.out; omega)
    clear hp hq eQ hQ0
    go_wp2
    go_ret2
    exact ⟨by rw [hQ1.out, hE.out]; try rfl, hB1⟩

end Go.Proofs.YticmebamclacaaaGreatDoor

namespace Go.Proofs.YticmebamclacaaaGreatDoor
open Go.RowKit LX Go.Shelf
set_option linter.unusedVariables false

set_option maxRecDepth 100000 in
set_option maxHeartbeats 2000000 in
theorem trprints_walk (V : Value) (t : Int) (es : List Evt) (w : World) (he : Env w) (t1 : -9223372036854775808 ≤ t) (t2 : t ≤ 9223372036854775807) (hV : EvsAt w V es) (fx : ∀ e ∈ es, ∀ v ∈ e.args, v.Fits) (lv : ∀ e ∈ es, e.args.length ≤ 9223372036854775807) (le : es.length ≤ 9223372036854775807) (hl : evsW es + 1000 ≤ 140737488355328) :
    Calls Tryz.prog 8 #[.agg #[.int .i64 t, V]] w fun r w' => r = .returned (.bool true) ∧ Below w.heap.size w w' := by
  have c1 : Hid (∀ W : World, Below w.heap.size w W → Calls Tryz.prog 22 #[.agg #[.int .i64 t, V]] W fun r w' => r = .returned (.tuple #[.string ⟨(ppT t es).toArray⟩, .int .i64 (ppE t es)]) ∧ Below W.heap.size W w') := fun W hW => ppoint_any V t es W (he.below hW).err t1 t2 (hV.below hW) (he.below hW).pow fx lv le hl
  have c2 : Hid (∀ W : World, Below w.heap.size w W → Calls Tryz.prog 23 #[.agg #[.int .i64 t, V]] W fun r w' => r = .returned (.tuple #[.string ⟨(ppT t es).toArray⟩, .int .i64 (ppE t es)]) ∧ Below W.heap.size W w') := fun W hW => rppoint_any V t es W t1 t2 (hV.below hW) fx lv le hl
  have c5 : Hid (∀ W : World, Below w.heap.size w W → Calls Tryz.prog 10 #[] W fun r w' => r = .returned (.bool true) ∧ Below W.heap.size W w') := fun W hW => trlive_any W (he.below hW)
  obtain ⟨pv, cv, rfl, -⟩ := hV.form
  generalize (⟨(ppT t es).toArray⟩ : ByteArray) = Q at *
  generalize ppE t es = E at *
  clear hV fx lv he hl
  generalize es.length = m at *
  have hQ : (Q.toList == Q.toList) = true := by simp
  go_enter Tryz.func8, Tryz.ntmps8
  go_wp2_with fail
  refine (c1.out _ (by go_grown)).mono ?_
  rintro r w1 ⟨rfl, hb1⟩
  have b0 : w1.cell? ⟨w.heap.size, 0, none⟩ = some (.int .i64 t) := (hb1.cell (p := ⟨w.heap.size, 0, none⟩) (by simp)).trans (by simp [go_sem])
  have b1 : w1.cell? ⟨w.heap.size, 1, none⟩ = some (.slice pv m cv) := (hb1.cell (p := ⟨w.heap.size, 1, none⟩) (by simp)).trans (by simp [go_sem])
  have hs1 : w.heap.size < w1.heap.size := by have := hb1.size; simp at this; omega
  obtain ⟨K1, -⟩ := bgX (n := w.heap.size) (W0 := w) (by go_grown) (by go_size) hb1
  clear hb1 c1
  go_wp2_with fail
  refine (c2.out _ K1).mono ?_
  rintro r w2 ⟨rfl, hB2⟩
  have K2 : Below w.heap.size w w2 := K1.trans (hB2.mono K1.size)
  clear b0 b1 c2
  go_wp2_with fail
  refine (c5.out _ K2).mono ?_
  rintro r w5 ⟨rfl, hB5⟩
  have K5 : Below w.heap.size w w5 := K2.trans (hB5.mono K2.size)
  clear c5 hB2 hB5 K2 K1
  go_wp2
  go_ret
  exact ⟨by first | rfl | simp, K5⟩
end Go.Proofs.YticmebamclacaaaGreatDoor
