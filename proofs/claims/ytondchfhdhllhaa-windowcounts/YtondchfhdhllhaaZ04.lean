/- live: what a few calls answer, over texts. -/
import Derived.Test.YtondchfhdhllhaaZ03
import Derived.Test.YtondchfhdhllhaaZ02

namespace Go.Proofs.Ytondchfhdhllhaa
open Go.RowKit Go.Shelf
set_option linter.unusedVariables false

/-- The window in block bw has the things L, in order; its blocks are of F. -/
def PQS (f : ByteArray → ByteArray → ByteArray) (op : Value) (nt : ByteArray) (ok : Nat → ByteArray → Prop) (w : World) (bw : Nat) (L : List (ByteArray)) (F : Nat → Prop) : Prop := ∃ X Y c n, X ++ Y = L ∧ StS f op nt ok (fun _ => False) (fun _ _ => True) w bw c n X Y F
/-- .. behind a call. -/
def QNS (f : ByteArray → ByteArray → ByteArray) (op : Value) (nt : ByteArray) (ok : Nat → ByteArray → Prop) (w w' : World) (bw : Nat) (L : List (ByteArray)) (F : Nat → Prop) : Prop := ∃ F', PQS f op nt ok w' bw L F' ∧ (∀ k, F' k → F k ∨ w.heap.size ≤ k) ∧ Fr F w w'
theorem PQS.fr {f : ByteArray → ByteArray → ByteArray} {op : Value} {nt : ByteArray} {ok : Nat → ByteArray → Prop} {w : World} {bw : Nat} {L : List (ByteArray)} {F : Nat → Prop} {w' : World} {P : Nat → Prop} (O : OpS op f ok (fun _ => False) (fun _ _ => True)) (H : PQS f op nt ok w bw L F) (h : Fr P w w') (hp : ∀ k, F k → ¬ P k) : PQS f op nt ok w' bw L F := by
  obtain ⟨X, Y, c, n, e, H⟩ := H
  exact ⟨X, Y, c, n, e, H.fr O h hp (fun _ g => g.elim)⟩
theorem PQS.lt {f : ByteArray → ByteArray → ByteArray} {op : Value} {nt : ByteArray} {ok : Nat → ByteArray → Prop} {w : World} {bw : Nat} {L : List (ByteArray)} {F : Nat → Prop} (H : PQS f op nt ok w bw L F) : (∀ k, F k → k < w.heap.size) ∧ F bw := by
  obtain ⟨X, Y, c, n, e, H⟩ := H
  obtain ⟨va, vb, sm, H1⟩ := H.win
  exact ⟨H1.ft, H1.fw⟩
theorem PQS.len {f : ByteArray → ByteArray → ByteArray} {op : Value} {nt : ByteArray} {ok : Nat → ByteArray → Prop} {w : World} {bw : Nat} {L : List (ByteArray)} {F : Nat → Prop} (H : PQS f op nt ok w bw L F) : L.length ≤ 4096 := by
  obtain ⟨X, Y, c, n, rfl, H⟩ := H
  have := H.lim
  simpa using this
theorem PQS.ok {f : ByteArray → ByteArray → ByteArray} {op : Value} {nt : ByteArray} {ok : Nat → ByteArray → Prop} {w : World} {bw : Nat} {L : List (ByteArray)} {F : Nat → Prop} (H : PQS f op nt ok w bw L F) : ∀ x ∈ L, ok 1 x := by
  obtain ⟨X, Y, c, n, rfl, H⟩ := H
  intro x hx
  rcases List.mem_append.1 hx with h | h
  · exact H.okX x h
  · exact H.okY x h
theorem qnS_of {f : ByteArray → ByteArray → ByteArray} {op : Value} {nt : ByteArray} {ok : Nat → ByteArray → Prop} {w : World} {bw : Nat} {F : Nat → Prop} {w' : World} {X Y L' : List (ByteArray)} {c : Int} {n : Nat} (hF : ∀ k, F k → k < w.heap.size) (e : X ++ Y = L') (h : StS f op nt ok (fun _ => False) (fun _ _ => True) w' bw c n X Y (FF F w w') ∧ Fr (fun k => F k ∨ False) w w') : QNS f op nt ok w w' bw L' F :=
  ⟨_, ⟨X, Y, c, n, e, h.1⟩, fun k h => h.elim Or.inl (fun q => Or.inr q.1), h.2.mono (fun k h => h.elim Or.inl (fun h => h.elim))⟩
theorem qnS_below {f : ByteArray → ByteArray → ByteArray} {op : Value} {nt : ByteArray} {ok : Nat → ByteArray → Prop} {w : World} {bw : Nat} {L : List (ByteArray)} {F : Nat → Prop} {w' : World} (O : OpS op f ok (fun _ => False) (fun _ _ => True)) (H : PQS f op nt ok w bw L F) (h : Below w.heap.size w w') : QNS f op nt ok w w' bw L F :=
  ⟨F, H.fr O (Fr.of_below (P := fun _ => False) h) (fun _ _ h => h), fun _ h => Or.inl h, Fr.of_below h⟩
theorem QNS.trans {f : ByteArray → ByteArray → ByteArray} {op : Value} {nt : ByteArray} {ok : Nat → ByteArray → Prop} {w : World} {bw : Nat} {F : Nat → Prop} {w1 w2 : World} {L2 : List (ByteArray)} {F1 : Nat → Prop} (h : ∀ k, F1 k → F k ∨ w.heap.size ≤ k) (hf : Fr F w w1) (h2 : QNS f op nt ok w1 w2 bw L2 F1) : QNS f op nt ok w w2 bw L2 F := by
  obtain ⟨F2, a, b, c⟩ := h2
  exact ⟨F2, a, fun k hk => (b k hk).elim (h k) (fun q => Or.inr (Nat.le_trans hf.size q)), hf.trans c (fun i e => h i e)⟩

theorem qnewS {f : ByteArray → ByteArray → ByteArray} {ok : Nat → ByteArray → Prop} {K : FuncId} {caps : Array Value} (O : OpS (.func (.func K) #[] caps) f ok (fun _ => False) (fun _ _ => True)) (nt : ByteArray) (w : World) :
    Calls Try.prog 22 #[.func (.func K) #[] caps, (.string nt)] w fun e w' => ∃ bw, e = .returned (.pointer (some ⟨bw, 0, none⟩)) ∧ Hid (w.heap.size ≤ bw ∧ Below w.heap.size w w' ∧ PQS f (.func (.func K) #[] caps) nt ok w' bw [] (fun k => k = bw)) :=
  (newS_any f K caps nt w).mono fun e w' ⟨bw, h1, h2, h3, h4⟩ => ⟨bw, h1, h2, h3, [], [], 0, 0, rfl, ⟨⟨_, _, _, h4⟩, trivial, (fun x h => by cases h), (fun x h => by cases h), fun _ _ h => h, by simp⟩⟩
theorem qpushS {f : ByteArray → ByteArray → ByteArray} {op : Value} {nt : ByteArray} {ok : Nat → ByteArray → Prop} {w : World} {bw : Nat} {L : List (ByteArray)} {F : Nat → Prop} (O : OpS op f ok (fun _ => False) (fun _ _ => True)) (H : PQS f op nt ok w bw L F) (x : ByteArray) (hx : ok 1 x) (hl : L.length < 4096) :
    Calls Try.prog 24 #[.pointer (some ⟨bw, 0, none⟩), (.string x)] w fun e w' => e = .returned (.int .i64 0) ∧ Hid (QNS f op nt ok w w' bw (L ++ [x]) F) := by
  have hF := H.lt.1
  obtain ⟨X, Y, c, n, rfl, H⟩ := H
  rw [List.length_append] at hl
  cases Y with
  | nil => exact (pushS_first O x hx H (by simpa using hl)).mono fun e w' h => ⟨h.1, qnS_of hF (by simp) h.2.out⟩
  | cons y r => exact (pushS_more O x hx H (by simpa using hl)).mono fun e w' h => ⟨h.1, qnS_of hF (by simp) h.2.out⟩
theorem qpop0S {f : ByteArray → ByteArray → ByteArray} {op : Value} {nt : ByteArray} {ok : Nat → ByteArray → Prop} {w : World} {bw : Nat} {F : Nat → Prop} (O : OpS op f ok (fun _ => False) (fun _ _ => True)) (H : PQS f op nt ok w bw [] F) :
    Calls Try.prog 25 #[.pointer (some ⟨bw, 0, none⟩)] w fun e w' => e = .returned (.tuple #[.string ⟨#[]⟩, .int .i64 110]) ∧ Hid (QNS f op nt ok w w' bw [] F) := by
  have H0 := H
  obtain ⟨X, Y, c, n, e, H⟩ := H
  obtain ⟨rfl, rfl⟩ := List.append_eq_nil_iff.1 e
  exact (popS_none H).mono fun e w' h => ⟨h.1, qnS_below O H0 h.2⟩
theorem qpopS {f : ByteArray → ByteArray → ByteArray} {op : Value} {nt : ByteArray} {ok : Nat → ByteArray → Prop} {w : World} {bw : Nat} {L : List (ByteArray)} {F : Nat → Prop} (O : OpS op f ok (fun _ => False) (fun _ _ => True)) {x : ByteArray} (H : PQS f op nt ok w bw (x :: L) F) :
    Calls Try.prog 25 #[.pointer (some ⟨bw, 0, none⟩)] w fun e w' => e = .returned (.tuple #[(.string x), .int .i64 0]) ∧ Hid (QNS f op nt ok w w' bw L F) := by
  have hF := H.lt.1
  obtain ⟨X, Y, c, n, e, H⟩ := H
  cases X with
  | nil =>
    rw [List.nil_append] at e
    subst e
    exact (popS_turn O H).mono fun e w' h => ⟨h.1, qnS_of hF (by simp) h.2.out⟩
  | cons a X =>
    rw [List.cons_append] at e
    injection e with e1 e2
    subst e1
    exact (popS_some O H).mono fun e w' h => ⟨h.1, qnS_of hF e2 h.2.out⟩
theorem qall0S {f : ByteArray → ByteArray → ByteArray} {op : Value} {nt : ByteArray} {ok : Nat → ByteArray → Prop} {w : World} {bw : Nat} {F : Nat → Prop} (O : OpS op f ok (fun _ => False) (fun _ _ => True)) (H : PQS f op nt ok w bw [] F) :
    Calls Try.prog 27 #[.pointer (some ⟨bw, 0, none⟩)] w fun e w' => e = .returned (.string nt) ∧ Hid (QNS f op nt ok w w' bw [] F) := by
  have H0 := H
  obtain ⟨X, Y, c, n, e, H⟩ := H
  obtain ⟨rfl, rfl⟩ := List.append_eq_nil_iff.1 e
  exact (allS_none O H).mono fun e w' h => ⟨h.1, qnS_below O H0 h.2⟩
theorem qallS {f : ByteArray → ByteArray → ByteArray} {op : Value} {nt : ByteArray} {ok : Nat → ByteArray → Prop} {w : World} {bw : Nat} {L : List (ByteArray)} {F : Nat → Prop} (O : OpS op f ok (fun _ => False) (fun _ _ => True)) (ha : ∀ a b c, f (f a b) c = f a (f b c)) {x : ByteArray} (H : PQS f op nt ok w bw (x :: L) F) :
    Calls Try.prog 27 #[.pointer (some ⟨bw, 0, none⟩)] w fun e w' => e = .returned (.string (sumL f x L)) ∧ Hid (QNS f op nt ok w w' bw (x :: L) F) := by
  have hF := H.lt.1
  have H0 := H
  obtain ⟨X, Y, c, n, e, H⟩ := H
  cases X with
  | nil =>
    rw [List.nil_append] at e
    subst e
    exact (allS_b O H).mono fun e w' h => ⟨h.1, qnS_below O H0 h.2⟩
  | cons a X =>
    rw [List.cons_append] at e
    injection e with e1 e2
    subst e1
    cases Y with
    | nil =>
      rw [List.append_nil] at e2
      subst e2
      rw [← sumR_L f ha]
      exact (allS_a O H).mono fun e w' h => ⟨h.1, qnS_below O H0 h.2⟩
    | cons y r =>
      subst e2
      rw [sum_app f ha]
      exact (allS_ab O H).mono fun e w' h => ⟨h.1, qnS_of hF (by simp) h.2.out⟩
theorem qlenS {f : ByteArray → ByteArray → ByteArray} {op : Value} {nt : ByteArray} {ok : Nat → ByteArray → Prop} {w : World} {bw : Nat} {L : List (ByteArray)} {F : Nat → Prop} (O : OpS op f ok (fun _ => False) (fun _ _ => True)) (H : PQS f op nt ok w bw L F) :
    Calls Try.prog 28 #[.pointer (some ⟨bw, 0, none⟩)] w fun e w' => e = .returned (.int .i64 (L.length : Nat)) ∧ Hid (QNS f op nt ok w w' bw L F) := by
  have H0 := H
  obtain ⟨X, Y, c, n, rfl, H⟩ := H
  obtain ⟨va, vb, sm, H1⟩ := H.win
  rw [List.length_append]
  exact (lenS_any H1).mono fun e w' h => ⟨h.1, by obtain ⟨q, rfl⟩ := h.2; exact qnS_below O H0 (Below.drewN (Below.refl _ _) q)⟩
end Go.Proofs.Ytondchfhdhllhaa

namespace Go.Proofs.Ytondchfhdhllhaa
open Go.RowKit Go.Shelf
set_option linter.unusedVariables false

/-- All of the window lies from B on; what lay below lies as it lay in w. -/
def LQS (f : ByteArray → ByteArray → ByteArray) (op : Value) (nt : ByteArray) (ok : Nat → ByteArray → Prop) (B : Nat) (w W : World) (bw : Nat) (L : List (ByteArray)) : Prop := ∃ F, PQS f op nt ok W bw L F ∧ (∀ k, F k → B ≤ k) ∧ Below B w W ∧ B ≤ W.heap.size
theorem LQS.below {f : ByteArray → ByteArray → ByteArray} {op : Value} {nt : ByteArray} {ok : Nat → ByteArray → Prop} {B : Nat} {w W : World} {bw : Nat} {L : List (ByteArray)} (H : LQS f op nt ok B w W bw L) : Below B w W := by obtain ⟨F, h1, h2, h3, h4⟩ := H; exact h3
theorem LQS.len {f : ByteArray → ByteArray → ByteArray} {op : Value} {nt : ByteArray} {ok : Nat → ByteArray → Prop} {B : Nat} {w W : World} {bw : Nat} {L : List (ByteArray)} (H : LQS f op nt ok B w W bw L) : L.length ≤ 4096 := by obtain ⟨F, h1, h2, h3, h4⟩ := H; exact h1.len
theorem LQS.later {f : ByteArray → ByteArray → ByteArray} {op : Value} {nt : ByteArray} {ok : Nat → ByteArray → Prop} {B : Nat} {w W : World} {bw : Nat} {L : List (ByteArray)} {W' : World} (O : OpS op f ok (fun _ => False) (fun _ _ => True)) (H : LQS f op nt ok B w W bw L) (h : Below W.heap.size W W') : LQS f op nt ok B w W' bw L := by
  obtain ⟨F, h1, h2, h3, h4⟩ := H
  exact ⟨F, h1.fr O (Fr.of_below (P := fun _ => False) h) (fun _ _ h => h), h2, h3.trans (h.mono h4), Nat.le_trans h4 h.size⟩
theorem lqS_of {f : ByteArray → ByteArray → ByteArray} {op : Value} {nt : ByteArray} {ok : Nat → ByteArray → Prop} {B : Nat} {w W : World} {bw : Nat} {W' : World} {L' : List (ByteArray)} {F : Nat → Prop} (h2 : ∀ k, F k → B ≤ k) (h3 : Below B w W) (h4 : B ≤ W.heap.size) (q : QNS f op nt ok W W' bw L' F) : LQS f op nt ok B w W' bw L' := by
  obtain ⟨F', q1, q2, q3⟩ := q
  exact ⟨F', q1, fun k h => (q2 k h).elim (h2 k) (fun q => Nat.le_trans h4 q), h3.trans (q3.below h4 h2), Nat.le_trans h4 q3.size⟩
theorem lnewS {f : ByteArray → ByteArray → ByteArray} {ok : Nat → ByteArray → Prop} {B : Nat} {K : FuncId} {caps : Array Value} (O : OpS (.func (.func K) #[] caps) f ok (fun _ => False) (fun _ _ => True)) (nt : ByteArray) (w W : World) (hB : B ≤ W.heap.size) (hb : Below B w W) :
    Calls Try.prog 22 #[.func (.func K) #[] caps, (.string nt)] W fun e w' => ∃ bw, e = .returned (.pointer (some ⟨bw, 0, none⟩)) ∧ Hid (LQS f (.func (.func K) #[] caps) nt ok B w w' bw [] ∧ W.heap.size ≤ bw ∧ Below W.heap.size W w') :=
  (qnewS O nt W).mono fun e w' ⟨bw, h1, h2⟩ => ⟨bw, h1, ⟨_, h2.out.2.2, fun k h => by have := h2.out.1; omega, hb.trans (h2.out.2.1.mono hB), Nat.le_trans hB h2.out.2.1.size⟩, h2.out.1, h2.out.2.1⟩
theorem lpushS {f : ByteArray → ByteArray → ByteArray} {op : Value} {nt : ByteArray} {ok : Nat → ByteArray → Prop} {B : Nat} {w W : World} {bw : Nat} {L : List (ByteArray)} (O : OpS op f ok (fun _ => False) (fun _ _ => True))  (H : LQS f op nt ok B w W bw L) (x : ByteArray) (hx : ok 1 x) (hl : L.length < 4096) :
    Calls Try.prog 24 #[.pointer (some ⟨bw, 0, none⟩), (.string x)] W fun e w' => e = .returned (.int .i64 0) ∧ Hid (LQS f op nt ok B w w' bw (L ++ [x])) := by
  obtain ⟨F, h1, h2, h3, h4⟩ := H
  exact (qpushS O h1 x hx hl).mono fun e w' h => ⟨h.1, lqS_of h2 h3 h4 h.2.out⟩
theorem lpop0S {f : ByteArray → ByteArray → ByteArray} {op : Value} {nt : ByteArray} {ok : Nat → ByteArray → Prop} {B : Nat} {w W : World} {bw : Nat} (O : OpS op f ok (fun _ => False) (fun _ _ => True))  (H : LQS f op nt ok B w W bw [])  :
    Calls Try.prog 25 #[.pointer (some ⟨bw, 0, none⟩)] W fun e w' => e = .returned (.tuple #[.string ⟨#[]⟩, .int .i64 110]) ∧ Hid (LQS f op nt ok B w w' bw []) := by
  obtain ⟨F, h1, h2, h3, h4⟩ := H
  exact (qpop0S O h1).mono fun e w' h => ⟨h.1, lqS_of h2 h3 h4 h.2.out⟩
theorem lpopS {f : ByteArray → ByteArray → ByteArray} {op : Value} {nt : ByteArray} {ok : Nat → ByteArray → Prop} {B : Nat} {w W : World} {bw : Nat} {L : List (ByteArray)} (O : OpS op f ok (fun _ => False) (fun _ _ => True)) {x : ByteArray} (H : LQS f op nt ok B w W bw (x :: L))  :
    Calls Try.prog 25 #[.pointer (some ⟨bw, 0, none⟩)] W fun e w' => e = .returned (.tuple #[(.string x), .int .i64 0]) ∧ Hid (LQS f op nt ok B w w' bw L) := by
  obtain ⟨F, h1, h2, h3, h4⟩ := H
  exact (qpopS O h1).mono fun e w' h => ⟨h.1, lqS_of h2 h3 h4 h.2.out⟩
theorem lall0S {f : ByteArray → ByteArray → ByteArray} {op : Value} {nt : ByteArray} {ok : Nat → ByteArray → Prop} {B : Nat} {w W : World} {bw : Nat} (O : OpS op f ok (fun _ => False) (fun _ _ => True))  (H : LQS f op nt ok B w W bw [])  :
    Calls Try.prog 27 #[.pointer (some ⟨bw, 0, none⟩)] W fun e w' => e = .returned (.string nt) ∧ Hid (LQS f op nt ok B w w' bw []) := by
  obtain ⟨F, h1, h2, h3, h4⟩ := H
  exact (qall0S O h1).mono fun e w' h => ⟨h.1, lqS_of h2 h3 h4 h.2.out⟩
theorem lallS {f : ByteArray → ByteArray → ByteArray} {op : Value} {nt : ByteArray} {ok : Nat → ByteArray → Prop} {B : Nat} {w W : World} {bw : Nat} {L : List (ByteArray)} (O : OpS op f ok (fun _ => False) (fun _ _ => True)) (ha : ∀ a b c, f (f a b) c = f a (f b c)) {x : ByteArray} (H : LQS f op nt ok B w W bw (x :: L))  :
    Calls Try.prog 27 #[.pointer (some ⟨bw, 0, none⟩)] W fun e w' => e = .returned (.string (sumL f x L)) ∧ Hid (LQS f op nt ok B w w' bw (x :: L)) := by
  obtain ⟨F, h1, h2, h3, h4⟩ := H
  exact (qallS O ha h1).mono fun e w' h => ⟨h.1, lqS_of h2 h3 h4 h.2.out⟩
theorem llenS {f : ByteArray → ByteArray → ByteArray} {op : Value} {nt : ByteArray} {ok : Nat → ByteArray → Prop} {B : Nat} {w W : World} {bw : Nat} {L : List (ByteArray)} (O : OpS op f ok (fun _ => False) (fun _ _ => True))  (H : LQS f op nt ok B w W bw L)  :
    Calls Try.prog 28 #[.pointer (some ⟨bw, 0, none⟩)] W fun e w' => e = .returned (.int .i64 (L.length : Nat)) ∧ Hid (LQS f op nt ok B w w' bw L) := by
  obtain ⟨F, h1, h2, h3, h4⟩ := H
  exact (qlenS O h1).mono fun e w' h => ⟨h.1, lqS_of h2 h3 h4 h.2.out⟩
end Go.Proofs.Ytondchfhdhllhaa

namespace Go.Proofs.Ytondchfhdhllhaa
open Go.RowKit Go.Shelf
set_option linter.unusedVariables false

set_option maxRecDepth 100000 in
set_option maxHeartbeats 8000000 in
theorem live11_any (w : World) : Calls Try.prog 11 #[] w fun e w' => e = .returned (.bool true) ∧ Below w.heap.size w w' := by
  go_enter Try.func11, Try.ntmps11
  go_wp2_with fail
  refine (lnewS (B := w.heap.size) opS_live ⟨#[45]⟩ w _ (Nat.le_refl _) (Below.refl _ _)).mono ?_
  rintro e w1 ⟨bw, rfl, h1⟩
  have Q1 : Hid (LQS catF (.func (.func 31) #[] #[]) ⟨#[45]⟩ catOk w.heap.size w w1 bw []) := h1.out.1
  clear h1
  go_wp2_with fail
  refine (lall0S opS_live Q1.out).mono ?_
  rintro e w2 ⟨rfl, Q2⟩
  clear Q1
  go_wp2_with fail
  refine (lpop0S opS_live Q2.out).mono ?_
  rintro e w3 ⟨rfl, Q3⟩
  clear Q2
  go_wp2_with fail
  refine (lpushS opS_live Q3.out ⟨#[97]⟩ (show (1 : Nat) ≤ 1 * 1000 by decide) (by decide)).mono ?_
  rintro e w4 ⟨rfl, Q4⟩
  clear Q3
  go_wp2_with fail
  refine (lpushS opS_live Q4.out ⟨#[98]⟩ (show (1 : Nat) ≤ 1 * 1000 by decide) (by decide)).mono ?_
  rintro e w5 ⟨rfl, Q5⟩
  clear Q4
  go_wp2_with fail
  refine (lpushS opS_live Q5.out ⟨#[99]⟩ (show (1 : Nat) ≤ 1 * 1000 by decide) (by decide)).mono ?_
  rintro e w6 ⟨rfl, Q6⟩
  clear Q5
  go_wp2_with fail
  refine (lpopS opS_live Q6.out).mono ?_
  rintro e w7 ⟨rfl, Q7⟩
  clear Q6
  go_wp2_with fail
  refine (lpushS opS_live Q7.out ⟨#[100]⟩ (show (1 : Nat) ≤ 1 * 1000 by decide) (by decide)).mono ?_
  rintro e w8 ⟨rfl, Q8⟩
  clear Q7
  have e3 : sumL catF ⟨#[98]⟩ [⟨#[99]⟩, ⟨#[100]⟩] = ⟨#[98,99,100]⟩ := by rfl
  go_wp2_with fail
  have H9 := lallS (x := ⟨#[98]⟩) (L := [⟨#[99]⟩, ⟨#[100]⟩]) opS_live cat_assoc Q8.out
  rw [show sumL catF ⟨#[98]⟩ [⟨#[99]⟩, ⟨#[100]⟩] = ⟨#[98,99,100]⟩ from rfl] at H9
  refine H9.mono ?_
  rintro e w20 ⟨rfl, Q20⟩
  go_wp2_with fail
  refine (llenS opS_live Q20.out).mono ?_
  rintro e w21 ⟨rfl, Q21⟩
  go_wp2
  go_ret
  exact ⟨rfl, Q21.out.below⟩
end Go.Proofs.Ytondchfhdhllhaa
