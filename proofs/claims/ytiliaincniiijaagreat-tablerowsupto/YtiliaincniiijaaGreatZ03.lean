/- A row's values at some columns, as a key. -/
import Derived.Test.YtiliaincniiijaaGreatZ02
import Derived.Lib.SliceRun
import Derived.Shelf.SlicesE.Clone
import Derived.Deep.RegionHeld3
import Derived.Maps.AppendAt
import Derived.Deep.MidRow

namespace Go.Proofs.YtiliaincniiijaaGreat
open Go.RowKit Go.Shelf Go.Sort
set_option linter.unusedVariables false

/-- What is kept behind one. -/
def kp {α : Type} (eq : α → α → Bool) : α → List α → List α
  | _, [] => []
  | p, y :: l => if eq y p = true then kp eq y l else y :: kp eq y l
def cmpct {α : Type} (eq : α → α → Bool) : List α → List α
  | [] => []
  | x :: l => x :: kp eq x l

theorem grown_below {w w1 w2 : World} {g : Option Nat} (h : w.grownBy w1 g) (hb : Below w1.heap.size w1 w2) : w.grownBy w2 g :=
  ⟨hb.os.trans h.os, hb.tape.trans h.tape, hb.output.trans h.output, Nat.le_trans h.size hb.size, fun k hk hne => (hb.block k (Nat.lt_of_lt_of_le hk h.size)).trans (h.block k hk hne)⟩
theorem grown_trans {w w1 w2 : World} {g : Option Nat} (h : w.grownBy w1 g) (hb : w1.grownBy w2 g) : w.grownBy w2 g :=
  ⟨hb.os.trans h.os, hb.tape.trans h.tape, hb.output.trans h.output, Nat.le_trans h.size hb.size, fun k hk hne => (hb.block k (Nat.lt_of_lt_of_le hk h.size) hne).trans (h.block k hk hne)⟩
theorem own_below {w w' : World} {B e size n : Nat} {v : Value} {xs : List Value} (h : w.ownsRow B e size v n xs) (hb : Below w.heap.size w w') : w'.ownsRow B e size v n xs :=
  World.ownsRow.kept h (row := none) ⟨hb.os, hb.tape, hb.output, hb.size, fun k hk _ => hb.block k hk⟩ (by cases hv : v.ownBlock with | none => exact Or.inl rfl | some k => exact Or.inr (by intro h; cases h))
theorem own_take {w : World} {B e n cap g m : Nat} {xs : List Value} (h : w.ownsRow B e 1 (.slice (some ⟨g, 0, none⟩) n cap) n xs) (hm : m ≤ n) : w.ownsRow B e 1 (.slice (some ⟨g, 0, none⟩) m cap) m (xs.take m) := by
  obtain ⟨hl, ⟨e, -⟩ | ⟨g', cap', cur, e, h1, h2, h3, h4, h5, h6⟩⟩ := h
  · cases e
  · injection e with e1 e2 e3
    injection e1 with e1
    injection e1 with e1
    subst e1 e3
    refine ⟨by rw [List.length_take]; omega, Or.inr ⟨g, cap, cur, rfl, h1, h2, by omega, h4, h5, ?_⟩⟩
    rw [← h6, List.take_take]
    congr 1
    omega
theorem own_setCells {B e n cap g : Nat} : ∀ (vs : List Value) (o : Nat) (w : World) (xs : List Value), w.ownsRow B e 1 (.slice (some ⟨g, 0, none⟩) n cap) n xs → ∃ ys, (w.setCells g o vs).ownsRow B e 1 (.slice (some ⟨g, 0, none⟩) n cap) n ys ∧ ys.take o = xs.take o ∧ w.grownBy (w.setCells g o vs) (some g)
  | [], o, w, xs, h => ⟨xs, h, rfl, ⟨rfl, rfl, rfl, Nat.le_refl _, fun _ _ _ => rfl⟩⟩
  | v :: vs, o, w, xs, h => by
    obtain ⟨s1, s2⟩ := h.stored o v
    obtain ⟨ys, h1, h2, h3⟩ := own_setCells vs (o + 1) _ _ s1
    refine ⟨ys, h1, ?_, grown_trans s2 h3⟩
    have e1 : ys.take o = (ys.take (o + 1)).take o := by rw [List.take_take]; congr 1; omega
    rw [e1, h2, List.take_take, show min o (o + 1) = o by omega, List.take_set_of_le (Nat.le_refl _)]

set_option maxRecDepth 100000 in
set_option maxHeartbeats 4000000 in
theorem compact_any (n cap g B box : Nat) (ys : List Value) (w : World) (eqB : Value → Value → Bool) (hown : w.ownsRow B 26 1 (.slice (some ⟨g, 0, none⟩) n cap) n ys) (hsl : ∀ u ∈ ys, ∃ p m c, u = .slice p m c) (lx : n ≤ 5864062014805)
    (heq : ∀ W, w.grownBy W (some g) → ∀ x ∈ ys, ∀ y ∈ ys, Calls Tryz.prog 57 #[x, y, .pointer (some ⟨box, 0, none⟩)] W fun e w' => e = .returned (.bool (eqB x y)) ∧ Below W.heap.size W w') :
    Calls Tryz.prog 56 #[.slice (some ⟨g, 0, none⟩) n cap, .func (.func 57) #[] #[.pointer (some ⟨box, 0, none⟩)]] w fun e w' => ∃ m, e = .returned (.slice (some ⟨g, 0, none⟩) m cap) ∧ w'.ownsRow B 26 1 (.slice (some ⟨g, 0, none⟩) m cap) m (cmpct eqB ys) ∧ w.grownBy w' (some g) := by
  have hlen : ys.length = n := by have := hown.1; omega
  have HO : Hid (w.ownsRow B 26 1 (.slice (some ⟨g, 0, none⟩) n cap) n ys) := hown
  have hc : n ≤ cap ∧ cap ≤ 9223372036854775807 := by
    obtain ⟨hl, ⟨e, -⟩ | ⟨g', cap', cur, e, h1, h2, h3, h4, h5, h6⟩⟩ := hown
    · cases e
    · injection e with e1 e2 e3
      subst e3
      unfold maxLen at h4
      exact ⟨h3, by omega⟩
  obtain ⟨hc1, hc2⟩ := hc
  have HE : Hid (∀ W, w.grownBy W (some g) → ∀ x ∈ ys, ∀ y ∈ ys, Calls Tryz.prog 57 #[x, y, .pointer (some ⟨box, 0, none⟩)] W fun e w' => e = .returned (.bool (eqB x y)) ∧ Below W.heap.size W w') := heq
  have HS : Hid (∀ u ∈ ys, ∃ p m c, u = .slice p m c) := hsl
  have HG : Hid (w.grownBy w (some g)) := ⟨rfl, rfl, rfl, Nat.le_refl _, fun _ _ _ => rfl⟩
  have hglt : g < w.heap.size := (World.ownsRow.lt hown g rfl).2
  clear hown heq hsl
  go_enter Tryz.func56, Tryz.ntmps56
  by_cases h2 : (n : Int) < 2
  · have hz : Hid (cmpct eqB ys = ys) := by
      rcases ys with _ | ⟨x, _ | ⟨y, l⟩⟩
      · rfl
      · rfl
      · simp at hlen; omega
    go_wp2
    go_ret
    exact ⟨n, rfl, by rw [hz.out]; exact HO.out, HG.out⟩
  · go_wp2
    go_loopw [5] (fun i wr => ∃ (k : Nat), 1 ≤ k ∧ k ≤ n ∧ i = .int .i64 k ∧ Hid (∃ prev, ys[k - 1]? = some prev ∧ cmpct eqB ys = ys.take k ++ kp eqB prev (ys.drop k)) ∧ Hid (wr.ownsRow B 26 1 (.slice (some ⟨g, 0, none⟩) n cap) n ys) ∧ Hid (w.grownBy wr (some g))) (fun i _ => n - (intOf i).toNat)
    case atStart =>
      refine ⟨1, Nat.le_refl _, by omega, rfl, ?_, HO, HG⟩
      show ∃ prev, _
      rcases ys with _ | ⟨x, l⟩
      · simp at hlen; omega
      · exact ⟨x, rfl, rfl⟩
    case round =>
      obtain ⟨k, hk1, hk, rfl, hr, hO, hG⟩ := hrel
      by_cases hlt : k < n
      · obtain ⟨j, rfl⟩ : ∃ j, k = j + 1 := ⟨k - 1, by omega⟩
        obtain ⟨prev, hp, he⟩ := hr.out
        rw [Nat.add_sub_cancel] at hp
        have kx : j + 1 < ys.length := by omega
        have jx : j < ys.length := by omega
        have q1 : wr.cell? ⟨g, j + 1, none⟩ = some ys[j + 1] := by rw [hO.out.cellAt _ (by omega), List.getElem?_eq_getElem kx]
        have q2 : wr.cell? ⟨g, j, none⟩ = some prev := by rw [hO.out.cellAt _ (by omega), hp]
        have m1 : ys[j + 1] ∈ ys := List.getElem_mem kx
        have m2 : prev ∈ ys := by
          rw [List.getElem?_eq_getElem jx] at hp
          injection hp with hp
          rw [← hp]
          exact List.getElem_mem jx
        have hr2 : Hid (cmpct eqB ys = ys.take (j + 1) ++ (if eqB ys[j + 1] prev = true then kp eqB ys[j + 1] (ys.drop (j + 1 + 1)) else ys[j + 1] :: kp eqB ys[j + 1] (ys.drop (j + 1 + 1)))) := by
          rw [List.drop_eq_getElem_cons kx] at he
          exact he
        have hx : Hid (ys[j + 1]? = some ys[j + 1]) := List.getElem?_eq_getElem kx
        clear hp he hr
        generalize ys[j + 1] = X at q1 m1 hr2 hx
        obtain ⟨E, eE⟩ : ∃ E : Bool, Hid (eqB X prev = E) := ⟨_, rfl⟩
        have ct : Hid (∀ W, Below wr.heap.size wr W → Calls Tryz.prog 57 #[X, prev, .pointer (some ⟨box, 0, none⟩)] W fun e w' => e = .returned (.bool E) ∧ Below W.heap.size W w') := fun W hB => by
          have h := HE.out W (grown_below hG.out hB) X m1 prev m2
          rwa [eE.out] at h
        rw [eE.out] at hr2
        obtain ⟨p1, n1, c1, rfl⟩ := HS.out X m1
        obtain ⟨p2, n2, c2, rfl⟩ := HS.out prev m2
        clear m1 m2
        have hgr : g < wr.heap.size := Nat.lt_of_lt_of_le hglt hG.out.size
        have jn : j < n := by omega
        clear h2 hk hk1
        have mixed : Tryz.prog.follows .mixedOrders = true := by kernel_rfl
        obtain ⟨iN, hiN⟩ : ∃ q, q = j + 1 := ⟨_, rfl⟩
        have ea : ((j : Int) + 1).toNat = iN := by omega
        have pa : (0 : Int) ≤ (j : Int) + 1 := by omega
        have ba : (j : Int) + 1 < (n : Int) := by omega
        have ra : IntKind.i64.wrap ((j : Int) + 1) = (j : Int) + 1 := by rw [IntKind.wrap_i64]; omega
        have pc : (0 : Int) ≤ (j : Int) := by omega
        have bc : (j : Int) < (n : Int) := by omega
        have rc : IntKind.i64.wrap (j : Int) = (j : Int) := by rw [IntKind.wrap_i64]; omega
        have cl1 : ∀ nq osq, (grow (wr.drewN nq) osq).cell? ⟨g, iN, none⟩ = some (.slice p1 n1 c1) := fun nq osq => by
          rw [hiN, cell?_grow _ _ _ hgr]
          exact q1
        have cl2 : ∀ nq osq, (grow (wr.drewN nq) osq).cell? ⟨g, j, none⟩ = some (.slice p2 n2 c2) := fun nq osq => by
          rw [cell?_grow _ _ _ hgr]
          exact q2
        have eg : ∀ args w, (callFunc 57 args).run Tryz.prog w = .ok (.enter 57 args) w := enters_of Tryz.func57 (by kernel_rfl) rfl
        have hcc : ∀ nq osq, Calls Tryz.prog 57 #[.slice p1 n1 c1, .slice p2 n2 c2, .pointer (some ⟨box, 0, none⟩)] (grow (wr.drewN nq) osq) fun e w' => e = .returned (.bool E) ∧ ∃ q os', w' = grow ((grow (wr.drewN nq) osq).drewN q) os' := fun nq osq => (Calls.drawn (ct.out (grow (wr.drewN nq) osq) (below_grow wr nq osq))).mono fun e w' ⟨he, hb, hd⟩ => ⟨he, grown_of_below hb hd⟩
        clear q1 q2 hiN
        go_upto_region 6 with fail
        go_quiet_grown (first | (go_at_fn 57; refine Calls.grown_of (hcc _ _)))
        have hw1 : Below wr.heap.size wr (grow (wr.drewN nq) osq) := below_grow wr nq osq
        clear hcc cl1 cl2 ea
        generalize grow (wr.drewN nq) osq = v1 at hw1 ⊢
        clear ct
        have O2 : Hid (v1.ownsRow B 26 1 (.slice (some ⟨g, 0, none⟩) n cap) n ys) := own_below hO.out hw1
        have G2 : Hid (w.grownBy v1 (some g)) := grown_below hG.out hw1
        clear hw1 hO hG
        cases E with
        | false =>
          have hr3 : Hid (∃ prev, ys[j + 1 + 1 - 1]? = some prev ∧ cmpct eqB ys = ys.take (j + 1 + 1) ++ kp eqB prev (ys.drop (j + 1 + 1))) := ⟨_, hx.out, by
            have h := hr2.out
            rw [if_neg (by simp)] at h
            rw [h, List.take_succ_eq_append_getElem kx]
            have e2 := hx.out
            rw [List.getElem?_eq_getElem kx] at e2
            injection e2 with e2
            rw [e2]
            simp⟩
          clear hr2
          go_wp2
          exact ⟨⟨j + 1 + 1, by omega, by omega, by go_num, hr3, O2, G2⟩, by simp [intOf]; omega⟩
        | true =>
          have hr3 : Hid (cmpct eqB ys = ys.take (j + 1) ++ kp eqB (.slice p1 n1 c1) (ys.drop (j + 1 + 1))) := by
            have h := hr2.out
            rwa [if_pos rfl] at h
          clear hr2
          obtain ⟨r, hrn⟩ : ∃ r, Hid (n - (j + 1) = r) := ⟨_, rfl⟩
          have hr1 : 1 ≤ r := by have := hrn.out; omega
          have hrr : j + 1 + r = n := by have := hrn.out; omega
          clear ra pa ba pc bc rc
          have I0 : Hid (∃ xs pv, v1.ownsRow B 26 1 (.slice (some ⟨g, 0, none⟩) n cap) n xs ∧ (∀ q, j + 1 + 0 ≤ q → xs[q]? = ys[q]?) ∧ ys[j + 1 + 0]? = some pv ∧ cmpct eqB ys = xs.take (j + 1) ++ kp eqB pv (ys.drop (j + 1 + 0 + 1))) := ⟨ys, _, O2.out, fun _ _ => rfl, hx.out, hr3.out⟩
          clear hr3 O2 hx
          go_wp2
          rw [hrn.out]
          go_loopw [5, 7] (fun a b wr => ∃ (kk t : Nat), a = .int .i64 kk ∧ b = .int .i64 ((t + 1 : Nat) : Int) ∧ kk ≤ j + 1 + t ∧ t + 1 ≤ r ∧ Hid (∃ xs pv, wr.ownsRow B 26 1 (.slice (some ⟨g, 0, none⟩) n cap) n xs ∧ (∀ q, j + 1 + t ≤ q → xs[q]? = ys[q]?) ∧ ys[j + 1 + t]? = some pv ∧ cmpct eqB ys = xs.take kk ++ kp eqB pv (ys.drop (j + 1 + t + 1))) ∧ Hid (w.grownBy wr (some g))) (fun _ b _ => r - (intOf b).toNat)
          case atStart => exact ⟨j + 1, 0, by go_num, by go_num, Nat.le_refl _, hr1, I0, G2⟩
          case round =>
            clear I0 G2
            obtain ⟨kk, t, rfl, rfl, hkt, htr, hI, hG⟩ := hrel
            by_cases hlt2 : t + 1 < r
            · obtain ⟨xs, pv, ho, hsame, hp, he⟩ := hI.out
              have kx : j + 1 + t + 1 < ys.length := by omega
              have jx : j + 1 + t < ys.length := by omega
              have hgr : g < wr.heap.size := Nat.lt_of_lt_of_le hglt hG.out.size
              have q1 : wr.cell? ⟨g, j + 1 + t + 1, none⟩ = some ys[j + 1 + t + 1] := by rw [ho.cellAt _ (by omega), hsame _ (by omega), List.getElem?_eq_getElem kx]
              have q2 : wr.cell? ⟨g, j + 1 + t, none⟩ = some pv := by rw [ho.cellAt _ (by omega), hsame _ (by omega), hp]
              have m1 : ys[j + 1 + t + 1] ∈ ys := List.getElem_mem kx
              have m2 : pv ∈ ys := by
                rw [List.getElem?_eq_getElem jx] at hp
                injection hp with hp
                rw [← hp]
                exact List.getElem_mem jx
              have he2 : Hid (cmpct eqB ys = xs.take kk ++ (if eqB ys[j + 1 + t + 1] pv = true then kp eqB ys[j + 1 + t + 1] (ys.drop (j + 1 + t + 1 + 1)) else ys[j + 1 + t + 1] :: kp eqB ys[j + 1 + t + 1] (ys.drop (j + 1 + t + 1 + 1)))) := by
                rw [List.drop_eq_getElem_cons kx] at he
                exact he
              have hx : Hid (ys[j + 1 + t + 1]? = some ys[j + 1 + t + 1]) := List.getElem?_eq_getElem kx
              clear hp he hI
              generalize ys[j + 1 + t + 1] = Y at q1 m1 he2 hx
              obtain ⟨F, eF⟩ : ∃ F : Bool, Hid (eqB Y pv = F) := ⟨_, rfl⟩
              have ct : Hid (∀ W, Below wr.heap.size wr W → Calls Tryz.prog 57 #[Y, pv, .pointer (some ⟨box, 0, none⟩)] W fun e w' => e = .returned (.bool F) ∧ Below W.heap.size W w') := fun W hB => by
                have h := HE.out W (grown_below hG.out hB) Y m1 pv m2
                rwa [eF.out] at h
              rw [eF.out] at he2
              obtain ⟨p3, n3, c3, rfl⟩ := HS.out Y m1
              obtain ⟨p4, n4, c4, rfl⟩ := HS.out pv m2
              clear m1 m2
              have pa : (0 : Int) ≤ (t : Int) + 1 := by omega
              have ba : (t : Int) + 1 < (r : Int) := by omega
              have ra : IntKind.i64.wrap ((t : Int) + 1) = (t : Int) + 1 := by rw [IntKind.wrap_i64]; omega
              have pc : (0 : Int) ≤ (t : Int) := by omega
              have bc : (t : Int) < (r : Int) := by omega
              have rc : IntKind.i64.wrap (t : Int) = (t : Int) := by rw [IntKind.wrap_i64]; omega
              have cl1 : ∀ nq osq, (grow (wr.drewN nq) osq).cell? ⟨g, j + 1 + (t + 1), none⟩ = some (.slice p3 n3 c3) := fun nq osq => by
                rw [cell?_grow _ _ _ hgr]
                exact q1
              have cl2 : ∀ nq osq, (grow (wr.drewN nq) osq).cell? ⟨g, j + 1 + t, none⟩ = some (.slice p4 n4 c4) := fun nq osq => by
                rw [cell?_grow _ _ _ hgr]
                exact q2
              have hcc : ∀ nq osq, Calls Tryz.prog 57 #[.slice p3 n3 c3, .slice p4 n4 c4, .pointer (some ⟨box, 0, none⟩)] (grow (wr.drewN nq) osq) fun e w' => e = .returned (.bool F) ∧ ∃ q os', w' = grow ((grow (wr.drewN nq) osq).drewN q) os' := fun nq osq => (Calls.drawn (ct.out (grow (wr.drewN nq) osq) (below_grow wr nq osq))).mono fun e w' ⟨he, hb, hd⟩ => ⟨he, grown_of_below hb hd⟩
              have Q1 : Hid (wr.cell? ⟨g, j + 1 + t + 1, none⟩ = some (.slice p3 n3 c3)) := q1
              have HO2 : Hid (wr.ownsRow B 26 1 (.slice (some ⟨g, 0, none⟩) n cap) n xs) := ho
              have HSa : Hid (∀ q, j + 1 + t ≤ q → xs[q]? = ys[q]?) := hsame
              clear q1 q2 ct ho hsame
              go_upto_region 11 with fail
              go_quiet_grown (first | (go_at_fn 57; refine Calls.grown_of (hcc _ _)))
              have hw1 : Below wr.heap.size wr (grow (wr.drewN nq) osq) := below_grow wr nq osq
              clear hcc cl1 cl2
              generalize grow (wr.drewN nq) osq = v2 at hw1 ⊢
              have O3 := own_below HO2.out hw1
              have G3 : Hid (w.grownBy v2 (some g)) := grown_below hG.out hw1
              have Q3 : v2.cell? ⟨g, j + 1 + (t + 1), none⟩ = some (.slice p3 n3 c3) := by
                exact (hw1.cell (p := ⟨g, j + 1 + (t + 1), none⟩) hgr).trans Q1.out
              clear hw1 HO2 hG Q1
              have kl : kk < n := by omega
              have xl : kk < xs.length := by have := O3.1; omega
              cases F with
              | true =>
                have I2 : Hid (∃ xs pv, v2.ownsRow B 26 1 (.slice (some ⟨g, 0, none⟩) n cap) n xs ∧ (∀ q, j + 1 + (t + 1) ≤ q → xs[q]? = ys[q]?) ∧ ys[j + 1 + (t + 1)]? = some pv ∧ cmpct eqB ys = xs.take kk ++ kp eqB pv (ys.drop (j + 1 + (t + 1) + 1))) := ⟨xs, _, O3, fun q hq => HSa.out q (by omega), hx.out, by
                  have h := he2.out
                  rwa [if_pos rfl] at h⟩
                clear he2 O3 Q3 HSa
                go_wp2
                exact ⟨⟨kk, t + 1, rfl, by go_num, by omega, by omega, I2, G3⟩, by simp [intOf]; omega⟩
              | false =>
                obtain ⟨s1, s2⟩ := O3.stored kk (.slice p3 n3 c3)
                have I2 : Hid (∃ xs pv, (v2.setCell ⟨g, kk, none⟩ (.slice p3 n3 c3)).ownsRow B 26 1 (.slice (some ⟨g, 0, none⟩) n cap) n xs ∧ (∀ q, j + 1 + (t + 1) ≤ q → xs[q]? = ys[q]?) ∧ ys[j + 1 + (t + 1)]? = some pv ∧ cmpct eqB ys = xs.take (kk + 1) ++ kp eqB pv (ys.drop (j + 1 + (t + 1) + 1))) := ⟨xs.set kk (.slice p3 n3 c3), _, s1, fun q hq => by
                  rw [List.getElem?_set_ne (by omega)]
                  exact HSa.out q (by omega), hx.out, by
                  have h := he2.out
                  rw [if_neg (by simp)] at h
                  rw [h, List.take_succ_eq_append_getElem (by simpa using xl), List.getElem_set_self, List.take_set_of_le (Nat.le_refl _)]
                  simp
                  rfl⟩
                have G4 : Hid (w.grownBy (v2.setCell ⟨g, kk, none⟩ (.slice p3 n3 c3)) (some g)) := grown_trans G3.out s2
                have f1 : v2.frozen? ⟨g, kk, none⟩ = false := O3.frozenAt kk
                have f2 : v2.cell? ⟨g, kk, none⟩ = some xs[kk] := by rw [O3.cellAt kk (by omega), List.getElem?_eq_getElem xl]
                have kz : (kk : Int) < n := by omega
                generalize xs[kk] = Z at f2
                clear he2 O3 HSa s1 s2 G3
                go_wp2
                exact ⟨⟨kk + 1, t + 1, by go_num, by go_num, by omega, by omega, I2, G4⟩, by simp [intOf]; omega⟩
            · have tr : t + 1 = r := by omega
              have c3 : ¬ ((t : Int) + 1 < (r : Int)) := by omega
              obtain ⟨xs, pv, ho, -, -, he⟩ := hI.out
              have hz : Hid (cmpct eqB ys = xs.take kk) := by
                rw [List.drop_eq_nil_of_le (by omega)] at he
                rw [he]
                exact List.append_nil _
              have kl : kk < n := by omega
              have hxl : xs.length = n := by have := ho.1; omega
              have hcl : ∀ ty, (Builtin.clear_ #[23] ty #[.slice (some ⟨g, kk, none⟩) (n - kk) (cap - kk)]).run Tryz.prog wr = .ok (.tuple #[]) (wr.setCells g kk (List.replicate (n - kk) (.slice none 0 0))) :=
                fun ty => Lib.run_clear_slice wr _ _ ty _ Tryz.underlying23 Tryz.zeroValue26 rfl rfl g kk _ _ (by omega) (fun q hq => by rw [ho.cellAt _ (by omega), List.getElem?_eq_getElem (by omega)]; rfl) (fun q hq => ho.frozenAt _)
              obtain ⟨zs, o1, o2, o3⟩ := own_setCells (List.replicate (n - kk) (.slice none 0 0)) kk wr xs ho
              have O4 := own_take o1 (Nat.le_of_lt kl)
              rw [o2, ← hz.out] at O4
              have HO4 : Hid ((wr.setCells g kk (List.replicate (n - kk) (.slice none 0 0))).ownsRow B 26 1 (.slice (some ⟨g, 0, none⟩) kk cap) kk (cmpct eqB ys)) := O4
              have HG4 : Hid (w.grownBy (wr.setCells g kk (List.replicate (n - kk) (.slice none 0 0))) (some g)) := grown_trans hG.out o3
              clear O4 o1 o2 o3 ho he hI hG hz
              have kz : (kk : Int) ≤ n := by omega
              have kz2 : (kk : Int) ≤ cap := by omega
              go_wp2
              go_ret
              exact ⟨kk, rfl, HO4.out, HG4.out⟩
      · have c2 : ¬ (k : Int) < n := by omega
        have hz : Hid (cmpct eqB ys = ys) := by
          obtain ⟨prev, -, h⟩ := hr.out
          rw [List.drop_eq_nil_of_le (by omega), List.take_of_length_le (by omega)] at h
          rw [h]
          exact List.append_nil _
        clear hr
        go_wp2
        go_ret
        exact ⟨n, rfl, by rw [hz.out]; exact hO.out, hG.out⟩

end Go.Proofs.YtiliaincniiijaaGreat

namespace Go.Proofs.YtiliaincniiijaaGreat
open Go.RowKit Go.Shelf Go.Sort
set_option linter.unusedVariables false

/-- A row of values that may be. -/
def okR (r : List Val) : Prop := ∀ v ∈ r, v.may = 0 ∧ v.Fits
theorem okR.tail {x : Val} {r : List Val} (h : okR (x :: r)) : okR r := fun v hv => h v (List.mem_cons_of_mem _ hv)
theorem okR.head {x : Val} {r : List Val} (h : okR (x :: r)) : x.may = 0 := (h x (List.mem_cons_self ..)).1
theorem okR.picks {r : List Val} (h : okR r) (cs : List Nat) : okR (picks r cs) := fun v hv => by
  obtain ⟨c, -, hc⟩ := List.mem_filterMap.1 hv
  exact h v (List.mem_of_getElem? hc)

theorem rowC_turn : ∀ {x y : List Val}, okR x → okR y → rowC y x = -rowC x y
  | [], [], _, _ => rfl
  | [], _ :: _, _, _ => rfl
  | _ :: _, [], _, _ => rfl
  | a :: x, b :: y, h, g => by
    have t := Val.turn h.head g.head
    by_cases e : a.cmp b = 0
    · rw [rowC_zero e, rowC_zero (by omega)]
      exact rowC_turn h.tail g.tail
    · rw [rowC_else e, rowC_else (by omega)]
      exact t
theorem val_same {x y : Val} (h : x.same y = true) : x = y := by
  obtain ⟨k, n, d, s⟩ := x
  obtain ⟨k', n', d', s'⟩ := y
  unfold Val.same sameB at h
  simp only [Bool.and_eq_true, beq_iff_eq] at h
  have hs : s = s' := by
    have h4 : s.toList = s'.toList := by simp_all
    rw [toList_data, toList_data] at h4
    exact ByteArray.ext (Array.toList_inj.mp h4)
  simp_all
theorem rowC_eq : ∀ {x y : List Val}, okR x → okR y → rowC x y = 0 → x = y
  | [], [], _, _, _ => rfl
  | [], _ :: _, _, _, h => by simp [rowC] at h
  | _ :: _, [], _, _, h => by simp [rowC] at h
  | a :: x, b :: y, h, g, e => by
    by_cases c : a.cmp b = 0
    · rw [rowC_zero c] at e
      rw [val_same ((Val.zero h.head g.head).1 c), rowC_eq h.tail g.tail e]
    · rw [rowC_else c] at e
      exact absurd e c
theorem rowC_self {x : List Val} (h : okR x) : rowC x x = 0 := by have := rowC_turn h h; omega
theorem rowC_on : ∀ {x y z : List Val}, okR x → okR y → okR z → rowC x y ≤ 0 → rowC y z ≤ 0 → rowC x z ≤ 0 ∧ ((rowC x y = 0 ∧ rowC y z = 0) ↔ rowC x z = 0)
  | [], [], [], _, _, _, _, _ => by simp [rowC]
  | [], [], _ :: _, _, _, _, _, _ => by simp [rowC]
  | [], _ :: _, [], _, _, _, _, h => by simp [rowC] at h
  | [], _ :: _, _ :: _, _, _, _, _, _ => by simp [rowC]
  | _ :: _, [], _, _, _, _, h, _ => by simp [rowC] at h
  | _ :: _, _ :: _, [], _, _, _, _, h => by simp [rowC] at h
  | a :: x, b :: y, c :: z, h, g, f, p, q => by
    by_cases e1 : a.cmp b = 0
    · rw [rowC_zero e1] at p ⊢
      by_cases e2 : b.cmp c = 0
      · rw [rowC_zero e2] at q ⊢
        have e3 := (Val.on h.head g.head f.head (by omega) (by omega)).2.1 ⟨e1, e2⟩
        rw [rowC_zero e3]
        exact rowC_on h.tail g.tail f.tail p q
      · rw [rowC_else e2] at q ⊢
        have o := Val.on h.head g.head f.head (by omega) q
        have e3 : a.cmp c ≠ 0 := fun e => e2 (o.2.2 e).2
        rw [rowC_else e3]
        exact ⟨o.1, fun e => absurd e.2 e2, fun e => absurd e e3⟩
    · rw [rowC_else e1] at p ⊢
      by_cases e2 : b.cmp c = 0
      · rw [rowC_zero e2] at q ⊢
        have o := Val.on h.head g.head f.head p (by omega)
        have e3 : a.cmp c ≠ 0 := fun e => e1 (o.2.2 e).1
        rw [rowC_else e3]
        exact ⟨o.1, fun e => absurd e.1 e1, fun e => absurd e e3⟩
      · rw [rowC_else e2] at q ⊢
        have o := Val.on h.head g.head f.head p q
        have e3 : a.cmp c ≠ 0 := fun e => e1 (o.2.2 e).1
        rw [rowC_else e3]
        exact ⟨o.1, fun e => absurd e.1 e1, fun e => absurd e e3⟩
theorem swo_row {α : Type} (f : α → List Val) (ok : ∀ x, okR (f x)) : SWO (ltOf fun x y => rowC (f x) (f y)) where
  irrefl x := by
    have h := rowC_self (ok x)
    simp [ltOf, h]
  trans x y z h1 h2 := by
    simp only [ltOf, decide_eq_true_eq] at *
    have h := rowC_on (ok x) (ok y) (ok z) (by omega) (by omega)
    by_cases h5 : rowC (f x) (f z) = 0
    · have := (h.2.2 h5).1; omega
    · have := h.1; omega
  ntrans x y z h1 h2 := by
    simp only [ltOf, decide_eq_false_iff_not] at *
    have t1 := rowC_turn (ok x) (ok y)
    have t2 := rowC_turn (ok y) (ok z)
    have t3 := rowC_turn (ok x) (ok z)
    have h := rowC_on (ok z) (ok y) (ok x) (by omega) (by omega)
    omega
theorem rowC_lt {x y z : List Val} (h : okR x) (g : okR y) (f : okR z) (p : rowC x y < 0) (q : rowC y z < 0) : rowC x z < 0 := by
  have o := rowC_on h g f (by omega) (by omega)
  by_cases e : rowC x z = 0
  · have := (o.2.2 e).1; omega
  · have := o.1; omega
/-- What is put in order, and rid of what is like the one ahead, rises, and has just what was there. -/
theorem cmpct_rises {α : Type} (f : α → List Val) : ∀ (l : List α) (x : α), (∀ y ∈ x :: l, okR (f y)) → (x :: l).Pairwise (fun a b => ¬ rowC (f b) (f a) < 0) →
    ((x :: kp (fun y p => decide (rowC (f y) (f p) = 0)) x l).map f).Pairwise (fun a b => rowC a b < 0) ∧ ∀ r, r ∈ (x :: kp (fun y p => decide (rowC (f y) (f p) = 0)) x l).map f ↔ r ∈ (x :: l).map f
  | [], x, ok, h => ⟨by simp [kp], fun r => by simp [kp]⟩
  | y :: l, x, ok, h => by
    have okx := ok x (List.mem_cons_self ..)
    have oky := ok y (List.mem_cons_of_mem _ (List.mem_cons_self ..))
    have ok2 : ∀ z ∈ y :: l, okR (f z) := fun z hz => ok z (List.mem_cons_of_mem _ hz)
    have h2 := List.pairwise_cons.1 h
    obtain ⟨i1, i2⟩ := cmpct_rises f l y ok2 h2.2
    have t := rowC_turn okx oky
    by_cases e : rowC (f y) (f x) = 0
    · have exy : f x = f y := (rowC_eq oky okx e).symm
      have ek : kp (fun y p => decide (rowC (f y) (f p) = 0)) x (y :: l) = kp (fun y p => decide (rowC (f y) (f p) = 0)) y l := by simp [kp, e]
      rw [ek]
      simp only [List.map_cons] at i1 i2 ⊢
      rw [exy]
      refine ⟨i1, fun r => ?_⟩
      rw [i2]
      simp
    · have ek : kp (fun y p => decide (rowC (f y) (f p) = 0)) x (y :: l) = y :: kp (fun y p => decide (rowC (f y) (f p) = 0)) y l := by simp [kp, e]
      rw [ek]
      have hxy : rowC (f x) (f y) < 0 := by have := h2.1 y (List.mem_cons_self ..); omega
      refine ⟨?_, fun r => ?_⟩
      · rw [List.map_cons, List.pairwise_cons]
        refine ⟨fun r hr => ?_, i1⟩
        obtain ⟨z, hz, rfl⟩ := List.mem_map.1 ((i2 r).1 hr)
        rcases List.mem_cons.1 hz with rfl | hz'
        · exact hxy
        · have hr2 : f z ∈ (y :: kp (fun y p => decide (rowC (f y) (f p) = 0)) y l).map f := hr
          rw [List.map_cons] at hr2
          rcases List.mem_cons.1 hr2 with e2 | hr3
          · rw [e2]; exact hxy
          · rw [List.map_cons, List.pairwise_cons] at i1
            exact rowC_lt okx oky (ok z (List.mem_cons_of_mem _ (List.mem_cons_of_mem _ hz'))) hxy (i1.1 _ hr3)
      · rw [List.map_cons, List.mem_cons, i2, List.map_cons (l := y :: l), List.mem_cons]

end Go.Proofs.YtiliaincniiijaaGreat

namespace Go.Proofs.YtiliaincniiijaaGreat
open Go.RowKit Go.Shelf Go.Sort
set_option linter.unusedVariables false

theorem row_unique {w : World} {u : Value} {x y : List Val} (h : RowAt w u x) (g : RowAt w u y) : x = y := by
  obtain ⟨p, c, rfl⟩ := h.form
  have hl := g.get.1
  apply List.ext_getElem hl
  intro i h1 h2
  obtain ⟨b, off, e, -, a0, a1, a2, a3⟩ := h.get.2 i h1
  obtain ⟨b', off', e', -, c0, c1, c2, c3⟩ := g.get.2 i h2
  rw [e] at e'
  injection e' with e'
  injection e' with e1 e2
  subst e1 e2
  rw [a0] at c0
  rw [a1] at c1
  rw [a2] at c2
  rw [a3] at c3
  injection c0 with c0; injection c0 with _ c0
  injection c1 with c1; injection c1 with _ c1
  injection c2 with c2; injection c2 with _ c2
  injection c3 with c3; injection c3 with c3
  generalize x[i] = X at c0 c1 c2 c3
  generalize y[i] = Y at c0 c1 c2 c3
  obtain ⟨k, n, d, s⟩ := X
  obtain ⟨k', n', d', s'⟩ := Y
  simp_all
/-- The row that lies at a value. -/
noncomputable def rwOf (w : World) (u : Value) : List Val := @Classical.epsilon _ ⟨[]⟩ fun x => RowAt w u x
theorem rwOf_eq {w : World} {u : Value} {x : List Val} (h : RowAt w u x) : rwOf w u = x := row_unique (Classical.epsilon_spec (p := fun x => RowAt w u x) ⟨x, h⟩) h

set_option maxRecDepth 100000 in
theorem byCols_any (p : Option Addr) (n c : Nat) (w : World) :
    Calls Tryz.prog 53 #[.slice p n c] w fun e w' => e = .returned (.func (.func 72) #[] #[.pointer (some ⟨w.heap.size, 0, none⟩)]) ∧ w' = w.alloc (.cells #[.slice p n c] 54) := by
  go_enter Tryz.func53, Tryz.ntmps53
  go_wp2
  go_ret
  exact ⟨rfl, rfl⟩

set_option maxRecDepth 100000 in
set_option maxHeartbeats 1000000 in
theorem arr1_any (ra rb : Value) (x y : List Val) (cs : List Nat) (C : Value) (A B : Nat) (w : World) (hA : A < w.heap.size) (hB : B < w.heap.size) (hbox : w.cell? ⟨A, 0, none⟩ = some C) (hfun : w.cell? ⟨B, 0, none⟩ = some (.func (.func 72) #[] #[.pointer (some ⟨A, 0, none⟩)])) (hC : IntsAt w C cs) (hx : RowAt w ra x) (hy : RowAt w rb y) (fx : okR x) (fy : okR y)
    (cx : ∀ c ∈ cs, c < x.length) (cy : ∀ c ∈ cs, c < y.length) (lc : cs.length ≤ 9223372036854775807) (lx : x.length ≤ 9223372036854775807) (ly : y.length ≤ 9223372036854775807) :
    Calls Tryz.prog 57 #[ra, rb, .pointer (some ⟨B, 0, none⟩)] w fun e w' => e = .returned (.bool (decide (rowC (picks x cs) (picks y cs) = 0))) ∧ Below w.heap.size w w' := by
  have ct : Hid (Calls Tryz.prog 72 #[ra, rb, .pointer (some ⟨A, 0, none⟩)] w fun e w' => e = .returned (.int .i64 (rowC (picks x cs) (picks y cs))) ∧ Below w.heap.size w w') := byc_any C ra rb cs x y A w hA hbox hC hx hy (fun v hv => (fx v hv).2) (fun v hv => (fy v hv).2) cx cy lc lx ly
  obtain ⟨p1, c1, rfl⟩ := hx.form
  obtain ⟨p2, c2, rfl⟩ := hy.form
  generalize x.length = n1 at ct
  generalize y.length = n2 at ct
  clear hx hy hC hbox fx fy cx cy lx ly
  generalize rowC (picks x cs) (picks y cs) = E at ct
  have eg : ∀ args w, (callFunc 72 args).run Tryz.prog w = .ok (.enter 72 args) w := enters_of Tryz.func72 (by kernel_rfl) rfl
  go_enter Tryz.func57, Tryz.ntmps57
  go_wp2_with fail
  refine ct.out.mono ?_
  rintro e w1 ⟨rfl, hb⟩
  clear ct
  go_wp2
  go_ret
  exact ⟨ret_bool rfl, hb⟩

/-- A slice of rows, by the values that its cells hold. -/
def ValsAt (w : World) (R : Value) (us : List Value) : Prop := (∃ c, R = .slice none 0 c ∧ us = []) ∨ ∃ b off c, R = .slice (some ⟨b, off, none⟩) us.length c ∧ (us = [] ∨ b < w.heap.size) ∧ ∀ i (h : i < us.length), w.cell? ⟨b, off + i, none⟩ = some us[i]
theorem ValsAt.below {w w' : World} {R : Value} {us : List Value} (h : ValsAt w R us) (hb : Below w.heap.size w w') : ValsAt w' R us := by
  rcases h with h | ⟨b, off, c, e, h1, h2⟩
  · exact Or.inl h
  · refine Or.inr ⟨b, off, c, e, ?_, fun i hi => ?_⟩
    · rcases h1 with h1 | h1
      · exact Or.inl h1
      · exact Or.inr (Nat.lt_of_lt_of_le h1 hb.size)
    · rcases h1 with rfl | h1
      · simp at hi
      · exact (hb.cell (p := ⟨b, _, none⟩) h1).trans (h2 i hi)

theorem inR : (Tryz.prog.info? 26).map (fun i => (i.zero, i.size, i.bytes)) = some (some (.slice none 0 0), 1, 24) := by kernel_rfl
theorem cloneR_any (R : Value) (us : List Value) (w : World) (h : ValsAt w R us) (hs : ∀ u ∈ us, ∃ p n c, u = .slice p n c) (lu : us.length ≤ 5864062014805) :
    Calls Tryz.prog 54 #[R] w fun e w' => ∃ v, e = .returned v ∧ w'.ownsRow w.heap.size 26 1 v us.length us ∧ Below w.heap.size w w' := by
  obtain ⟨i0, hi, hz0, hz1, hz2⟩ := info_parts inR
  rcases h with ⟨c, rfl, rfl⟩ | ⟨b, off, c, rfl, h1, h2⟩
  · refine (AnyE.slices_Clone_nil Tryz.clR 0 c w).mono ?_
    rintro e w' ⟨rfl, rfl⟩
    exact ⟨_, rfl, World.ownsRow_nil _ _ _ _, Below.refl _ _⟩
  · refine (AnyE.slices_Clone Tryz.clR i0 (.slice none 0 0) 1 24 hi hz0 hz1 hz2 rfl (by decide) Tryz.sizeOf26 b off us.length c us w (by omega) (by unfold maxLen; omega) (by omega) (fun j u hj => ?_) (fun u hu => ?_)).mono ?_
    · obtain ⟨hj1, hj2⟩ := List.getElem?_eq_some_iff.1 hj
      rw [← hj2]
      exact h2 j hj1
    · obtain ⟨p, n, c, rfl⟩ := hs u hu
      rfl
    · rintro e w' ⟨v, rfl, ho, -, hb⟩
      exact ⟨v, rfl, ho, hb⟩

/-- A row that may be compared at some columns. -/
def Fit (w : World) (cs : List Nat) (u : Value) : Prop := ∃ x, RowAt w u x ∧ okR x ∧ (∀ c ∈ cs, c < x.length) ∧ x.length ≤ 9223372036854775807
theorem Fit.slice {w : World} {cs : List Nat} {u : Value} (h : Fit w cs u) : ∃ p n c, u = .slice p n c := by
  obtain ⟨x, h, -⟩ := h
  obtain ⟨p, c, e⟩ := h.form
  exact ⟨p, _, c, e⟩
theorem Fit.row {w : World} {cs : List Nat} {u : Value} (h : Fit w cs u) : RowAt w u (rwOf w u) ∧ okR (rwOf w u) ∧ (∀ c ∈ cs, c < (rwOf w u).length) ∧ (rwOf w u).length ≤ 9223372036854775807 := by
  obtain ⟨x, h, g⟩ := h
  rw [rwOf_eq h]
  exact ⟨h, g⟩

theorem sortR_any (C v : Value) (cs : List Nat) (A : Nat) (us : List Value) (wc w : World) (hb : Below wc.heap.size wc w) (hA : A < wc.heap.size) (hbox : wc.cell? ⟨A, 0, none⟩ = some C) (hC : IntsAt wc C cs) (hu : ∀ u ∈ us, Fit wc cs u) (lc : cs.length ≤ 9223372036854775807) (lu : us.length ≤ 5864062014805) (ho : w.ownsRow wc.heap.size 26 1 v us.length us) :
    Calls Tryz.prog 55 #[v, .func (.func 72) #[] #[.pointer (some ⟨A, 0, none⟩)]] w fun e w' => e = .returned (.tuple #[]) ∧ ∃ ys : List Value, ys.Perm us ∧ ys.Pairwise (fun a b => ¬ rowC (picks (rwOf wc b) cs) (picks (rwOf wc a) cs) < 0) ∧ w'.ownsRow wc.heap.size 26 1 v us.length ys ∧ Below wc.heap.size wc w' := by
  by_cases h0 : us = []
  · subst h0
    have hf : ∃ p cap, v = .slice p 0 cap := by
      obtain ⟨-, ⟨e, -⟩ | ⟨g, cap, cur, e, -⟩⟩ := ho
      · exact ⟨_, _, e⟩
      · exact ⟨_, _, e⟩
    obtain ⟨p, cap, rfl⟩ := hf
    refine (AnyF.slices_SortFunc_none { Tryz.sfR with } p cap _ w).mono ?_
    rintro e w3 ⟨rfl, rfl⟩
    exact ⟨rfl, [], List.Perm.refl _, List.Pairwise.nil, ho, hb⟩
  · obtain ⟨u0, hu0⟩ := List.exists_mem_of_ne_nil us h0
    haveI : Inhabited {u // u ∈ us} := ⟨⟨u0, hu0⟩⟩
    have hl : us.attach.length = us.length := by simp
    have hm : us.attach.map (fun x : {u // u ∈ us} => x.1) = us := by simp
    have hv : v ≠ .slice none 0 0 := by
      rintro rfl
      obtain ⟨-, ⟨-, e⟩ | ⟨g, cap, cur, e, -⟩⟩ := ho
      · exact h0 (List.length_eq_zero_iff.1 e)
      · cases e
    have ho2 : w.ownsRow wc.heap.size 26 1 v us.attach.length (us.attach.map fun x : {u // u ∈ us} => x.1) := by rw [hl, hm]; exact ho
    have hc := sort_gen Tryz.sfR (fun x : {u // u ∈ us} => x.1) (fun x => by obtain ⟨p, n, c, e⟩ := (hu x.1 x.2).slice; show x.1.oneCell' = true; rw [e]; rfl) (fun x y => rowC (picks (rwOf wc x.1) cs) (picks (rwOf wc y.1) cs)) (swo_row (fun x : {u // u ∈ us} => picks (rwOf wc x.1) cs) fun x => (hu x.1 x.2).row.2.1.picks cs) 72 #[.pointer (some ⟨A, 0, none⟩)] us.attach v wc.heap.size 26 w (enters_of Tryz.func72 (by kernel_rfl) rfl) ho2 hv (by rw [hl]; omega) (fun blk hblk W hW x y => by
      have hge : wc.heap.size ≤ blk := (World.ownsRow.lt ho blk hblk).1
      have hBW : Below wc.heap.size wc W := hb.grown hW hb.size (fun q hq => by injection hq with hq; omega)
      obtain ⟨r1, r2, r3, r4⟩ := (hu x.1 x.2).row
      obtain ⟨t1, t2, t3, t4⟩ := (hu y.1 y.2).row
      exact byc_any C x.1 y.1 cs _ _ A W (Nat.lt_of_lt_of_le hA hBW.size) ((hBW.cell (p := ⟨A, 0, none⟩) hA).trans hbox) (hC.below hBW) (r1.below hBW) (t1.below hBW) (fun v hv => (r2 v hv).2) (fun v hv => (t2 v hv).2) r3 t3 lc r4 t4)
    refine hc.mono ?_
    rintro e w3 ⟨rfl, ys, hp, hs, ho3, blk, hblk, hg⟩
    have hge : wc.heap.size ≤ blk := (World.ownsRow.lt ho blk hblk).1
    refine ⟨rfl, ys.map (·.1), ?_, ?_, ?_, hb.grown hg hb.size (fun q hq => by injection hq with hq; omega)⟩
    · have h := hp.map (fun x : {u // u ∈ us} => x.1)
      rwa [hm] at h
    · rw [List.pairwise_map]
      exact hs
    · rw [hl] at ho3
      exact ho3

set_option maxRecDepth 100000 in
theorem compact_nil (p : Option Addr) (c : Nat) (f : Value) (w : World) :
    Calls Tryz.prog 56 #[.slice p 0 c, f] w fun e w' => e = .returned (.slice p 0 c) ∧ w' = w := by
  go_enter Tryz.func56, Tryz.ntmps56
  go_wp2
  go_ret
  exact ⟨rfl, rfl⟩

theorem compactR_any (C v : Value) (cs : List Nat) (A F : Nat) (us : List Value) (wc w : World) (hb : Below wc.heap.size wc w) (hA : A < wc.heap.size) (hF : F < wc.heap.size) (hbox : wc.cell? ⟨A, 0, none⟩ = some C) (hfun : wc.cell? ⟨F, 0, none⟩ = some (.func (.func 72) #[] #[.pointer (some ⟨A, 0, none⟩)])) (hC : IntsAt wc C cs) (hu : ∀ u ∈ us, Fit wc cs u) (lc : cs.length ≤ 9223372036854775807) (lu : us.length ≤ 5864062014805) (ho : w.ownsRow wc.heap.size 26 1 v us.length us) :
    Calls Tryz.prog 56 #[v, .func (.func 57) #[] #[.pointer (some ⟨F, 0, none⟩)]] w fun e w' => ∃ v', e = .returned v' ∧ w'.ownsRow wc.heap.size 26 1 v' (cmpct (fun y p => decide (rowC (picks (rwOf wc y) cs) (picks (rwOf wc p) cs) = 0)) us).length (cmpct (fun y p => decide (rowC (picks (rwOf wc y) cs) (picks (rwOf wc p) cs) = 0)) us) ∧ Below wc.heap.size wc w' := by
  have ho' := ho
  obtain ⟨hl, ⟨rfl, hn⟩ | ⟨g, cap, cur, rfl, hge, hrest⟩⟩ := ho'
  · have e0 : us = [] := List.length_eq_zero_iff.1 hn
    subst e0
    refine (compact_nil none 0 _ w).mono ?_
    rintro e w' ⟨rfl, rfl⟩
    exact ⟨_, rfl, ho, hb⟩
  · have hc := compact_any us.length cap g wc.heap.size F us w (fun y p => decide (rowC (picks (rwOf wc y) cs) (picks (rwOf wc p) cs) = 0)) ho (fun u h => (hu u h).slice) lu (fun W hW x hx y hy => by
      have hBW : Below wc.heap.size wc W := hb.grown hW hb.size (fun q hq => by injection hq with hq; omega)
      obtain ⟨r1, r2, r3, r4⟩ := (hu x hx).row
      obtain ⟨t1, t2, t3, t4⟩ := (hu y hy).row
      exact arr1_any x y _ _ cs C A F W (Nat.lt_of_lt_of_le hA hBW.size) (Nat.lt_of_lt_of_le hF hBW.size) ((hBW.cell (p := ⟨A, 0, none⟩) hA).trans hbox) ((hBW.cell (p := ⟨F, 0, none⟩) hF).trans hfun) (hC.below hBW) (r1.below hBW) (t1.below hBW) r2 t2 r3 t3 lc r4 t4)
    refine hc.mono ?_
    rintro e w' ⟨m, rfl, ho3, hg⟩
    have hm : (cmpct (fun y p => decide (rowC (picks (rwOf wc y) cs) (picks (rwOf wc p) cs) = 0)) us).length = m := by have := ho3.1; omega
    exact ⟨_, rfl, by rw [hm]; exact ho3, hb.grown hg hb.size (fun q hq => by injection hq with hq; omega)⟩

end Go.Proofs.YtiliaincniiijaaGreat

namespace Go.Proofs.YtiliaincniiijaaGreat
open Go.RowKit Go.Shelf Go.Sort
set_option linter.unusedVariables false

/-- Rows of the call's own. -/
def OwnRs (B : Nat) (us : List Value) (L : List (List Val)) (w : World) : Prop := us.length = L.length ∧ ∀ i (h : i < us.length) (g : i < L.length), OwnV B us[i] L[i] w
/-- A table of the call's own. -/
def OwnT (B : Nat) (t : Value) (vs : List ByteArray) (L : List (List Val)) (w : World) : Prop := ∃ a b us, t = .agg #[a, b] ∧ OwnS B a vs w ∧ w.ownsRow B 26 1 b us.length us ∧ OwnRs B us L w

theorem rwOf_below {w w' : World} {cs : List Nat} {u : Value} (h : Fit w cs u) (hb : Below w.heap.size w w') : rwOf w' u = rwOf w u := by
  have h1 := h.row.1
  rw [rwOf_eq (h1.below hb)]
theorem Fit.below {w w' : World} {cs : List Nat} {u : Value} (h : Fit w cs u) (hb : Below w.heap.size w w') : Fit w' cs u := by
  obtain ⟨x, h, g⟩ := h
  exact ⟨x, h.below hb, g⟩

theorem cell_of_heap {w : World} {T e : Nat} {cur : Array Value} {fr : Nat × Nat} (h : w.heap[T]? = some (.cells cur e fr)) (j : Nat) {v : Value} (hj : cur[j]? = some v) : w.cell? ⟨T, j, none⟩ = some v := by
  unfold World.cell?
  rw [h]
  exact hj
theorem heap_alloc (w : World) (o : Obj) : (w.alloc o).heap[w.heap.size]? = some o := by
  show (w.heap.push o)[w.heap.size]? = some o
  rw [Array.getElem?_push, if_pos rfl]
theorem heap_alloc_lt (w : World) (o : Obj) {r : Nat} (h : r < w.heap.size) : (w.alloc o).heap[r]? = w.heap[r]? := by
  show (w.heap.push o)[r]? = w.heap[r]?
  rw [Array.getElem?_push, if_neg (by omega)]
theorem frozen_of_heap {w : World} {T e : Nat} {cur : Array Value} (h : w.heap[T]? = some (.cells cur e (0, 0))) (j : Nat) : w.frozen? ⟨T, j, none⟩ = false := by
  unfold World.frozen?
  rw [h]
  simp
theorem own_ne {w : World} {B e e' size n T : Nat} {v : Value} {xs : List Value} {cur : Array Value} {fr : Nat × Nat} (h : w.ownsRow B e size v n xs) (hT : w.heap[T]? = some (.cells cur e' fr)) (hne : e ≠ e') : v.ownBlock ≠ some T := by
  intro hv
  obtain ⟨-, ⟨rfl, -⟩ | ⟨g, cap, cur', rfl, -, hg, -⟩⟩ := h
  · cases hv
  · injection hv with hv
    have hv' : g = T := hv
    subst hv'
    rw [hg] at hT
    injection hT with hT
    injection hT with _ hT _
    exact hne hT
theorem own_ne2 {w : World} {B e e' size n B' size' n' : Nat} {v v' : Value} {xs xs' : List Value} (h : w.ownsRow B e size v n xs) (h' : w.ownsRow B' e' size' v' n' xs') (hne : e ≠ e') : v.ownBlock = none ∨ v.ownBlock ≠ v'.ownBlock := by
  obtain ⟨-, ⟨rfl, -⟩ | ⟨g, cap, cur', rfl, -, hg, -⟩⟩ := h'
  · by_cases hv : v.ownBlock = none
    · exact Or.inl hv
    · exact Or.inr hv
  · exact Or.inr (own_ne h hg hne)
theorem grownBy_setCell (w : World) (T j : Nat) (v : Value) : w.grownBy (w.setCell ⟨T, j, none⟩ v) (some T) := by
  rw [setCell_eq]
  refine ⟨rfl, rfl, rfl, by simp [mapBlock], fun k hk hne => ?_⟩
  have hk' : T ≠ k := fun e => hne (by rw [e])
  simp [mapBlock, Array.getElem?_modify, hk']
theorem own_set {w : World} {B e size n T j : Nat} {v u : Value} {xs : List Value} (h : w.ownsRow B e size v n xs) (hT : T < B) : (w.setCell ⟨T, j, none⟩ u).ownsRow B e size v n xs := by
  refine World.ownsRow.kept h (grownBy_setCell w T j u) ?_
  by_cases hv : v.ownBlock = none
  · exact Or.inl hv
  · refine Or.inr fun e => ?_
    have := (World.ownsRow.lt h T e).1
    omega
theorem set_same {w : World} {T j : Nat} {u v : Value} (h : w.cell? ⟨T, j, none⟩ = some u) : (w.setCell ⟨T, j, none⟩ v).cell? ⟨T, j, none⟩ = some v := by
  obtain ⟨c, e, fr, hb, hc⟩ := cells_of_cell? h
  rw [setCell_eq]
  have hj := (Array.getElem?_eq_some_iff.1 hc).1
  refine cell_of_heap (cur := c.setIfInBounds j v) (e := e) (fr := fr) ?_ j (by simp [hj])
  show (w.heap.modify _ _)[_]? = _
  rw [Array.getElem?_modify, if_pos rfl, hb]
  rfl
theorem set_other {w : World} {T j j' : Nat} {v : Value} (h : j ≠ j') : (w.setCell ⟨T, j, none⟩ v).cell? ⟨T, j', none⟩ = w.cell? ⟨T, j', none⟩ := by
  apply World.cell?_setCell_other
  intro e
  injection e with _ e _
  exact h e
theorem step_appendR {P : Program} {ops : Array Oper} {o : Oper} {a : Act} {w : World} {K : Act → World → Prop} {Q : Exit → Act → World → Prop} {E : Prop}
    (hg : o.guard = none) (s x : Operand) (t : TypeId) (ho : o.op = Op.call { callee := Callee.builtin Builtin.append, args := #[s, x], argTypes := #[t, t] })
    (base : Nat) (e : TypeId) (i : TypeInfo) (z : Value) (size bytes : Nat) (ht : P.underlying t = some (.slice e)) (hi : P.info? e = some i) (hz : i.zero = some z) (hsize : i.size = size) (hby : i.bytes = bytes) (hzs : z.cells.size = size) (hsz : 0 < size)
    (v : Value) (n : Nat) (xs : List Value) (hs : a.eval s = v) (hown : w.ownsRow base e size v n xs)
    (ad : Addr) (m c : Nat) (news : List Value) (hx : a.eval x = .slice (some ad) m c) (hl : news.length = m * size) (hnews : ∀ j u, news[j]? = some u → w.cell? (ad.add j) = some u) (h1 : ∀ u ∈ news, u.oneCell' = true)
    (h63 : n + m ≤ maxLen) (hbytes : (n + m) * bytes ≤ 140737488355328) (hbase : base ≤ w.heap.size)
    (h : ∀ v' w', w'.ownsRow base e size v' (n + m) (xs ++ news) → w.grownBy w' v.ownBlock → K (a.put o.dst v') w') :
    if Region.wanted o (yielded ops a.tmps) = true then Oper.wp P o a w K Q else E := by
  have hw : Region.wanted o (yielded ops a.tmps) = true := by simp [Region.wanted, hg]
  rw [if_pos hw]
  exact wp_append_own w s x t ho base e i z size bytes ht hi hz hsize hby hzs hsz v n xs hs hown ad m c news hx hl hnews h1 h63 hbytes hbase fun v' w' h2 h3 _ => h v' w' h2 h3

/-- What stands behind one row more. -/
theorem arr_step (px : Option Addr) (nx cx : Nat) (pb : Option Addr) (nb cb ga ma ca k : Nat) (zs : List Value) (v' : Value) (row : List Val) (rows : List (List Val)) (wr w7 wx w2 : World) (hTl : w7.heap.size < wr.heap.size)
    (HT2 : wx.heap[w7.heap.size]? = some (.cells #[.slice (some ⟨ga, 0, none⟩) ma ca, .slice pb nb cb] 25 (0, 0))) (HOB2 : wx.ownsRow w7.heap.size 26 1 (.slice pb nb cb) k zs) (HRS : OwnRs w7.heap.size zs rows wr) (HB : Below w7.heap.size w7 wr) (HW1 : Below wr.heap.size wr wx) (HX : OwnV wr.heap.size (.slice px nx cx) row wx)
    (h2 : w2.ownsRow w7.heap.size 26 1 v' (k + 1) (zs ++ [.slice px nx cx])) (h3 : (wx.alloc (.cells #[.slice px nx cx] 26)).grownBy w2 (Value.slice pb nb cb).ownBlock) :
    ∃ pv nv cv, w2.heap[w7.heap.size]? = some (.cells #[.slice (some ⟨ga, 0, none⟩) ma ca, .slice pb nb cb] 25 (0, 0)) ∧ w2.cell? ⟨w7.heap.size, 1, none⟩ = some (.slice pb nb cb) ∧ w2.frozen? ⟨w7.heap.size, 1, none⟩ = false ∧
      Hid (∃ b zs', (w2.setCell ⟨w7.heap.size, 1, none⟩ (.slice pv nv cv)).heap[w7.heap.size]? = some (.cells #[.slice (some ⟨ga, 0, none⟩) ma ca, b] 25 (0, 0)) ∧ (w2.setCell ⟨w7.heap.size, 1, none⟩ (.slice pv nv cv)).ownsRow w7.heap.size 26 1 b (k + 1) zs' ∧ OwnRs w7.heap.size zs' (rows ++ [row]) (w2.setCell ⟨w7.heap.size, 1, none⟩ (.slice pv nv cv)) ∧ Below w7.heap.size w7 (w2.setCell ⟨w7.heap.size, 1, none⟩ (.slice pv nv cv))) ∧ v' = .slice pv nv cv := by
  have hTl2 : w7.heap.size < wx.heap.size := Nat.lt_of_lt_of_le hTl HW1.size
  have hneT : (Value.slice pb nb cb).ownBlock ≠ some w7.heap.size := own_ne HOB2 HT2 (by decide)
  have T3 : w2.heap[w7.heap.size]? = some (.cells #[.slice (some ⟨ga, 0, none⟩) ma ca, .slice pb nb cb] 25 (0, 0)) := (h3.block _ (by simp; omega) (fun e => hneT e.symm)).trans ((heap_alloc_lt wx _ hTl2).trans HT2)
  obtain ⟨pv, nv, cv, rfl⟩ : ∃ pv nv cv, v' = .slice pv nv cv := by
    obtain ⟨-, ⟨e, hn⟩ | ⟨g, cap, cur, e, -⟩⟩ := h2
    · exact ⟨_, _, _, e⟩
    · exact ⟨_, _, _, e⟩
  refine ⟨pv, nv, cv, T3, cell_of_heap T3 1 rfl, frozen_of_heap T3 1, ?_, rfl⟩
  have hg := grownBy_setCell w2 w7.heap.size 1 (.slice pv nv cv)
  have keepV : ∀ (u : Value) (r : List Val) (B : Nat), OwnV B u r wx → OwnV B u r (w2.setCell ⟨w7.heap.size, 1, none⟩ (.slice pv nv cv)) := fun u r B h => by
    have a1 := World.ownsRow.alloc h (.cells #[.slice px nx cx] 26)
    have a2 := World.ownsRow.kept a1 h3 (own_ne2 a1 (World.ownsRow.alloc HOB2 _) (by decide))
    exact World.ownsRow.kept a2 hg (Or.inr (own_ne a2 T3 (by decide)))
  refine ⟨.slice pv nv cv, zs ++ [.slice px nx cx], ?_, World.ownsRow.kept h2 hg (Or.inr (own_ne h2 T3 (by decide))), ?_, ?_⟩
  · rw [setCell_eq]
    show (w2.heap.modify _ _)[_]? = _
    rw [Array.getElem?_modify, if_pos rfl, T3]
    rfl
  · obtain ⟨hl, hr⟩ := HRS
    refine ⟨by simp [hl], fun i h1 h2 => ?_⟩
    by_cases hi : i < zs.length
    · rw [List.getElem_append_left hi, List.getElem_append_left (by omega)]
      exact keepV _ _ _ (own_below (hr i hi (by omega)) HW1)
    · have e1 : i = zs.length := by simp at h1; omega
      subst e1
      rw [List.getElem_append_right (Nat.le_refl _), List.getElem_append_right (by omega)]
      simp only [Nat.sub_self, hl, List.getElem_cons_zero]
      exact keepV _ _ _ (own_base HX (Nat.le_of_lt hTl))
  · have b1 : Below w7.heap.size w7 wx := HB.trans (HW1.mono HB.size)
    have b2 : Below w7.heap.size w7 w2 := Below.grown (b1.alloc b1.size _) h3 (by simp; have := b1.size; omega) (fun q hq => (World.ownsRow.lt HOB2 q hq).1)
    exact b2.grown hg b2.size (fun q hq => by injection hq with hq; omega)

theorem mem_kp {α : Type} {eq : α → α → Bool} : ∀ {l : List α} {x u : α}, u ∈ kp eq x l → u ∈ l
  | [], x, u, h => by simp [kp] at h
  | y :: l, x, u, h => by
    unfold kp at h
    split at h
    · exact List.mem_cons_of_mem _ (mem_kp h)
    · rcases List.mem_cons.1 h with rfl | h
      · exact List.mem_cons_self ..
      · exact List.mem_cons_of_mem _ (mem_kp h)
theorem mem_cmpct {α : Type} {eq : α → α → Bool} {l : List α} {u : α} (h : u ∈ cmpct eq l) : u ∈ l := by
  cases l with
  | nil => exact h
  | cons x l =>
    rcases List.mem_cons.1 h with rfl | h
    · exact List.mem_cons_self ..
    · exact List.mem_cons_of_mem _ (mem_kp h)
theorem kp_len {α : Type} (eq : α → α → Bool) : ∀ (l : List α) (x : α), (kp eq x l).length ≤ l.length
  | [], x => Nat.le_refl _
  | y :: l, x => by
    unfold kp
    have := kp_len eq l y
    split <;> simp <;> omega
theorem cmpct_len {α : Type} (eq : α → α → Bool) (l : List α) : (cmpct eq l).length ≤ l.length := by
  cases l with
  | nil => exact Nat.le_refl _
  | cons x l => have := kp_len eq l x; simp [cmpct]; omega

set_option maxRecDepth 100000 in
set_option maxHeartbeats 4000000 in
theorem arrange_any (V R C : Value) (vs : List ByteArray) (us : List Value) (cs : List Nat) (w : World) (hV : StrsAt w V vs) (hR : ValsAt w R us) (hC : IntsAt w C cs) (hcv : ∀ c ∈ cs, c < vs.length) (hu : ∀ u ∈ us, Fit w cs u) (lv : vs.length ≤ 1000000) (lc : cs.length ≤ 1000000) (lu : us.length ≤ 5864062014805) :
    Calls Tryz.prog 31 #[V, R, C] w fun e w' => ∃ t L, e = .returned t ∧ OwnT w.heap.size t (picks vs cs) L w' ∧ L.Pairwise (fun a b => rowC a b < 0) ∧ (∀ r, r ∈ L ↔ ∃ u ∈ us, r = picks (rwOf w u) cs) ∧ Below w.heap.size w w' := by
  have CL : Hid (∀ W, Below w.heap.size w W → W.heap.size = w.heap.size + 3 → (W.cell? ⟨w.heap.size, 0, none⟩ = some (.slice none 0 0) ∧ W.cell? ⟨w.heap.size, 1, none⟩ = some (.slice none 0 0) ∧ W.frozen? ⟨w.heap.size, 0, none⟩ = false ∧ W.frozen? ⟨w.heap.size, 1, none⟩ = false) → W.cell? ⟨w.heap.size + 1, 0, none⟩ = some C → W.cell? ⟨w.heap.size + 2, 0, none⟩ = some (.func (.func 72) #[] #[.pointer (some ⟨w.heap.size + 1, 0, none⟩)]) → Calls Tryz.prog 54 #[R] W fun e w4 => ∃ v, e = .returned v ∧ Hid (∃ wc, Below w.heap.size w wc ∧ wc.heap.size = w.heap.size + 3 ∧ (wc.cell? ⟨w.heap.size, 0, none⟩ = some (.slice none 0 0) ∧ wc.cell? ⟨w.heap.size, 1, none⟩ = some (.slice none 0 0) ∧ wc.frozen? ⟨w.heap.size, 0, none⟩ = false ∧ wc.frozen? ⟨w.heap.size, 1, none⟩ = false) ∧ wc.cell? ⟨w.heap.size + 1, 0, none⟩ = some C ∧ wc.cell? ⟨w.heap.size + 2, 0, none⟩ = some (.func (.func 72) #[] #[.pointer (some ⟨w.heap.size + 1, 0, none⟩)]) ∧ w4.ownsRow wc.heap.size 26 1 v us.length us ∧ Below wc.heap.size wc w4)) := fun W hb h1 h0 h2 h3 => (cloneR_any R us W (hR.below hb) (fun u h => (hu u h).slice) lu).mono (by
    rintro e w4 ⟨v, rfl, ho, hb4⟩
    exact ⟨v, rfl, W, hb, h1, h0, h2, h3, ho, hb4⟩)
  have HV : Hid (StrsAt w V vs) := hV
  have HC : Hid (IntsAt w C cs) := hC
  have HU : Hid (∀ u ∈ us, Fit w cs u) := hu
  have HCV : Hid (∀ c ∈ cs, c < vs.length) := hcv
  obtain ⟨p, c, rfl⟩ := hC.form
  obtain ⟨n, en⟩ : ∃ n : Nat, Hid (cs.length = n) := ⟨_, rfl⟩
  rw [en.out] at HC CL lc ⊢
  clear hV hR hC hcv hu
  go_enter Tryz.func31, Tryz.ntmps31
  go_wp2_with fail
  refine (byCols_any p n c _).mono ?_
  rintro e w2 ⟨rfl, rfl⟩
  go_wp2_with fail
  refine (CL.out _ (by go_grown) (by simp (maxDischargeDepth := 12) [go_sem]) (by refine ⟨?_, ?_, ?_, ?_⟩ <;> simp (maxDischargeDepth := 12) [go_sem]) (by simp (maxDischargeDepth := 12) [go_sem]) (by simp (maxDischargeDepth := 12) [go_sem])).mono ?_
  rintro e w4 ⟨v, rfl, hh⟩
  obtain ⟨wc, hbc, hsz, hres, hbox, hfun, ho, hb4⟩ := hh.out
  have HRES : Hid (wc.cell? ⟨w.heap.size, 0, none⟩ = some (.slice none 0 0) ∧ wc.cell? ⟨w.heap.size, 1, none⟩ = some (.slice none 0 0) ∧ wc.frozen? ⟨w.heap.size, 0, none⟩ = false ∧ wc.frozen? ⟨w.heap.size, 1, none⟩ = false) := hres
  clear hh CL
  have FC : Hid (∀ u ∈ us, Fit wc cs u) := fun u h => (HU.out u h).below hbc
  have c7 : w4.cell? ⟨w.heap.size + 1 + 1, 0, none⟩ = some (.func (.func 72) #[] #[.pointer (some ⟨w.heap.size + 1, 0, none⟩)]) := (hb4.cell (p := ⟨w.heap.size + 2, 0, none⟩) (by simp; omega)).trans hfun
  have ST : Hid (Calls Tryz.prog 55 #[v, .func (.func 72) #[] #[.pointer (some ⟨w.heap.size + 1, 0, none⟩)]] w4 fun e w' => e = .returned (.tuple #[]) ∧ Hid (∃ ys : List Value, ys.Perm us ∧ ys.Pairwise (fun a b => 0 ≤ rowC (picks (rwOf wc b) cs) (picks (rwOf wc a) cs)) ∧ w'.ownsRow wc.heap.size 26 1 v us.length ys ∧ Below wc.heap.size wc w')) := (sortR_any _ v cs (w.heap.size + 1) us wc w4 hb4 (by omega) hbox (by have := HC.out.below hbc; exact this) FC.out (by have := en.out; omega) lu ho).mono fun e w' ⟨he, ys, h1, h2, h3, h4⟩ => ⟨he, ys, h1, h2.imp (fun h => Int.not_lt.1 h), h3, h4⟩
  have BX : Hid (wc.cell? ⟨w.heap.size + 1, 0, none⟩ = some (.slice p n c)) := hbox
  have FN : Hid (wc.cell? ⟨w.heap.size + 2, 0, none⟩ = some (.func (.func 72) #[] #[.pointer (some ⟨w.heap.size + 1, 0, none⟩)])) := hfun
  have HBC : Hid (Below w.heap.size w wc) := hbc
  clear hbox hfun ho hb4 hbc hres
  go_wp2_with fail
  refine ST.out.mono ?_
  rintro e w5 ⟨rfl, hh⟩
  obtain ⟨ys, hp, hs, ho5, hb5⟩ := hh.out
  have hyl : ys.length = us.length := hp.length_eq
  have FY : Hid (∀ u ∈ ys, Fit wc cs u) := fun u h => FC.out u (hp.mem_iff.1 h)
  have CP : Hid (Calls Tryz.prog 56 #[v, .func (.func 57) #[] #[.pointer (some ⟨w.heap.size + 1 + 1, 0, none⟩)]] w5 fun e w' => ∃ v', e = .returned v' ∧ Hid (w'.ownsRow wc.heap.size 26 1 v' (cmpct (fun y p => decide (rowC (picks (rwOf wc y) cs) (picks (rwOf wc p) cs) = 0)) ys).length (cmpct (fun y p => decide (rowC (picks (rwOf wc y) cs) (picks (rwOf wc p) cs) = 0)) ys) ∧ Below wc.heap.size wc w')) := compactR_any _ v cs (w.heap.size + 1) (w.heap.size + 1 + 1) ys wc w5 hb5 (by omega) (by omega) BX.out FN.out (HC.out.below HBC.out) FY.out (by have := en.out; omega) (by omega) (by rw [hyl]; exact ho5)
  have HP : Hid (ys.Perm us) := hp
  have HS : Hid (ys.Pairwise (fun a b => 0 ≤ rowC (picks (rwOf wc b) cs) (picks (rwOf wc a) cs))) := hs
  clear hh ST ho5 hb5 hp hs c7
  go_wp2_with fail
  refine CP.out.mono ?_
  rintro e w6 ⟨v', rfl, hh⟩
  obtain ⟨ho6, hb6⟩ := hh.out
  obtain ⟨Ls, eLs⟩ : ∃ Ls, Hid (cmpct (fun y p => decide (rowC (picks (rwOf wc y) cs) (picks (rwOf wc p) cs) = 0)) ys = Ls) := ⟨_, rfl⟩
  rw [eLs.out] at ho6
  have hB6 : Below w.heap.size w w6 := HBC.out.trans (hb6.mono (by omega))
  have PK : Hid (Calls Tryz.prog 58 #[V, .slice p n c] w6 fun e w' => ∃ a, e = .returned a ∧ Hid (OwnS w6.heap.size a (picks vs cs) w' ∧ a ≠ .slice none 0 0 ∧ Below w6.heap.size w6 w')) := pickS_any V _ vs cs w6 (HV.out.below hB6) (HC.out.below hB6) HCV.out (by omega) (by have := en.out; omega)
  have HO6 : Hid (w6.ownsRow wc.heap.size 26 1 v' Ls.length Ls) := ho6
  have HB6 : Hid (Below wc.heap.size wc w6) := hb6
  clear hh CP ho6 hb6 hB6
  go_wp2_with fail
  refine PK.out.mono ?_
  rintro e w7 ⟨a, rfl, hh⟩
  obtain ⟨ha, hane, hb7⟩ := hh.out
  obtain ⟨ma, ga, ca, rfl⟩ : ∃ ma ga ca, a = .slice (some ⟨ga, 0, none⟩) ma ca := by
    obtain ⟨-, ⟨e, -⟩ | ⟨g, cap, cur, e, -⟩⟩ := ha
    · exact absurd e hane
    · exact ⟨_, _, _, e⟩
  obtain ⟨pk, cK, rfl⟩ : ∃ pk cK, v' = .slice pk Ls.length cK := by
    obtain ⟨-, ⟨e, hn⟩ | ⟨g, cap, cur, e, -⟩⟩ := HO6.out
    · exact ⟨none, 0, by rw [hn]; exact e⟩
    · exact ⟨_, _, e⟩
  have HA : Hid (OwnS w6.heap.size (.slice (some ⟨ga, 0, none⟩) ma ca) (picks vs cs) w7) := ha
  have HB7 : Hid (Below w6.heap.size w6 w7) := hb7
  clear hh PK ha hane hb7
  obtain ⟨m, em⟩ : ∃ m : Nat, Hid (Ls.length = m) := ⟨_, rfl⟩
  have HO7 : Hid (w7.ownsRow wc.heap.size 26 1 (.slice pk m cK) m Ls) := by
    have h := own_below HO6.out HB7.out
    rwa [em.out] at h
  rw [em.out]
  clear HO6
  go_wp2
  have hT : ∀ u ∈ Ls, u ∈ ys := fun u h => mem_cmpct (by rw [eLs.out]; exact h)
  have FL : Hid (∀ u ∈ Ls, Fit wc cs u) := fun u h => FY.out u (hT u h)
  clear hT
  obtain ⟨i0, hi, hz0, hz1, hz2⟩ := info_parts inR
  have mlu : m ≤ 5864062014805 := by
    have h := cmpct_len (fun y p => decide (rowC (picks (rwOf wc y) cs) (picks (rwOf wc p) cs) = 0)) ys
    rw [eLs.out, em.out] at h
    omega
  have hwc7 : Hid (Below wc.heap.size wc w7) := HB6.out.trans (HB7.out.mono HB6.out.size)
  go_loopw [28] (fun i wr => ∃ k : Nat, k ≤ m ∧ i = .int .i64 k ∧ Hid (∃ b zs, wr.heap[w7.heap.size]? = some (.cells #[.slice (some ⟨ga, 0, none⟩) ma ca, b] 25 (0, 0)) ∧ wr.ownsRow w7.heap.size 26 1 b k zs ∧ OwnRs w7.heap.size zs ((Ls.take k).map fun u => picks (rwOf wc u) cs) wr ∧ Below w7.heap.size w7 wr)) (fun i _ => m - (intOf i).toNat)
  case atStart => exact ⟨0, Nat.zero_le _, rfl, ⟨.slice none 0 0, [], heap_alloc _ _, World.ownsRow_nil _ _ _ _, ⟨rfl, fun i h _ => absurd h (Nat.not_lt_zero _)⟩, by go_grown⟩⟩
  case round =>
    obtain ⟨k, hk, rfl, hI⟩ := hrel
    by_cases hlt : k < m
    · obtain ⟨b, zs, hT, hob, hrs, hB⟩ := hI.out
      have kx : k < Ls.length := by have := em.out; omega
      obtain ⟨gk, rfl⟩ : ∃ gk, pk = some ⟨gk, 0, none⟩ := by
        obtain ⟨-, ⟨e, hn⟩ | ⟨g, cap, cur, e, -⟩⟩ := HO7.out
        · omega
        · injection e with e1; exact ⟨g, e1⟩
      have hgk : gk < w7.heap.size := (World.ownsRow.lt HO7.out gk rfl).2
      have q1 : wr.cell? ⟨gk, k, none⟩ = some Ls[k] := (hB.cell (p := ⟨gk, k, none⟩) hgk).trans (by rw [HO7.out.cellAt k (by omega), List.getElem?_eq_getElem kx])
      have hfit : Fit wc cs Ls[k] := FL.out _ (List.getElem_mem kx)
      have hstep : Hid ((Ls.take (k + 1)).map (fun u => picks (rwOf wc u) cs) = (Ls.take k).map (fun u => picks (rwOf wc u) cs) ++ [picks (rwOf wc Ls[k]) cs]) := by
        show _ = _
        rw [List.take_succ_eq_append_getElem kx, List.map_append]
        rfl
      generalize Ls[k] = U at q1 hfit hstep
      have hwr : Below wc.heap.size wc wr := hwc7.out.trans (hB.mono hwc7.out.size)
      have PV : Hid (∀ W, Below wr.heap.size wr W → Calls Tryz.prog 59 #[U, .slice p n c] W fun e w' => ∃ x, e = .returned x ∧ OwnV W.heap.size x (picks (rwOf wc U) cs) w' ∧ x ≠ .slice none 0 0 ∧ Below W.heap.size W w') := fun W hW => by
        have hWc : Below wc.heap.size wc W := hwr.trans (hW.mono hwr.size)
        obtain ⟨r1, r2, r3, r4⟩ := hfit.row
        exact pickV_any U _ _ cs W (r1.below hWc) (HC.out.below (HBC.out.trans (hWc.mono HBC.out.size))) r3 r4 (by have := en.out; omega)
      obtain ⟨pU, nU, cU, rfl⟩ := hfit.slice
      obtain ⟨pb, nb, cb, rfl⟩ : ∃ pb nb cb, b = .slice pb nb cb := by
        obtain ⟨-, ⟨e, hn⟩ | ⟨g, cap, cur, e, -⟩⟩ := hob
        · exact ⟨_, _, _, e⟩
        · exact ⟨_, _, _, e⟩
      have t1 : wr.cell? ⟨w7.heap.size, 1, none⟩ = some (.slice pb nb cb) := cell_of_heap hT 1 rfl
      have hTl : w7.heap.size < wr.heap.size := (Array.getElem?_eq_some_iff.1 hT).1
      have HT : Hid (wr.heap[w7.heap.size]? = some (.cells #[.slice (some ⟨ga, 0, none⟩) ma ca, .slice pb nb cb] 25 (0, 0))) := hT
      have HOB : Hid (wr.ownsRow w7.heap.size 26 1 (.slice pb nb cb) k zs) := hob
      have HRS : Hid (OwnRs w7.heap.size zs ((Ls.take k).map fun u => picks (rwOf wc u) cs) wr) := hrs
      have HB : Hid (Below w7.heap.size w7 wr) := hB
      clear hT hob hrs hB hI hfit hwr
      go_upto_region 9 with fail
      refine wp_region_held_drew (S := fun _ => True) (by kernel_rfl) trivial (fun hHeld => ?_)
      refine wpAnyH_take (i := 0) (oi := ({ dst := some 32, op := Op.fieldAddr 25 (Operand.tmp 9) 1, type := 0, pos := "table.go:241", after := #[], guard := none } : Oper)) (v := ?yv4) rfl (by kernel_rfl) (by kernel_rfl) (by kernel_rfl) (fun _ _ _ h => h) (Or.inl ⟨by rfl, ?yh4⟩) (by assumption) ?yr4
      case yh4 => (intro wq hSw; (try dsimp only at hSw); go_simp; first | done | with_reducible rfl)
      try simp only [Act.put, List.setIfInBounds_toArray, List.set_cons_zero, List.set_cons_succ]
      refine wpAnyH_take (i := 2) (oi := ({ dst := some 34, op := Op.move (Operand.tmp 11), type := 26, pos := "table.go:241", after := #[], guard := none } : Oper)) (v := ?yv5) rfl (by kernel_rfl) (by kernel_rfl) (by kernel_rfl) (fun _ _ _ h => h) (Or.inl ⟨by rfl, ?yh5⟩) (by assumption) ?yr5
      case yh5 => (intro wq hSw; (try dsimp only at hSw); go_simp; first | done | with_reducible rfl)
      try simp only [Act.put, List.setIfInBounds_toArray, List.set_cons_zero, List.set_cons_succ]
      refine wpAnyH_take (i := 3) (oi := ({ dst := some 35, op := Op.move (Operand.tmp 2), type := 54, pos := "table.go:241", after := #[], guard := none } : Oper)) (v := ?yv6) rfl (by kernel_rfl) (by kernel_rfl) (by kernel_rfl) (fun _ _ _ h => h) (Or.inl ⟨by rfl, ?yh6⟩) (by assumption) ?yr6
      case yh6 => (intro wq hSw; (try dsimp only at hSw); go_simp; first | done | with_reducible rfl)
      try simp only [Act.put, List.setIfInBounds_toArray, List.set_cons_zero, List.set_cons_succ]
      refine wpAnyH_ready (rs := [1, 4]) (by kernel_rfl) (by simp) ?_
      refine AllReadyH.cons (o := ({ dst := some 33, op := Op.load 23 (Operand.tmp 32), type := 23, pos := "table.go:241", after := #[{ on := 0, ground := Ground.data }], guard := none } : Oper)) rfl (fun K hK => ?_) (AllReadyH.cons (o := ({ dst := some 36, op := Op.call { callee := Callee.value (Operand.func 59), args := #[Operand.tmp 34, Operand.tmp 35], argTypes := #[26, 54] }, type := 26, pos := "table.go:241", after := #[{ on := 2, ground := Ground.data }, { on := 3, ground := Ground.data }], guard := none } : Oper)) rfl (fun K hK => ?_) AllReadyH.nil)
      · go_simp
        refine hK.out _ _ trivial (fun hHeld => ?_)
        clear hK K
        try simp only [Act.put, List.setIfInBounds_toArray, List.set_cons_zero, List.set_cons_succ]
        refine wpAnyH_ready (rs := [4]) (by kernel_rfl) (by simp) ?_
        refine AllReadyH.cons (o := ({ dst := some 36, op := Op.call { callee := Callee.value (Operand.func 59), args := #[Operand.tmp 34, Operand.tmp 35], argTypes := #[26, 54] }, type := 26, pos := "table.go:241", after := #[{ on := 2, ground := Ground.data }, { on := 3, ground := Ground.data }], guard := none } : Oper)) rfl (fun K hK => ?_) AllReadyH.nil
        go_simp
        refine (PV.out _ (by go_grown)).mono ?_
        rintro e wx ⟨x, rfl, hox, hxn, hbx⟩
        have hw1 : Below wr.heap.size wr wx := ⟨hbx.os, hbx.tape, hbx.output, hbx.size, hbx.block⟩
        have HX : Hid (OwnV wr.heap.size x (picks (rwOf wc (.slice pU nU cU)) cs) wx) := hox
        obtain ⟨px, nx, cx, rfl⟩ : ∃ px nx cx, x = .slice px nx cx := by
          obtain ⟨-, ⟨e, hn⟩ | ⟨g, cap, cur, e, -⟩⟩ := hox
          · exact ⟨_, _, _, e⟩
          · exact ⟨_, _, _, e⟩
        have T2 : wx.heap[w7.heap.size]? = some (.cells #[.slice (some ⟨ga, 0, none⟩) ma ca, .slice pb nb cb] 25 (0, 0)) := (hw1.block _ hTl).trans HT.out
        have t2 : wx.cell? ⟨w7.heap.size, 1, none⟩ = some (.slice pb nb cb) := cell_of_heap T2 1 rfl
        have OB2 := own_below HOB.out hw1
        have HT2 : Hid (wx.heap[w7.heap.size]? = some (.cells #[.slice (some ⟨ga, 0, none⟩) ma ca, .slice pb nb cb] 25 (0, 0))) := T2
        have HOB2 : Hid (wx.ownsRow w7.heap.size 26 1 (.slice pb nb cb) k zs) := OB2
        have HW1 : Hid (Below wr.heap.size wr wx) := hw1
        have hTl2 : w7.heap.size < wx.heap.size := Nat.lt_of_lt_of_le hTl hw1.size
        clear hox hxn hbx hw1 T2 OB2 HOB HT PV t1
        dsimp only
        refine hK.out _ _ trivial (fun hHeld => ?_)
        clear hK K
        try simp only [Act.put, List.setIfInBounds_toArray, List.set_cons_zero, List.set_cons_succ]
        refine wpAnyH_ready (rs := [5]) (by kernel_rfl) (by simp) ?_
        refine AllReadyH.cons (o := ({ dst := some 37, op := Op.buildSlice 23 1 #[(0, Operand.tmp 36)], type := 23, pos := "table.go:241", after := #[{ on := 4, ground := Ground.data }], guard := none } : Oper)) rfl (fun K hK => ?_) AllReadyH.nil
        go_simp
        refine hK.out _ _ trivial (fun hHeld => ?_)
        clear hK K
        try simp only [Act.put, List.setIfInBounds_toArray, List.set_cons_zero, List.set_cons_succ]
        refine wpAnyH_ready (rs := [6]) (by kernel_rfl) (by simp) ?_
        refine AllReadyH.cons (o := ({ dst := some 38, op := Op.call { callee := Callee.builtin Builtin.append, args := #[Operand.tmp 33, Operand.tmp 37], argTypes := #[23, 23] }, type := 23, pos := "table.go:241", after := #[{ on := 1, ground := Ground.data }, { on := 5, ground := Ground.data }, { on := 4, ground := Ground.chain }], guard := none } : Oper)) rfl (fun K hK => ?_) AllReadyH.nil
        refine step_appendR rfl (.tmp 33) (.tmp 37) 23 rfl w7.heap.size 26 i0 (.slice none 0 0) 1 24 Tryz.underlying23 hi hz0 hz1 hz2 rfl (by decide) (.slice pb nb cb) _ _ (by simp [Act.eval]) (World.ownsRow.alloc HOB2.out _) ⟨wx.heap.size, 0, none⟩ 1 1 [.slice px nx cx] (by simp [Act.eval]) rfl ?c1A ?c2A (by unfold maxLen; omega) (by omega) (by simp; omega) (fun v' w2 h2 h3 => ?_)
        case c1A => (intro j u hj; rw [Addr.add_lit]; (rcases j with _ | j) <;> simp at hj; subst hj; simp (maxDischargeDepth := 12) [go_sem])
        case c2A => (intro u hu; simp at hu; subst hu; rfl)
        obtain ⟨pv, nv, cv, T3, t3, f3, W3, rfl⟩ := arr_step px nx cx pb nb cb ga ma ca k zs v' _ _ wr w7 wx w2 hTl HT2.out HOB2.out HRS.out HB.out HW1.out HX.out h2 h3
        rw [← hstep.out] at W3
        clear h2 h3 T3 HX HRS hstep HB HW1 HOB2 HT2
        refine hK.out _ _ trivial (fun hHeld => ?_)
        clear hK K
        try simp only [Act.put, List.setIfInBounds_toArray, List.set_cons_zero, List.set_cons_succ]
        refine wpAnyH_take (i := 7) (oi := ({ dst := some 39, op := Op.fieldAddr 25 (Operand.tmp 9) 1, type := 0, pos := "table.go:241", after := #[{ on := 0, ground := Ground.phase }, { on := 1, ground := Ground.phase }, { on := 2, ground := Ground.phase }, { on := 3, ground := Ground.phase }, { on := 4, ground := Ground.phase }, { on := 5, ground := Ground.phase }, { on := 6, ground := Ground.phase }], guard := none } : Oper)) (v := ?yv1) rfl (by kernel_rfl) (by kernel_rfl) (by kernel_rfl) (fun _ _ _ h => h) (Or.inl ⟨by rfl, ?yh1⟩) (by assumption) ?yr1
        case yh1 => (intro wq hSw; (try dsimp only at hSw); go_simp; first | done | with_reducible rfl)
        try simp only [Act.put, List.setIfInBounds_toArray, List.set_cons_zero, List.set_cons_succ]
        refine wpAnyH_ready (rs := [8]) (by kernel_rfl) (by simp) ?_
        refine AllReadyH.cons (o := ({ dst := none, op := Op.store 23 (Operand.tmp 39) (Operand.tmp 38), type := 0, pos := "table.go:241", after := #[{ on := 7, ground := Ground.data }, { on := 6, ground := Ground.data }, { on := 6, ground := Ground.chain }, { on := 0, ground := Ground.phase }, { on := 1, ground := Ground.phase }, { on := 2, ground := Ground.phase }, { on := 3, ground := Ground.phase }, { on := 4, ground := Ground.phase }, { on := 5, ground := Ground.phase }, { on := 6, ground := Ground.phase }], guard := none } : Oper)) rfl (fun K hK => ?_) AllReadyH.nil
        go_simp
        refine hK.out _ _ trivial (fun hHeld => ?_)
        clear hK K
        try simp only [Act.put, List.setIfInBounds_toArray, List.set_cons_zero, List.set_cons_succ]
        refine wpAnyH_done (by kernel_rfl) ?_ _
        clear t3 f3
        (try go_wp2)
        exact ⟨⟨k + 1, by omega, by go_num, W3⟩, by simp [intOf]; omega⟩
      · go_simp
        refine (PV.out _ (by go_grown)).mono ?_
        rintro e wx ⟨x, rfl, hox, hxn, hbx⟩
        have hw1 : Below wr.heap.size wr wx := ⟨hbx.os, hbx.tape, hbx.output, hbx.size, hbx.block⟩
        have HX : Hid (OwnV wr.heap.size x (picks (rwOf wc (.slice pU nU cU)) cs) wx) := hox
        obtain ⟨px, nx, cx, rfl⟩ : ∃ px nx cx, x = .slice px nx cx := by
          obtain ⟨-, ⟨e, hn⟩ | ⟨g, cap, cur, e, -⟩⟩ := hox
          · exact ⟨_, _, _, e⟩
          · exact ⟨_, _, _, e⟩
        have T2 : wx.heap[w7.heap.size]? = some (.cells #[.slice (some ⟨ga, 0, none⟩) ma ca, .slice pb nb cb] 25 (0, 0)) := (hw1.block _ hTl).trans HT.out
        have t2 : wx.cell? ⟨w7.heap.size, 1, none⟩ = some (.slice pb nb cb) := cell_of_heap T2 1 rfl
        have OB2 := own_below HOB.out hw1
        have HT2 : Hid (wx.heap[w7.heap.size]? = some (.cells #[.slice (some ⟨ga, 0, none⟩) ma ca, .slice pb nb cb] 25 (0, 0))) := T2
        have HOB2 : Hid (wx.ownsRow w7.heap.size 26 1 (.slice pb nb cb) k zs) := OB2
        have HW1 : Hid (Below wr.heap.size wr wx) := hw1
        have hTl2 : w7.heap.size < wx.heap.size := Nat.lt_of_lt_of_le hTl hw1.size
        clear hox hxn hbx hw1 T2 OB2 HOB HT PV t1
        dsimp only
        refine hK.out _ _ trivial (fun hHeld => ?_)
        clear hK K
        try simp only [Act.put, List.setIfInBounds_toArray, List.set_cons_zero, List.set_cons_succ]
        refine wpAnyH_ready (rs := [1, 5]) (by kernel_rfl) (by simp) ?_
        refine AllReadyH.cons (o := ({ dst := some 33, op := Op.load 23 (Operand.tmp 32), type := 23, pos := "table.go:241", after := #[{ on := 0, ground := Ground.data }], guard := none } : Oper)) rfl (fun K hK => ?_) (AllReadyH.cons (o := ({ dst := some 37, op := Op.buildSlice 23 1 #[(0, Operand.tmp 36)], type := 23, pos := "table.go:241", after := #[{ on := 4, ground := Ground.data }], guard := none } : Oper)) rfl (fun K hK => ?_) AllReadyH.nil)
        · go_simp
          refine hK.out _ _ trivial (fun hHeld => ?_)
          clear hK K
          try simp only [Act.put, List.setIfInBounds_toArray, List.set_cons_zero, List.set_cons_succ]
          refine wpAnyH_ready (rs := [5]) (by kernel_rfl) (by simp) ?_
          refine AllReadyH.cons (o := ({ dst := some 37, op := Op.buildSlice 23 1 #[(0, Operand.tmp 36)], type := 23, pos := "table.go:241", after := #[{ on := 4, ground := Ground.data }], guard := none } : Oper)) rfl (fun K hK => ?_) AllReadyH.nil
          go_simp
          refine hK.out _ _ trivial (fun hHeld => ?_)
          clear hK K
          try simp only [Act.put, List.setIfInBounds_toArray, List.set_cons_zero, List.set_cons_succ]
          refine wpAnyH_ready (rs := [6]) (by kernel_rfl) (by simp) ?_
          refine AllReadyH.cons (o := ({ dst := some 38, op := Op.call { callee := Callee.builtin Builtin.append, args := #[Operand.tmp 33, Operand.tmp 37], argTypes := #[23, 23] }, type := 23, pos := "table.go:241", after := #[{ on := 1, ground := Ground.data }, { on := 5, ground := Ground.data }, { on := 4, ground := Ground.chain }], guard := none } : Oper)) rfl (fun K hK => ?_) AllReadyH.nil
          refine step_appendR rfl (.tmp 33) (.tmp 37) 23 rfl w7.heap.size 26 i0 (.slice none 0 0) 1 24 Tryz.underlying23 hi hz0 hz1 hz2 rfl (by decide) (.slice pb nb cb) _ _ (by simp [Act.eval]) (World.ownsRow.alloc HOB2.out _) ⟨wx.heap.size, 0, none⟩ 1 1 [.slice px nx cx] (by simp [Act.eval]) rfl ?c1A ?c2A (by unfold maxLen; omega) (by omega) (by simp; omega) (fun v' w2 h2 h3 => ?_)
          case c1A => (intro j u hj; rw [Addr.add_lit]; (rcases j with _ | j) <;> simp at hj; subst hj; simp (maxDischargeDepth := 12) [go_sem])
          case c2A => (intro u hu; simp at hu; subst hu; rfl)
          obtain ⟨pv, nv, cv, T3, t3, f3, W3, rfl⟩ := arr_step px nx cx pb nb cb ga ma ca k zs v' _ _ wr w7 wx w2 hTl HT2.out HOB2.out HRS.out HB.out HW1.out HX.out h2 h3
          rw [← hstep.out] at W3
          clear h2 h3 T3 HX HRS hstep HB HW1 HOB2 HT2
          refine hK.out _ _ trivial (fun hHeld => ?_)
          clear hK K
          try simp only [Act.put, List.setIfInBounds_toArray, List.set_cons_zero, List.set_cons_succ]
          refine wpAnyH_take (i := 7) (oi := ({ dst := some 39, op := Op.fieldAddr 25 (Operand.tmp 9) 1, type := 0, pos := "table.go:241", after := #[{ on := 0, ground := Ground.phase }, { on := 1, ground := Ground.phase }, { on := 2, ground := Ground.phase }, { on := 3, ground := Ground.phase }, { on := 4, ground := Ground.phase }, { on := 5, ground := Ground.phase }, { on := 6, ground := Ground.phase }], guard := none } : Oper)) (v := ?yv2) rfl (by kernel_rfl) (by kernel_rfl) (by kernel_rfl) (fun _ _ _ h => h) (Or.inl ⟨by rfl, ?yh2⟩) (by assumption) ?yr2
          case yh2 => (intro wq hSw; (try dsimp only at hSw); go_simp; first | done | with_reducible rfl)
          try simp only [Act.put, List.setIfInBounds_toArray, List.set_cons_zero, List.set_cons_succ]
          refine wpAnyH_ready (rs := [8]) (by kernel_rfl) (by simp) ?_
          refine AllReadyH.cons (o := ({ dst := none, op := Op.store 23 (Operand.tmp 39) (Operand.tmp 38), type := 0, pos := "table.go:241", after := #[{ on := 7, ground := Ground.data }, { on := 6, ground := Ground.data }, { on := 6, ground := Ground.chain }, { on := 0, ground := Ground.phase }, { on := 1, ground := Ground.phase }, { on := 2, ground := Ground.phase }, { on := 3, ground := Ground.phase }, { on := 4, ground := Ground.phase }, { on := 5, ground := Ground.phase }, { on := 6, ground := Ground.phase }], guard := none } : Oper)) rfl (fun K hK => ?_) AllReadyH.nil
          go_simp
          refine hK.out _ _ trivial (fun hHeld => ?_)
          clear hK K
          try simp only [Act.put, List.setIfInBounds_toArray, List.set_cons_zero, List.set_cons_succ]
          refine wpAnyH_done (by kernel_rfl) ?_ _
          clear t3 f3
          (try go_wp2)
          exact ⟨⟨k + 1, by omega, by go_num, W3⟩, by simp [intOf]; omega⟩
        · go_simp
          refine hK.out _ _ trivial (fun hHeld => ?_)
          clear hK K
          try simp only [Act.put, List.setIfInBounds_toArray, List.set_cons_zero, List.set_cons_succ]
          refine wpAnyH_ready (rs := [1]) (by kernel_rfl) (by simp) ?_
          refine AllReadyH.cons (o := ({ dst := some 33, op := Op.load 23 (Operand.tmp 32), type := 23, pos := "table.go:241", after := #[{ on := 0, ground := Ground.data }], guard := none } : Oper)) rfl (fun K hK => ?_) AllReadyH.nil
          go_simp
          refine hK.out _ _ trivial (fun hHeld => ?_)
          clear hK K
          try simp only [Act.put, List.setIfInBounds_toArray, List.set_cons_zero, List.set_cons_succ]
          refine wpAnyH_ready (rs := [6]) (by kernel_rfl) (by simp) ?_
          refine AllReadyH.cons (o := ({ dst := some 38, op := Op.call { callee := Callee.builtin Builtin.append, args := #[Operand.tmp 33, Operand.tmp 37], argTypes := #[23, 23] }, type := 23, pos := "table.go:241", after := #[{ on := 1, ground := Ground.data }, { on := 5, ground := Ground.data }, { on := 4, ground := Ground.chain }], guard := none } : Oper)) rfl (fun K hK => ?_) AllReadyH.nil
          refine step_appendR rfl (.tmp 33) (.tmp 37) 23 rfl w7.heap.size 26 i0 (.slice none 0 0) 1 24 Tryz.underlying23 hi hz0 hz1 hz2 rfl (by decide) (.slice pb nb cb) _ _ (by simp [Act.eval]) (World.ownsRow.alloc HOB2.out _) ⟨wx.heap.size, 0, none⟩ 1 1 [.slice px nx cx] (by simp [Act.eval]) rfl ?c1A ?c2A (by unfold maxLen; omega) (by omega) (by simp; omega) (fun v' w2 h2 h3 => ?_)
          case c1A => (intro j u hj; rw [Addr.add_lit]; (rcases j with _ | j) <;> simp at hj; subst hj; simp (maxDischargeDepth := 12) [go_sem])
          case c2A => (intro u hu; simp at hu; subst hu; rfl)
          obtain ⟨pv, nv, cv, T3, t3, f3, W3, rfl⟩ := arr_step px nx cx pb nb cb ga ma ca k zs v' _ _ wr w7 wx w2 hTl HT2.out HOB2.out HRS.out HB.out HW1.out HX.out h2 h3
          rw [← hstep.out] at W3
          clear h2 h3 T3 HX HRS hstep HB HW1 HOB2 HT2
          refine hK.out _ _ trivial (fun hHeld => ?_)
          clear hK K
          try simp only [Act.put, List.setIfInBounds_toArray, List.set_cons_zero, List.set_cons_succ]
          refine wpAnyH_take (i := 7) (oi := ({ dst := some 39, op := Op.fieldAddr 25 (Operand.tmp 9) 1, type := 0, pos := "table.go:241", after := #[{ on := 0, ground := Ground.phase }, { on := 1, ground := Ground.phase }, { on := 2, ground := Ground.phase }, { on := 3, ground := Ground.phase }, { on := 4, ground := Ground.phase }, { on := 5, ground := Ground.phase }, { on := 6, ground := Ground.phase }], guard := none } : Oper)) (v := ?yv3) rfl (by kernel_rfl) (by kernel_rfl) (by kernel_rfl) (fun _ _ _ h => h) (Or.inl ⟨by rfl, ?yh3⟩) (by assumption) ?yr3
          case yh3 => (intro wq hSw; (try dsimp only at hSw); go_simp; first | done | with_reducible rfl)
          try simp only [Act.put, List.setIfInBounds_toArray, List.set_cons_zero, List.set_cons_succ]
          refine wpAnyH_ready (rs := [8]) (by kernel_rfl) (by simp) ?_
          refine AllReadyH.cons (o := ({ dst := none, op := Op.store 23 (Operand.tmp 39) (Operand.tmp 38), type := 0, pos := "table.go:241", after := #[{ on := 7, ground := Ground.data }, { on := 6, ground := Ground.data }, { on := 6, ground := Ground.chain }, { on := 0, ground := Ground.phase }, { on := 1, ground := Ground.phase }, { on := 2, ground := Ground.phase }, { on := 3, ground := Ground.phase }, { on := 4, ground := Ground.phase }, { on := 5, ground := Ground.phase }, { on := 6, ground := Ground.phase }], guard := none } : Oper)) rfl (fun K hK => ?_) AllReadyH.nil
          go_simp
          refine hK.out _ _ trivial (fun hHeld => ?_)
          clear hK K
          try simp only [Act.put, List.setIfInBounds_toArray, List.set_cons_zero, List.set_cons_succ]
          refine wpAnyH_done (by kernel_rfl) ?_ _
          clear t3 f3
          (try go_wp2)
          exact ⟨⟨k + 1, by omega, by go_num, W3⟩, by simp [intOf]; omega⟩
    · have c2 : ¬ (k : Int) < m := by omega
      have ek : k = m := by omega
      subst ek
      obtain ⟨b, zs, hT, hob, hrs, hB⟩ := hI.out
      obtain ⟨pb, nb, cb, rfl⟩ : ∃ pb nb cb, b = .slice pb nb cb := by
        obtain ⟨-, ⟨e, hn⟩ | ⟨g, cap, cur, e, -⟩⟩ := hob
        · exact ⟨_, _, _, e⟩
        · exact ⟨_, _, _, e⟩
      have t0 : wr.cell? ⟨w7.heap.size, 0, none⟩ = some (.slice (some ⟨ga, 0, none⟩) ma ca) := cell_of_heap hT 0 rfl
      have t1 : wr.cell? ⟨w7.heap.size, 1, none⟩ = some (.slice pb nb cb) := cell_of_heap hT 1 rfl
      have hwr : Below wc.heap.size wc wr := hwc7.out.trans (hB.mono hwc7.out.size)
      obtain ⟨z0, z1, z2, z3⟩ := HRES.out
      have y0 : wr.cell? ⟨w.heap.size, 0, none⟩ = some (.slice none 0 0) := (hwr.cell (p := ⟨w.heap.size, 0, none⟩) (by simp; omega)).trans z0
      have y1 : wr.cell? ⟨w.heap.size, 1, none⟩ = some (.slice none 0 0) := (hwr.cell (p := ⟨w.heap.size, 1, none⟩) (by simp; omega)).trans z1
      have y2 : wr.frozen? ⟨w.heap.size, 0, none⟩ = false := (World.frozen?_of_block (a := ⟨w.heap.size, 0, none⟩) (hwr.block w.heap.size (by omega))).trans z2
      have y3 : wr.frozen? ⟨w.heap.size, 1, none⟩ = false := (World.frozen?_of_block (a := ⟨w.heap.size, 1, none⟩) (hwr.block w.heap.size (by omega))).trans z3
      have hne : w.heap.size ≠ w7.heap.size := by have := hwc7.out.size; omega
      have DONE : Hid (∃ L, OwnT w.heap.size (.agg #[.slice (some ⟨ga, 0, none⟩) ma ca, .slice pb nb cb]) (picks vs cs) L ((wr.setCell ⟨w.heap.size, 0, none⟩ (.slice (some ⟨ga, 0, none⟩) ma ca)).setCell ⟨w.heap.size, 1, none⟩ (.slice pb nb cb)) ∧ L.Pairwise (fun a b => rowC a b < 0) ∧ (∀ r, r ∈ L ↔ ∃ u ∈ us, r = picks (rwOf w u) cs) ∧ Below w.heap.size w ((wr.setCell ⟨w.heap.size, 0, none⟩ (.slice (some ⟨ga, 0, none⟩) ma ca)).setCell ⟨w.heap.size, 1, none⟩ (.slice pb nb cb))) := by
        have hl := em.out
        rw [List.take_of_length_le (by omega)] at hrs
        have h6 := HB6.out.size
        have h7 := HB7.out.size
        refine ⟨Ls.map fun u => picks (rwOf wc u) cs, ⟨_, _, zs, rfl, ?_, ?_, ?_⟩, ?_, ?_, ?_⟩
        · exact own_base (own_set (own_set (own_below HA.out hB) (by omega)) (by omega)) (by omega)
        · have hz : zs.length = k := by have := hob.1; omega
          rw [hz]
          exact own_base (own_set (own_set hob (by omega)) (by omega)) (by omega)
        · exact ⟨hrs.1, fun i h g => own_base (own_set (own_set (hrs.2 i h g) (by omega)) (by omega)) (by omega)⟩
        · rw [← eLs.out]
          have hy := HS.out
          cases ys with
          | nil => exact List.Pairwise.nil
          | cons x l => exact (cmpct_rises (fun u => picks (rwOf wc u) cs) l x (fun y h => (FY.out y h).row.2.1.picks cs) (hy.imp fun h => by omega)).1
        · intro r
          have e1 : r ∈ Ls.map (fun u => picks (rwOf wc u) cs) ↔ r ∈ ys.map (fun u => picks (rwOf wc u) cs) := by
            rw [← eLs.out]
            have hy := HS.out
            cases ys with
            | nil => exact Iff.rfl
            | cons x l => exact (cmpct_rises (fun u => picks (rwOf wc u) cs) l x (fun y h => (FY.out y h).row.2.1.picks cs) (hy.imp fun h => by omega)).2 r
          rw [e1, List.mem_map]
          constructor
          · rintro ⟨u, hu, rfl⟩
            have hm := HP.out.mem_iff.1 hu
            exact ⟨u, hm, by rw [rwOf_below (HU.out u hm) HBC.out]⟩
          · rintro ⟨u, hu, rfl⟩
            exact ⟨u, HP.out.mem_iff.2 hu, by rw [rwOf_below (HU.out u hu) HBC.out]⟩
        · have b1 : Below w.heap.size w wr := HBC.out.trans (hwr.mono (by omega))
          have b2 := b1.grown (grownBy_setCell wr w.heap.size 0 (.slice (some ⟨ga, 0, none⟩) ma ca)) b1.size (fun q hq => by injection hq with hq; omega)
          exact b2.grown (grownBy_setCell _ w.heap.size 1 (.slice pb nb cb)) b2.size (fun q hq => by injection hq with hq; omega)
      clear hT hob hrs hB hI hwr z0 z1 z2 z3 HB6 HB7 HA HO7 hwc7
      have x0 : (wr.setCell ⟨w.heap.size, 0, none⟩ (.slice (some ⟨ga, 0, none⟩) ma ca)).cell? ⟨w.heap.size, 0, none⟩ = some (.slice (some ⟨ga, 0, none⟩) ma ca) := set_same y0
      have x1 : ((wr.setCell ⟨w.heap.size, 0, none⟩ (.slice (some ⟨ga, 0, none⟩) ma ca)).setCell ⟨w.heap.size, 1, none⟩ (.slice pb nb cb)).cell? ⟨w.heap.size, 1, none⟩ = some (.slice pb nb cb) := set_same ((set_other (by simp)).trans y1)
      go_wp2
      (try simp only [Exit.inBlock, Exit.then])
      refine bodyPost_ret (by simp [results, Tryz.results31, go_sem, x0, x1]; try rfl) rfl ?_
      obtain ⟨L, h1, h2, h3, h4⟩ := DONE.out
      exact ⟨_, rfl, L, h1, h2, h3, h4⟩

end Go.Proofs.YtiliaincniiijaaGreat

namespace Go.Proofs.YtiliaincniiijaaGreat
open Go.RowKit Go.Shelf Go.Sort
set_option linter.unusedVariables false

theorem repB_nodup : ∀ (l pre : List ByteArray), pre.Nodup → repB pre l = false → (pre ++ l).Nodup
  | [], pre, h, _ => by simpa using h
  | x :: l, pre, h, hr => by
    simp only [repB, Bool.or_eq_false_iff] at hr
    have hx : x ∉ pre := fun hm => by have := (Lib.containsS_iff _ _).2 hm; rw [hr.1] at this; cases this
    have h2 : (pre ++ [x]).Nodup := by
      rw [List.nodup_append]
      exact ⟨h, by simp, fun a ha b hb => by simp at hb; subst hb; exact fun e => hx (e ▸ ha)⟩
    have h3 := repB_nodup l (pre ++ [x]) h2 hr.2
    simpa using h3
theorem rowE_may : ∀ {r : List Val}, rowE r = 0 → ∀ v ∈ r, v.may = 0
  | [], _, v, hv => by simp at hv
  | x :: r, h, v, hv => by
    unfold rowE at h
    by_cases e : x.may = 0
    · rw [if_pos e] at h
      rcases List.mem_cons.1 hv with rfl | hv
      · exact e
      · exact rowE_may h v hv
    · rw [if_neg e] at h
      exact absurd h e
theorem ValsAt.form {w : World} {R : Value} {us : List Value} (h : ValsAt w R us) : ∃ p c, R = .slice p us.length c ∧ ∀ k (hk : k < us.length), ∃ b off, p = some ⟨b, off, none⟩ ∧ b < w.heap.size ∧ w.cell? ⟨b, off + k, none⟩ = some us[k] := by
  rcases h with ⟨c, rfl, rfl⟩ | ⟨b, off, c, rfl, h1, h2⟩
  · exact ⟨_, _, rfl, fun k hk => by simp at hk⟩
  · refine ⟨_, _, rfl, fun k hk => ⟨b, off, rfl, ?_, h2 k hk⟩⟩
    rcases h1 with rfl | h1
    · simp at hk
    · exact h1
theorem rep_any (V : Value) (vs : List ByteArray) (w : World) (h : StrsAt w V vs) (hc : ∀ p n c, V = .slice p n c → n ≤ c) (lv : vs.length ≤ 9223372036854775807) :
    Calls Tryz.prog 41 #[V] w fun e w' => e = .returned (.bool (repB [] vs)) ∧ Below w.heap.size w w' := by
  obtain ⟨p, c, rfl, rfl | ⟨b, off, rfl, hb, hs⟩⟩ := h
  · refine (rep_nil p c w).mono ?_
    rintro e w' ⟨rfl, rfl⟩
    exact ⟨rfl, Below.refl _ _⟩
  · exact rep_core b off c vs w hb hs lv (hc _ _ _ rfl)

/-- Why rows may not be a table's. -/
def rowsE (m : Nat) : List (List Val) → Int
  | [] => 0
  | r :: l => if rowChk r m = 0 then rowsE m l else rowChk r m
def ofChk (vs : List ByteArray) (rs : List (List Val)) : Int := if vs.length ≤ 8 ∧ repB [] vs = false then rowsE vs.length rs else 30
theorem rowsE_ok {m : Nat} : ∀ {rs : List (List Val)}, rowsE m rs = 0 → ∀ r ∈ rs, rowChk r m = 0
  | [], _, r, h => by simp at h
  | x :: l, h, r, hr => by
    unfold rowsE at h
    by_cases e : rowChk x m = 0
    · rw [if_pos e] at h
      rcases List.mem_cons.1 hr with rfl | hr
      · exact e
      · exact rowsE_ok h r hr
    · rw [if_neg e] at h
      exact absurd h e
theorem rowChk_ok {r : List Val} {m : Nat} (h : rowChk r m = 0) : r.length = m ∧ rowE r = 0 := by
  unfold rowChk at h
  by_cases e : r.length = m
  · rw [if_pos e] at h; exact ⟨e, h⟩
  · rw [if_neg e] at h; cases h
/-- Rows at values. -/
def RowsOf (w : World) (us : List Value) (rs : List (List Val)) : Prop := us.length = rs.length ∧ ∀ i (h : i < us.length) (g : i < rs.length), RowAt w us[i] rs[i]
theorem RowsOf.below {w w' : World} {us : List Value} {rs : List (List Val)} (h : RowsOf w us rs) (hb : Below w.heap.size w w') : RowsOf w' us rs := ⟨h.1, fun i h1 h2 => (h.2 i h1 h2).below hb⟩

/-- What is told of variables and rows that may be. -/
def Told (B : Nat) (t : Value) (vs : List ByteArray) (rs : List (List Val)) (w : World) : Prop := ∃ cs L, cs.Perm (List.range vs.length) ∧ riseB (picks vs cs) = true ∧ OwnT B t (picks vs cs) L w ∧ L.Pairwise (fun a b => rowC a b < 0) ∧ ∀ r, r ∈ L ↔ ∃ x ∈ rs, r = picks x cs

theorem OwnT.set {B : Nat} {t : Value} {vs : List ByteArray} {L : List (List Val)} {w : World} {T j : Nat} {u : Value} (h : OwnT B t vs L w) (hT : T < B) : OwnT B t vs L (w.setCell ⟨T, j, none⟩ u) := by
  obtain ⟨a, b, us, e, h1, h2, h3⟩ := h
  exact ⟨a, b, us, e, own_set h1 hT, own_set h2 hT, h3.1, fun i h g => own_set (h3.2 i h g) hT⟩
theorem OwnT.base {B B' : Nat} {t : Value} {vs : List ByteArray} {L : List (List Val)} {w : World} (h : OwnT B t vs L w) (hB : B' ≤ B) : OwnT B' t vs L w := by
  obtain ⟨a, b, us, e, h1, h2, h3⟩ := h
  exact ⟨a, b, us, e, own_base h1 hB, own_base h2 hB, h3.1, fun i h g => own_base (h3.2 i h g) hB⟩
theorem Told.set {B : Nat} {t : Value} {vs : List ByteArray} {rs : List (List Val)} {w : World} {T j : Nat} {u : Value} (h : Told B t vs rs w) (hT : T < B) : Told B t vs rs (w.setCell ⟨T, j, none⟩ u) := by
  obtain ⟨cs, L, h1, h2, h3, h4⟩ := h
  exact ⟨cs, L, h1, h2, h3.set hT, h4⟩
theorem Told.base {B B' : Nat} {t : Value} {vs : List ByteArray} {rs : List (List Val)} {w : World} (h : Told B t vs rs w) (hB : B' ≤ B) : Told B' t vs rs w := by
  obtain ⟨cs, L, h1, h2, h3, h4⟩ := h
  exact ⟨cs, L, h1, h2, h3.base hB, h4⟩

/-- The last step: rows that were looked at. -/
theorem of_last (V R C : Value) (vs : List ByteArray) (us : List Value) (rs : List (List Val)) (cs : List Nat) (w : World) (hV : StrsAt w V vs) (hR : ValsAt w R us) (hC : IntsAt w C cs) (hrs : RowsOf w us rs) (hp : cs.Perm (List.range vs.length)) (hok : ∀ r ∈ rs, r.length = vs.length ∧ okR r) (lv : vs.length ≤ 8) (lu : us.length ≤ 5864062014805) (hr : riseB (picks vs cs) = true) :
    Calls Tryz.prog 31 #[V, R, C] w fun e w' => ∃ t, e = .returned t ∧ Told w.heap.size t vs rs w' ∧ Below w.heap.size w w' := by
  have hcv : ∀ c ∈ cs, c < vs.length := fun c h => List.mem_range.1 (hp.mem_iff.1 h)
  have hu : ∀ u ∈ us, ∃ x ∈ rs, RowAt w u x := fun u h => by
    obtain ⟨i, hi, e⟩ := List.getElem_of_mem h
    have g : i < rs.length := by have := hrs.1; omega
    exact ⟨rs[i], List.getElem_mem g, e ▸ hrs.2 i hi g⟩
  refine (arrange_any V R C vs us cs w hV hR hC hcv (fun u h => ?_) (by omega) (by rw [hp.length_eq]; simp; omega) lu).mono ?_
  · obtain ⟨x, hx, hrow⟩ := hu u h
    obtain ⟨e, ok⟩ := hok x hx
    exact ⟨x, hrow, ok, fun c hc => by rw [e]; exact hcv c hc, by omega⟩
  · rintro e w' ⟨t, L, rfl, h1, h2, h3, h4⟩
    refine ⟨t, rfl, ⟨cs, L, hp, hr, h1, h2, fun r => ?_⟩, h4⟩
    rw [h3]
    constructor
    · rintro ⟨u, hm, rfl⟩
      obtain ⟨x, hx, hrow⟩ := hu u hm
      exact ⟨x, hx, by rw [rwOf_eq hrow]⟩
    · rintro ⟨x, hx, rfl⟩
      obtain ⟨i, hi, e⟩ := List.getElem_of_mem hx
      have g : i < us.length := by have := hrs.1; omega
      have hrow := hrs.2 i g hi
      exact ⟨us[i], List.getElem_mem g, by rw [rwOf_eq hrow, e]⟩

set_option maxRecDepth 100000 in
set_option maxHeartbeats 4000000 in
theorem tof_any (V R : Value) (vs : List ByteArray) (us : List Value) (rs : List (List Val)) (w : World) (hV : StrsAt w V vs) (hc : ∀ p n c, V = .slice p n c → n ≤ c) (hR : ValsAt w R us) (hrs : RowsOf w us rs) (fx : ∀ r ∈ rs, ∀ v ∈ r, v.Fits) (lr : ∀ r ∈ rs, r.length ≤ 9223372036854775807) (lv : vs.length ≤ 9223372036854775807) (lu : us.length ≤ 5864062014805) :
    Calls Tryz.prog 18 #[V, R] w fun e w' => ∃ t, e = .returned (.tuple #[t, .int .i64 (ofChk vs rs)]) ∧ (ofChk vs rs = 0 → Told w.heap.size t vs rs w') ∧ (ofChk vs rs ≠ 0 → t = .agg #[.slice none 0 0, .slice none 0 0]) ∧ Below w.heap.size w w' := by
  obtain ⟨p, c, eV⟩ := hV.form
  obtain ⟨p', c', eR, hget⟩ := hR.form
  have HV : Hid (StrsAt w V vs) := hV
  have HR : Hid (ValsAt w R us) := hR
  have HRS : Hid (RowsOf w us rs) := hrs
  have HG : Hid (∀ k (hk : k < us.length), ∃ b off, p' = some ⟨b, off, none⟩ ∧ b < w.heap.size ∧ w.cell? ⟨b, off + k, none⟩ = some us[k]) := hget
  have RP : Hid (∀ W, Below w.heap.size w W → Calls Tryz.prog 41 #[V] W fun e w' => e = .returned (.bool (repB [] vs)) ∧ Below W.heap.size W w') := fun W hb => rep_any V vs W (hV.below hb) hc lv
  have RS : Hid (∀ W, vs.length ≤ 8 → repB [] vs = false → Below w.heap.size w W → Calls Tryz.prog 33 #[V] W fun e w' => ∃ v, e = .returned v ∧ Hid (∃ cs, OwnI W.heap.size v cs w' ∧ cs.Perm (List.range vs.length) ∧ riseB (picks vs cs) = true ∧ Below W.heap.size W w')) := fun W h8 hr hb => (rising_any V vs W (hV.below hb) (by omega) (by have := repB_nodup vs [] List.nodup_nil hr; simpa using this)).mono (by
    rintro e w' ⟨v, cs, rfl, h1, h2, h3, h4⟩
    exact ⟨v, rfl, cs, h1, h2, h3, h4⟩)
  have hlen := hrs.1
  obtain ⟨n, en⟩ : ∃ n : Nat, Hid (us.length = n) := ⟨_, rfl⟩
  obtain ⟨m, em⟩ : ∃ m : Nat, Hid (vs.length = m) := ⟨_, rfl⟩
  have en2 : Hid (rs.length = n) := hlen.symm.trans en.out
  subst eV eR
  rw [en.out] at lu HR ⊢
  rw [em.out] at lv HV RP RS ⊢
  clear hV hR hrs hget hlen hc
  obtain ⟨Q, eQ⟩ : ∃ Q : Int, Hid (ofChk vs rs = Q) := ⟨_, rfl⟩
  have hQ : Hid (Q = if m ≤ 8 ∧ repB [] vs = false then rowsE m rs else 30) := by
    have h := eQ.out
    unfold ofChk at h
    rw [em.out] at h
    exact h.symm
  rw [eQ.out]
  clear eQ
  go_enter Tryz.func18, Tryz.ntmps18
  by_cases h8 : m ≤ 8
  · have c1 : ¬ (8 : Int) < (m : Int) := by omega
    go_wp2_with fail
    refine (RP.out _ (by go_grown)).mono ?_
    rintro e w1 ⟨rfl, hb1⟩
    have a0 : w1.cell? ⟨w.heap.size, 0, none⟩ = some (.slice none 0 0) := (hb1.cell (p := ⟨w.heap.size, 0, none⟩) (by simp)).trans (by simp (maxDischargeDepth := 8) [go_sem])
    have a1 : w1.cell? ⟨w.heap.size, 1, none⟩ = some (.slice none 0 0) := (hb1.cell (p := ⟨w.heap.size, 1, none⟩) (by simp)).trans (by simp (maxDischargeDepth := 8) [go_sem])
    have a2 : w1.frozen? ⟨w.heap.size, 0, none⟩ = false := (World.frozen?_of_block (a := ⟨w.heap.size, 0, none⟩) (hb1.block w.heap.size (by simp))).trans (by simp (maxDischargeDepth := 8) [go_sem])
    have a3 : w1.frozen? ⟨w.heap.size, 1, none⟩ = false := (World.frozen?_of_block (a := ⟨w.heap.size, 1, none⟩) (hb1.block w.heap.size (by simp))).trans (by simp (maxDischargeDepth := 8) [go_sem])
    have hs1 : w.heap.size < w1.heap.size := by have := hb1.size; simp at this; omega
    have hB1 : Below w.heap.size w w1 := by
      obtain ⟨hw1, -⟩ := bg0 (n := w.heap.size) (W0 := w) (by go_grown) (by go_size) hb1
      exact hw1
    clear hb1 RP
    have SET : ∀ W, Below w.heap.size w W → Below w.heap.size w ((W.setCell ⟨w.heap.size, 0, none⟩ (.slice none 0 0)).setCell ⟨w.heap.size, 1, none⟩ (.slice none 0 0)) := fun W h => by
      have b2 := h.grown (grownBy_setCell W w.heap.size 0 (.slice none 0 0)) h.size (fun q hq => by injection hq with hq; omega)
      exact b2.grown (grownBy_setCell _ w.heap.size 1 (.slice none 0 0)) b2.size (fun q hq => by injection hq with hq; omega)
    have HSET : Hid (∀ W, Below w.heap.size w W → Below w.heap.size w ((W.setCell ⟨w.heap.size, 0, none⟩ (.slice none 0 0)).setCell ⟨w.heap.size, 1, none⟩ (.slice none 0 0))) := SET
    clear SET
    cases hG : repB [] vs with
    | true =>
      have hz : Q = 30 := by rw [hQ.out, if_neg (by rw [hG]; simp)]
      subst hz
      clear hQ
      have x0 : (w1.setCell ⟨w.heap.size, 0, none⟩ (.slice none 0 0)).cell? ⟨w.heap.size, 0, none⟩ = some (.slice none 0 0) := set_same a0
      have x1 : ((w1.setCell ⟨w.heap.size, 0, none⟩ (.slice none 0 0)).setCell ⟨w.heap.size, 1, none⟩ (.slice none 0 0)).cell? ⟨w.heap.size, 1, none⟩ = some (.slice none 0 0) := set_same ((set_other (by simp)).trans a1)
      go_wp2
      (try simp only [Exit.inBlock, Exit.then])
      refine bodyPost_ret (by simp [results, Tryz.results18, go_sem, x0, x1]; try rfl) rfl ?_
      exact ⟨_, rfl, fun h => absurd h (by decide), fun _ => rfl, HSET.out _ hB1⟩
    | false =>
      have hz : Hid (Q = rowsE m rs) := by
        show Q = _
        rw [hQ.out, if_pos ⟨h8, hG⟩]
      have HGf : Hid (repB [] vs = false) := hG
      clear hQ hG
      have A0 : Hid (w1.cell? ⟨w.heap.size, 0, none⟩ = some (.slice none 0 0)) := a0
      have A1 : Hid (w1.cell? ⟨w.heap.size, 1, none⟩ = some (.slice none 0 0)) := a1
      have A2 : Hid (w1.frozen? ⟨w.heap.size, 0, none⟩ = false) := a2
      have A3 : Hid (w1.frozen? ⟨w.heap.size, 1, none⟩ = false) := a3
      clear a0 a1 a2 a3
      go_wp2
      go_loopw [19] (fun i wr => ∃ k : Nat, k ≤ n ∧ i = .int .i64 k ∧ Hid (rowsE m rs = rowsE m (rs.drop k)) ∧ Below w1.heap.size w1 wr) (fun i _ => n - (intOf i).toNat)
      case atStart => exact ⟨0, Nat.zero_le _, rfl, (show rowsE m rs = rowsE m (rs.drop 0) by simp), Below.refl _ _⟩
      case round =>
        obtain ⟨k, hk, rfl, hr, hB⟩ := hrel
        have y0 : wr.cell? ⟨w.heap.size, 0, none⟩ = some (.slice none 0 0) := (hB.cell (p := ⟨w.heap.size, 0, none⟩) hs1).trans A0.out
        have y1 : wr.cell? ⟨w.heap.size, 1, none⟩ = some (.slice none 0 0) := (hB.cell (p := ⟨w.heap.size, 1, none⟩) hs1).trans A1.out
        have y2 : wr.frozen? ⟨w.heap.size, 0, none⟩ = false := (World.frozen?_of_block (a := ⟨w.heap.size, 0, none⟩) (hB.block w.heap.size hs1)).trans A2.out
        have y3 : wr.frozen? ⟨w.heap.size, 1, none⟩ = false := (World.frozen?_of_block (a := ⟨w.heap.size, 1, none⟩) (hB.block w.heap.size hs1)).trans A3.out
        have hBw : Below w.heap.size w wr := hB1.trans (hB.mono (Nat.le_of_lt hs1))
        by_cases hlt : k < n
        · have kx : k < us.length := by have := en.out; omega
          have ky : k < rs.length := by have := en2.out; omega
          obtain ⟨b, off, rfl, hb, q1⟩ := HG.out k kx
          have q2 : wr.cell? ⟨b, off + k, none⟩ = some us[k] := (hBw.cell (p := ⟨b, _, none⟩) hb).trans q1
          have row := (HRS.out.below hBw).2 k kx ky
          have f1 := fx rs[k] (List.getElem_mem ky)
          have l1 := lr rs[k] (List.getElem_mem ky)
          have hr2 : Hid (rowsE m rs = if rowChk rs[k] m = 0 then rowsE m (rs.drop (k + 1)) else rowChk rs[k] m) := by
            have h := hr.out
            rwa [List.drop_eq_getElem_cons ky] at h
          clear hr q1
          generalize us[k] = U at q2 row
          generalize rs[k] = X at row f1 l1 hr2
          obtain ⟨E, eE⟩ : ∃ E : Int, Hid (rowChk X m = E) := ⟨_, rfl⟩
          have ct : Hid (∀ W, Below wr.heap.size wr W → Calls Tryz.prog 12 #[U, .int .i64 m] W fun e w' => e = .returned (.int .i64 E) ∧ Below W.heap.size W w') := fun W hW => by
            have h := crow_any U X m W f1 (row.below hW) l1 lv
            rwa [eE.out] at h
          rw [eE.out] at hr2
          obtain ⟨pU, cU, rfl⟩ := row.form
          generalize X.length = nU at q2 ct
          clear row f1 l1
          go_wp2_with fail
          refine (ct.out _ (by go_grown)).mono ?_
          rintro e w2 ⟨rfl, hb2⟩
          clear ct q2
          by_cases hE : E = 0
          · have hr3 : Hid (rowsE m rs = rowsE m (rs.drop (k + 1))) := by have := hr2.out; rwa [if_pos hE] at this
            have hB2 : Below w1.heap.size w1 w2 := hB.trans (hb2.mono hB.size)
            subst hE
            clear hr2 hb2 y0 y1 y2 y3
            go_wp2
            exact ⟨⟨k + 1, by omega, by go_num, hr3, hB2⟩, by simp [intOf]; omega⟩
          · have hE' : (E != 0) = true := by simpa using hE
            have hq : Q = E := by have := hr2.out; rw [if_neg hE] at this; rw [hz.out, this]
            have hT : w.heap.size < wr.heap.size := Nat.lt_of_lt_of_le hs1 hB.size
            have z0 : w2.cell? ⟨w.heap.size, 0, none⟩ = some (.slice none 0 0) := (hb2.cell (p := ⟨w.heap.size, 0, none⟩) hT).trans y0
            have z1 : w2.cell? ⟨w.heap.size, 1, none⟩ = some (.slice none 0 0) := (hb2.cell (p := ⟨w.heap.size, 1, none⟩) hT).trans y1
            have z2 : w2.frozen? ⟨w.heap.size, 0, none⟩ = false := (World.frozen?_of_block (a := ⟨w.heap.size, 0, none⟩) (hb2.block w.heap.size hT)).trans y2
            have z3 : w2.frozen? ⟨w.heap.size, 1, none⟩ = false := (World.frozen?_of_block (a := ⟨w.heap.size, 1, none⟩) (hb2.block w.heap.size hT)).trans y3
            have x0 : (w2.setCell ⟨w.heap.size, 0, none⟩ (.slice none 0 0)).cell? ⟨w.heap.size, 0, none⟩ = some (.slice none 0 0) := set_same z0
            have x1 : ((w2.setCell ⟨w.heap.size, 0, none⟩ (.slice none 0 0)).setCell ⟨w.heap.size, 1, none⟩ (.slice none 0 0)).cell? ⟨w.heap.size, 1, none⟩ = some (.slice none 0 0) := set_same ((set_other (by simp)).trans z1)
            have hB2 : Hid (Below w.heap.size w w2) := hBw.trans (hb2.mono hBw.size)
            subst hq
            clear hr2 hz hb2 y0 y1 y2 y3
            go_wp2
            (try simp only [Exit.inBlock, Exit.then])
            refine bodyPost_ret (by simp [results, Tryz.results18, go_sem, x0, x1]; try rfl) rfl ?_
            exact ⟨_, rfl, fun h => absurd h hE, fun _ => rfl, HSET.out _ hB2.out⟩
        · have c2 : ¬ (k : Int) < n := by omega
          have hz0 : Hid (rowsE m rs = 0) := by
            have h := hr.out
            rw [List.drop_eq_nil_of_le (by have := en2.out; omega)] at h
            exact h
          have hq : Q = 0 := by rw [hz.out]; exact hz0.out
          subst hq
          clear hz hr
          have HBW : Hid (Below w.heap.size w wr) := hBw
          have hT : w.heap.size < wr.heap.size := Nat.lt_of_lt_of_le hs1 hB.size
          clear hBw hB
          have RSw : Hid (Calls Tryz.prog 33 #[.slice p m c] wr fun e w' => ∃ v, e = .returned v ∧ Hid (∃ cs, OwnI wr.heap.size v cs w' ∧ cs.Perm (List.range m) ∧ riseB (picks vs cs) = true ∧ Below wr.heap.size wr w')) := RS.out wr h8 HGf.out HBW.out
          have HOK : Hid (∀ r ∈ rs, r.length = vs.length ∧ okR r) := fun r hr => by
            obtain ⟨h1, h2⟩ := rowChk_ok (rowsE_ok hz0.out r hr)
            exact ⟨h1.trans em.out.symm, fun v hv => ⟨rowE_may h2 v hv, fx r hr v hv⟩⟩
          have Y0 : Hid (wr.cell? ⟨w.heap.size, 0, none⟩ = some (.slice none 0 0)) := y0
          have Y1 : Hid (wr.cell? ⟨w.heap.size, 1, none⟩ = some (.slice none 0 0)) := y1
          have Y2 : Hid (wr.frozen? ⟨w.heap.size, 0, none⟩ = false) := y2
          have Y3 : Hid (wr.frozen? ⟨w.heap.size, 1, none⟩ = false) := y3
          clear y0 y1 y2 y3 hz0 RS
          go_wp2_with fail
          refine RSw.out.mono ?_
          rintro e w2 ⟨v, rfl, hh⟩
          obtain ⟨cs, ho, hp, hrise, hb2⟩ := hh.out
          have hBw2 : Below w.heap.size w w2 := HBW.out.trans (hb2.mono HBW.out.size)
          have AR : Hid (Calls Tryz.prog 31 #[.slice p m c, .slice p' n c', v] w2 fun e w' => ∃ t, e = .returned t ∧ Hid (Told w2.heap.size t vs rs w' ∧ Below w2.heap.size w2 w')) := of_last _ _ v vs us rs cs w2 (HV.out.below hBw2) (HR.out.below hBw2) ho.ints (HRS.out.below hBw2) (by rw [em.out]; exact hp) HOK.out (by rw [em.out]; exact h8) (by rw [en.out]; exact lu) hrise
          have HB2 : Hid (Below wr.heap.size wr w2) := hb2
          clear hh RSw ho hp hrise hb2 hBw2
          go_wp2_with fail
          refine AR.out.mono ?_
          rintro e w3 ⟨t, rfl, hh⟩
          obtain ⟨hT3, hb3⟩ := hh.out
          obtain ⟨pa, na, ca, pb, nb, cb, rfl⟩ : ∃ pa na ca pb nb cb, t = .agg #[.slice pa na ca, .slice pb nb cb] := by
            obtain ⟨cs, L, -, -, ⟨a, b, zs, rfl, ha, hb, -⟩, -⟩ := hT3
            obtain ⟨pa, na, ca, rfl⟩ : ∃ p n c, a = .slice p n c := by
              obtain ⟨-, ⟨e, -⟩ | ⟨g, cap, cur, e, -⟩⟩ := ha
              · exact ⟨_, _, _, e⟩
              · exact ⟨_, _, _, e⟩
            obtain ⟨pb, nb, cb, rfl⟩ : ∃ p n c, b = .slice p n c := by
              obtain ⟨-, ⟨e, -⟩ | ⟨g, cap, cur, e, -⟩⟩ := hb
              · exact ⟨_, _, _, e⟩
              · exact ⟨_, _, _, e⟩
            exact ⟨_, _, _, _, _, _, rfl⟩
          have hT2 : w.heap.size < w2.heap.size := Nat.lt_of_lt_of_le hT HB2.out.size
          have z0 : w3.cell? ⟨w.heap.size, 0, none⟩ = some (.slice none 0 0) := (hb3.cell (p := ⟨w.heap.size, 0, none⟩) hT2).trans ((HB2.out.cell (p := ⟨w.heap.size, 0, none⟩) hT).trans Y0.out)
          have z1 : w3.cell? ⟨w.heap.size, 1, none⟩ = some (.slice none 0 0) := (hb3.cell (p := ⟨w.heap.size, 1, none⟩) hT2).trans ((HB2.out.cell (p := ⟨w.heap.size, 1, none⟩) hT).trans Y1.out)
          have z2 : w3.frozen? ⟨w.heap.size, 0, none⟩ = false := (World.frozen?_of_block (a := ⟨w.heap.size, 0, none⟩) (hb3.block w.heap.size hT2)).trans ((World.frozen?_of_block (a := ⟨w.heap.size, 0, none⟩) (HB2.out.block w.heap.size hT)).trans Y2.out)
          have z3 : w3.frozen? ⟨w.heap.size, 1, none⟩ = false := (World.frozen?_of_block (a := ⟨w.heap.size, 1, none⟩) (hb3.block w.heap.size hT2)).trans ((World.frozen?_of_block (a := ⟨w.heap.size, 1, none⟩) (HB2.out.block w.heap.size hT)).trans Y3.out)
          have x0 : (w3.setCell ⟨w.heap.size, 0, none⟩ (.slice pa na ca)).cell? ⟨w.heap.size, 0, none⟩ = some (.slice pa na ca) := set_same z0
          have x1 : ((w3.setCell ⟨w.heap.size, 0, none⟩ (.slice pa na ca)).setCell ⟨w.heap.size, 1, none⟩ (.slice pb nb cb)).cell? ⟨w.heap.size, 1, none⟩ = some (.slice pb nb cb) := set_same ((set_other (by simp)).trans z1)
          have DONE : Hid (Told w.heap.size (.agg #[.slice pa na ca, .slice pb nb cb]) vs rs ((w3.setCell ⟨w.heap.size, 0, none⟩ (.slice pa na ca)).setCell ⟨w.heap.size, 1, none⟩ (.slice pb nb cb)) ∧ Below w.heap.size w ((w3.setCell ⟨w.heap.size, 0, none⟩ (.slice pa na ca)).setCell ⟨w.heap.size, 1, none⟩ (.slice pb nb cb))) := by
            refine ⟨(hT3.set hT2).set hT2 |>.base (Nat.le_of_lt hT2), ?_⟩
            have b1 : Below w.heap.size w w3 := (HBW.out.trans (HB2.out.mono HBW.out.size)).trans (hb3.mono (Nat.le_of_lt hT2))
            have b2 := b1.grown (grownBy_setCell w3 w.heap.size 0 (.slice pa na ca)) b1.size (fun q hq => by injection hq with hq; omega)
            exact b2.grown (grownBy_setCell _ w.heap.size 1 (.slice pb nb cb)) b2.size (fun q hq => by injection hq with hq; omega)
          clear hh AR hT3 hb3 HB2
          go_wp2
          (try simp only [Exit.inBlock, Exit.then])
          refine bodyPost_ret (by simp [results, Tryz.results18, go_sem, x0, x1]; try rfl) rfl ?_
          exact ⟨_, rfl, DONE.out.1, DONE.out.2⟩
  · have c1 : (8 : Int) < (m : Int) := by omega
    have hz : Q = 30 := by rw [hQ.out, if_neg (fun h => h8 h.1)]
    subst hz
    clear hQ
    go_wp2
    go_returns
    exact ⟨_, rfl, fun h => absurd h (by decide), fun _ => rfl, by go_grown⟩

end Go.Proofs.YtiliaincniiijaaGreat

namespace Go.Proofs.YtiliaincniiijaaGreat
open Go.RowKit Go.Shelf
set_option linter.unusedVariables false

theorem nodup_len : ∀ (n : Nat) (l : List Nat), l.Nodup → (∀ c ∈ l, c < n) → l.length ≤ n
  | 0, l, _, h => by
    cases l with
    | nil => exact Nat.le_refl _
    | cons x l => exact absurd (h x (List.mem_cons_self ..)) (Nat.not_lt_zero _)
  | n + 1, l, hn, h => by
    have h2 := nodup_len n (l.erase n) (hn.erase n) (fun c hc => by
      have h3 := h c (List.mem_of_mem_erase hc)
      have h4 : c ≠ n := fun e => by subst e; exact (List.Nodup.not_mem_erase hn) hc
      omega)
    by_cases hm : n ∈ l
    · rw [List.length_erase_of_mem hm] at h2; omega
    · rw [List.erase_of_not_mem hm] at h2; omega
theorem idx_lt {vs : List ByteArray} {x : ByteArray} (h : ¬ Lib.idxOfS vs x < 0) : (Lib.idxOfS vs x).toNat < vs.length ∧ vs[(Lib.idxOfS vs x).toNat]? = some x := by
  have hx : x ∈ vs := (Lib.idxOfS_nonneg_iff _ _).1 (by omega)
  obtain ⟨i, hi, e⟩ := List.getElem_of_mem hx
  -- the first place of x
  have hex : ∃ k, ∃ hk : k < vs.length, vs[k] = x ∧ ∀ j (hj : j < k), vs[j]'(Nat.lt_trans hj hk) ≠ x := by
    clear h hx
    induction i using Nat.strongRecOn with
    | _ i ih =>
      by_cases hj : ∃ j, ∃ hj : j < i, vs[j]'(Nat.lt_trans hj hi) = x
      · obtain ⟨j, hj, ej⟩ := hj
        exact ih j hj (Nat.lt_trans hj hi) ej
      · exact ⟨i, hi, e, fun j hlt he => hj ⟨j, hlt, he⟩⟩
  obtain ⟨k, hk, ek, hne⟩ := hex
  have h1 := Lib.idxOfS_hit vs vs.length k x hk (Nat.le_refl _) (by simp [List.getD, hk, ek]) (fun j hj => by
    have hj' := Nat.lt_trans hj hk
    simp only [List.getD, List.getElem?_eq_getElem hj', Option.getD_some]
    exact hne j hj)
  rw [List.take_length] at h1
  rw [h1]
  simp [hk, ek]
theorem contI_any (U : Value) (us : List Nat) (x : Nat) (w : World) (h : IntsAt w U us) (lu : us.length ≤ 9223372036854775807) :
    Calls Tryz.prog 68 #[U, .int .i64 x] w fun e w' => e = .returned (.bool (decide (x ∈ us))) ∧ w' = w := by
  obtain ⟨p, c, rfl, rfl | ⟨b, off, rfl, hb, hs⟩⟩ := h
  · exact Tryz.slices_Contains_int_empty p c x w
  · have h := Tryz.slices_Contains_int b off us.length c (us.map Int.ofNat) x w (by simp) lu (fun j hj => by
      have hj' : j < us.length := by simpa using hj
      rw [hs j hj']; simp [List.getD, hj'])
    have e : ((us.map Int.ofNat).take us.length).contains (x : Int) = decide (x ∈ us) := by
      rw [List.take_of_length_le (by simp), Bool.eq_iff_iff, List.contains_iff_mem, List.mem_map, decide_eq_true_eq]
      constructor
      · rintro ⟨a, ha, e⟩
        have : a = x := by injection e
        rw [← this]; exact ha
      · intro hx; exact ⟨x, hx, rfl⟩
    rwa [e] at h

/-- The columns of wanted variables, unless one has none or stands there twice. -/
def colsO (vs : List ByteArray) : List Nat → List ByteArray → Option (List Nat)
  | acc, [] => some acc
  | acc, x :: l => if Lib.idxOfS vs x < 0 ∨ (Lib.idxOfS vs x).toNat ∈ acc then none else colsO vs (acc ++ [(Lib.idxOfS vs x).toNat]) l

set_option maxRecDepth 100000 in
set_option maxHeartbeats 2000000 in
theorem colsOf_any (V U : Value) (vs us : List ByteArray) (w : World) (hV : StrsAt w V vs) (hU : StrsAt w U us) (lv : vs.length ≤ 8) (lu : us.length ≤ 9223372036854775807) :
    Calls Tryz.prog 39 #[V, U] w fun e w' => ∃ v, e = .returned (.tuple #[v, .bool (colsO vs [] us).isSome]) ∧ (∀ cs, colsO vs [] us = some cs → OwnI w.heap.size v cs w') ∧ Below w.heap.size w w' := by
  obtain ⟨i0, hi, hz0, hz1, hz2⟩ := info_parts inI
  have ct : Hid (∀ (X : ByteArray) (W : World), Below w.heap.size w W → Calls Tryz.prog 67 #[V, .string X] W fun e w' => e = .returned (.int .i64 (Lib.idxOfS vs X)) ∧ w' = W) := fun X W hB => idxS_any V vs X W (hV.below hB) (by omega)
  obtain ⟨p, c, rfl⟩ := hU.form
  obtain ⟨p', c', rfl⟩ := hV.form
  have HU : Hid (∀ k (hk : k < us.length), ∃ b off, p = some ⟨b, off, none⟩ ∧ b < w.heap.size ∧ w.cell? ⟨b, off + k, none⟩ = some (.string us[k])) := hU.get.2
  obtain ⟨n, en⟩ : ∃ n : Nat, Hid (us.length = n) := ⟨_, rfl⟩
  obtain ⟨m, em⟩ : ∃ m : Nat, Hid (vs.length = m) := ⟨_, rfl⟩
  rw [en.out] at lu ⊢
  rw [em.out] at lv ct ⊢
  clear hV hU
  go_enter Tryz.func39, Tryz.ntmps39
  go_wp2
  go_loopw [6, 12] (fun v i wr => ∃ (k : Nat) (L : List Nat), k ≤ n ∧ i = .int .i64 k ∧ Hid (L.Nodup ∧ ∀ c ∈ L, c < m) ∧ Hid (colsO vs [] us = colsO vs L (us.drop k)) ∧ Hid (OwnI w.heap.size v L wr) ∧ Below w.heap.size w wr) (fun _ i _ => n - (intOf i).toNat)
  case atStart => exact ⟨0, [], Nat.zero_le _, rfl, ⟨List.nodup_nil, fun c h => by simp at h⟩, (show colsO vs [] us = colsO vs [] (us.drop 0) by simp), World.ownsRow_nil _ _ _ _, Below.refl _ _⟩
  case round =>
    obtain ⟨k, L, hk, rfl, hL, hr, hI, hB⟩ := hrel
    have lL : L.length ≤ 8 := by have := nodup_len m L hL.out.1 hL.out.2; omega
    by_cases hlt : k < n
    · have kx : k < us.length := by have := en.out; omega
      obtain ⟨b, off, rfl, hb, q1⟩ := HU.out k kx
      have q2 : wr.cell? ⟨b, off + k, none⟩ = some (.string us[k]) := (hB.cell (p := ⟨b, _, none⟩) hb).trans q1
      have hr2 : Hid (colsO vs [] us = if Lib.idxOfS vs us[k] < 0 ∨ (Lib.idxOfS vs us[k]).toNat ∈ L then none else colsO vs (L ++ [(Lib.idxOfS vs us[k]).toNat]) (us.drop (k + 1))) := by
        have h := hr.out
        rwa [List.drop_eq_getElem_cons kx] at h
      clear hr q1
      generalize us[k] = X at q2 hr2
      have ix : Hid (¬ Lib.idxOfS vs X < 0 → (Lib.idxOfS vs X).toNat < m) := fun h => by have := (idx_lt h).1; have := em.out; omega
      have ct1 : Hid (Calls Tryz.prog 67 #[.slice p' m c', .string X] wr fun e w' => e = .returned (.int .i64 (Lib.idxOfS vs X)) ∧ w' = wr) := ct.out X wr hB
      generalize Lib.idxOfS vs X = D at ct1 hr2 ix
      by_cases hD : D < 0
      · have hr3 : Hid (colsO vs [] us = none) := by have := hr2.out; rwa [if_pos (Or.inl hD)] at this
        clear hr2 ix
        go_wp2_with fail
        refine ct1.out.mono ?_
        rintro e w1 ⟨rfl, rfl⟩
        clear ct1 q2
        go_wp2
        go_ret2
        exact ⟨_, by rw [hr3.out]; rfl, fun cs h => (by rw [hr3.out] at h; cases h), hB⟩
      · obtain ⟨d, rfl⟩ : ∃ d : Nat, D = d := ⟨D.toNat, by omega⟩
        have hd : d < m := by have := ix.out hD; simpa using this
        have hr3 : Hid (colsO vs [] us = if d ∈ L then none else colsO vs (L ++ [d]) (us.drop (k + 1))) := by
          have h := hr2.out
          simp only [Int.toNat_natCast] at h
          by_cases hm : d ∈ L
          · rw [if_pos (Or.inr hm)] at h; show _ = _; rw [if_pos hm]; exact h
          · rw [if_neg (by intro h2; rcases h2 with h2 | h2; exact hD h2; exact hm h2)] at h; show _ = _; rw [if_neg hm]; exact h
        clear hr2 ix
        have ct2 : Hid (Calls Tryz.prog 68 #[u6, .int .i64 d] wr fun e w' => e = .returned (.bool (decide (d ∈ L))) ∧ w' = wr) := contI_any u6 L d wr hI.out.ints (by omega)
        obtain ⟨G, eG⟩ : ∃ G : Bool, Hid (decide (d ∈ L) = G) := ⟨_, rfl⟩
        rw [eG.out] at ct2
        go_wp2_with fail
        refine ct1.out.mono ?_
        rintro e w1 ⟨rfl, rfl⟩
        clear ct1 q2
        go_wp2_with fail
        refine ct2.out.mono ?_
        rintro e w2 ⟨rfl, rfl⟩
        clear ct2
        cases G with
        | true =>
          have hr4 : Hid (colsO vs [] us = none) := by have := hr3.out; rwa [if_pos (of_decide_eq_true eG.out)] at this
          clear hr3
          go_wp2
          go_ret2
          exact ⟨_, by rw [hr4.out]; rfl, fun cs h => (by rw [hr4.out] at h; cases h), hB⟩
        | false =>
          have hnm : d ∉ L := of_decide_eq_false eG.out
          have hr4 : Hid (colsO vs [] us = colsO vs (L ++ [d]) (us.drop (k + 1))) := by have := hr3.out; rwa [if_neg hnm] at this
          have hL2 : Hid ((L ++ [d]).Nodup ∧ ∀ c ∈ L ++ [d], c < m) := by
            refine ⟨?_, fun c hc => ?_⟩
            · rw [List.nodup_append]
              exact ⟨hL.out.1, by simp, fun a ha b hb => by simp at hb; subst hb; exact fun e => hnm (e ▸ ha)⟩
            · rcases List.mem_append.1 hc with h | h
              · exact hL.out.2 c h
              · simp at h; omega
          clear hr3 hnm
          have hsz := hB.size
          have HK : Hid (∀ q, u6.ownBlock = some q → w.heap.size ≤ q) := fun q hq => (World.ownsRow.lt hI.out q hq).1
          go_wp2_with (at_builtin; refine wpList_append_own _ rfl (.tmp 26) (.tmp 28) 54 rfl w.heap.size 3 i0 (.int .i64 0) 1 8 Tryz.underlying54 hi hz0 hz1 hz2 rfl (by decide) _ _ _ rfl (World.ownsRow.alloc hI.out _) ⟨w2.heap.size, 0, none⟩ 1 1 [encN d] rfl rfl ?c1 ?c2 (by unfold maxLen; omega) (by omega) (by simp; omega) ?grow)
          case c1 => (intro j u hj; rw [Addr.add_lit]; (rcases j with _ | j) <;> simp at hj; subst hj; simp (maxDischargeDepth := 12) [go_sem, encN])
          case c2 => (intro u hu; simp at hu; subst hu; rfl)
          case grow =>
            intro v' w3 h2 h3 _
            have o2 : Hid (OwnI w.heap.size v' (L ++ [d]) w3) := ownI_more h2
            have K2 : Below w.heap.size w w3 := Below.grown (hB.alloc hsz _) h3 (by simp; omega) HK.out
            clear h2 h3 hI HK
            go_wp2
            exact ⟨⟨k + 1, L ++ [d], by omega, by go_num, hL2, hr4, o2, K2⟩, by simp [intOf]; omega⟩
    · have c2 : ¬ (k : Int) < n := by omega
      have hr4 : Hid (colsO vs [] us = some L) := by
        have h := hr.out
        rw [List.drop_eq_nil_of_le (by have := en.out; omega)] at h
        exact h
      clear hr
      go_wp2
      go_ret2
      exact ⟨u6, by rw [hr4.out]; rfl, fun cs h => (by rw [hr4.out] at h; injection h with h; rw [← h]; exact hI.out), hB⟩

end Go.Proofs.YtiliaincniiijaaGreat

namespace Go.Proofs.YtiliaincniiijaaGreat
open Go.RowKit Go.Shelf
set_option linter.unusedVariables false

/-- The places, in the one and in the other. -/
def bothL (us : List ByteArray) : Nat → List ByteArray → List (Nat × Nat)
  | _, [] => []
  | k, x :: l => if Lib.idxOfS us x < 0 then bothL us (k + 1) l else (k, (Lib.idxOfS us x).toNat) :: bothL us (k + 1) l

set_option maxRecDepth 100000 in
set_option maxHeartbeats 2000000 in
theorem cboth_any (V U : Value) (vs us : List ByteArray) (w : World) (hV : StrsAt w V vs) (hU : StrsAt w U us) (lv : vs.length ≤ 1000000) (lu : us.length ≤ 9223372036854775807) :
    Calls Tryz.prog 49 #[V, U] w fun e w' => ∃ v v', e = .returned (.tuple #[v, v']) ∧ OwnI w.heap.size v ((bothL us 0 vs).map (·.1)) w' ∧ OwnI w.heap.size v' ((bothL us 0 vs).map (·.2)) w' ∧ Below w.heap.size w w' := by
  obtain ⟨i0, hi, hz0, hz1, hz2⟩ := info_parts inI
  have ct : Hid (∀ (X : ByteArray) (W : World), Below w.heap.size w W → Calls Tryz.prog 67 #[U, .string X] W fun e w' => e = .returned (.int .i64 (Lib.idxOfS us X)) ∧ w' = W) := fun X W hB => idxS_any U us X W (hU.below hB) lu
  obtain ⟨p, c, rfl⟩ := hV.form
  have HV : Hid (∀ k (hk : k < vs.length), ∃ b off, p = some ⟨b, off, none⟩ ∧ b < w.heap.size ∧ w.cell? ⟨b, off + k, none⟩ = some (.string vs[k])) := hV.get.2
  obtain ⟨n, en⟩ : ∃ n : Nat, Hid (vs.length = n) := ⟨_, rfl⟩
  rw [en.out] at lv ⊢
  clear hV hU lu
  go_enter Tryz.func49, Tryz.ntmps49
  go_wp2
  go_loopw [4, 5, 11] (fun v v' i wr => ∃ (k : Nat) (L : List (Nat × Nat)), k ≤ n ∧ i = .int .i64 k ∧ L.length ≤ k ∧ Hid (bothL us 0 vs = L ++ bothL us k (vs.drop k)) ∧ Hid (OwnI w.heap.size v (L.map (·.1)) wr) ∧ Hid (OwnI w.heap.size v' (L.map (·.2)) wr) ∧ Hid (v.ownBlock = none ∨ v.ownBlock ≠ v'.ownBlock) ∧ Below w.heap.size w wr) (fun _ _ i _ => n - (intOf i).toNat)
  case atStart => exact ⟨0, [], Nat.zero_le _, rfl, Nat.le_refl _, (show bothL us 0 vs = [] ++ bothL us 0 (vs.drop 0) by simp), World.ownsRow_nil _ _ _ _, World.ownsRow_nil _ _ _ _, Or.inl rfl, Below.refl _ _⟩
  case round =>
    obtain ⟨k, L, hk, rfl, hL, hr, hI, hJ, hN, hB⟩ := hrel
    by_cases hlt : k < n
    · have kx : k < vs.length := by have := en.out; omega
      obtain ⟨b, off, rfl, hb, q1⟩ := HV.out k kx
      have q2 : wr.cell? ⟨b, off + k, none⟩ = some (.string vs[k]) := (hB.cell (p := ⟨b, _, none⟩) hb).trans q1
      have hr2 : Hid (bothL us 0 vs = L ++ (if Lib.idxOfS us vs[k] < 0 then bothL us (k + 1) (vs.drop (k + 1)) else (k, (Lib.idxOfS us vs[k]).toNat) :: bothL us (k + 1) (vs.drop (k + 1)))) := by
        have h := hr.out
        rwa [List.drop_eq_getElem_cons kx] at h
      clear hr q1
      generalize vs[k] = X at q2 hr2
      have ct1 : Hid (Calls Tryz.prog 67 #[U, .string X] wr fun e w' => e = .returned (.int .i64 (Lib.idxOfS us X)) ∧ w' = wr) := ct.out X wr hB
      generalize Lib.idxOfS us X = D at ct1 hr2
      by_cases hD : D < 0
      · have hr3 : Hid (bothL us 0 vs = L ++ bothL us (k + 1) (vs.drop (k + 1))) := by have := hr2.out; rwa [if_pos hD] at this
        clear hr2
        have hD' : ¬ (0 : Int) ≤ D := by omega
        go_wp2_with fail
        refine ct1.out.mono ?_
        rintro e w1 ⟨rfl, rfl⟩
        clear ct1 q2
        go_wp2
        exact ⟨⟨k + 1, L, by omega, by go_num, by omega, hr3, hI, hJ, hN, hB⟩, by simp [intOf]; omega⟩
      · obtain ⟨d, rfl⟩ : ∃ d : Nat, D = d := ⟨D.toNat, by omega⟩
        have hr3 : Hid (bothL us 0 vs = (L ++ [(k, d)]) ++ bothL us (k + 1) (vs.drop (k + 1))) := by
          have h := hr2.out
          rw [if_neg hD] at h
          show bothL us 0 vs = (L ++ [(k, d)]) ++ bothL us (k + 1) (vs.drop (k + 1))
          rw [h]
          simp
        clear hr2
        go_wp2_with fail
        refine ct1.out.mono ?_
        rintro e w1 ⟨rfl, rfl⟩
        clear ct1 q2
        have hsz := hB.size
        have HK : Hid (∀ q, u4.ownBlock = some q → w.heap.size ≤ q) := fun q hq => (World.ownsRow.lt hI.out q hq).1
        have HK' : Hid (∀ q, u5.ownBlock = some q → w.heap.size ≤ q ∧ q < w1.heap.size) := World.ownsRow.lt hJ.out
        go_wp2_with (at_builtin; refine wpList_append_own_at _ rfl (.tmp 21) (.tmp 23) 54 rfl w.heap.size 3 i0 (.int .i64 0) 1 8 Tryz.underlying54 hi hz0 hz1 hz2 rfl (by decide) _ _ _ rfl (World.ownsRow.alloc hI.out _) ⟨w1.heap.size, 0, none⟩ 1 1 [encN k] rfl rfl ?c1 ?c2 (by unfold maxLen; simp; omega) (by simp; omega) (by simp; omega) ?grow)
        case c1 => (intro j u hj; rw [Addr.add_lit]; (rcases j with _ | j) <;> simp at hj; subst hj; simp (maxDischargeDepth := 12) [go_sem, encN])
        case c2 => (intro u hu; simp at hu; subst hu; rfl)
        case grow =>
          intro v' w3 h2 h3 _ hat
          have o2 : Hid (OwnI w.heap.size v' ((L ++ [(k, d)]).map (·.1)) w3) := by
            show OwnI _ _ _ _
            rw [List.map_append]
            exact ownI_more (by rw [List.length_map, List.map_map]; exact h2)
          have K2 : Below w.heap.size w w3 := Below.grown (hB.alloc hsz _) h3 (by simp; omega) HK.out
          have J2 : Hid (OwnI w.heap.size u5 (L.map (·.2)) w3) := by
            refine World.ownsRow.kept (World.ownsRow.alloc hJ.out _) h3 ?_
            rcases hN.out with h | h
            · by_cases h5 : u5.ownBlock = none
              · exact Or.inl h5
              · exact Or.inr (by rw [h]; exact h5)
            · exact Or.inr (Ne.symm h)
          have N2 : Hid (v'.ownBlock = none ∨ v'.ownBlock ≠ u5.ownBlock) := by
            rcases hat with h | h
            · rw [h]; exact hN.out
            · refine Or.inr fun e => ?_
              rw [h] at e
              have := (HK'.out _ e.symm).2
              omega
          have h1 := h3.size
          simp at h1
          have hs3 : w1.heap.size < w3.heap.size := by omega
          clear h2 h3 hat hI HK hJ hN HK' h1
          have hsz3 := K2.size
          have HK5 : Hid (∀ q, u5.ownBlock = some q → w.heap.size ≤ q) := fun q hq => (World.ownsRow.lt J2.out q hq).1
          have HK6 : Hid (∀ q, v'.ownBlock = some q → w.heap.size ≤ q ∧ q < w3.heap.size) := World.ownsRow.lt o2.out
          go_wp2_with (at_builtin; refine wpList_append_own_at _ rfl (.tmp 25) (.tmp 27) 54 rfl w.heap.size 3 i0 (.int .i64 0) 1 8 Tryz.underlying54 hi hz0 hz1 hz2 rfl (by decide) _ _ _ rfl (World.ownsRow.alloc J2.out _) ⟨w3.heap.size, 0, none⟩ 1 1 [encN d] rfl rfl ?d1 ?d2 (by unfold maxLen; simp; omega) (by simp; omega) (by simp; omega) ?grow2)
          case d1 => (intro j u hj; rw [Addr.add_lit]; (rcases j with _ | j) <;> simp at hj; subst hj; simp (maxDischargeDepth := 12) [go_sem, encN])
          case d2 => (intro u hu; simp at hu; subst hu; rfl)
          case grow2 =>
            intro v2 w4 g2 g3 _ gat
            have p2 : Hid (OwnI w.heap.size v2 ((L ++ [(k, d)]).map (·.2)) w4) := by
              show OwnI _ _ _ _
              rw [List.map_append]
              exact ownI_more (by rw [List.length_map, List.map_map]; exact g2)
            have K3 : Below w.heap.size w w4 := Below.grown (K2.alloc hsz3 _) g3 (by simp; omega) HK5.out
            have J3 : Hid (OwnI w.heap.size v' ((L ++ [(k, d)]).map (·.1)) w4) := World.ownsRow.kept (World.ownsRow.alloc o2.out _) g3 N2.out
            have N3 : Hid (v'.ownBlock = none ∨ v'.ownBlock ≠ v2.ownBlock) := by
              rcases gat with h | h
              · rw [h]; exact N2.out
              · refine Or.inr fun e => ?_
                rw [h] at e
                have := (HK6.out _ e).2
                omega
            clear g2 g3 gat o2 J2 N2 HK5 HK6 K2
            go_wp2
            exact ⟨⟨k + 1, L ++ [(k, d)], by omega, by go_num, by simp; omega, hr3, J3, p2, N3, K3⟩, by simp [intOf]; omega⟩
    · have c2 : ¬ (k : Int) < n := by omega
      have hf : Hid (OwnI w.heap.size u4 ((bothL us 0 vs).map (·.1)) wr ∧ OwnI w.heap.size u5 ((bothL us 0 vs).map (·.2)) wr) := by
        have h := hr.out
        rw [List.drop_eq_nil_of_le (by have := en.out; omega)] at h
        simp only [bothL, List.append_nil] at h
        rw [h]
        exact ⟨hI.out, hJ.out⟩
      clear hI hJ hr
      go_wp2
      go_ret2
      exact ⟨u4, u5, rfl, hf.out.1, hf.out.2, hB⟩

end Go.Proofs.YtiliaincniiijaaGreat

namespace Go.Proofs.YtiliaincniiijaaGreat
open Go.RowKit Go.Shelf
set_option linter.unusedVariables false

def val0 : Val := ⟨0, 0, 0, ⟨#[]⟩⟩
/-- A key's values: those that are there, and nothing behind them. -/
def padK (xs : List Val) : List Val := xs ++ List.replicate (8 - xs.length) val0
theorem padK_len {xs : List Val} (h : xs.length ≤ 8) : (padK xs).length = 8 := by simp [padK]; omega

theorem own_setCells4 {B e n cap g size : Nat} : ∀ (vs : List Value) (o : Nat) (w : World) {xs : List Value}, w.ownsRow B e size (.slice (some ⟨g, 0, none⟩) n cap) n xs → ∃ ys, (w.setCells g o vs).ownsRow B e size (.slice (some ⟨g, 0, none⟩) n cap) n ys ∧ True ∧ w.grownBy (w.setCells g o vs) (some g)
  | [], o, w, xs, h => ⟨xs, h, trivial, ⟨rfl, rfl, rfl, Nat.le_refl _, fun _ _ _ => rfl⟩⟩
  | v :: vs, o, w, xs, h => by
    obtain ⟨s1, s2⟩ := h.stored o v
    obtain ⟨ys, h1, -, h3⟩ := own_setCells4 vs (o + 1) _ s1
    exact ⟨ys, h1, trivial, grown_trans s2 h3⟩

set_option maxRecDepth 100000 in
set_option maxHeartbeats 2000000 in
theorem keyOf_any (V C : Value) (vs : List Val) (cs : List Nat) (w : World) (hV : RowAt w V vs) (hC : IntsAt w C cs) (hcs : ∀ c ∈ cs, c < vs.length) (lv : vs.length ≤ 9223372036854775807) (lc : cs.length ≤ 8) :
    Calls Tryz.prog 51 #[V, C] w fun e w' => e = .returned (.agg (flat (padK (picks vs cs))).toArray) ∧ Below w.heap.size w w' := by
  obtain ⟨p, c, rfl⟩ := hV.form
  obtain ⟨p', c', rfl⟩ := hC.form
  obtain ⟨n, en⟩ : ∃ n : Nat, Hid (cs.length = n) := ⟨_, rfl⟩
  obtain ⟨m, em⟩ : ∃ m : Nat, Hid (vs.length = m) := ⟨_, rfl⟩
  have HV : Hid (∀ i (hi : i < vs.length), ∃ b off, p = some ⟨b, off, none⟩ ∧ b < w.heap.size ∧ w.cell? ⟨b, off + i * 4, none⟩ = some (.int .i64 vs[i].k) ∧ w.cell? ⟨b, off + i * 4 + 1, none⟩ = some (.int .i64 vs[i].n) ∧ w.cell? ⟨b, off + i * 4 + 2, none⟩ = some (.int .i64 vs[i].d) ∧ w.cell? ⟨b, off + i * 4 + 3, none⟩ = some (.string vs[i].s)) := hV.get.2
  have HC : Hid (∀ k (hk : k < cs.length), ∃ b off, p' = some ⟨b, off, none⟩ ∧ b < w.heap.size ∧ w.cell? ⟨b, off + k, none⟩ = some (.int .i64 cs[k])) := hC.get.2
  rw [en.out] at lc ⊢
  rw [em.out] at lv ⊢
  clear hV hC
  go_enter Tryz.func51, Tryz.ntmps51
  go_wp2
  go_loopw [10] (fun i wr => ∃ (k : Nat), k ≤ n ∧ i = .int .i64 k ∧ Hid (∃ xs : List Value, wr.ownsRow (w.heap.size + 1) 79 4 (.slice (some ⟨w.heap.size + 1, 0, none⟩) 8 8) 8 xs ∧ (∀ j (hj : j < cs.length), j < k → ∀ t, t < 4 → xs[j * 4 + t]? = (vs[cs[j]]?).bind fun x => (vcells x)[t]?) ∧ ∀ j, k ≤ j → j < 8 → ∀ t, t < 4 → xs[j * 4 + t]? = (vcells val0)[t]?) ∧ Hid (wr.ownsRow w.heap.size 79 4 (.slice (some ⟨w.heap.size, 0, none⟩) 8 8) 8 (flat (List.replicate 8 val0))) ∧ Below w.heap.size w wr) (fun i _ => n - (intOf i).toNat)
  case atStart =>
    refine ⟨0, Nat.zero_le _, rfl, ?_, ?_, by go_grown⟩
    · refine ⟨flat (List.replicate 8 val0), ?_, fun j hj h => absurd h (Nat.not_lt_zero _), fun j _ hj t ht => ?_⟩
      · have h := World.ownsRow_lit (base := w.heap.size + 1) (e := 79) (size := 4) (w.alloc (.cells (flat (List.replicate 8 val0)).toArray 79)) (flat (List.replicate 8 val0)).toArray 8 (by simp) (by unfold maxLen; omega) rfl
        rw [show (w.alloc (.cells (flat (List.replicate 8 val0)).toArray 79)).heap.size = w.heap.size + 1 by simp] at h
        exact h
      · rw [flat_get _ j t (by simpa using hj) ht, List.getElem_replicate]
    · exact World.ownsRow.alloc (World.ownsRow_lit (base := w.heap.size) (e := 79) (size := 4) w (flat (List.replicate 8 val0)).toArray 8 (Nat.le_refl _) (by unfold maxLen; omega) rfl) _
  case round =>
    obtain ⟨k, hk, rfl, hI, hJ, hB⟩ := hrel
    by_cases hlt : k < n
    · have kx : k < cs.length := by have := en.out; omega
      obtain ⟨b', off', rfl, hb', q1⟩ := HC.out k kx
      have q2 : wr.cell? ⟨b', off' + k, none⟩ = some (.int .i64 cs[k]) := (hB.cell (p := ⟨b', _, none⟩) hb').trans q1
      have cx : cs[k] < vs.length := hcs _ (List.getElem_mem kx)
      obtain ⟨b, off, rfl, hb, r0, r1, r2, r3⟩ := HV.out cs[k] cx
      have a0 := (hB.cell (p := ⟨b, off + cs[k] * 4, none⟩) hb).trans r0
      have a1 := (hB.cell (p := ⟨b, off + cs[k] * 4 + 1, none⟩) hb).trans r1
      have a2 := (hB.cell (p := ⟨b, off + cs[k] * 4 + 2, none⟩) hb).trans r2
      have a3 := (hB.cell (p := ⟨b, off + cs[k] * 4 + 3, none⟩) hb).trans r3
      obtain ⟨xs, ho, hx, hy⟩ := hI.out
      have k8 : k < 8 := by omega
      have xk : k * 4 + 3 < xs.length := by rw [ho.1]; omega
      have q50 : wr.cell? ⟨w.heap.size + 1, k * 4, none⟩ = xs[k * 4]? := ho.cellAt _ (by omega)
      have q51 : wr.cell? ⟨w.heap.size + 1, k * 4 + 1, none⟩ = xs[k * 4 + 1]? := ho.cellAt _ (by omega)
      have q52 : wr.cell? ⟨w.heap.size + 1, k * 4 + 2, none⟩ = xs[k * 4 + 2]? := ho.cellAt _ (by omega)
      have q53 : wr.cell? ⟨w.heap.size + 1, k * 4 + 3, none⟩ = xs[k * 4 + 3]? := ho.cellAt _ (by omega)
      rw [List.getElem?_eq_getElem (by omega)] at q50 q51 q52 q53
      have q60 : wr.frozen? ⟨w.heap.size + 1, k * 4, none⟩ = false := ho.frozenAt _
      have q61 : wr.frozen? ⟨w.heap.size + 1, k * 4 + 1, none⟩ = false := ho.frozenAt _
      have q62 : wr.frozen? ⟨w.heap.size + 1, k * 4 + 2, none⟩ = false := ho.frozenAt _
      have q63 : wr.frozen? ⟨w.heap.size + 1, k * 4 + 3, none⟩ = false := ho.frozenAt _
      have cm : cs[k] < m := by have := em.out; omega
      have HX : Hid (vs[cs[k]]? = some vs[cs[k]]) := List.getElem?_eq_getElem cx
      generalize vs[cs[k]] = X at a0 a1 a2 a3 HX
      obtain ⟨s1, g1⟩ := ho.stored (k * 4) (.int .i64 X.k)
      obtain ⟨s2, g2⟩ := s1.stored (k * 4 + 1) (.int .i64 X.n)
      obtain ⟨s3, g3⟩ := s2.stored (k * 4 + 2) (.int .i64 X.d)
      obtain ⟨s4, g4⟩ := s3.stored (k * 4 + 3) (.string X.s)
      have hb1 := hB.size
      have hq : ∀ q, (some (w.heap.size + 1) : Option Nat) = some q → w.heap.size ≤ q := fun q hq => by injection hq with hq; omega
      have K1 := hB.grown g1 hb1 hq
      have K2 := K1.grown g2 K1.size hq
      have K3 := K2.grown g3 K2.size hq
      have K4 := K3.grown g4 K3.size hq
      have J4 : Hid (((((wr.setCell ⟨w.heap.size + 1, k * 4, none⟩ (.int .i64 X.k)).setCell ⟨w.heap.size + 1, k * 4 + 1, none⟩ (.int .i64 X.n)).setCell ⟨w.heap.size + 1, k * 4 + 2, none⟩ (.int .i64 X.d)).setCell ⟨w.heap.size + 1, k * 4 + 3, none⟩ (.string X.s)).ownsRow w.heap.size 79 4 (.slice (some ⟨w.heap.size, 0, none⟩) 8 8) 8 (flat (List.replicate 8 val0))) := by
        have hne : (Value.slice (some ⟨w.heap.size, 0, none⟩) 8 8).ownBlock = none ∨ (Value.slice (some ⟨w.heap.size, 0, none⟩) 8 8).ownBlock ≠ some (w.heap.size + 1) := Or.inr (by intro h; injection h with h; simp at h)
        exact World.ownsRow.kept (World.ownsRow.kept (World.ownsRow.kept (World.ownsRow.kept hJ.out g1 hne) g2 hne) g3 hne) g4 hne
      clear K1 K2 K3 g1 g2 g3 g4 s1 s2 s3 hq
      have o2 : Hid (∃ xs : List Value, ((((wr.setCell ⟨w.heap.size + 1, k * 4, none⟩ (.int .i64 X.k)).setCell ⟨w.heap.size + 1, k * 4 + 1, none⟩ (.int .i64 X.n)).setCell ⟨w.heap.size + 1, k * 4 + 2, none⟩ (.int .i64 X.d)).setCell ⟨w.heap.size + 1, k * 4 + 3, none⟩ (.string X.s)).ownsRow (w.heap.size + 1) 79 4 (.slice (some ⟨w.heap.size + 1, 0, none⟩) 8 8) 8 xs ∧ (∀ j (hj : j < cs.length), j < k + 1 → ∀ t, t < 4 → xs[j * 4 + t]? = (vs[cs[j]]?).bind fun x => (vcells x)[t]?) ∧ ∀ j, k + 1 ≤ j → j < 8 → ∀ t, t < 4 → xs[j * 4 + t]? = (vcells val0)[t]?) := ⟨_, s4, fun j hj h t ht => by
        by_cases hjk : j = k
        · subst hjk
          rw [HX.out]
          rcases t with _ | _ | _ | _ | t
          · simp only [Nat.add_zero]; rw [List.getElem?_set_ne (by omega), List.getElem?_set_ne (by omega), List.getElem?_set_ne (by omega), List.getElem?_set_self (by omega)]; rfl
          · rw [List.getElem?_set_ne (by omega), List.getElem?_set_ne (by omega), List.getElem?_set_self (by simp; omega)]; rfl
          · rw [List.getElem?_set_ne (by omega), List.getElem?_set_self (by simp; omega)]; rfl
          · rw [List.getElem?_set_self (by simp; omega)]; rfl
          · omega
        · rw [List.getElem?_set_ne (by omega), List.getElem?_set_ne (by omega), List.getElem?_set_ne (by omega), List.getElem?_set_ne (by omega)]
          exact hx j hj (by omega) t ht, fun j hj h t ht => by
        rw [List.getElem?_set_ne (by omega), List.getElem?_set_ne (by omega), List.getElem?_set_ne (by omega), List.getElem?_set_ne (by omega)]
        exact hy j (by omega) h t ht⟩
      clear s4 hx hy ho hI q1 r0 r1 r2 r3 hJ
      generalize cs[k] = C at q2 a0 a1 a2 a3 cm cx
      generalize xs[k * 4] = Y0 at q50
      generalize xs[k * 4 + 1] = Y1 at q51
      generalize xs[k * 4 + 2] = Y2 at q52
      generalize xs[k * 4 + 3] = Y3 at q53
      go_wp2
      exact ⟨⟨k + 1, by omega, by go_num, o2, J4, K4⟩, by simp [intOf]; omega⟩
    · have c2 : ¬ (k : Int) < n := by omega
      obtain ⟨xs, ho, hx, hy⟩ := hI.out
      have hlen := picks_len hcs
      have hn := en.out
      have hpl : (padK (picks vs cs)).length = 8 := padK_len (by omega)
      have hfl : (flat (padK (picks vs cs))).length = 32 := by rw [flat_len, hpl]
      have e1 : xs = flat (padK (picks vs cs)) := by
        apply List.ext_getElem?
        intro q
        by_cases hq : q < 32
        · have e2 : q = q / 4 * 4 + q % 4 := by omega
          have hp : q / 4 < (padK (picks vs cs)).length := by omega
          have h2 := flat_get (padK (picks vs cs)) (q / 4) (q % 4) hp (by omega)
          by_cases hj : q / 4 < cs.length
          · have h1 := hx (q / 4) hj (by omega) (q % 4) (by omega)
            have hpj : q / 4 < (picks vs cs).length := by omega
            have h3 := picks_get hcs (q / 4) hj
            rw [List.getElem?_eq_getElem hpj] at h3
            have h4 : (padK (picks vs cs))[q / 4] = (picks vs cs)[q / 4] := List.getElem_append_left hpj
            rw [← e2] at h1 h2
            rw [h1, h2, ← h3, h4]
            rfl
          · have h1 := hy (q / 4) (by omega) (by omega) (q % 4) (by omega)
            have h5 : (padK (picks vs cs))[q / 4]? = some val0 := by
              unfold padK
              rw [List.getElem?_append_right (by omega), List.getElem?_replicate, if_pos (by omega)]
            have h4 : (padK (picks vs cs))[q / 4] = val0 := by
              rw [List.getElem?_eq_getElem hp] at h5
              injection h5
            rw [← e2] at h1 h2
            rw [h1, h2, h4]
        · rw [List.getElem?_eq_none (by rw [ho.1]; omega), List.getElem?_eq_none (by omega)]
      subst e1
      have hsize : (Tryz.prog.info? 79).map (·.size) = some (flat (padK (picks vs cs))).length := by rw [hfl]; kernel_rfl
      have hld : wr.rangeAt (w.heap.size + 1) 0 (flat (padK (picks vs cs))) := fun j v hv => by
        have hj := (List.getElem?_eq_some_iff.1 hv).1
        rw [Nat.zero_add, ho.cellAt j (by omega)]
        exact hv
      have hth : wr.there w.heap.size 0 (flat (padK (picks vs cs))).toArray.size := fun j hj => by
        have hj' : j < 32 := by simpa [hfl] using hj
        have h0 : j < (flat (List.replicate 8 val0)).length := by rw [flat_len]; simpa using hj'
        rw [Nat.zero_add]
        exact ⟨by rw [hJ.out.cellAt j (by omega), List.getElem?_eq_getElem h0]; rfl, hJ.out.frozenAt j⟩
      have h1c : (flat (padK (picks vs cs))).toArray.all (·.oneCell') = true := by
        rw [List.all_toArray, List.all_eq_true]
        exact flat_one _
      have hres : (wr.setCells w.heap.size 0 (flat (padK (picks vs cs)))).rangeAt w.heap.size 0 (flat (padK (picks vs cs))) := fun j v hv => by
        have hj := (List.getElem?_eq_some_iff.1 hv).1
        have h := World.cell?_setCells_in w.heap.size (flat (padK (picks vs cs))) 0 wr (fun j hj => (hth j (by simpa using hj)).1) j hj
        rw [h, ← List.getElem?_eq_getElem hj]
        exact hv
      obtain ⟨zs, -, -, hgs⟩ := own_setCells4 (flat (padK (picks vs cs))) 0 wr hJ.out
      have HB : Hid (Below w.heap.size w (wr.setCells w.heap.size 0 (flat (padK (picks vs cs))))) := hB.grown hgs hB.size (fun q hq => by injection hq with hq; omega)
      clear hx hy ho hI hJ hgs
      have hrun : (loadVar 79 ⟨w.heap.size, 0, none⟩).run Tryz.prog (wr.setCells w.heap.size 0 (flat (padK (picks vs cs)))) = .ok (.agg (flat (padK (picks vs cs))).toArray) (wr.setCells w.heap.size 0 (flat (padK (picks vs cs)))) := run_loadVar_mid _ w.heap.size 0 79 _ _ hres Tryz.underlying79 rfl hsize
      obtain ⟨KS, eKS⟩ : ∃ KS, Hid (flat (padK (picks vs cs)) = KS) := ⟨_, rfl⟩
      rw [eKS.out] at hfl hsize hld hth h1c hres HB hrun
      have HR : Hid ((loadVar 79 ⟨w.heap.size, 0, none⟩).run Tryz.prog (wr.setCells w.heap.size 0 KS) = .ok (.agg KS.toArray) (wr.setCells w.heap.size 0 KS)) := hrun
      clear hrun hres
      go_wp2_with (first | (refine wpList_load_mid rfl 79 (.tmp 5) rfl (w.heap.size + 1) 0 rfl KS _ hld Tryz.underlying79 rfl hsize ?_) | (refine wpList_store_mid rfl 79 (.tmp 4) (.tmp 22) rfl w.heap.size 0 KS.toArray rfl rfl hth (by simpa using hsize) h1c ?_))
      have hrun := HR.out
      (try simp only [Exit.inBlock, Exit.then])
      refine bodyPost_ret (by simp [results, Tryz.results51, asAddr, hrun]; try rfl) rfl ?_
      exact ⟨by rw [eKS.out], HB.out⟩

end Go.Proofs.YtiliaincniiijaaGreat
