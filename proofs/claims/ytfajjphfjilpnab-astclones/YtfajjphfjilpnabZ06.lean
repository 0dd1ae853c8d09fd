/- The law AstClones at any formula that is not too great. -/
import Derived.Test.YtfajjphfjilpnabZ05
import Derived.Test.YtfajjphfjilpnabZ01
import Derived.Deep.QuietTactic
import Derived.Deep.RegionHeld3
import Derived.Test.YtfajjphfjilpnabZ04

namespace Go.Proofs.Ytfajjphfjilpnab
open Go.RowKit LX Go.Shelf
set_option linter.unusedVariables false

set_option maxRecDepth 100000 in
set_option maxHeartbeats 8000000 in
theorem spoil_any (B : Nat) (w0 : World) : ∀ (m : Nat) (f : Fm) (y : FQ) (w : World), SizeOf.sizeOf f ≤ m → QOwn (fun b => B ≤ b) w0 (f, y) → Spt B w0 w → Calls Try.prog 14 #[.agg #[.int .i64 f.k, .string f.nm, .int .i64 f.op, y.v, y.t, .int .i64 f.lo, .int .i64 f.hi, .bool f.opn, y.s, y.r]] w (SpOut B w0 w) := by
  intro m
  induction m with
  | zero => intro f y w hm; cases f; simp at hm
  | succ m ih =>
    intro f y w hm hQ hS
    obtain ⟨uv, ut, us, ur⟩ := y
    obtain ⟨h1, h2, h3, h4⟩ := hQ
    dsimp only at h1 h2 h3 h4 ⊢
    obtain ⟨pv, cv, rfl, hcv, HV0⟩ := rowS_form (B := B) h1.1 h1.2.2
    have hlv := h1.2.1
    obtain ⟨pst, est, hlt0, -, rowt, plt, -⟩ := h2
    obtain ⟨pt, ct, rfl, hct, HT0⟩ := rowS_form (B := B) rowt plt
    obtain ⟨pss, ess, hls, rows, pls, sv, stt, ss, sr⟩ := h3
    obtain ⟨ps, cs, rfl, hcs, HF0⟩ := rowS_form (B := B) rows pls
    obtain ⟨psr, esr, hlr, rowr, plr, rt, rs⟩ := h4
    obtain ⟨pr, cr, rfl, hcr, HR0⟩ := rowS_form (B := B) rowr plr
    have HM : Hid (SizeOf.sizeOf f ≤ m + 1) := hm
    have HSL : Hid (SizeOf.sizeOf f.subs < SizeOf.sizeOf f) := f.subs_lt
    have IH : Hid (_) := ih
    have HES : Hid (pss.map Prod.fst = f.subs) := ess
    have HER : Hid (psr.map Prod.fst = f.rgx) := esr
    have HQS : Hid (∀ x ∈ pss, QOwn (fun b => B ≤ b) w0 x) := fun x hx => ⟨sv x hx, stt x hx, ss x hx, sr x hx⟩
    have HRT : Hid (∀ x ∈ psr, FmsOwn (fun b => B ≤ b) w0 x.2.1 x.1.test) := rt
    obtain ⟨nv, env⟩ : ∃ n : Nat, Hid (f.vars.length = n) := ⟨_, rfl⟩
    obtain ⟨nt, ent⟩ : ∃ n : Nat, Hid (f.terms.length = n) := ⟨_, rfl⟩
    obtain ⟨ns, ens⟩ : ∃ n : Nat, Hid (f.subs.length = n) := ⟨_, rfl⟩
    obtain ⟨nr, enr⟩ : ∃ n : Nat, Hid (f.rgx.length = n) := ⟨_, rfl⟩
    rw [env.out] at hcv HV0 hlv ⊢
    rw [ent.out] at hct HT0 hlt0 ⊢
    rw [ens.out] at hcs HF0 hls ⊢
    rw [enr.out] at hcr HR0 hlr ⊢
    have HV : Hid (∀ i, i < nv → ∃ g cur, pv = some ⟨g, 0, none⟩ ∧ B ≤ g ∧ w0.heap[g]? = some (.cells cur 9 (0, 0)) ∧ nv * 1 ≤ cur.size ∧ ∀ m, m < nv * 1 → cur[m]? = (f.vars.map Value.string)[m]?) := HV0
    have HT : Hid (∀ i, i < nt → ∃ g cur, pt = some ⟨g, 0, none⟩ ∧ B ≤ g ∧ w0.heap[g]? = some (.cells cur 44 (0, 0)) ∧ nt * 7 ≤ cur.size ∧ ∀ m, m < nt * 7 → cur[m]? = (flatTm pst)[m]?) := HT0
    have HF : Hid (∀ i, i < ns → ∃ g cur, ps = some ⟨g, 0, none⟩ ∧ B ≤ g ∧ w0.heap[g]? = some (.cells cur 29 (0, 0)) ∧ ns * 10 ≤ cur.size ∧ ∀ m, m < ns * 10 → cur[m]? = (flatF pss)[m]?) := HF0
    have HR : Hid (∀ i, i < nr → ∃ g cur, pr = some ⟨g, 0, none⟩ ∧ B ≤ g ∧ w0.heap[g]? = some (.cells cur 60 (0, 0)) ∧ nr * 3 ≤ cur.size ∧ ∀ m, m < nr * 3 → cur[m]? = (flatR psr)[m]?) := HR0
    clear h1 HV0 HT0 HF0 HR0 rowt plt rows pls rowr plr sv stt ss sr rt rs est ess esr hm ih
    generalize f.lo = lo at *
    generalize f.hi = fhi at *
    generalize f.nm = nm at *
    generalize f.opn = o at *
    generalize f.op = op at *
    generalize f.k = fk at *
    have hw0 : w0.heap.size ≤ w.heap.size := hS.fr.size
    obtain ⟨w1, ew1⟩ : ∃ W, W = w.alloc (.cells #[.int .i64 fk, .string nm, .int .i64 op, .slice pv nv cv, .slice pt nt ct, .int .i64 lo, .int .i64 fhi, .bool o, .slice ps ns cs, .slice pr nr cr] 29) := ⟨_, rfl⟩
    have Xw1 : Hid (w1.heap[w.heap.size]? = some (.cells #[.int .i64 fk, .string nm, .int .i64 op, .slice pv nv cv, .slice pt nt ct, .int .i64 lo, .int .i64 fhi, .bool o, .slice ps ns cs, .slice pr nr cr] 29 (0, 0))) := by rw [ew1]; exact heap_allocA w _
    have Gw1 : Hid (Fr (fun k => B ≤ k ∧ k < w0.heap.size) w w1) := by rw [ew1]; exact Fr.of_below ((Below.refl _ _).alloc (Nat.le_refl _) _)
    have Sw1 : Hid (Spt B w0 w1 ∧ Fr (fun k => B ≤ k ∧ k < w0.heap.size) w1 w1) := by rw [ew1]; exact ⟨hS.new ((Below.refl _ _).alloc (Nat.le_refl _) _), Fr.refl _ _⟩
    clear hS
    go_enter Try.func14, Try.ntmps14
    go_upto_region 1 with fail
    rw [← ew1]
    clear ew1
    go_wp2
    go_loopw [2] (fun v wr => ∃ k : Nat, k ≤ nv ∧ v = .int .i64 k ∧ Hid (Spt B w0 wr ∧ Fr (fun k => B ≤ k ∧ k < w0.heap.size) w1 wr)) (fun v _ => nv - (intOf v).toNat)
    case atStart => exact ⟨0, Nat.zero_le _, rfl, Sw1⟩
    case round =>
      obtain ⟨k, hk, rfl, hS⟩ := hrel
      have Br : Hid (_) := hS.out.2.heap Xw1.out (fun h => by omega)
      have r6 : wr.cell? ⟨w.heap.size, 3, none⟩ = some (.slice pv nv cv) := by rw [Lib.cell_of_heap Br.out]; rfl
      by_cases hlt : k < nv
      case neg =>
        have c2 : ¬ (k : Int) < nv := by omega
        obtain ⟨w2, ew⟩ : ∃ W : World, W = wr := ⟨_, rfl⟩
        subst ew
        have Sw2 : Hid (Spt B w0 w2 ∧ Fr (fun k => B ≤ k ∧ k < w0.heap.size) w2 w2) := ⟨hS.out.1, Fr.refl _ _⟩
        have Xw2 : Hid (_) := Br.out
        have Gw2 : Hid (Fr (fun k => B ≤ k ∧ k < w0.heap.size) w w2) := Gw1.out.trans hS.out.2 (fun i h => Or.inl h)
        clear hS Br
        go_wp2
        go_loopw [3] (fun v wr => ∃ k : Nat, k ≤ nt ∧ v = .int .i64 k ∧ Hid (Spt B w0 wr ∧ Fr (fun k => B ≤ k ∧ k < w0.heap.size) w2 wr)) (fun v _ => nt - (intOf v).toNat)
        case atStart => exact ⟨0, Nat.zero_le _, rfl, Sw2⟩
        case round =>
          obtain ⟨k, hk, rfl, hS⟩ := hrel
          have Br : Hid (_) := hS.out.2.heap Xw2.out (fun h => by omega)
          have r6 : wr.cell? ⟨w.heap.size, 4, none⟩ = some (.slice pt nt ct) := by rw [Lib.cell_of_heap Br.out]; rfl
          by_cases hlt : k < nt
          case neg =>
            have c2 : ¬ (k : Int) < nt := by omega
            obtain ⟨w3, ew⟩ : ∃ W : World, W = wr := ⟨_, rfl⟩
            subst ew
            have Sw3 : Hid (Spt B w0 w3 ∧ Fr (fun k => B ≤ k ∧ k < w0.heap.size) w3 w3) := ⟨hS.out.1, Fr.refl _ _⟩
            have Xw3 : Hid (_) := Br.out
            have Gw3 : Hid (Fr (fun k => B ≤ k ∧ k < w0.heap.size) w w3) := Gw2.out.trans hS.out.2 (fun i h => Or.inl h)
            clear hS Br
            go_wp2
            go_loopw [4] (fun v wr => ∃ k : Nat, k ≤ nr ∧ v = .int .i64 k ∧ Hid (Spt B w0 wr ∧ Fr (fun k => B ≤ k ∧ k < w0.heap.size) w3 wr)) (fun v _ => nr - (intOf v).toNat)
            case atStart => exact ⟨0, Nat.zero_le _, rfl, Sw3⟩
            case round =>
              obtain ⟨k, hk, rfl, hS⟩ := hrel
              have Br : Hid (_) := hS.out.2.heap Xw3.out (fun h => by omega)
              have r6 : wr.cell? ⟨w.heap.size, 9, none⟩ = some (.slice pr nr cr) := by rw [Lib.cell_of_heap Br.out]; rfl
              by_cases hlt : k < nr
              case neg =>
                have c2 : ¬ (k : Int) < nr := by omega
                obtain ⟨w4, ew⟩ : ∃ W : World, W = wr := ⟨_, rfl⟩
                subst ew
                have Sw4 : Hid (Spt B w0 w4 ∧ Fr (fun k => B ≤ k ∧ k < w0.heap.size) w4 w4) := ⟨hS.out.1, Fr.refl _ _⟩
                have Xw4 : Hid (_) := Br.out
                have Gw4 : Hid (Fr (fun k => B ≤ k ∧ k < w0.heap.size) w w4) := Gw3.out.trans hS.out.2 (fun i h => Or.inl h)
                clear hS Br
                go_wp2
                go_loopw [6] (fun v wr => ∃ k : Nat, k ≤ ns ∧ v = .int .i64 k ∧ Hid (Spt B w0 wr ∧ Fr (fun k => B ≤ k ∧ k < w0.heap.size) w4 wr)) (fun v _ => ns - (intOf v).toNat)
                case atStart => exact ⟨0, Nat.zero_le _, rfl, Sw4⟩
                case round =>
                  obtain ⟨k, hk, rfl, hS⟩ := hrel
                  have Br : Hid (_) := hS.out.2.heap Xw4.out (fun h => by omega)
                  have r6 : wr.cell? ⟨w.heap.size, 8, none⟩ = some (.slice ps ns cs) := by rw [Lib.cell_of_heap Br.out]; rfl
                  by_cases hlt : k < ns
                  case neg =>
                    have c2 : ¬ (k : Int) < ns := by omega
                    have HE : Hid (Spt B w0 wr ∧ Fr (fun k => B ≤ k ∧ k < w0.heap.size) w wr) := ⟨hS.out.1, Gw4.out.trans hS.out.2 (fun i h => Or.inl h)⟩
                    go_wp2
                    go_end0
                    exact ⟨⟨_, rfl⟩, HE.out⟩
                  have hlt' : (k : Int) < ns := by omega
                  have k0 : (0 : Int) ≤ k := by omega
                  obtain ⟨g, cur, rfl, hg, h0, hsz, hxs⟩ := HF.out k hlt
                  obtain ⟨c, hc, hcs, hcF, hcR⟩ := hS.out.1.row g cur _ hg h0
                  have kb : k * 10 + 10 ≤ cur.size := by have : (k + 1) * 10 ≤ ns * 10 := Nat.mul_le_mul_right _ hlt; omega
                  obtain ⟨z0, z1, z2, pz3, nz3, cz3, pz4, nz4, cz4, z5, z6, z7, pz8, nz8, cz8, pz9, nz9, cz9, hcel, hcal⟩ : ∃ (z0 : Int) (z1 : ByteArray) (z2 : Int) (pz3 : Option Addr) (nz3 cz3 : Nat) (pz4 : Option Addr) (nz4 cz4 : Nat) (z5 z6 : Int) (z7 : Bool) (pz8 : Option Addr) (nz8 cz8 : Nat) (pz9 : Option Addr) (nz9 cz9 : Nat), (∀ i, i < 10 → c[k * 10 + i]? = [Value.int .i64 z0, .string z1, .int .i64 z2, .slice pz3 nz3 cz3, .slice pz4 nz4 cz4, .int .i64 z5, .int .i64 z6, .bool z7, .slice pz8 nz8 cz8, .slice pz9 nz9 cz9][i]?) ∧ Calls Try.prog 14 #[.agg #[.int .i64 z0, .string z1, .int .i64 z2, .slice pz3 nz3 cz3, .slice pz4 nz4 cz4, .int .i64 z5, .int .i64 z6, .bool z7, .slice pz8 nz8 cz8, .slice pz9 nz9 cz9]] wr (SpOut B w0 wr) := by
                    rcases hcF rfl k with hh | hh
                    · have kx : k < pss.length := by have h1 := HES.out; have h2 := ens.out; have := congrArg List.length h1; simp at this; omega
                      have hq := HQS.out pss[k] (List.getElem_mem kx)
                      have hmem : pss[k].1 ∈ f.subs := by rw [← HES.out]; exact List.mem_map.2 ⟨_, List.getElem_mem kx, rfl⟩
                      have hc2 := IH.out pss[k].1 pss[k].2 wr (by have a := List.sizeOf_lt_of_mem hmem; have b := HSL.out; have d := HM.out; omega) hq hS.out.1
                      have hall : ∀ i, i < 10 → c[k * 10 + i]? = (fcs pss[k])[i]? := fun i hi => by rw [hh i hi, hxs (k * 10 + i) (by omega), flatF_get pss k i kx hi]
                      obtain ⟨-, q1, d1, e3, -⟩ := hq.at.1
                      obtain ⟨q2, d2, e4, -⟩ := hq.at.2.1.form
                      obtain ⟨q3, d3, e8, -⟩ := hq.at.2.2.1.form
                      obtain ⟨q4, d4, e9, -⟩ := hq.at.2.2.2.form
                      refine ⟨pss[k].1.k, pss[k].1.nm, pss[k].1.op, q1, pss[k].1.vars.length, d1, q2, pss[k].1.terms.length, d2, pss[k].1.lo, pss[k].1.hi, pss[k].1.opn, q3, pss[k].1.subs.length, d3, q4, pss[k].1.rgx.length, d4, fun i hi => ?_, ?_⟩
                      · rw [hall i hi, ← e3, ← e4, ← e8, ← e9]; rfl
                      · rw [← e3, ← e4, ← e8, ← e9]; exact hc2
                    · exact ⟨77, ⟨#[]⟩, 0, none, 0, 0, none, 0, 0, 0, 0, false, none, 0, 0, none, 0, 0, hh, spoil_no B w0 wr hS.out.1⟩
                  have HCAL : Hid (Calls Try.prog 14 #[.agg #[.int .i64 z0, .string z1, .int .i64 z2, .slice pz3 nz3 cz3, .slice pz4 nz4 cz4, .int .i64 z5, .int .i64 z6, .bool z7, .slice pz8 nz8 cz8, .slice pz9 nz9 cz9]] wr (SpOut B w0 wr)) := hcal
                  have a0 : wr.cell? ⟨g, k * 10, none⟩ = some (.int .i64 z0) := by rw [Lib.cell_of_heap hc]; exact hcel 0 (by omega)
                  have a1 : wr.cell? ⟨g, k * 10 + 1, none⟩ = some (.string z1) := by rw [Lib.cell_of_heap hc]; exact hcel 1 (by omega)
                  have a2 : wr.cell? ⟨g, k * 10 + 2, none⟩ = some (.int .i64 z2) := by rw [Lib.cell_of_heap hc]; exact hcel 2 (by omega)
                  have a3 : wr.cell? ⟨g, k * 10 + 3, none⟩ = some (.slice pz3 nz3 cz3) := by rw [Lib.cell_of_heap hc]; exact hcel 3 (by omega)
                  have a4 : wr.cell? ⟨g, k * 10 + 4, none⟩ = some (.slice pz4 nz4 cz4) := by rw [Lib.cell_of_heap hc]; exact hcel 4 (by omega)
                  have a5 : wr.cell? ⟨g, k * 10 + 5, none⟩ = some (.int .i64 z5) := by rw [Lib.cell_of_heap hc]; exact hcel 5 (by omega)
                  have a6 : wr.cell? ⟨g, k * 10 + 6, none⟩ = some (.int .i64 z6) := by rw [Lib.cell_of_heap hc]; exact hcel 6 (by omega)
                  have a7 : wr.cell? ⟨g, k * 10 + 7, none⟩ = some (.bool z7) := by rw [Lib.cell_of_heap hc]; exact hcel 7 (by omega)
                  have a8 : wr.cell? ⟨g, k * 10 + 8, none⟩ = some (.slice pz8 nz8 cz8) := by rw [Lib.cell_of_heap hc]; exact hcel 8 (by omega)
                  have a9 : wr.cell? ⟨g, k * 10 + 9, none⟩ = some (.slice pz9 nz9 cz9) := by rw [Lib.cell_of_heap hc]; exact hcel 9 (by omega)
                  clear hc hcs hcF hcR hxs hsz hcel hcal
                  go_wp2_with fail
                  refine HCAL.out.mono ?_
                  rintro e w5 ⟨⟨v5, rfl⟩, h5⟩
                  have hS5 : Hid (Spt B w0 w5 ∧ Fr (fun k => B ≤ k ∧ k < w0.heap.size) w4 w5) := ⟨h5.out.1, hS.out.2.trans h5.out.2 (fun i h => Or.inl h)⟩
                  have B5 : Hid (_) := hS5.out.2.heap Xw4.out (fun h => by omega)
                  clear h5 HCAL hS Br r6 a0 a1 a2 a3 a4 a5 a6 a7 a8 a9
                  have r6 : w5.cell? ⟨w.heap.size, 8, none⟩ = some (.slice (some ⟨g, 0, none⟩) ns cs) := by rw [Lib.cell_of_heap B5.out]; rfl
                  obtain ⟨c, hc, hcs, hcF, hcR⟩ := hS5.out.1.row g cur _ hg h0
                  have Hc : Hid (w5.heap[g]? = some (.cells c 29 (0, 0))) := hc
                  have kb2 : k * 10 + 10 ≤ c.size := by omega
                  obtain ⟨xq0, q0⟩ : ∃ x, w5.cell? ⟨g, k * 10, none⟩ = some x := ⟨c[k * 10]'(by omega), by rw [Lib.cell_of_heap Hc.out]; exact Array.getElem?_eq_getElem _⟩
                  have fq0 : w5.frozen? ⟨g, k * 10, none⟩ = false := Lib.frozen_of_heap Hc.out _
                  obtain ⟨xq1, q1⟩ : ∃ x, w5.cell? ⟨g, k * 10 + 1, none⟩ = some x := ⟨c[k * 10 + 1]'(by omega), by rw [Lib.cell_of_heap Hc.out]; exact Array.getElem?_eq_getElem _⟩
                  have fq1 : w5.frozen? ⟨g, k * 10 + 1, none⟩ = false := Lib.frozen_of_heap Hc.out _
                  obtain ⟨xq2, q2⟩ : ∃ x, w5.cell? ⟨g, k * 10 + 2, none⟩ = some x := ⟨c[k * 10 + 2]'(by omega), by rw [Lib.cell_of_heap Hc.out]; exact Array.getElem?_eq_getElem _⟩
                  have fq2 : w5.frozen? ⟨g, k * 10 + 2, none⟩ = false := Lib.frozen_of_heap Hc.out _
                  obtain ⟨xq3, q3⟩ : ∃ x, w5.cell? ⟨g, k * 10 + 3, none⟩ = some x := ⟨c[k * 10 + 3]'(by omega), by rw [Lib.cell_of_heap Hc.out]; exact Array.getElem?_eq_getElem _⟩
                  have fq3 : w5.frozen? ⟨g, k * 10 + 3, none⟩ = false := Lib.frozen_of_heap Hc.out _
                  obtain ⟨xq4, q4⟩ : ∃ x, w5.cell? ⟨g, k * 10 + 4, none⟩ = some x := ⟨c[k * 10 + 4]'(by omega), by rw [Lib.cell_of_heap Hc.out]; exact Array.getElem?_eq_getElem _⟩
                  have fq4 : w5.frozen? ⟨g, k * 10 + 4, none⟩ = false := Lib.frozen_of_heap Hc.out _
                  obtain ⟨xq5, q5⟩ : ∃ x, w5.cell? ⟨g, k * 10 + 5, none⟩ = some x := ⟨c[k * 10 + 5]'(by omega), by rw [Lib.cell_of_heap Hc.out]; exact Array.getElem?_eq_getElem _⟩
                  have fq5 : w5.frozen? ⟨g, k * 10 + 5, none⟩ = false := Lib.frozen_of_heap Hc.out _
                  obtain ⟨xq6, q6⟩ : ∃ x, w5.cell? ⟨g, k * 10 + 6, none⟩ = some x := ⟨c[k * 10 + 6]'(by omega), by rw [Lib.cell_of_heap Hc.out]; exact Array.getElem?_eq_getElem _⟩
                  have fq6 : w5.frozen? ⟨g, k * 10 + 6, none⟩ = false := Lib.frozen_of_heap Hc.out _
                  obtain ⟨xq7, q7⟩ : ∃ x, w5.cell? ⟨g, k * 10 + 7, none⟩ = some x := ⟨c[k * 10 + 7]'(by omega), by rw [Lib.cell_of_heap Hc.out]; exact Array.getElem?_eq_getElem _⟩
                  have fq7 : w5.frozen? ⟨g, k * 10 + 7, none⟩ = false := Lib.frozen_of_heap Hc.out _
                  obtain ⟨xq8, q8⟩ : ∃ x, w5.cell? ⟨g, k * 10 + 8, none⟩ = some x := ⟨c[k * 10 + 8]'(by omega), by rw [Lib.cell_of_heap Hc.out]; exact Array.getElem?_eq_getElem _⟩
                  have fq8 : w5.frozen? ⟨g, k * 10 + 8, none⟩ = false := Lib.frozen_of_heap Hc.out _
                  obtain ⟨xq9, q9⟩ : ∃ x, w5.cell? ⟨g, k * 10 + 9, none⟩ = some x := ⟨c[k * 10 + 9]'(by omega), by rw [Lib.cell_of_heap Hc.out]; exact Array.getElem?_eq_getElem _⟩
                  have fq9 : w5.frozen? ⟨g, k * 10 + 9, none⟩ = false := Lib.frozen_of_heap Hc.out _
                  have HN : Hid (Spt B w0 (putCells w5 g (k * 10) [.int .i64 77, .string ⟨#[]⟩, .int .i64 0, .slice none 0 0, .slice none 0 0, .int .i64 0, .int .i64 0, .bool false, .slice none 0 0, .slice none 0 0]) ∧ Fr (fun k => B ≤ k ∧ k < w0.heap.size) w4 (putCells w5 g (k * 10) [.int .i64 77, .string ⟨#[]⟩, .int .i64 0, .slice none 0 0, .slice none 0 0, .int .i64 0, .int .i64 0, .bool false, .slice none 0 0, .slice none 0 0])) := by
                    have h1 := hS5.out
                    exact ⟨h1.1.putF h0 hg (by omega), put_fr _ _ _ _ _ _ h1.2 ⟨hg, lt_heap h0⟩⟩
                  clear hc hcs hcF hcR Hc hS5 kb kb2 h0
                  go_wp2
                  exact ⟨⟨k + 1, by omega, by go_num, HN⟩, by simp [intOf]; omega⟩
              have hlt' : (k : Int) < nr := by omega
              have k0 : (0 : Int) ≤ k := by omega
              obtain ⟨g, cur, rfl, hg, h0, hsz, hxs⟩ := HR.out k hlt
              obtain ⟨c, hc, hcs, hcF, hcR⟩ := hS.out.1.row g cur _ hg h0
              have kb : k * 3 + 3 ≤ cur.size := by have : (k + 1) * 3 ≤ nr * 3 := Nat.mul_le_mul_right _ hlt; omega
              obtain ⟨p1, n1, c1, hC1, hn1, hcc1, hX1⟩ : ∃ (p1 : Option Addr) (n1 c1 : Nat), c[k * 3 + 1]? = some (.slice p1 n1 c1) ∧ n1 ≤ 9223372036854775807 ∧ n1 ≤ c1 ∧ ∀ i, i < n1 → ∃ g cur, p1 = some ⟨g, 0, none⟩ ∧ B ≤ g ∧ w0.heap[g]? = some (.cells cur 29 (0, 0)) ∧ n1 * 10 ≤ cur.size := by
                rcases hcR rfl k with hh | hh
                · have kx : k < psr.length := by have h1 := HER.out; have h2 := enr.out; have := congrArg List.length h1; simp at this; omega
                  have h1 := hh 1 (by omega)
                  rw [hxs (k * 3 + 1) (by omega), flatR_get psr k 1 kx (by omega)] at h1
                  have h2 := HRT.out psr[k] (List.getElem_mem kx)
                  obtain ⟨pz, ez, hlz, rowz, plz, -, -, -, -⟩ := h2
                  obtain ⟨p1, c1, e1, hcz, hz⟩ := rowS_form (B := B) rowz plz
                  refine ⟨p1, _, c1, ?_, hlz, hcz, fun i hi => ?_⟩
                  · rw [h1, ← e1]; rfl
                  · obtain ⟨g, cur, x1, x2, x3, x4, -⟩ := hz i hi
                    exact ⟨g, cur, x1, x2, x3, x4⟩
                · exact ⟨none, 0, 0, hh 1 (by omega), by omega, by omega, fun i hi => by omega⟩
              have HC1 : Hid (wr.cell? ⟨g, k * 3 + 1, none⟩ = some (.slice p1 n1 c1)) := by rw [Lib.cell_of_heap hc]; exact hC1
              have HX1 : Hid (∀ i, i < n1 → ∃ g cur, p1 = some ⟨g, 0, none⟩ ∧ B ≤ g ∧ w0.heap[g]? = some (.cells cur 29 (0, 0)) ∧ n1 * 10 ≤ cur.size) := hX1
              clear hc hcs hcF hcR hxs hsz hC1 hX1
              go_wp2
              go_loopw [5] (fun v wx => ∃ k2 : Nat, k2 ≤ n1 ∧ v = .int .i64 k2 ∧ Hid (Spt B w0 wx ∧ Fr (fun k => B ≤ k ∧ k < w0.heap.size) w3 wx) ∧ Hid (wx.cell? ⟨g, k * 3 + 1, none⟩ = some (.slice p1 n1 c1))) (fun v _ => n1 - (intOf v).toNat)
              case atStart => exact ⟨0, Nat.zero_le _, rfl, hS, HC1⟩
              case round =>
                clear Br r6
                obtain ⟨k2, hk2, rfl, hS2, hC2⟩ := hrel
                have Br : Hid (_) := hS2.out.2.heap Xw3.out (fun h => by omega)
                have r6 : wr.cell? ⟨w.heap.size, 9, none⟩ = some (.slice (some ⟨g, 0, none⟩) nr cr) := by rw [Lib.cell_of_heap Br.out]; rfl
                have q1 : wr.cell? ⟨g, k * 3 + 1, none⟩ = some (.slice p1 n1 c1) := hC2.out
                by_cases hlt2 : k2 < n1
                case neg =>
                  have c3 : ¬ (k2 : Int) < n1 := by omega
                  obtain ⟨c, hc, hcs, hcF, hcR⟩ := hS2.out.1.row g cur _ hg h0
                  have Hc : Hid (wr.heap[g]? = some (.cells c 60 (0, 0))) := hc
                  have kb2 : k * 3 + 3 ≤ c.size := by omega
                  obtain ⟨xr0, q0⟩ : ∃ x, wr.cell? ⟨g, k * 3, none⟩ = some x := ⟨c[k * 3]'(by omega), by rw [Lib.cell_of_heap Hc.out]; exact Array.getElem?_eq_getElem _⟩
                  have fq0 : wr.frozen? ⟨g, k * 3, none⟩ = false := Lib.frozen_of_heap Hc.out _
                  have fq1 : wr.frozen? ⟨g, k * 3 + 1, none⟩ = false := Lib.frozen_of_heap Hc.out _
                  obtain ⟨xr2, q2⟩ : ∃ x, wr.cell? ⟨g, k * 3 + 2, none⟩ = some x := ⟨c[k * 3 + 2]'(by omega), by rw [Lib.cell_of_heap Hc.out]; exact Array.getElem?_eq_getElem _⟩
                  have fq2 : wr.frozen? ⟨g, k * 3 + 2, none⟩ = false := Lib.frozen_of_heap Hc.out _
                  have HN : Hid (Spt B w0 (putCells wr g (k * 3) [.int .i64 77, .slice none 0 0, .slice none 0 0]) ∧ Fr (fun k => B ≤ k ∧ k < w0.heap.size) w3 (putCells wr g (k * 3) [.int .i64 77, .slice none 0 0, .slice none 0 0])) := by
                    have h1 := hS2.out
                    exact ⟨h1.1.putR h0 hg (by omega), put_fr _ _ _ _ _ _ h1.2 ⟨hg, lt_heap h0⟩⟩
                  clear hc hcs hcF hcR Hc hS2 kb2 h0 hC2 hS HC1 HX1
                  go_wp2
                  exact ⟨⟨k + 1, by omega, by go_num, HN⟩, by simp [intOf]; omega⟩
                have hlt3 : (k2 : Int) < n1 := by omega
                have k20 : (0 : Int) ≤ k2 := by omega
                obtain ⟨g2, cur2, rfl, hg2, h02, hsz2⟩ := HX1.out k2 hlt2
                obtain ⟨c, hc, hcs, hcF, hcR⟩ := hS2.out.1.row g2 cur2 _ hg2 h02
                have Hc : Hid (wr.heap[g2]? = some (.cells c 29 (0, 0))) := hc
                have kb3 : k2 * 10 + 10 ≤ cur2.size := by have : (k2 + 1) * 10 ≤ n1 * 10 := Nat.mul_le_mul_right _ hlt2; omega
                have kb4 : k2 * 10 + 10 ≤ c.size := by omega
                obtain ⟨xp0, p0⟩ : ∃ x, wr.cell? ⟨g2, k2 * 10, none⟩ = some x := ⟨c[k2 * 10]'(by omega), by rw [Lib.cell_of_heap Hc.out]; exact Array.getElem?_eq_getElem _⟩
                have fp0 : wr.frozen? ⟨g2, k2 * 10, none⟩ = false := Lib.frozen_of_heap Hc.out _
                obtain ⟨xp1, pp1⟩ : ∃ x, wr.cell? ⟨g2, k2 * 10 + 1, none⟩ = some x := ⟨c[k2 * 10 + 1]'(by omega), by rw [Lib.cell_of_heap Hc.out]; exact Array.getElem?_eq_getElem _⟩
                have fp1 : wr.frozen? ⟨g2, k2 * 10 + 1, none⟩ = false := Lib.frozen_of_heap Hc.out _
                obtain ⟨xp2, p2⟩ : ∃ x, wr.cell? ⟨g2, k2 * 10 + 2, none⟩ = some x := ⟨c[k2 * 10 + 2]'(by omega), by rw [Lib.cell_of_heap Hc.out]; exact Array.getElem?_eq_getElem _⟩
                have fp2 : wr.frozen? ⟨g2, k2 * 10 + 2, none⟩ = false := Lib.frozen_of_heap Hc.out _
                obtain ⟨xp3, p3⟩ : ∃ x, wr.cell? ⟨g2, k2 * 10 + 3, none⟩ = some x := ⟨c[k2 * 10 + 3]'(by omega), by rw [Lib.cell_of_heap Hc.out]; exact Array.getElem?_eq_getElem _⟩
                have fp3 : wr.frozen? ⟨g2, k2 * 10 + 3, none⟩ = false := Lib.frozen_of_heap Hc.out _
                obtain ⟨xp4, p4⟩ : ∃ x, wr.cell? ⟨g2, k2 * 10 + 4, none⟩ = some x := ⟨c[k2 * 10 + 4]'(by omega), by rw [Lib.cell_of_heap Hc.out]; exact Array.getElem?_eq_getElem _⟩
                have fp4 : wr.frozen? ⟨g2, k2 * 10 + 4, none⟩ = false := Lib.frozen_of_heap Hc.out _
                obtain ⟨xp5, p5⟩ : ∃ x, wr.cell? ⟨g2, k2 * 10 + 5, none⟩ = some x := ⟨c[k2 * 10 + 5]'(by omega), by rw [Lib.cell_of_heap Hc.out]; exact Array.getElem?_eq_getElem _⟩
                have fp5 : wr.frozen? ⟨g2, k2 * 10 + 5, none⟩ = false := Lib.frozen_of_heap Hc.out _
                obtain ⟨xp6, p6⟩ : ∃ x, wr.cell? ⟨g2, k2 * 10 + 6, none⟩ = some x := ⟨c[k2 * 10 + 6]'(by omega), by rw [Lib.cell_of_heap Hc.out]; exact Array.getElem?_eq_getElem _⟩
                have fp6 : wr.frozen? ⟨g2, k2 * 10 + 6, none⟩ = false := Lib.frozen_of_heap Hc.out _
                obtain ⟨xp7, p7⟩ : ∃ x, wr.cell? ⟨g2, k2 * 10 + 7, none⟩ = some x := ⟨c[k2 * 10 + 7]'(by omega), by rw [Lib.cell_of_heap Hc.out]; exact Array.getElem?_eq_getElem _⟩
                have fp7 : wr.frozen? ⟨g2, k2 * 10 + 7, none⟩ = false := Lib.frozen_of_heap Hc.out _
                obtain ⟨xp8, p8⟩ : ∃ x, wr.cell? ⟨g2, k2 * 10 + 8, none⟩ = some x := ⟨c[k2 * 10 + 8]'(by omega), by rw [Lib.cell_of_heap Hc.out]; exact Array.getElem?_eq_getElem _⟩
                have fp8 : wr.frozen? ⟨g2, k2 * 10 + 8, none⟩ = false := Lib.frozen_of_heap Hc.out _
                obtain ⟨xp9, p9⟩ : ∃ x, wr.cell? ⟨g2, k2 * 10 + 9, none⟩ = some x := ⟨c[k2 * 10 + 9]'(by omega), by rw [Lib.cell_of_heap Hc.out]; exact Array.getElem?_eq_getElem _⟩
                have fp9 : wr.frozen? ⟨g2, k2 * 10 + 9, none⟩ = false := Lib.frozen_of_heap Hc.out _
                have hgg : g ≠ g2 := fun e => by
                  subst e
                  rw [h0] at h02
                  injection h02 with h02
                  injection h02 with _ h02
                  exact absurd h02 (by decide)
                have HN : Hid (Spt B w0 (putCells wr g2 (k2 * 10) [.int .i64 77, .string ⟨#[]⟩, .int .i64 0, .slice none 0 0, .slice none 0 0, .int .i64 0, .int .i64 0, .bool false, .slice none 0 0, .slice none 0 0]) ∧ Fr (fun k => B ≤ k ∧ k < w0.heap.size) w3 (putCells wr g2 (k2 * 10) [.int .i64 77, .string ⟨#[]⟩, .int .i64 0, .slice none 0 0, .slice none 0 0, .int .i64 0, .int .i64 0, .bool false, .slice none 0 0, .slice none 0 0])) := by
                  have h1 := hS2.out
                  exact ⟨h1.1.putF h02 hg2 (by omega), put_fr _ _ _ _ _ _ h1.2 ⟨hg2, lt_heap h02⟩⟩
                have HN2 : Hid ((putCells wr g2 (k2 * 10) [.int .i64 77, .string ⟨#[]⟩, .int .i64 0, .slice none 0 0, .slice none 0 0, .int .i64 0, .int .i64 0, .bool false, .slice none 0 0, .slice none 0 0]).cell? ⟨g, k * 3 + 1, none⟩ = some (.slice (some ⟨g2, 0, none⟩) n1 c1)) := (World.cell?_of_block (put_other _ _ _ _ g hgg)).trans hC2.out
                clear hc hcs hcF hcR hsz2 Hc hS2 kb3 kb4 h02 hC2 hS HC1 HX1 h0
                go_wp2
                exact ⟨⟨k2 + 1, by omega, by go_num, HN, HN2⟩, by simp [intOf]; omega⟩
          have hlt' : (k : Int) < nt := by omega
          have k0 : (0 : Int) ≤ k := by omega
          obtain ⟨g, cur, rfl, hg, h0, hsz, hxs⟩ := HT.out k hlt
          obtain ⟨c, hc, hcs, hcF, hcR⟩ := hS.out.1.row g cur _ hg h0
          have Hc : Hid (wr.heap[g]? = some (.cells c 44 (0, 0))) := hc
          have kb : k * 7 + 7 ≤ cur.size := by have : (k + 1) * 7 ≤ nt * 7 := Nat.mul_le_mul_right _ hlt; omega
          have kb2 : k * 7 + 7 ≤ c.size := by omega
          obtain ⟨xq0, q0⟩ : ∃ x, wr.cell? ⟨g, k * 7, none⟩ = some x := ⟨c[k * 7]'(by omega), by rw [Lib.cell_of_heap Hc.out]; exact Array.getElem?_eq_getElem _⟩
          have fq0 : wr.frozen? ⟨g, k * 7, none⟩ = false := Lib.frozen_of_heap Hc.out _
          obtain ⟨xq1, q1⟩ : ∃ x, wr.cell? ⟨g, k * 7 + 1, none⟩ = some x := ⟨c[k * 7 + 1]'(by omega), by rw [Lib.cell_of_heap Hc.out]; exact Array.getElem?_eq_getElem _⟩
          have fq1 : wr.frozen? ⟨g, k * 7 + 1, none⟩ = false := Lib.frozen_of_heap Hc.out _
          obtain ⟨xq2, q2⟩ : ∃ x, wr.cell? ⟨g, k * 7 + 2, none⟩ = some x := ⟨c[k * 7 + 2]'(by omega), by rw [Lib.cell_of_heap Hc.out]; exact Array.getElem?_eq_getElem _⟩
          have fq2 : wr.frozen? ⟨g, k * 7 + 2, none⟩ = false := Lib.frozen_of_heap Hc.out _
          obtain ⟨xq3, q3⟩ : ∃ x, wr.cell? ⟨g, k * 7 + 3, none⟩ = some x := ⟨c[k * 7 + 3]'(by omega), by rw [Lib.cell_of_heap Hc.out]; exact Array.getElem?_eq_getElem _⟩
          have fq3 : wr.frozen? ⟨g, k * 7 + 3, none⟩ = false := Lib.frozen_of_heap Hc.out _
          obtain ⟨xq4, q4⟩ : ∃ x, wr.cell? ⟨g, k * 7 + 4, none⟩ = some x := ⟨c[k * 7 + 4]'(by omega), by rw [Lib.cell_of_heap Hc.out]; exact Array.getElem?_eq_getElem _⟩
          have fq4 : wr.frozen? ⟨g, k * 7 + 4, none⟩ = false := Lib.frozen_of_heap Hc.out _
          obtain ⟨xq5, q5⟩ : ∃ x, wr.cell? ⟨g, k * 7 + 5, none⟩ = some x := ⟨c[k * 7 + 5]'(by omega), by rw [Lib.cell_of_heap Hc.out]; exact Array.getElem?_eq_getElem _⟩
          have fq5 : wr.frozen? ⟨g, k * 7 + 5, none⟩ = false := Lib.frozen_of_heap Hc.out _
          obtain ⟨xq6, q6⟩ : ∃ x, wr.cell? ⟨g, k * 7 + 6, none⟩ = some x := ⟨c[k * 7 + 6]'(by omega), by rw [Lib.cell_of_heap Hc.out]; exact Array.getElem?_eq_getElem _⟩
          have fq6 : wr.frozen? ⟨g, k * 7 + 6, none⟩ = false := Lib.frozen_of_heap Hc.out _
          have HN : Hid (Spt B w0 (putCells wr g (k * 7) [.int .i64 77, .string ⟨#[]⟩, .int .i64 0, .int .i64 0, .int .i64 0, .string ⟨#[]⟩, .slice none 0 0]) ∧ Fr (fun k => B ≤ k ∧ k < w0.heap.size) w2 (putCells wr g (k * 7) [.int .i64 77, .string ⟨#[]⟩, .int .i64 0, .int .i64 0, .int .i64 0, .string ⟨#[]⟩, .slice none 0 0])) := by
            have h1 := hS.out
            exact ⟨h1.1.put1 h0 hg (by decide) (by decide), put_fr _ _ _ _ _ _ h1.2 ⟨hg, lt_heap h0⟩⟩
          clear hc hcs hcF hcR hxs hsz Hc hS kb kb2 h0
          go_wp2
          exact ⟨⟨k + 1, by omega, by go_num, HN⟩, by simp [intOf]; omega⟩
      have hlt' : (k : Int) < nv := by omega
      have k0 : (0 : Int) ≤ k := by omega
      obtain ⟨g, cur, rfl, hg, h0, hsz, hxs⟩ := HV.out k hlt
      obtain ⟨c, hc, hcs, hcF, hcR⟩ := hS.out.1.row g cur _ hg h0
      have Hc : Hid (wr.heap[g]? = some (.cells c 9 (0, 0))) := hc
      have kb : k * 1 + 1 ≤ cur.size := by have : (k + 1) * 1 ≤ nv * 1 := Nat.mul_le_mul_right _ hlt; omega
      have kb2 : k * 1 + 1 ≤ c.size := by omega
      obtain ⟨xq0, q0⟩ : ∃ x, wr.cell? ⟨g, k, none⟩ = some x := ⟨c[k]'(by omega), by rw [Lib.cell_of_heap Hc.out]; exact Array.getElem?_eq_getElem _⟩
      have fq0 : wr.frozen? ⟨g, k, none⟩ = false := Lib.frozen_of_heap Hc.out _
      have HN : Hid (Spt B w0 (putCells wr g (k) [.string ⟨#[64]⟩]) ∧ Fr (fun k => B ≤ k ∧ k < w0.heap.size) w1 (putCells wr g (k) [.string ⟨#[64]⟩])) := by
        have h1 := hS.out
        exact ⟨h1.1.put1 h0 hg (by decide) (by decide), put_fr _ _ _ _ _ _ h1.2 ⟨hg, lt_heap h0⟩⟩
      clear hc hcs hcF hcR hxs hsz Hc hS kb kb2 h0
      go_wp2
      exact ⟨⟨k + 1, by omega, by go_num, HN⟩, by simp [intOf]; omega⟩
end Go.Proofs.Ytfajjphfjilpnab

namespace Go.Proofs.Ytfajjphfjilpnab
open Go.RowKit LX Go.Shelf
set_option linter.unusedVariables false

theorem bytes_eq {x y : ByteArray} : (x.toList == y.toList) = decide (x = y) := by
  rw [ByteArray.toList_eq, ByteArray.toList_eq]
  by_cases h : x = y
  · subst h; simp
  · rw [decide_eq_false h]
    have : x.data.toList ≠ y.data.toList := fun e => h (by
      obtain ⟨⟨a⟩⟩ := x
      obtain ⟨⟨b⟩⟩ := y
      simp at e
      subst e
      rfl)
    simpa using this
theorem keepc7 {W0 W : World} {b b' o o' : Nat} {u0 u1 u2 u3 u4 u5 u6 v0 v1 v2 v3 v4 v5 v6 : Value} (h : Below W0.heap.size W0 W) (hx : b < W0.heap.size) (hy : b' < W0.heap.size) (hs : W0.cell? ⟨b, o, none⟩ = some u0 ∧ W0.cell? ⟨b, o + 1, none⟩ = some u1 ∧ W0.cell? ⟨b, o + 2, none⟩ = some u2 ∧ W0.cell? ⟨b, o + 3, none⟩ = some u3 ∧ W0.cell? ⟨b, o + 4, none⟩ = some u4 ∧ W0.cell? ⟨b, o + 5, none⟩ = some u5 ∧ W0.cell? ⟨b, o + 6, none⟩ = some u6 ∧ W0.cell? ⟨b', o', none⟩ = some v0 ∧ W0.cell? ⟨b', o' + 1, none⟩ = some v1 ∧ W0.cell? ⟨b', o' + 2, none⟩ = some v2 ∧ W0.cell? ⟨b', o' + 3, none⟩ = some v3 ∧ W0.cell? ⟨b', o' + 4, none⟩ = some v4 ∧ W0.cell? ⟨b', o' + 5, none⟩ = some v5 ∧ W0.cell? ⟨b', o' + 6, none⟩ = some v6) : W.cell? ⟨b, o, none⟩ = some u0 ∧ W.cell? ⟨b, o + 1, none⟩ = some u1 ∧ W.cell? ⟨b, o + 2, none⟩ = some u2 ∧ W.cell? ⟨b, o + 3, none⟩ = some u3 ∧ W.cell? ⟨b, o + 4, none⟩ = some u4 ∧ W.cell? ⟨b, o + 5, none⟩ = some u5 ∧ W.cell? ⟨b, o + 6, none⟩ = some u6 ∧ W.cell? ⟨b', o', none⟩ = some v0 ∧ W.cell? ⟨b', o' + 1, none⟩ = some v1 ∧ W.cell? ⟨b', o' + 2, none⟩ = some v2 ∧ W.cell? ⟨b', o' + 3, none⟩ = some v3 ∧ W.cell? ⟨b', o' + 4, none⟩ = some v4 ∧ W.cell? ⟨b', o' + 5, none⟩ = some v5 ∧ W.cell? ⟨b', o' + 6, none⟩ = some v6 := by
  obtain ⟨a0, a1, a2, a3, a4, a5, a6, a7, a8, a9, a10, a11, a12, a13⟩ := hs
  exact ⟨bclL h a0 hx, bclL h a1 hx, bclL h a2 hx, bclL h a3 hx, bclL h a4 hx, bclL h a5 hx, bclL h a6 hx, bclL h a7 hy, bclL h a8 hy, bclL h a9 hy, bclL h a10 hy, bclL h a11 hy, bclL h a12 hy, bclL h a13 hy⟩
theorem keepc10 {W0 W : World} {b b' o o' : Nat} {u0 u1 u2 u3 u4 u5 u6 u7 u8 u9 v0 v1 v2 v3 v4 v5 v6 v7 v8 v9 : Value} (h : Below W0.heap.size W0 W) (hx : b < W0.heap.size) (hy : b' < W0.heap.size) (hs : W0.cell? ⟨b, o, none⟩ = some u0 ∧ W0.cell? ⟨b, o + 1, none⟩ = some u1 ∧ W0.cell? ⟨b, o + 2, none⟩ = some u2 ∧ W0.cell? ⟨b, o + 3, none⟩ = some u3 ∧ W0.cell? ⟨b, o + 4, none⟩ = some u4 ∧ W0.cell? ⟨b, o + 5, none⟩ = some u5 ∧ W0.cell? ⟨b, o + 6, none⟩ = some u6 ∧ W0.cell? ⟨b, o + 7, none⟩ = some u7 ∧ W0.cell? ⟨b, o + 8, none⟩ = some u8 ∧ W0.cell? ⟨b, o + 9, none⟩ = some u9 ∧ W0.cell? ⟨b', o', none⟩ = some v0 ∧ W0.cell? ⟨b', o' + 1, none⟩ = some v1 ∧ W0.cell? ⟨b', o' + 2, none⟩ = some v2 ∧ W0.cell? ⟨b', o' + 3, none⟩ = some v3 ∧ W0.cell? ⟨b', o' + 4, none⟩ = some v4 ∧ W0.cell? ⟨b', o' + 5, none⟩ = some v5 ∧ W0.cell? ⟨b', o' + 6, none⟩ = some v6 ∧ W0.cell? ⟨b', o' + 7, none⟩ = some v7 ∧ W0.cell? ⟨b', o' + 8, none⟩ = some v8 ∧ W0.cell? ⟨b', o' + 9, none⟩ = some v9) : W.cell? ⟨b, o, none⟩ = some u0 ∧ W.cell? ⟨b, o + 1, none⟩ = some u1 ∧ W.cell? ⟨b, o + 2, none⟩ = some u2 ∧ W.cell? ⟨b, o + 3, none⟩ = some u3 ∧ W.cell? ⟨b, o + 4, none⟩ = some u4 ∧ W.cell? ⟨b, o + 5, none⟩ = some u5 ∧ W.cell? ⟨b, o + 6, none⟩ = some u6 ∧ W.cell? ⟨b, o + 7, none⟩ = some u7 ∧ W.cell? ⟨b, o + 8, none⟩ = some u8 ∧ W.cell? ⟨b, o + 9, none⟩ = some u9 ∧ W.cell? ⟨b', o', none⟩ = some v0 ∧ W.cell? ⟨b', o' + 1, none⟩ = some v1 ∧ W.cell? ⟨b', o' + 2, none⟩ = some v2 ∧ W.cell? ⟨b', o' + 3, none⟩ = some v3 ∧ W.cell? ⟨b', o' + 4, none⟩ = some v4 ∧ W.cell? ⟨b', o' + 5, none⟩ = some v5 ∧ W.cell? ⟨b', o' + 6, none⟩ = some v6 ∧ W.cell? ⟨b', o' + 7, none⟩ = some v7 ∧ W.cell? ⟨b', o' + 8, none⟩ = some v8 ∧ W.cell? ⟨b', o' + 9, none⟩ = some v9 := by
  obtain ⟨a0, a1, a2, a3, a4, a5, a6, a7, a8, a9, a10, a11, a12, a13, a14, a15, a16, a17, a18, a19⟩ := hs
  exact ⟨bclL h a0 hx, bclL h a1 hx, bclL h a2 hx, bclL h a3 hx, bclL h a4 hx, bclL h a5 hx, bclL h a6 hx, bclL h a7 hx, bclL h a8 hx, bclL h a9 hx, bclL h a10 hy, bclL h a11 hy, bclL h a12 hy, bclL h a13 hy, bclL h a14 hy, bclL h a15 hy, bclL h a16 hy, bclL h a17 hy, bclL h a18 hy, bclL h a19 hy⟩
/-- Name by name. -/
def nmS : List ByteArray → List ByteArray → Bool
  | [], [] => true
  | [], _ :: _ => false
  | _ :: _, [] => false
  | x :: l, y :: m => (x.toList == y.toList) && nmS l m
theorem nmS_eq : ∀ xs ys : List ByteArray, nmS xs ys = decide (xs = ys)
  | [], [] => rfl
  | [], _ :: _ => rfl
  | _ :: _, [] => rfl
  | x :: l, y :: m => by
    rw [nmS, bytes_eq, nmS_eq l m]
    by_cases h1 : x = y <;> by_cases h2 : l = m <;> simp [h1, h2]
theorem nmS_len {xs ys : List ByteArray} (h : xs.length ≠ ys.length) : nmS xs ys = false := by
  rw [nmS_eq]
  exact decide_eq_false (fun e => h (by rw [e]))

set_option maxRecDepth 100000 in
set_option maxHeartbeats 4000000 in
theorem rnms_any (A B : Value) (xs ys : List ByteArray) (w : World) (hA : NmsAt w A xs) (hB : NmsAt w B ys) : Calls Try.prog 19 #[A, B] w fun e w' => e = .returned (.bool (decide (xs = ys))) ∧ Below w.heap.size w w' := by
  rw [← nmS_eq]
  obtain ⟨p, c, rfl, lx, hc, HX0⟩ := hA.form
  obtain ⟨p', c', rfl, ly, hc', HY0⟩ := hB.form
  by_cases hl : xs.length = ys.length
  case neg =>
    have h2 : ((xs.length : Int) == ys.length) = false := by simp; omega
    have HS : Hid (nmS xs ys = false) := nmS_len hl
    clear HX0 HY0 hA hB
    generalize xs.length = n at *
    generalize ys.length = m at *
    go_enter Try.func19, Try.ntmps19
    go_wp2
    go_ret
    exact ⟨ret_bool HS.out.symm, by go_grown⟩
  have HX : Hid (∀ i (hi : i < xs.length), ∃ b off, p = some ⟨b, off, none⟩ ∧ b < w.heap.size ∧ w.cell? ⟨b, off + i, none⟩ = some (.string xs[i])) := HX0
  have HY : Hid (∀ i (hi : i < ys.length), ∃ b off, p' = some ⟨b, off, none⟩ ∧ b < w.heap.size ∧ w.cell? ⟨b, off + i, none⟩ = some (.string ys[i])) := HY0
  obtain ⟨n, en⟩ : ∃ n : Nat, Hid (xs.length = n) := ⟨_, rfl⟩
  have em : Hid (ys.length = n) := hl.symm.trans en.out
  rw [en.out] at lx hc ⊢
  rw [em.out] at hc' ⊢
  clear HX0 HY0 hA hB ly hl
  go_enter Try.func19, Try.ntmps19
  go_wp2
  go_loopw [5] (fun i wr => ∃ k : Nat, k ≤ n ∧ i = .int .i64 k ∧ Hid (nmS xs ys = nmS (xs.drop k) (ys.drop k)) ∧ Below w.heap.size w wr) (fun i _ => n - (intOf i).toNat)
  case atStart => exact ⟨0, Nat.zero_le _, rfl, (show nmS xs ys = nmS (xs.drop 0) (ys.drop 0) by simp), Below.refl _ _⟩
  case round =>
    obtain ⟨k, hk, rfl, hr, hB⟩ := hrel
    by_cases hlt : k < n
    case neg =>
      have c2 : ¬ (k : Int) < n := by omega
      have hr3 : Hid (nmS xs ys = true) := by
        have h := hr.out
        rw [List.drop_eq_nil_of_le (by have := en.out; omega), List.drop_eq_nil_of_le (by have := em.out; omega)] at h
        exact h
      go_wp2
      go_ret
      exact ⟨ret_bool hr3.out.symm, hB⟩
    have hlt' : (k : Int) < n := by omega
    have kx : k < xs.length := by have := en.out; omega
    have ky : k < ys.length := by have := em.out; omega
    obtain ⟨b, off, rfl, hb, a0⟩ := HX.out k kx
    obtain ⟨b', off', rfl, hb', b0⟩ := HY.out k ky
    have a1 := (hB.cell (p := ⟨b, off + k, none⟩) hb).trans a0
    have b1 := (hB.cell (p := ⟨b', off' + k, none⟩) hb').trans b0
    have hr2 : Hid (nmS xs ys = ((xs[k].toList == ys[k].toList) && nmS (xs.drop (k + 1)) (ys.drop (k + 1)))) := by
      have h := hr.out
      rw [List.drop_eq_getElem_cons kx, List.drop_eq_getElem_cons ky, nmS] at h
      exact h
    clear a0 b0 hr
    generalize xs[k] = X at *
    generalize ys[k] = Y at *
    by_cases he : (X.toList == Y.toList) = true
    · have hne : (!X.toList == Y.toList) = false := by simp [he]
      have hr3 : Hid (nmS xs ys = nmS (xs.drop (k + 1)) (ys.drop (k + 1))) := by have h := hr2.out; rw [he, Bool.true_and] at h; exact h
      clear hr2
      go_upto_region 6 with fail
      go_quiet (fail)
      go_wp2
      exact ⟨⟨k + 1, by omega, by go_num, hr3, bdrewA _ hB⟩, by simp [intOf]; omega⟩
    · have he' : (X.toList == Y.toList) = false := by simpa using he
      have hne : (!X.toList == Y.toList) = true := by simp [he']
      have hr3 : Hid (nmS xs ys = false) := by have h := hr2.out; rw [he', Bool.false_and] at h; exact h
      clear hr2 he
      go_upto_region 6 with fail
      go_quiet (fail)
      go_wp2
      go_ret
      exact ⟨ret_bool hr3.out.symm, bdrewA _ hB⟩

set_option maxRecDepth 100000 in
set_option maxHeartbeats 8000000 in
theorem rsamet_step (x y : Tm) (u v : Value) (w : World) (hu : TmsAt w u x.subs) (hv : TmsAt w v y.subs) (IH : ∀ W : World, Below w.heap.size w W → Calls Try.prog 20 #[u, v] W fun e w' => e = .returned (.bool (sameTs x.subs y.subs)) ∧ Below W.heap.size W w') :
    Calls Try.prog 42 #[.agg #[.int .i64 x.k, .string x.nm, .int .i64 x.v.k, .int .i64 x.v.n, .int .i64 x.v.d, .string x.v.s, u], .agg #[.int .i64 y.k, .string y.nm, .int .i64 y.v.k, .int .i64 y.v.n, .int .i64 y.v.d, .string y.v.s, v]] w fun e w' => e = .returned (.bool (sameT x y)) ∧ Below w.heap.size w w' := by
  have cV : Hid (∀ W : World, Calls Try.prog 53 #[.agg #[.int .i64 x.v.k, .int .i64 x.v.n, .int .i64 x.v.d, .string x.v.s], .agg #[.int .i64 y.v.k, .int .i64 y.v.n, .int .i64 y.v.d, .string y.v.s]] W fun e w' => e = .returned (.bool (x.v.same y.v)) ∧ Below W.heap.size W w') := fun W => rsame_any x.v.k x.v.n x.v.d x.v.s y.v.k y.v.n y.v.d y.v.s W
  have cI : Hid (∀ W : World, Below w.heap.size w W → Calls Try.prog 20 #[u, v] W fun e w' => e = .returned (.bool (sameTs x.subs y.subs)) ∧ Below W.heap.size W w') := IH
  have hE : Hid (sameT x y = ((x.k == y.k) && ((x.nm.toList == y.nm.toList) && (x.v.same y.v && sameTs x.subs y.subs)))) := sameT_eq x y
  obtain ⟨pu, cu, rfl, -⟩ := hu.form
  obtain ⟨pv, cv, rfl, -⟩ := hv.form
  clear hu hv IH
  generalize sameT x y = R at *
  generalize sameTs x.subs y.subs = D at *
  generalize x.v.same y.v = C at *
  generalize x.k = xg_k at *
  generalize y.k = yg_k at *
  generalize x.nm = xg_nm at *
  generalize y.nm = yg_nm at *
  generalize x.v.k = xg_vk at *
  generalize y.v.k = yg_vk at *
  generalize x.v.n = xg_vn at *
  generalize y.v.n = yg_vn at *
  generalize x.v.d = xg_vd at *
  generalize y.v.d = yg_vd at *
  generalize x.v.s = xg_vs at *
  generalize y.v.s = yg_vs at *
  generalize x.subs.length = xg_subslength at *
  generalize y.subs.length = yg_subslength at *
  go_enter Try.func42, Try.ntmps42
  go_wp2_with fail
  refine (cV.out _).mono ?_
  rintro e w1 ⟨rfl, hw1⟩
  obtain ⟨hB1, hn1⟩ := bgX (n := w.heap.size) (W0 := w) (by go_grown) (by go_size) hw1
  have e0 : w1.cell? ⟨w.heap.size, 0, none⟩ = some (.int .i64 xg_k) := (hw1.cell (p := ⟨w.heap.size, 0, none⟩) (by first | (simp; done) | (simp; omega))).trans (by simp [go_sem])
  have e1 : w1.cell? ⟨w.heap.size, 1, none⟩ = some (.string xg_nm) := (hw1.cell (p := ⟨w.heap.size, 1, none⟩) (by first | (simp; done) | (simp; omega))).trans (by simp [go_sem])
  have e6 : w1.cell? ⟨w.heap.size, 6, none⟩ = some (.slice pu xg_subslength cu) := (hw1.cell (p := ⟨w.heap.size, 6, none⟩) (by first | (simp; done) | (simp; omega))).trans (by simp [go_sem])
  have g0 : w1.cell? ⟨w.heap.size + 1, 0, none⟩ = some (.int .i64 yg_k) := (hw1.cell (p := ⟨w.heap.size + 1, 0, none⟩) (by first | (simp; done) | (simp; omega))).trans (by simp [go_sem])
  have g1 : w1.cell? ⟨w.heap.size + 1, 1, none⟩ = some (.string yg_nm) := (hw1.cell (p := ⟨w.heap.size + 1, 1, none⟩) (by first | (simp; done) | (simp; omega))).trans (by simp [go_sem])
  have g6 : w1.cell? ⟨w.heap.size + 1, 6, none⟩ = some (.slice pv yg_subslength cv) := (hw1.cell (p := ⟨w.heap.size + 1, 6, none⟩) (by first | (simp; done) | (simp; omega))).trans (by simp [go_sem])
  clear hw1 cV
  by_cases h1 : (xg_k == yg_k) = true
  case neg =>
    have h1' : (xg_k == yg_k) = false := by simpa using h1
    have hR : Hid (R = false) := by have h := hE.out; rw [h1'] at h; simp at h; exact h
    clear h1
    go_wp2
    go_ret
    exact ⟨ret_bool hR.out.symm, hB1⟩
  by_cases h2 : (xg_nm.toList == yg_nm.toList) = true
  case neg =>
    have h2' : (xg_nm.toList == yg_nm.toList) = false := by simpa using h2
    have hR : Hid (R = false) := by have h := hE.out; rw [h2'] at h; simp at h; exact h
    clear h2
    go_wp2
    go_ret
    exact ⟨ret_bool hR.out.symm, hB1⟩
  cases C with
  | false =>
    have hR : Hid (R = false) := by have h := hE.out; simp at h; exact h
    go_wp2
    go_ret
    exact ⟨ret_bool hR.out.symm, hB1⟩
  | true =>
    have hR : Hid (R = D) := by have h := hE.out; rw [h1, h2] at h; simp at h; exact h
    go_wp2_with fail
    refine (cI.out _ hB1).mono ?_
    rintro e w2 ⟨rfl, hw2⟩
    have hB2 : Below w.heap.size w w2 := hB1.trans (hw2.mono hn1)
    clear hw2 cI e0 e1 e6 g0 g1 g6
    cases D with
    | false =>
      go_wp2
      go_ret
      exact ⟨ret_bool hR.out.symm, hB2⟩
    | true =>
      go_wp2
      go_ret
      exact ⟨ret_bool hR.out.symm, hB2⟩

set_option maxRecDepth 100000 in
set_option maxHeartbeats 8000000 in
theorem rsameTs_step (A B : Value) (xs ys : List Tm) (w : World) (hA : TmsAt w A xs) (hB : TmsAt w B ys) (HC : ∀ i (hi : i < xs.length) (hi' : i < ys.length) (u u' : Value) (W : World), TmsAt w u xs[i].subs → TmsAt w u' ys[i].subs → Below w.heap.size w W → Calls Try.prog 42 #[.agg #[.int .i64 xs[i].k, .string xs[i].nm, .int .i64 xs[i].v.k, .int .i64 xs[i].v.n, .int .i64 xs[i].v.d, .string xs[i].v.s, u], .agg #[.int .i64 ys[i].k, .string ys[i].nm, .int .i64 ys[i].v.k, .int .i64 ys[i].v.n, .int .i64 ys[i].v.d, .string ys[i].v.s, u']] W fun e w' => e = .returned (.bool (sameT xs[i] ys[i])) ∧ Below W.heap.size W w') :
    Calls Try.prog 20 #[A, B] w fun e w' => e = .returned (.bool (sameTs xs ys)) ∧ Below w.heap.size w w' := by
  obtain ⟨p, c, rfl, lx, hc, HX0⟩ := hA.form
  obtain ⟨p', c', rfl, ly, hc', HY0⟩ := hB.form
  by_cases hl : xs.length = ys.length
  case neg =>
    have h2 : ((xs.length : Int) == ys.length) = false := by simp; omega
    have HS : Hid (sameTs xs ys = false) := sameTs_len hl
    clear HX0 HY0 hA hB HC
    generalize xs.length = n at *
    generalize ys.length = m at *
    go_enter Try.func20, Try.ntmps20
    go_wp2
    go_ret
    exact ⟨ret_bool HS.out.symm, by go_grown⟩
  have HX : Hid (∀ i (hi : i < xs.length), ∃ b off u, p = some ⟨b, off, none⟩ ∧ b < w.heap.size ∧ TmC w b (off + i * 7) xs[i] u ∧ TmsAt w u xs[i].subs ∧ xs[i].v.Fits) := HX0
  have HY : Hid (∀ i (hi : i < ys.length), ∃ b off u, p' = some ⟨b, off, none⟩ ∧ b < w.heap.size ∧ TmC w b (off + i * 7) ys[i] u ∧ TmsAt w u ys[i].subs ∧ ys[i].v.Fits) := HY0
  have HCC : Hid (∀ i (hi : i < xs.length) (hi' : i < ys.length) (u u' : Value) (W : World), TmsAt w u xs[i].subs → TmsAt w u' ys[i].subs → Below w.heap.size w W → Calls Try.prog 42 #[.agg #[.int .i64 xs[i].k, .string xs[i].nm, .int .i64 xs[i].v.k, .int .i64 xs[i].v.n, .int .i64 xs[i].v.d, .string xs[i].v.s, u], .agg #[.int .i64 ys[i].k, .string ys[i].nm, .int .i64 ys[i].v.k, .int .i64 ys[i].v.n, .int .i64 ys[i].v.d, .string ys[i].v.s, u']] W fun e w' => e = .returned (.bool (sameT xs[i] ys[i])) ∧ Below W.heap.size W w') := HC
  obtain ⟨n, en⟩ : ∃ n : Nat, Hid (xs.length = n) := ⟨_, rfl⟩
  have em : Hid (ys.length = n) := hl.symm.trans en.out
  rw [en.out] at lx hc ⊢
  rw [em.out] at hc' ⊢
  clear hA hB hl ly HX0 HY0 HC
  go_enter Try.func20, Try.ntmps20
  go_wp2
  go_loopw [5] (fun i wr => ∃ k : Nat, k ≤ n ∧ i = .int .i64 k ∧ Hid (sameTs xs ys = sameTs (xs.drop k) (ys.drop k)) ∧ Below w.heap.size w wr) (fun i _ => n - (intOf i).toNat)
  case atStart => exact ⟨0, Nat.zero_le _, rfl, (show sameTs xs ys = sameTs (xs.drop 0) (ys.drop 0) by simp), Below.refl _ _⟩
  case round =>
    obtain ⟨k, hk, rfl, hr, hB⟩ := hrel
    have hsz := hB.size
    by_cases hlt : k < n
    case neg =>
      have c2 : ¬ (k : Int) < n := by omega
      have hr3 : Hid (sameTs xs ys = true) := by
        have h := hr.out
        rw [List.drop_eq_nil_of_le (by have := en.out; omega), List.drop_eq_nil_of_le (by have := em.out; omega), sameTs_nil] at h
        exact h
      go_wp2
      go_ret
      exact ⟨ret_bool hr3.out.symm, hB⟩
    have hlt' : (k : Int) < n := by omega
    have kx : k < xs.length := by have := en.out; omega
    have ky : k < ys.length := by have := em.out; omega
    obtain ⟨b, off, u, rfl, hb, TC, TS, TF⟩ := HX.out k kx
    obtain ⟨b', off', u', rfl, hb', TC', TS', TF'⟩ := HY.out k ky
    obtain ⟨a0, a1, a2, a3, a4, a5, a6⟩ := TC.below hB hb
    obtain ⟨b0, b1, b2, b3, b4, b5, b6⟩ := TC'.below hB hb'
    have hbr : b < wr.heap.size := Nat.lt_of_lt_of_le hb hsz
    have hbr' : b' < wr.heap.size := Nat.lt_of_lt_of_le hb' hsz
    have hr2 : Hid (sameTs xs ys = (sameT xs[k] ys[k] && sameTs (xs.drop (k + 1)) (ys.drop (k + 1)))) := by
      have h := hr.out
      rw [List.drop_eq_getElem_cons kx, List.drop_eq_getElem_cons ky, sameTs_cons] at h
      exact h
    have cCT : Hid (∀ W : World, Below w.heap.size w W → Calls Try.prog 42 #[.agg #[.int .i64 xs[k].k, .string xs[k].nm, .int .i64 xs[k].v.k, .int .i64 xs[k].v.n, .int .i64 xs[k].v.d, .string xs[k].v.s, u], .agg #[.int .i64 ys[k].k, .string ys[k].nm, .int .i64 ys[k].v.k, .int .i64 ys[k].v.n, .int .i64 ys[k].v.d, .string ys[k].v.s, u']] W fun e w' => e = .returned (.bool (sameT xs[k] ys[k])) ∧ Below W.heap.size W w') := fun W hW => HCC.out k kx ky u u' W TS TS' hW
    clear hr TC TC'
    obtain ⟨pu, cu, rfl, -⟩ := TS.form
    obtain ⟨pu', cu', rfl, -⟩ := TS'.form
    clear TS TF TS' TF'
    generalize sameT xs[k] ys[k] = C at *
    generalize xs[k].k = xg_k at *
    generalize ys[k].k = yg_k at *
    generalize xs[k].nm = xg_nm at *
    generalize ys[k].nm = yg_nm at *
    generalize xs[k].v.k = xg_vk at *
    generalize ys[k].v.k = yg_vk at *
    generalize xs[k].v.n = xg_vn at *
    generalize ys[k].v.n = yg_vn at *
    generalize xs[k].v.d = xg_vd at *
    generalize ys[k].v.d = yg_vd at *
    generalize xs[k].v.s = xg_vs at *
    generalize ys[k].v.s = yg_vs at *
    generalize xs[k].subs.length = xg_subslength at *
    generalize ys[k].subs.length = yg_subslength at *
    go_upto_region 6 with fail
    have HS : Hid (wr.cell? ⟨b, off + k * 7, none⟩ = some (.int .i64 xg_k) ∧ wr.cell? ⟨b, off + k * 7 + 1, none⟩ = some (.string xg_nm) ∧ wr.cell? ⟨b, off + k * 7 + 2, none⟩ = some (.int .i64 xg_vk) ∧ wr.cell? ⟨b, off + k * 7 + 3, none⟩ = some (.int .i64 xg_vn) ∧ wr.cell? ⟨b, off + k * 7 + 4, none⟩ = some (.int .i64 xg_vd) ∧ wr.cell? ⟨b, off + k * 7 + 5, none⟩ = some (.string xg_vs) ∧ wr.cell? ⟨b, off + k * 7 + 6, none⟩ = some (.slice pu xg_subslength cu) ∧ wr.cell? ⟨b', off' + k * 7, none⟩ = some (.int .i64 yg_k) ∧ wr.cell? ⟨b', off' + k * 7 + 1, none⟩ = some (.string yg_nm) ∧ wr.cell? ⟨b', off' + k * 7 + 2, none⟩ = some (.int .i64 yg_vk) ∧ wr.cell? ⟨b', off' + k * 7 + 3, none⟩ = some (.int .i64 yg_vn) ∧ wr.cell? ⟨b', off' + k * 7 + 4, none⟩ = some (.int .i64 yg_vd) ∧ wr.cell? ⟨b', off' + k * 7 + 5, none⟩ = some (.string yg_vs) ∧ wr.cell? ⟨b', off' + k * 7 + 6, none⟩ = some (.slice pu' yg_subslength cu')) := ⟨a0, a1, a2, a3, a4, a5, a6, b0, b1, b2, b3, b4, b5, b6⟩
    go_region_held3 (fun W => W.cell? ⟨b, off + k * 7, none⟩ = some (.int .i64 xg_k) ∧ W.cell? ⟨b, off + k * 7 + 1, none⟩ = some (.string xg_nm) ∧ W.cell? ⟨b, off + k * 7 + 2, none⟩ = some (.int .i64 xg_vk) ∧ W.cell? ⟨b, off + k * 7 + 3, none⟩ = some (.int .i64 xg_vn) ∧ W.cell? ⟨b, off + k * 7 + 4, none⟩ = some (.int .i64 xg_vd) ∧ W.cell? ⟨b, off + k * 7 + 5, none⟩ = some (.string xg_vs) ∧ W.cell? ⟨b, off + k * 7 + 6, none⟩ = some (.slice pu xg_subslength cu) ∧ W.cell? ⟨b', off' + k * 7, none⟩ = some (.int .i64 yg_k) ∧ W.cell? ⟨b', off' + k * 7 + 1, none⟩ = some (.string yg_nm) ∧ W.cell? ⟨b', off' + k * 7 + 2, none⟩ = some (.int .i64 yg_vk) ∧ W.cell? ⟨b', off' + k * 7 + 3, none⟩ = some (.int .i64 yg_vn) ∧ W.cell? ⟨b', off' + k * 7 + 4, none⟩ = some (.int .i64 yg_vd) ∧ W.cell? ⟨b', off' + k * 7 + 5, none⟩ = some (.string yg_vs) ∧ W.cell? ⟨b', off' + k * 7 + 6, none⟩ = some (.slice pu' yg_subslength cu'))
      (exact keepc7 (by go_grown) hbr hbr' HS.out)
      (first
        | (go_at_call 42; refine (cCT.out _ (hB.trans (by go_grown))).mono ?_; rintro e v1 ⟨rfl, hb1⟩; obtain ⟨hX1, hn1⟩ := bgX (n := wr.heap.size) (W0 := wr) (by go_grown) (by go_size) hb1; clear hb1))
    have hB2 : Hid (Below w.heap.size w v1) := hB.trans (hX1.mono hsz)
    clear a0 a1 a2 a3 a4 a5 a6 b0 b1 b2 b3 b4 b5 b6 cCT hX1 hn1
    cases C with
    | true =>
      have hr3 : Hid (sameTs xs ys = sameTs (xs.drop (k + 1)) (ys.drop (k + 1))) := by have := hr2.out; rwa [Bool.true_and] at this
      go_wp2
      exact ⟨⟨k + 1, by omega, by go_num, hr3, hB2.out⟩, by simp [intOf]; omega⟩
    | false =>
      have hr3 : Hid (sameTs xs ys = false) := by have := hr2.out; rwa [Bool.false_and] at this
      go_wp2
      go_ret
      exact ⟨ret_bool hr3.out.symm, hB2.out⟩

theorem rsame_tms : ∀ (m : Nat) (xs ys : List Tm) (A B : Value) (w : World), SizeOf.sizeOf xs ≤ m → TmsAt w A xs → TmsAt w B ys → Calls Try.prog 20 #[A, B] w fun e w' => e = .returned (.bool (sameTs xs ys)) ∧ Below w.heap.size w w' := by
  intro m
  induction m with
  | zero => intro xs ys A B w hm; cases xs <;> simp at hm
  | succ m ih =>
    intro xs ys A B w hm hA hB
    exact rsameTs_step A B xs ys w hA hB fun i hi hi' u u' W h1 h2 hW => rsamet_step xs[i] ys[i] u u' W (h1.bel hW) (h2.bel hW) fun W' hW' => ih _ _ _ _ W' (by have := mem_lt i hi; have := Tm.subs_lt xs[i]; omega) ((h1.bel hW).bel hW') ((h2.bel hW).bel hW')

end Go.Proofs.Ytfajjphfjilpnab

namespace Go.Proofs.Ytfajjphfjilpnab
open Go.RowKit LX Go.Shelf
set_option linter.unusedVariables false

set_option maxRecDepth 100000 in
set_option maxHeartbeats 8000000 in
theorem rsameFs_step (A B : Value) (xs ys : List Fm) (w : World) (hA : FmsAt w A xs) (hB : FmsAt w B ys) (HC : ∀ i (hi : i < xs.length) (hi' : i < ys.length) (q q' : FQ) (W : World), QAt w (xs[i], q) → QAt w (ys[i], q') → Below w.heap.size w W → Calls Try.prog 6 #[.agg #[.int .i64 xs[i].k, .string xs[i].nm, .int .i64 xs[i].op, q.v, q.t, .int .i64 xs[i].lo, .int .i64 xs[i].hi, .bool xs[i].opn, q.s, q.r], .agg #[.int .i64 ys[i].k, .string ys[i].nm, .int .i64 ys[i].op, q'.v, q'.t, .int .i64 ys[i].lo, .int .i64 ys[i].hi, .bool ys[i].opn, q'.s, q'.r]] W fun e w' => e = .returned (.bool (sameF xs[i] ys[i])) ∧ Below W.heap.size W w') :
    Calls Try.prog 22 #[A, B] w fun e w' => e = .returned (.bool (sameFs xs ys)) ∧ Below w.heap.size w w' := by
  obtain ⟨p, c, rfl, lx, hc, HX0⟩ := hA.form
  obtain ⟨p', c', rfl, ly, hc', HY0⟩ := hB.form
  by_cases hl : xs.length = ys.length
  case neg =>
    have h2 : ((xs.length : Int) == ys.length) = false := by simp; omega
    have HS : Hid (sameFs xs ys = false) := sameFs_len hl
    clear HX0 HY0 hA hB HC
    generalize xs.length = n at *
    generalize ys.length = m at *
    go_enter Try.func22, Try.ntmps22
    go_wp2
    go_ret
    exact ⟨ret_bool HS.out.symm, by go_grown⟩
  have HX : Hid (∀ i (hi : i < xs.length), ∃ b off uv ut us ur, p = some ⟨b, off, none⟩ ∧ b < w.heap.size ∧ FmC w b (off + i * 10) xs[i] uv ut us ur ∧ NmsAt w uv xs[i].vars ∧ TmsAt w ut xs[i].terms ∧ FmsAt w us xs[i].subs ∧ RxsAt w ur xs[i].rgx) := HX0
  have HY : Hid (∀ i (hi : i < ys.length), ∃ b off uv ut us ur, p' = some ⟨b, off, none⟩ ∧ b < w.heap.size ∧ FmC w b (off + i * 10) ys[i] uv ut us ur ∧ NmsAt w uv ys[i].vars ∧ TmsAt w ut ys[i].terms ∧ FmsAt w us ys[i].subs ∧ RxsAt w ur ys[i].rgx) := HY0
  have HCC : Hid (∀ i (hi : i < xs.length) (hi' : i < ys.length) (q q' : FQ) (W : World), QAt w (xs[i], q) → QAt w (ys[i], q') → Below w.heap.size w W → Calls Try.prog 6 #[.agg #[.int .i64 xs[i].k, .string xs[i].nm, .int .i64 xs[i].op, q.v, q.t, .int .i64 xs[i].lo, .int .i64 xs[i].hi, .bool xs[i].opn, q.s, q.r], .agg #[.int .i64 ys[i].k, .string ys[i].nm, .int .i64 ys[i].op, q'.v, q'.t, .int .i64 ys[i].lo, .int .i64 ys[i].hi, .bool ys[i].opn, q'.s, q'.r]] W fun e w' => e = .returned (.bool (sameF xs[i] ys[i])) ∧ Below W.heap.size W w') := HC
  obtain ⟨n, en⟩ : ∃ n : Nat, Hid (xs.length = n) := ⟨_, rfl⟩
  have em : Hid (ys.length = n) := hl.symm.trans en.out
  rw [en.out] at lx hc ⊢
  rw [em.out] at hc' ⊢
  clear hA hB hl ly HX0 HY0 HC
  go_enter Try.func22, Try.ntmps22
  go_wp2
  go_loopw [5] (fun i wr => ∃ k : Nat, k ≤ n ∧ i = .int .i64 k ∧ Hid (sameFs xs ys = sameFs (xs.drop k) (ys.drop k)) ∧ Below w.heap.size w wr) (fun i _ => n - (intOf i).toNat)
  case atStart => exact ⟨0, Nat.zero_le _, rfl, (show sameFs xs ys = sameFs (xs.drop 0) (ys.drop 0) by simp), Below.refl _ _⟩
  case round =>
    obtain ⟨k, hk, rfl, hr, hB⟩ := hrel
    have hsz := hB.size
    by_cases hlt : k < n
    case neg =>
      have c2 : ¬ (k : Int) < n := by omega
      have hr3 : Hid (sameFs xs ys = true) := by
        have h := hr.out
        rw [List.drop_eq_nil_of_le (by have := en.out; omega), List.drop_eq_nil_of_le (by have := em.out; omega), sameFs_nil] at h
        exact h
      go_wp2
      go_ret
      exact ⟨ret_bool hr3.out.symm, hB⟩
    have hlt' : (k : Int) < n := by omega
    have kx : k < xs.length := by have := en.out; omega
    have ky : k < ys.length := by have := em.out; omega
    obtain ⟨b, off, uv, ut, us, ur, rfl, hb, TC, FV, FT, FS, FR⟩ := HX.out k kx
    obtain ⟨b', off', uv', ut', us', ur', rfl, hb', TC', FV', FT', FS', FR'⟩ := HY.out k ky
    obtain ⟨a0, a1, a2, a3, a4, a5, a6, a7, a8, a9⟩ := TC.below hB hb
    obtain ⟨b0, b1, b2, b3, b4, b5, b6, b7, b8, b9⟩ := TC'.below hB hb'
    have hbr : b < wr.heap.size := Nat.lt_of_lt_of_le hb hsz
    have hbr' : b' < wr.heap.size := Nat.lt_of_lt_of_le hb' hsz
    have hr2 : Hid (sameFs xs ys = (sameF xs[k] ys[k] && sameFs (xs.drop (k + 1)) (ys.drop (k + 1)))) := by
      have h := hr.out
      rw [List.drop_eq_getElem_cons kx, List.drop_eq_getElem_cons ky, sameFs_cons] at h
      exact h
    have cCT : Hid (∀ W : World, Below w.heap.size w W → Calls Try.prog 6 #[.agg #[.int .i64 xs[k].k, .string xs[k].nm, .int .i64 xs[k].op, uv, ut, .int .i64 xs[k].lo, .int .i64 xs[k].hi, .bool xs[k].opn, us, ur], .agg #[.int .i64 ys[k].k, .string ys[k].nm, .int .i64 ys[k].op, uv', ut', .int .i64 ys[k].lo, .int .i64 ys[k].hi, .bool ys[k].opn, us', ur']] W fun e w' => e = .returned (.bool (sameF xs[k] ys[k])) ∧ Below W.heap.size W w') := fun W hW => HCC.out k kx ky ⟨uv, ut, us, ur⟩ ⟨uv', ut', us', ur'⟩ W ⟨FV, FT, FS, FR⟩ ⟨FV', FT', FS', FR'⟩ hW
    clear hr TC TC'
    obtain ⟨-, pv, cv, rfl, -⟩ := FV
    obtain ⟨pt, ct, rfl, -⟩ := FT.form
    obtain ⟨ps, cs, rfl, -⟩ := FS.form
    obtain ⟨pr, cr, rfl, -⟩ := FR.form
    obtain ⟨-, pv', cv', rfl, -⟩ := FV'
    obtain ⟨pt', ct', rfl, -⟩ := FT'.form
    obtain ⟨ps', cs', rfl, -⟩ := FS'.form
    obtain ⟨pr', cr', rfl, -⟩ := FR'.form
    clear FT FS FR FT' FS' FR'
    generalize sameF xs[k] ys[k] = C at *
    generalize xs[k].k = xg_k at *
    generalize ys[k].k = yg_k at *
    generalize xs[k].nm = xg_nm at *
    generalize ys[k].nm = yg_nm at *
    generalize xs[k].op = xg_op at *
    generalize ys[k].op = yg_op at *
    generalize xs[k].lo = xg_lo at *
    generalize ys[k].lo = yg_lo at *
    generalize xs[k].hi = xg_hi at *
    generalize ys[k].hi = yg_hi at *
    generalize xs[k].opn = xg_opn at *
    generalize ys[k].opn = yg_opn at *
    generalize xs[k].vars.length = xg_varslength at *
    generalize ys[k].vars.length = yg_varslength at *
    generalize xs[k].terms.length = xg_termslength at *
    generalize ys[k].terms.length = yg_termslength at *
    generalize xs[k].subs.length = xg_subslength at *
    generalize ys[k].subs.length = yg_subslength at *
    generalize xs[k].rgx.length = xg_rgxlength at *
    generalize ys[k].rgx.length = yg_rgxlength at *
    go_upto_region 6 with fail
    have HS : Hid (wr.cell? ⟨b, off + k * 10, none⟩ = some (.int .i64 xg_k) ∧ wr.cell? ⟨b, off + k * 10 + 1, none⟩ = some (.string xg_nm) ∧ wr.cell? ⟨b, off + k * 10 + 2, none⟩ = some (.int .i64 xg_op) ∧ wr.cell? ⟨b, off + k * 10 + 3, none⟩ = some (.slice pv xg_varslength cv) ∧ wr.cell? ⟨b, off + k * 10 + 4, none⟩ = some (.slice pt xg_termslength ct) ∧ wr.cell? ⟨b, off + k * 10 + 5, none⟩ = some (.int .i64 xg_lo) ∧ wr.cell? ⟨b, off + k * 10 + 6, none⟩ = some (.int .i64 xg_hi) ∧ wr.cell? ⟨b, off + k * 10 + 7, none⟩ = some (.bool xg_opn) ∧ wr.cell? ⟨b, off + k * 10 + 8, none⟩ = some (.slice ps xg_subslength cs) ∧ wr.cell? ⟨b, off + k * 10 + 9, none⟩ = some (.slice pr xg_rgxlength cr) ∧ wr.cell? ⟨b', off' + k * 10, none⟩ = some (.int .i64 yg_k) ∧ wr.cell? ⟨b', off' + k * 10 + 1, none⟩ = some (.string yg_nm) ∧ wr.cell? ⟨b', off' + k * 10 + 2, none⟩ = some (.int .i64 yg_op) ∧ wr.cell? ⟨b', off' + k * 10 + 3, none⟩ = some (.slice pv' yg_varslength cv') ∧ wr.cell? ⟨b', off' + k * 10 + 4, none⟩ = some (.slice pt' yg_termslength ct') ∧ wr.cell? ⟨b', off' + k * 10 + 5, none⟩ = some (.int .i64 yg_lo) ∧ wr.cell? ⟨b', off' + k * 10 + 6, none⟩ = some (.int .i64 yg_hi) ∧ wr.cell? ⟨b', off' + k * 10 + 7, none⟩ = some (.bool yg_opn) ∧ wr.cell? ⟨b', off' + k * 10 + 8, none⟩ = some (.slice ps' yg_subslength cs') ∧ wr.cell? ⟨b', off' + k * 10 + 9, none⟩ = some (.slice pr' yg_rgxlength cr')) := ⟨a0, a1, a2, a3, a4, a5, a6, a7, a8, a9, b0, b1, b2, b3, b4, b5, b6, b7, b8, b9⟩
    go_region_held3 (fun W => W.cell? ⟨b, off + k * 10, none⟩ = some (.int .i64 xg_k) ∧ W.cell? ⟨b, off + k * 10 + 1, none⟩ = some (.string xg_nm) ∧ W.cell? ⟨b, off + k * 10 + 2, none⟩ = some (.int .i64 xg_op) ∧ W.cell? ⟨b, off + k * 10 + 3, none⟩ = some (.slice pv xg_varslength cv) ∧ W.cell? ⟨b, off + k * 10 + 4, none⟩ = some (.slice pt xg_termslength ct) ∧ W.cell? ⟨b, off + k * 10 + 5, none⟩ = some (.int .i64 xg_lo) ∧ W.cell? ⟨b, off + k * 10 + 6, none⟩ = some (.int .i64 xg_hi) ∧ W.cell? ⟨b, off + k * 10 + 7, none⟩ = some (.bool xg_opn) ∧ W.cell? ⟨b, off + k * 10 + 8, none⟩ = some (.slice ps xg_subslength cs) ∧ W.cell? ⟨b, off + k * 10 + 9, none⟩ = some (.slice pr xg_rgxlength cr) ∧ W.cell? ⟨b', off' + k * 10, none⟩ = some (.int .i64 yg_k) ∧ W.cell? ⟨b', off' + k * 10 + 1, none⟩ = some (.string yg_nm) ∧ W.cell? ⟨b', off' + k * 10 + 2, none⟩ = some (.int .i64 yg_op) ∧ W.cell? ⟨b', off' + k * 10 + 3, none⟩ = some (.slice pv' yg_varslength cv') ∧ W.cell? ⟨b', off' + k * 10 + 4, none⟩ = some (.slice pt' yg_termslength ct') ∧ W.cell? ⟨b', off' + k * 10 + 5, none⟩ = some (.int .i64 yg_lo) ∧ W.cell? ⟨b', off' + k * 10 + 6, none⟩ = some (.int .i64 yg_hi) ∧ W.cell? ⟨b', off' + k * 10 + 7, none⟩ = some (.bool yg_opn) ∧ W.cell? ⟨b', off' + k * 10 + 8, none⟩ = some (.slice ps' yg_subslength cs') ∧ W.cell? ⟨b', off' + k * 10 + 9, none⟩ = some (.slice pr' yg_rgxlength cr'))
      (exact keepc10 (by go_grown) hbr hbr' HS.out)
      (first
        | (go_at_call 6; refine (cCT.out _ (hB.trans (by go_grown))).mono ?_; rintro e v1 ⟨rfl, hb1⟩; obtain ⟨hX1, hn1⟩ := bgX (n := wr.heap.size) (W0 := wr) (by go_grown) (by go_size) hb1; clear hb1))
    have hB2 : Hid (Below w.heap.size w v1) := hB.trans (hX1.mono hsz)
    clear a0 a1 a2 a3 a4 a5 a6 a7 a8 a9 b0 b1 b2 b3 b4 b5 b6 b7 b8 b9 cCT hX1 hn1
    cases C with
    | true =>
      have hr3 : Hid (sameFs xs ys = sameFs (xs.drop (k + 1)) (ys.drop (k + 1))) := by have := hr2.out; rwa [Bool.true_and] at this
      go_wp2
      exact ⟨⟨k + 1, by omega, by go_num, hr3, hB2.out⟩, by simp [intOf]; omega⟩
    | false =>
      have hr3 : Hid (sameFs xs ys = false) := by have := hr2.out; rwa [Bool.false_and] at this
      go_wp2
      go_ret
      exact ⟨ret_bool hr3.out.symm, hB2.out⟩

theorem keepR {W0 W : World} {a a' : Addr} {u v : Value} (h : Below W0.heap.size W0 W) (hx : a.block < W0.heap.size) (hy : a'.block < W0.heap.size) (hs : W0.cell? a = some u ∧ W0.cell? a' = some v) : W.cell? a = some u ∧ W.cell? a' = some v := ⟨bclL h hs.1 hx, bclL h hs.2 hy⟩
set_option maxRecDepth 100000 in
set_option maxHeartbeats 8000000 in
theorem rsameRs_step (A B : Value) (xs ys : List Rx) (w : World) (hA : RxsAt w A xs) (hB : RxsAt w B ys) (HF : ∀ i (hi : i < xs.length) (hi' : i < ys.length) (u u' : Value) (W : World), FmsAt w u xs[i].test → FmsAt w u' ys[i].test → Below w.heap.size w W → Calls Try.prog 22 #[u, u'] W fun e w' => e = .returned (.bool (sameFs xs[i].test ys[i].test)) ∧ Below W.heap.size W w') (HR : ∀ i (hi : i < xs.length) (hi' : i < ys.length) (u u' : Value) (W : World), RxsAt w u xs[i].subs → RxsAt w u' ys[i].subs → Below w.heap.size w W → Calls Try.prog 21 #[u, u'] W fun e w' => e = .returned (.bool (sameRs xs[i].subs ys[i].subs)) ∧ Below W.heap.size W w') :
    Calls Try.prog 21 #[A, B] w fun e w' => e = .returned (.bool (sameRs xs ys)) ∧ Below w.heap.size w w' := by
  obtain ⟨p, c, rfl, lx, hc, HX0⟩ := hA.form
  obtain ⟨p', c', rfl, ly, hc', HY0⟩ := hB.form
  by_cases hl : xs.length = ys.length
  case neg =>
    have h2 : ((xs.length : Int) == ys.length) = false := by simp; omega
    have HS : Hid (sameRs xs ys = false) := sameRs_len hl
    clear HX0 HY0 hA hB HF HR
    generalize xs.length = n at *
    generalize ys.length = m at *
    go_enter Try.func21, Try.ntmps21
    go_wp2
    go_ret
    exact ⟨ret_bool HS.out.symm, by go_grown⟩
  have HX : Hid (∀ i (hi : i < xs.length), ∃ b off ut us, p = some ⟨b, off, none⟩ ∧ b < w.heap.size ∧ RxC w b (off + i * 3) xs[i] ut us ∧ FmsAt w ut xs[i].test ∧ RxsAt w us xs[i].subs) := HX0
  have HY : Hid (∀ i (hi : i < ys.length), ∃ b off ut us, p' = some ⟨b, off, none⟩ ∧ b < w.heap.size ∧ RxC w b (off + i * 3) ys[i] ut us ∧ FmsAt w ut ys[i].test ∧ RxsAt w us ys[i].subs) := HY0
  have HFF : Hid (∀ i (hi : i < xs.length) (hi' : i < ys.length) (u u' : Value) (W : World), FmsAt w u xs[i].test → FmsAt w u' ys[i].test → Below w.heap.size w W → Calls Try.prog 22 #[u, u'] W fun e w' => e = .returned (.bool (sameFs xs[i].test ys[i].test)) ∧ Below W.heap.size W w') := HF
  have HRR : Hid (∀ i (hi : i < xs.length) (hi' : i < ys.length) (u u' : Value) (W : World), RxsAt w u xs[i].subs → RxsAt w u' ys[i].subs → Below w.heap.size w W → Calls Try.prog 21 #[u, u'] W fun e w' => e = .returned (.bool (sameRs xs[i].subs ys[i].subs)) ∧ Below W.heap.size W w') := HR
  obtain ⟨n, en⟩ : ∃ n : Nat, Hid (xs.length = n) := ⟨_, rfl⟩
  have em : Hid (ys.length = n) := hl.symm.trans en.out
  rw [en.out] at lx hc ⊢
  rw [em.out] at hc' ⊢
  clear hA hB hl ly HX0 HY0 HF HR
  go_enter Try.func21, Try.ntmps21
  go_wp2
  go_loopw [5] (fun i wr => ∃ k : Nat, k ≤ n ∧ i = .int .i64 k ∧ Hid (sameRs xs ys = sameRs (xs.drop k) (ys.drop k)) ∧ Below w.heap.size w wr) (fun i _ => n - (intOf i).toNat)
  case atStart => exact ⟨0, Nat.zero_le _, rfl, (show sameRs xs ys = sameRs (xs.drop 0) (ys.drop 0) by simp), Below.refl _ _⟩
  case round =>
    obtain ⟨k, hk, rfl, hr, hB⟩ := hrel
    have hsz := hB.size
    by_cases hlt : k < n
    case neg =>
      have c2 : ¬ (k : Int) < n := by omega
      have hr3 : Hid (sameRs xs ys = true) := by
        have h := hr.out
        rw [List.drop_eq_nil_of_le (by have := en.out; omega), List.drop_eq_nil_of_le (by have := em.out; omega), sameRs_nil] at h
        exact h
      go_wp2
      go_ret
      exact ⟨ret_bool hr3.out.symm, hB⟩
    have hlt' : (k : Int) < n := by omega
    have kx : k < xs.length := by have := en.out; omega
    have ky : k < ys.length := by have := em.out; omega
    obtain ⟨b, off, ut, us, rfl, hb, TC, TT, TS⟩ := HX.out k kx
    obtain ⟨b', off', ut', us', rfl, hb', TC', TT', TS'⟩ := HY.out k ky
    obtain ⟨a0, a1, a2⟩ := TC.below hB hb
    obtain ⟨b0, b1, b2⟩ := TC'.below hB hb'
    have hbr : b < wr.heap.size := Nat.lt_of_lt_of_le hb hsz
    have hbr' : b' < wr.heap.size := Nat.lt_of_lt_of_le hb' hsz
    have hr2 : Hid (sameRs xs ys = (((xs[k].k == ys[k].k) && (sameFs xs[k].test ys[k].test && sameRs xs[k].subs ys[k].subs)) && sameRs (xs.drop (k + 1)) (ys.drop (k + 1)))) := by
      have h := hr.out
      rw [List.drop_eq_getElem_cons kx, List.drop_eq_getElem_cons ky, sameRs_cons, sameR_eq] at h
      exact h
    have cF : Hid (∀ W : World, Below w.heap.size w W → Calls Try.prog 22 #[ut, ut'] W fun e w' => e = .returned (.bool (sameFs xs[k].test ys[k].test)) ∧ Below W.heap.size W w') := fun W hW => HFF.out k kx ky ut ut' W TT TT' hW
    have cR : Hid (∀ W : World, Below w.heap.size w W → Calls Try.prog 21 #[us, us'] W fun e w' => e = .returned (.bool (sameRs xs[k].subs ys[k].subs)) ∧ Below W.heap.size W w') := fun W hW => HRR.out k kx ky us us' W TS TS' hW
    clear hr TC TC'
    obtain ⟨pt, ct, rfl, -⟩ := TT.form
    obtain ⟨ps, cs, rfl, -⟩ := TS.form
    obtain ⟨pt', ct', rfl, -⟩ := TT'.form
    obtain ⟨ps', cs', rfl, -⟩ := TS'.form
    clear TT TS TT' TS'
    generalize sameFs xs[k].test ys[k].test = C at *
    generalize sameRs xs[k].subs ys[k].subs = D at *
    generalize xs[k].k = xk at *
    generalize ys[k].k = yk at *
    generalize xs[k].test.length = nt at *
    generalize ys[k].test.length = nt' at *
    generalize xs[k].subs.length = ns at *
    generalize ys[k].subs.length = ns' at *
    go_upto_region 6 with fail
    have HS : Hid (wr.cell? ⟨b, off + k * 3 + 1, none⟩ = some (.slice pt nt ct) ∧ wr.cell? ⟨b', off' + k * 3 + 1, none⟩ = some (.slice pt' nt' ct')) := ⟨a1, b1⟩
    go_region_held3 (fun W => W.cell? ⟨b, off + k * 3 + 1, none⟩ = some (.slice pt nt ct) ∧ W.cell? ⟨b', off' + k * 3 + 1, none⟩ = some (.slice pt' nt' ct'))
      (exact keepR (by go_grown) hbr hbr' HS.out)
      (first
        | (go_at_call 22; refine (cF.out _ (hB.trans (by go_grown))).mono ?_; rintro e v1 ⟨rfl, hv1⟩; obtain ⟨hX1, hn1⟩ := bgX (n := wr.heap.size) (W0 := wr) (by go_grown) (by go_size) hv1; clear hv1))
    have hB1 : Below w.heap.size w v1 := hB.trans (hX1.mono hsz)
    have hsz1 := hB1.size
    have a0' : v1.cell? ⟨b, off + k * 3, none⟩ = some (.int .i64 xk) := bclL hX1 a0 hbr
    have b0' : v1.cell? ⟨b', off' + k * 3, none⟩ = some (.int .i64 yk) := bclL hX1 b0 hbr'
    have a2' : v1.cell? ⟨b, off + k * 3 + 2, none⟩ = some (.slice ps ns cs) := bclL hX1 a2 hbr
    have b2' : v1.cell? ⟨b', off' + k * 3 + 2, none⟩ = some (.slice ps' ns' cs') := bclL hX1 b2 hbr'
    have hb1 : b < v1.heap.size := by omega
    have hb1' : b' < v1.heap.size := by omega
    clear a0 a1 a2 b0 b1 b2 HS hX1 cF hB
    go_upto_region 7 with fail
    have HS : Hid (v1.cell? ⟨b, off + k * 3 + 2, none⟩ = some (.slice ps ns cs) ∧ v1.cell? ⟨b', off' + k * 3 + 2, none⟩ = some (.slice ps' ns' cs')) := ⟨a2', b2'⟩
    go_region_held3 (fun W => W.cell? ⟨b, off + k * 3 + 2, none⟩ = some (.slice ps ns cs) ∧ W.cell? ⟨b', off' + k * 3 + 2, none⟩ = some (.slice ps' ns' cs'))
      (exact keepR (by go_grown) hb1 hb1' HS.out)
      (first
        | (go_at_call 21; refine (cR.out _ (hB1.trans (by go_grown))).mono ?_; rintro e v2 ⟨rfl, hv2⟩; obtain ⟨hX2, hn2⟩ := bgX (n := v1.heap.size) (W0 := v1) (by go_grown) (by go_size) hv2; clear hv2))
    have hB2 : Below w.heap.size w v2 := hB1.trans (hX2.mono hsz1)
    have a0 : v2.cell? ⟨b, off + k * 3, none⟩ = some (.int .i64 xk) := bclL hX2 a0' hb1
    have b0 : v2.cell? ⟨b', off' + k * 3, none⟩ = some (.int .i64 yk) := bclL hX2 b0' hb1'
    clear a0' b0' a2' b2' HS hX2 cR hB1
    go_upto_region 8 with fail
    by_cases hk1 : (xk == yk) = true
    case neg =>
      have hk1' : (xk == yk) = false := by simpa using hk1
      have hne : (xk != yk) = true := by simp [bne, hk1']
      have hr3 : Hid (sameRs xs ys = false) := by have h := hr2.out; rw [hk1'] at h; simp at h; exact h
      clear hk1 hr2
      go_quiet (fail)
      go_wp2
      go_ret
      exact ⟨ret_bool hr3.out.symm, bdrewA _ hB2⟩
    have hne : (xk != yk) = false := by simp [bne, hk1]
    cases C with
    | false =>
      have hr3 : Hid (sameRs xs ys = false) := by have h := hr2.out; simp at h; exact h
      clear hr2
      go_quiet (fail)
      go_wp2
      go_ret
      exact ⟨ret_bool hr3.out.symm, bdrewA _ hB2⟩
    | true =>
      cases D with
      | false =>
        have hr3 : Hid (sameRs xs ys = false) := by have h := hr2.out; simp at h; exact h
        clear hr2
        go_quiet (fail)
        go_wp2
        go_ret
        exact ⟨ret_bool hr3.out.symm, bdrewA _ hB2⟩
      | true =>
        have hr3 : Hid (sameRs xs ys = sameRs (xs.drop (k + 1)) (ys.drop (k + 1))) := by have h := hr2.out; rw [hk1] at h; simp only [Bool.true_and] at h; exact h
        clear hr2
        go_quiet (fail)
        go_wp2
        exact ⟨⟨k + 1, by omega, by go_num, hr3, bdrewA _ hB2⟩, by simp [intOf]; omega⟩

set_option maxRecDepth 100000 in
set_option maxHeartbeats 8000000 in
theorem rsamef_step (x y : Fm) (q q' : FQ) (w : World) (hq : QAt w (x, q)) (hq' : QAt w (y, q')) (IF : ∀ W : World, Below w.heap.size w W → Calls Try.prog 22 #[q.s, q'.s] W fun e w' => e = .returned (.bool (sameFs x.subs y.subs)) ∧ Below W.heap.size W w') (IR : ∀ W : World, Below w.heap.size w W → Calls Try.prog 21 #[q.r, q'.r] W fun e w' => e = .returned (.bool (sameRs x.rgx y.rgx)) ∧ Below W.heap.size W w') :
    Calls Try.prog 6 #[.agg #[.int .i64 x.k, .string x.nm, .int .i64 x.op, q.v, q.t, .int .i64 x.lo, .int .i64 x.hi, .bool x.opn, q.s, q.r], .agg #[.int .i64 y.k, .string y.nm, .int .i64 y.op, q'.v, q'.t, .int .i64 y.lo, .int .i64 y.hi, .bool y.opn, q'.s, q'.r]] w fun e w' => e = .returned (.bool (sameF x y)) ∧ Below w.heap.size w w' := by
  have cV : Hid (∀ W : World, Below w.heap.size w W → Calls Try.prog 19 #[q.v, q'.v] W fun e w' => e = .returned (.bool (decide (x.vars = y.vars))) ∧ Below W.heap.size W w') := fun W hW => rnms_any _ _ _ _ W (hq.1.below hW) (hq'.1.below hW)
  have cT : Hid (∀ W : World, Below w.heap.size w W → Calls Try.prog 20 #[q.t, q'.t] W fun e w' => e = .returned (.bool (sameTs x.terms y.terms)) ∧ Below W.heap.size W w') := fun W hW => rsame_tms _ _ _ _ _ W (Nat.le_refl _) (hq.2.1.bel hW) (hq'.2.1.bel hW)
  have cR : Hid (∀ W : World, Below w.heap.size w W → Calls Try.prog 21 #[q.r, q'.r] W fun e w' => e = .returned (.bool (sameRs x.rgx y.rgx)) ∧ Below W.heap.size W w') := IR
  have cF : Hid (∀ W : World, Below w.heap.size w W → Calls Try.prog 22 #[q.s, q'.s] W fun e w' => e = .returned (.bool (sameFs x.subs y.subs)) ∧ Below W.heap.size W w') := IF
  have hE : Hid (sameF x y = ((x.k == y.k) && ((x.nm.toList == y.nm.toList) && ((x.op == y.op) && (((x.lo == y.lo) && ((x.hi == y.hi) && (x.opn == y.opn))) && (decide (x.vars = y.vars) && (sameTs x.terms y.terms && (sameRs x.rgx y.rgx && sameFs x.subs y.subs)))))))) := sameF_eq x y
  obtain ⟨uv, ut, us, ur⟩ := q
  obtain ⟨uv', ut', us', ur'⟩ := q'
  obtain ⟨h1, h2, h3, h4⟩ := hq
  obtain ⟨h1', h2', h3', h4'⟩ := hq'
  dsimp only at h1 h2 h3 h4 h1' h2' h3' h4' cV cT cR cF ⊢
  obtain ⟨-, pv, cv, rfl, -⟩ := h1
  obtain ⟨pt, ct, rfl, -⟩ := h2.form
  obtain ⟨ps, cs, rfl, -⟩ := h3.form
  obtain ⟨pr, cr, rfl, -⟩ := h4.form
  obtain ⟨-, pv', cv', rfl, -⟩ := h1'
  obtain ⟨pt', ct', rfl, -⟩ := h2'.form
  obtain ⟨ps', cs', rfl, -⟩ := h3'.form
  obtain ⟨pr', cr', rfl, -⟩ := h4'.form
  clear h2 h3 h4 h2' h3' h4' IF IR
  generalize sameF x y = R at *
  generalize sameFs x.subs y.subs = C4 at *
  generalize sameRs x.rgx y.rgx = C3 at *
  generalize sameTs x.terms y.terms = C2 at *
  generalize decide (x.vars = y.vars) = C1 at *
  generalize x.vars.length = nv at *
  generalize y.vars.length = nv' at *
  generalize x.terms.length = nt at *
  generalize y.terms.length = nt' at *
  generalize x.subs.length = ns at *
  generalize y.subs.length = ns' at *
  generalize x.rgx.length = nr at *
  generalize y.rgx.length = nr' at *
  generalize x.lo = lo at *
  generalize y.lo = lo' at *
  generalize x.hi = hi at *
  generalize y.hi = hi' at *
  generalize x.nm = nm at *
  generalize y.nm = nm' at *
  generalize x.opn = o at *
  generalize y.opn = o' at *
  generalize x.op = op at *
  generalize y.op = op' at *
  generalize x.k = k at *
  generalize y.k = k' at *
  by_cases h1 : (k == k') = true
  case neg =>
    have hf : (k == k') = false := by simpa using h1
    have hR : Hid (R = false) := by have h := hE.out; rw [hf] at h; simp at h; exact h
    have hne : (k != k') = true := by simp [bne, hf]
    clear h1
    go_enter Try.func6, Try.ntmps6
    go_wp2
    all_goals (go_ret; exact ⟨ret_bool hR.out.symm, by go_grown⟩)
  have n1 : (k != k') = false := by simp [bne, h1]
  by_cases h2 : (nm.toList == nm'.toList) = true
  case neg =>
    have hf : (nm.toList == nm'.toList) = false := by simpa using h2
    have hR : Hid (R = false) := by have h := hE.out; rw [hf] at h; simp at h; exact h
    have hne : (!nm.toList == nm'.toList) = true := by simp [hf]
    clear h2
    go_enter Try.func6, Try.ntmps6
    go_wp2
    all_goals (go_ret; exact ⟨ret_bool hR.out.symm, by go_grown⟩)
  have n2 : (!nm.toList == nm'.toList) = false := by simp [h2]
  by_cases h3 : (op == op') = true
  case neg =>
    have hf : (op == op') = false := by simpa using h3
    have hR : Hid (R = false) := by have h := hE.out; rw [hf] at h; simp at h; exact h
    have hne : (op != op') = true := by simp [bne, hf]
    clear h3
    go_enter Try.func6, Try.ntmps6
    go_wp2
    all_goals (go_ret; exact ⟨ret_bool hR.out.symm, by go_grown⟩)
  have n3 : (op != op') = false := by simp [bne, h3]
  by_cases h4l : lo = lo'
  case neg =>
    have hf : (lo == lo') = false := by simpa using h4l
    have hR : Hid (R = false) := by have h := hE.out; rw [hf] at h; simp at h; exact h
    go_enter Try.func6, Try.ntmps6
    go_wp2
    all_goals (go_ret; exact ⟨ret_bool hR.out.symm, by go_grown⟩)
  subst h4l
  by_cases h4h : hi = hi'
  case neg =>
    have hf : (hi == hi') = false := by simpa using h4h
    have hR : Hid (R = false) := by have h := hE.out; rw [hf] at h; simp at h; exact h
    go_enter Try.func6, Try.ntmps6
    go_wp2
    all_goals (go_ret; exact ⟨ret_bool hR.out.symm, by go_grown⟩)
  subst h4h
  by_cases h4o : o = o'
  case neg =>
    have hf : (o == o') = false := by simpa using h4o
    have hR : Hid (R = false) := by have h := hE.out; rw [hf] at h; simp at h; exact h
    go_enter Try.func6, Try.ntmps6
    go_wp2
    all_goals (go_ret; exact ⟨ret_bool hR.out.symm, by go_grown⟩)
  subst h4o
  have hR0 : Hid (R = (C1 && (C2 && (C3 && C4)))) := by have h := hE.out; rw [h1, h2, h3] at h; simp only [beq_self_eq_true, Bool.true_and] at h; exact h
  clear hE
  go_enter Try.func6, Try.ntmps6
  go_wp2_with fail
  refine (cV.out _ (by go_grown)).mono ?_
  rintro e w1 ⟨rfl, hw1⟩
  obtain ⟨hB1, hn1⟩ := bgX (n := w.heap.size) (W0 := w) (by go_grown) (by go_size) hw1
  have hz1 : w.heap.size + 1 < w1.heap.size := by have := hw1.size; simp at this; omega
  have e4 : w1.cell? ⟨w.heap.size, 4, none⟩ = some (.slice pt nt ct) := (hw1.cell (p := ⟨w.heap.size, 4, none⟩) (by first | (simp; done) | (simp; omega))).trans (by simp [go_sem])
  have g4 : w1.cell? ⟨w.heap.size + 1, 4, none⟩ = some (.slice pt' nt' ct') := (hw1.cell (p := ⟨w.heap.size + 1, 4, none⟩) (by first | (simp; done) | (simp; omega))).trans (by simp [go_sem])
  have e9 : w1.cell? ⟨w.heap.size, 9, none⟩ = some (.slice pr nr cr) := (hw1.cell (p := ⟨w.heap.size, 9, none⟩) (by first | (simp; done) | (simp; omega))).trans (by simp [go_sem])
  have g9 : w1.cell? ⟨w.heap.size + 1, 9, none⟩ = some (.slice pr' nr' cr') := (hw1.cell (p := ⟨w.heap.size + 1, 9, none⟩) (by first | (simp; done) | (simp; omega))).trans (by simp [go_sem])
  have e8 : w1.cell? ⟨w.heap.size, 8, none⟩ = some (.slice ps ns cs) := (hw1.cell (p := ⟨w.heap.size, 8, none⟩) (by first | (simp; done) | (simp; omega))).trans (by simp [go_sem])
  have g8 : w1.cell? ⟨w.heap.size + 1, 8, none⟩ = some (.slice ps' ns' cs') := (hw1.cell (p := ⟨w.heap.size + 1, 8, none⟩) (by first | (simp; done) | (simp; omega))).trans (by simp [go_sem])
  clear hw1 cV
  go_wp2_with fail
  refine (cT.out _ hB1).mono ?_
  rintro e w2 ⟨rfl, hw2⟩
  have hB2 : Below w.heap.size w w2 := hB1.trans (hw2.mono hn1)
  have hn2 : w.heap.size ≤ w2.heap.size := hB2.size
  have hz2 : w.heap.size + 1 < w2.heap.size := Nat.lt_of_lt_of_le hz1 hw2.size
  have e9 : w2.cell? ⟨w.heap.size, 9, none⟩ = some (.slice pr nr cr) := (hw2.cell (p := ⟨w.heap.size, 9, none⟩) (by show w.heap.size < _; omega)).trans (e9)
  have g9 : w2.cell? ⟨w.heap.size + 1, 9, none⟩ = some (.slice pr' nr' cr') := (hw2.cell (p := ⟨w.heap.size + 1, 9, none⟩) (by show w.heap.size + 1 < _; omega)).trans (g9)
  have e8 : w2.cell? ⟨w.heap.size, 8, none⟩ = some (.slice ps ns cs) := (hw2.cell (p := ⟨w.heap.size, 8, none⟩) (by show w.heap.size < _; omega)).trans (e8)
  have g8 : w2.cell? ⟨w.heap.size + 1, 8, none⟩ = some (.slice ps' ns' cs') := (hw2.cell (p := ⟨w.heap.size + 1, 8, none⟩) (by show w.heap.size + 1 < _; omega)).trans (g8)
  clear hw2 cT
  go_wp2_with fail
  refine (cR.out _ hB2).mono ?_
  rintro e w3 ⟨rfl, hw3⟩
  have hB3 : Below w.heap.size w w3 := hB2.trans (hw3.mono hn2)
  have hn3 : w.heap.size ≤ w3.heap.size := hB3.size
  have hz3 : w.heap.size + 1 < w3.heap.size := Nat.lt_of_lt_of_le hz2 hw3.size
  have e8 : w3.cell? ⟨w.heap.size, 8, none⟩ = some (.slice ps ns cs) := (hw3.cell (p := ⟨w.heap.size, 8, none⟩) (by show w.heap.size < _; omega)).trans (e8)
  have g8 : w3.cell? ⟨w.heap.size + 1, 8, none⟩ = some (.slice ps' ns' cs') := (hw3.cell (p := ⟨w.heap.size + 1, 8, none⟩) (by show w.heap.size + 1 < _; omega)).trans (g8)
  clear hw3 cR e4 g4 e9 g9
  cases C1 with
  | false =>
    have hR : Hid (R = false) := by have h := hR0.out; simp at h; exact h
    go_wp2
    go_ret
    exact ⟨ret_bool hR.out.symm, hB3⟩
  | true =>
  cases C2 with
  | false =>
    have hR : Hid (R = false) := by have h := hR0.out; simp at h; exact h
    go_wp2
    go_ret
    exact ⟨ret_bool hR.out.symm, hB3⟩
  | true =>
  cases C3 with
  | false =>
    have hR : Hid (R = false) := by have h := hR0.out; simp at h; exact h
    go_wp2
    go_ret
    exact ⟨ret_bool hR.out.symm, hB3⟩
  | true =>
    have hR : Hid (R = C4) := by have h := hR0.out; simp at h; exact h
    go_wp2_with fail
    refine (cF.out _ hB3).mono ?_
    rintro e w4 ⟨rfl, hw4⟩
    have hB4 : Below w.heap.size w w4 := hB3.trans (hw4.mono hn3)
    clear hw4 cF e8 g8
    cases C4 with
    | false =>
      go_wp2
      go_ret
      exact ⟨ret_bool hR.out.symm, hB4⟩
    | true =>
      go_wp2
      go_ret
      exact ⟨ret_bool hR.out.symm, hB4⟩

theorem both_rsame : ∀ m : Nat, (∀ (xs ys : List Fm) (A B : Value) (w : World), SizeOf.sizeOf xs ≤ m → FmsAt w A xs → FmsAt w B ys → Calls Try.prog 22 #[A, B] w fun e w' => e = .returned (.bool (sameFs xs ys)) ∧ Below w.heap.size w w') ∧ (∀ (xs ys : List Rx) (A B : Value) (w : World), SizeOf.sizeOf xs ≤ m → RxsAt w A xs → RxsAt w B ys → Calls Try.prog 21 #[A, B] w fun e w' => e = .returned (.bool (sameRs xs ys)) ∧ Below w.heap.size w w') := by
  intro m
  induction m with
  | zero => exact ⟨fun xs ys A B w hm => by cases xs <;> simp at hm, fun xs ys A B w hm => by cases xs <;> simp at hm⟩
  | succ m ih =>
    refine ⟨fun xs ys A B w hm hA hB => rsameFs_step A B xs ys w hA hB fun i hi hi' q q' W h1 h2 hW => ?_, fun xs ys A B w hm hA hB => rsameRs_step A B xs ys w hA hB (fun i hi hi' u u' W h1 h2 hW => ?_) (fun i hi hi' u u' W h1 h2 hW => ?_)⟩
    · have s := mem_lt i hi
      have k1 := h1.below hW
      have k2 := h2.below hW
      exact rsamef_step xs[i] ys[i] q q' W k1 k2 (fun W' hW' => ih.1 _ _ _ _ W' (by have := Fm.subs_lt xs[i]; omega) (k1.2.2.1.bel hW') (k2.2.2.1.bel hW')) (fun W' hW' => ih.2 _ _ _ _ W' (by have := Fm.rgx_lt xs[i]; omega) (k1.2.2.2.bel hW') (k2.2.2.2.bel hW'))
    · have s := mem_lt i hi
      exact ih.1 _ _ _ _ W (by have := Rx.test_lt xs[i]; omega) (h1.bel hW) (h2.bel hW)
    · have s := mem_lt i hi
      exact ih.2 _ _ _ _ W (by have := Rx.subs_lt xs[i]; omega) (h1.bel hW) (h2.bel hW)
/-- The document's Same, at any two formulas. -/
theorem rsame_fm (x y : Fm) (q q' : FQ) (w : World) (hq : QAt w (x, q)) (hq' : QAt w (y, q')) :
    Calls Try.prog 6 #[.agg #[.int .i64 x.k, .string x.nm, .int .i64 x.op, q.v, q.t, .int .i64 x.lo, .int .i64 x.hi, .bool x.opn, q.s, q.r], .agg #[.int .i64 y.k, .string y.nm, .int .i64 y.op, q'.v, q'.t, .int .i64 y.lo, .int .i64 y.hi, .bool y.opn, q'.s, q'.r]] w fun e w' => e = .returned (.bool (sameF x y)) ∧ Below w.heap.size w w' :=
  rsamef_step x y q q' w hq hq' (fun W hW => (both_rsame _).1 _ _ _ _ W (Nat.le_refl _) (hq.2.2.1.bel hW) (hq'.2.2.1.bel hW)) (fun W hW => (both_rsame _).2 _ _ _ _ W (Nat.le_refl _) (hq.2.2.2.bel hW) (hq'.2.2.2.bel hW))

end Go.Proofs.Ytfajjphfjilpnab

namespace Go.Proofs.Ytfajjphfjilpnab
open Go.RowKit LX Go.Shelf
set_option linter.unusedVariables false

theorem beqI (a b : Int) : (a == b) = (b == a) := by
  rw [Bool.eq_iff_iff, beq_iff_eq, beq_iff_eq]
  exact eq_comm
theorem beqL (a b : List UInt8) : (a == b) = (b == a) := by
  rw [Bool.eq_iff_iff, beq_iff_eq, beq_iff_eq]
  exact eq_comm
theorem beqB (a b : Bool) : (a == b) = (b == a) := by cases a <;> cases b <;> rfl
theorem same_val_comm (x y : Val) : x.same y = y.same x := by
  unfold Val.same sameB
  rw [beqI x.k, beqI x.n, beqI x.d, beqL x.s.toList]
theorem same_val_refl (x : Val) : x.same x = true := by
  unfold Val.same sameB
  simp
theorem tms_sym : ∀ (m : Nat) (xs ys : List Tm), SizeOf.sizeOf xs ≤ m → sameTs xs ys = sameTs ys xs ∧ sameTs xs xs = true := by
  intro m
  induction m with
  | zero => intro xs ys hm; cases xs <;> simp at hm
  | succ m ih =>
    intro xs ys hm
    cases xs with
    | nil => cases ys with
      | nil => exact ⟨rfl, sameTs_nil⟩
      | cons y ys => exact ⟨by rw [sameTs_len (by simp), sameTs_len (by simp)], sameTs_nil⟩
    | cons x xs =>
      have s1 : SizeOf.sizeOf xs ≤ m := by simp at hm; omega
      have s2 : SizeOf.sizeOf x.subs ≤ m := by have := Tm.subs_lt x; simp at hm; omega
      refine ⟨?_, ?_⟩
      · cases ys with
        | nil => rw [sameTs_len (by simp), sameTs_len (by simp)]
        | cons y ys =>
          rw [sameTs_cons, sameTs_cons, sameT_eq, sameT_eq, (ih xs ys s1).1, (ih x.subs y.subs s2).1, same_val_comm, beqI x.k, beqL x.nm.toList]
      · rw [sameTs_cons, sameT_eq, (ih xs xs s1).2, (ih x.subs x.subs s2).2, same_val_refl]
        simp
theorem both_sym : ∀ m : Nat, (∀ xs ys : List Fm, SizeOf.sizeOf xs ≤ m → sameFs xs ys = sameFs ys xs ∧ sameFs xs xs = true) ∧ (∀ xs ys : List Rx, SizeOf.sizeOf xs ≤ m → sameRs xs ys = sameRs ys xs ∧ sameRs xs xs = true) := by
  intro m
  induction m with
  | zero => exact ⟨fun xs ys hm => by cases xs <;> simp at hm, fun xs ys hm => by cases xs <;> simp at hm⟩
  | succ m ih =>
    constructor
    · intro xs ys hm
      cases xs with
      | nil => cases ys with
        | nil => exact ⟨rfl, sameFs_nil⟩
        | cons y ys => exact ⟨by rw [sameFs_len (by simp), sameFs_len (by simp)], sameFs_nil⟩
      | cons x xs =>
        have s1 : SizeOf.sizeOf xs ≤ m := by simp at hm; omega
        have s2 : SizeOf.sizeOf x.subs ≤ m := by have := Fm.subs_lt x; simp at hm; omega
        have s3 : SizeOf.sizeOf x.rgx ≤ m := by have := Fm.rgx_lt x; simp at hm; omega
        refine ⟨?_, ?_⟩
        · cases ys with
          | nil => rw [sameFs_len (by simp), sameFs_len (by simp)]
          | cons y ys =>
            rw [sameFs_cons, sameFs_cons, sameF_eq, sameF_eq, (ih.1 xs ys s1).1, (ih.1 x.subs y.subs s2).1, (ih.2 x.rgx y.rgx s3).1, (tms_sym _ x.terms y.terms (Nat.le_refl _)).1, beqI x.k, beqL x.nm.toList, beqI x.op, beqI x.lo, beqI x.hi, beqB x.opn]
            rw [show decide (x.vars = y.vars) = decide (y.vars = x.vars) by rw [decide_eq_decide]; exact eq_comm]
        · rw [sameFs_cons, sameF_eq, (ih.1 xs xs s1).2, (ih.1 x.subs x.subs s2).2, (ih.2 x.rgx x.rgx s3).2, (tms_sym _ x.terms x.terms (Nat.le_refl _)).2]
          simp
    · intro xs ys hm
      cases xs with
      | nil => cases ys with
        | nil => exact ⟨rfl, sameRs_nil⟩
        | cons y ys => exact ⟨by rw [sameRs_len (by simp), sameRs_len (by simp)], sameRs_nil⟩
      | cons x xs =>
        have s1 : SizeOf.sizeOf xs ≤ m := by simp at hm; omega
        have s2 : SizeOf.sizeOf x.subs ≤ m := by have := Rx.subs_lt x; simp at hm; omega
        have s3 : SizeOf.sizeOf x.test ≤ m := by have := Rx.test_lt x; simp at hm; omega
        refine ⟨?_, ?_⟩
        · cases ys with
          | nil => rw [sameRs_len (by simp), sameRs_len (by simp)]
          | cons y ys => rw [sameRs_cons, sameRs_cons, sameR_eq, sameR_eq, (ih.2 xs ys s1).1, (ih.2 x.subs y.subs s2).1, (ih.1 x.test y.test s3).1, beqI x.k]
        · rw [sameRs_cons, sameR_eq, (ih.2 xs xs s1).2, (ih.2 x.subs x.subs s2).2, (ih.1 x.test x.test s3).2]
          simp
theorem sameF_refl (x : Fm) : sameF x x = true := by
  rw [sameF_eq, ((both_sym _).1 x.subs x.subs (Nat.le_refl _)).2, ((both_sym _).2 x.rgx x.rgx (Nat.le_refl _)).2, (tms_sym _ x.terms x.terms (Nat.le_refl _)).2]
  simp

end Go.Proofs.Ytfajjphfjilpnab

namespace Go.Proofs.Ytfajjphfjilpnab
open Go.RowKit LX Go.Shelf
set_option linter.unusedVariables false

theorem varF_sizes (f : Fm) : ∀ s ∈ varF f, s.size ≤ 281474976710656 := fun s hs => by
  unfold varF at hs
  by_cases h : chkF f = 0
  · rw [if_pos h] at hs
    have := nameB_size ((fre_up _ f (Nat.le_refl _) (chk_good h).1).2.2 s hs)
    omega
  · rw [if_neg h] at hs; cases hs
theorem varF_len (f : Fm) : (varF f).length ≤ 9223372036854775807 := by
  unfold varF
  by_cases h : chkF f = 0
  · rw [if_pos h]
    have := fre_len _ f (Nat.le_refl _) (chk_good h).1
    have := (chk_good h).2
    omega
  · rw [if_neg h]; simp
theorem keepz2 {W0 W : World} {X Y : Nat} {T : Nat} {u0 u1 u2 u3 u4 u5 u6 u7 u8 u9 v0 v1 v2 v3 v4 v5 v6 v7 v8 v9 : Value} (h : Below W0.heap.size W0 W) (hx : W0.heap[X]? = some (.cells #[u0, u1, u2, u3, u4, u5, u6, u7, u8, u9] T (0, 0))) (hy : W0.heap[Y]? = some (.cells #[v0, v1, v2, v3, v4, v5, v6, v7, v8, v9] T (0, 0))) : W.cell? ⟨X, 0, none⟩ = some u0 ∧ W.cell? ⟨X, 1, none⟩ = some u1 ∧ W.cell? ⟨X, 2, none⟩ = some u2 ∧ W.cell? ⟨X, 3, none⟩ = some u3 ∧ W.cell? ⟨X, 4, none⟩ = some u4 ∧ W.cell? ⟨X, 5, none⟩ = some u5 ∧ W.cell? ⟨X, 6, none⟩ = some u6 ∧ W.cell? ⟨X, 7, none⟩ = some u7 ∧ W.cell? ⟨X, 8, none⟩ = some u8 ∧ W.cell? ⟨X, 9, none⟩ = some u9 ∧ W.cell? ⟨Y, 0, none⟩ = some v0 ∧ W.cell? ⟨Y, 1, none⟩ = some v1 ∧ W.cell? ⟨Y, 2, none⟩ = some v2 ∧ W.cell? ⟨Y, 3, none⟩ = some v3 ∧ W.cell? ⟨Y, 4, none⟩ = some v4 ∧ W.cell? ⟨Y, 5, none⟩ = some v5 ∧ W.cell? ⟨Y, 6, none⟩ = some v6 ∧ W.cell? ⟨Y, 7, none⟩ = some v7 ∧ W.cell? ⟨Y, 8, none⟩ = some v8 ∧ W.cell? ⟨Y, 9, none⟩ = some v9 := by
  obtain ⟨a0, a1, a2, a3, a4, a5, a6, a7, a8, a9⟩ := box10 (blkB hx h)
  obtain ⟨b0, b1, b2, b3, b4, b5, b6, b7, b8, b9⟩ := box10 (blkB hy h)
  exact ⟨a0, a1, a2, a3, a4, a5, a6, a7, a8, a9, b0, b1, b2, b3, b4, b5, b6, b7, b8, b9⟩
set_option maxRecDepth 100000 in
set_option maxHeartbeats 8000000 in
theorem aclones_any (f : Fm) (y : FQ) (w : World) (hQ : QAt w (f, y)) (hlg : lgF f) (hvl0 : (varF f).length ≤ 9223372036854775807) : Calls Try.prog 4 #[.agg #[.int .i64 f.k, .string f.nm, .int .i64 f.op, y.v, y.t, .int .i64 f.lo, .int .i64 f.hi, .bool f.opn, y.s, y.r]] w fun e w' => e = .returned (.bool true) ∧ Below w.heap.size w w' := by
  have hvl : (varF f).length ≤ 9223372036854775807 := hvl0
  have hvs := varF_sizes f
  have cL : Hid (∀ W : World, Below w.heap.size w W → Calls Try.prog 9 #[.agg #[.int .i64 f.k, .string f.nm, .int .i64 f.op, y.v, y.t, .int .i64 f.lo, .int .i64 f.hi, .bool f.opn, y.s, y.r]] W (ClF W f)) := fun W hW => clone_fm f y W (hQ.below hW) hlg
  have cK : Hid (∀ (W : World) (z : FQ), QAt W (f, z) → Calls Try.prog 10 #[.agg #[.int .i64 f.k, .string f.nm, .int .i64 f.op, z.v, z.t, .int .i64 f.lo, .int .i64 f.hi, .bool f.opn, z.s, z.r]] W fun e w' => e = .returned (.int .i64 (chkF f)) ∧ Below W.heap.size W w') := fun W z h => check_fm f z W h
  have cN : Hid (∀ (W : World) (z : FQ), QAt W (f, z) → Calls Try.prog 13 #[.agg #[.int .i64 f.k, .string f.nm, .int .i64 f.op, z.v, z.t, .int .i64 f.lo, .int .i64 f.hi, .bool f.opn, z.s, z.r]] W fun e w' => e = .returned (.int .i64 (sizF f).1) ∧ Below W.heap.size W w') := fun W z h => nodes_fm f z W h
  have cF : Hid (∀ (W : World) (z : FQ), QAt W (f, z) → Calls Try.prog 12 #[.agg #[.int .i64 f.k, .string f.nm, .int .i64 f.op, z.v, z.t, .int .i64 f.lo, .int .i64 f.hi, .bool f.opn, z.s, z.r]] W fun e w' => ∃ p c, e = .returned (.slice p (varF f).length c) ∧ NmsAt w' (.slice p (varF f).length c) (varF f) ∧ Below W.heap.size W w') := fun W z h => (free_fm f z W h hvs).mono fun e w' ⟨v, h1, h2, h3⟩ => by
    have n := h2.nms hvl
    obtain ⟨l1, p, c, rfl, l2⟩ := n
    exact ⟨p, c, h1, ⟨l1, p, c, rfl, l2⟩, h3⟩
  have cS : Hid (∀ (W : World) (z z' : FQ), QAt W (f, z) → QAt W (f, z') → Calls Try.prog 6 #[.agg #[.int .i64 f.k, .string f.nm, .int .i64 f.op, z.v, z.t, .int .i64 f.lo, .int .i64 f.hi, .bool f.opn, z.s, z.r], .agg #[.int .i64 f.k, .string f.nm, .int .i64 f.op, z'.v, z'.t, .int .i64 f.lo, .int .i64 f.hi, .bool f.opn, z'.s, z'.r]] W fun e w' => e = .returned (.bool true) ∧ Below W.heap.size W w') := fun W z z' h1 h2 => by
    have h := rsame_fm f f z z' W h1 h2
    rw [sameF_refl] at h
    exact h
  have cP : Hid (∀ (B : Nat) (w1 W : World) (z : FQ), QOwn (fun b => B ≤ b) w1 (f, z) → Spt B w1 W → Calls Try.prog 14 #[.agg #[.int .i64 f.k, .string f.nm, .int .i64 f.op, z.v, z.t, .int .i64 f.lo, .int .i64 f.hi, .bool f.opn, z.s, z.r]] W (SpOut B w1 W)) := fun B w1 W z h1 h2 => spoil_any B w1 _ _ z W (Nat.le_refl _) h1 h2
  have HY : Hid (QAt w (f, y)) := hQ
  clear hvs hlg hvl0
  generalize chkF f = CK at *
  generalize (sizF f).1 = SZ at *
  generalize varF f = VF at *
  obtain ⟨uv, ut, us, ur⟩ := y
  obtain ⟨h1, h2, h3, h4⟩ := hQ
  dsimp only at h1 h2 h3 h4 cL ⊢
  obtain ⟨-, pv, cv, rfl, -, -⟩ := h1
  obtain ⟨pt, ct, rfl, -⟩ := h2.form
  obtain ⟨ps, cs, rfl, -⟩ := h3.form
  obtain ⟨pr, cr, rfl, -⟩ := h4.form
  clear h2 h3 h4
  go_enter Try.func4, Try.ntmps4
  go_wp2_with fail
  refine (cL.out _ ((Below.refl _ _).alloc (Nat.le_refl _) _)).mono ?_
  rintro e w1 ⟨z1, rfl, q1, hb1⟩
  have X1 : Hid (w1.heap[w.heap.size]? = some (.cells #[.int .i64 f.k, .string f.nm, .int .i64 f.op, .slice pv f.vars.length cv, .slice pt f.terms.length ct, .int .i64 f.lo, .int .i64 f.hi, .bool f.opn, .slice ps f.subs.length cs, .slice pr f.rgx.length cr] 29 (0, 0))) := (hb1.block w.heap.size (by simp)).trans (heap_allocA w _)
  have B1 : Below w.heap.size w w1 := ((Below.refl _ _).alloc (Nat.le_refl _) _).trans (hb1.mono (by simp))
  have Q1 : Hid (QOwn (fun b => w.heap.size + 1 ≤ b) w1 (f, z1)) := by have h := q1; simp only [World.size_alloc] at h; exact h
  clear hb1 q1
  obtain ⟨uv, ut, us, ur⟩ := z1
  obtain ⟨k1, k2, k3, k4⟩ := Q1.out.at
  dsimp only at k1 k2 k3 k4
  obtain ⟨-, qv, dv, rfl, -⟩ := k1
  obtain ⟨qt, dt, rfl, -⟩ := k2.form
  obtain ⟨qs, ds, rfl, -⟩ := k3.form
  obtain ⟨qr, dr, rfl, -⟩ := k4.form
  clear k2 k3 k4
  go_upto_region 2 with fail
  refine wp_world ?_
  intro w2 hW2
  have K2 : Below w1.heap.size w1 w2 := by rw [hW2]; go_grown
  have N2 : Hid (w2.heap[w1.heap.size]? = some (.cells #[.int .i64 f.k, .string f.nm, .int .i64 f.op, .slice qv f.vars.length dv, .slice qt f.terms.length dt, .int .i64 f.lo, .int .i64 f.hi, .bool f.opn, .slice qs f.subs.length ds, .slice qr f.rgx.length dr] 29 (0, 0))) := by rw [hW2]; exact heap_allocA w1 _
  have X2 : Hid (_) := blkB X1.out K2
  have B2 : Below w.heap.size w w2 := B1.trans (K2.mono B1.size)
  have s12 : w1.heap.size < w2.heap.size := blkL N2.out
  clear hW2 X1
  obtain ⟨e0, e1, e2, e3, e4, e5, e6, e7, e8, e9⟩ := box10 X2.out
  go_wp2_with fail
  refine (cL.out _ B2).mono ?_
  rintro e w3 ⟨z3, rfl, q3, hb3⟩
  have Q3 : Hid (QOwn (fun b => w2.heap.size ≤ b) w3 (f, z3)) := q3
  have N3 : Hid (_) := blkB N2.out hb3
  have X3 : Hid (_) := blkB X2.out hb3
  have B3 : Below w.heap.size w w3 := B2.trans (hb3.mono B2.size)
  have K3 : Below w1.heap.size w1 w3 := K2.trans (hb3.mono K2.size)
  have s23 : w2.heap.size ≤ w3.heap.size := hb3.size
  clear hb3 q3 cL X2 N2 B2 K2 e0 e1 e2 e3 e4 e5 e6 e7 e8 e9
  obtain ⟨uv, ut, us, ur⟩ := z3
  obtain ⟨k1, k2, k3, k4⟩ := Q3.out.at
  dsimp only at k1 k2 k3 k4
  obtain ⟨-, rv, sv, rfl, -⟩ := k1
  obtain ⟨rt, st, rfl, -⟩ := k2.form
  obtain ⟨rs, ss, rfl, -⟩ := k3.form
  obtain ⟨rr, sr, rfl, -⟩ := k4.form
  clear k2 k3 k4
  go_upto_region 3 with fail
  refine wp_world ?_
  intro w4 hW4
  have L4 : Below w3.heap.size w3 w4 := by rw [hW4]; go_grown
  have M4 : Hid (w4.heap[w3.heap.size]? = some (.cells #[.int .i64 f.k, .string f.nm, .int .i64 f.op, .slice rv f.vars.length sv, .slice rt f.terms.length st, .int .i64 f.lo, .int .i64 f.hi, .bool f.opn, .slice rs f.subs.length ss, .slice rr f.rgx.length sr] 29 (0, 0))) := by rw [hW4]; exact heap_allocA w3 _
  have N4 : Hid (_) := blkB N3.out L4
  have X4 : Hid (_) := blkB X3.out L4
  have B4 : Below w.heap.size w w4 := B3.trans (L4.mono B3.size)
  have K4 : Below w1.heap.size w1 w4 := K3.trans (L4.mono K3.size)
  have Q4 : Hid (QOwn (fun b => w2.heap.size ≤ b) w4 (f, (⟨.slice rv f.vars.length sv, .slice rt f.terms.length st, .slice rs f.subs.length ss, .slice rr f.rgx.length sr⟩ : FQ))) := Q3.out.keep (fun k _ hk => L4.block k hk)
  have s34 : w3.heap.size < w4.heap.size := blkL M4.out
  clear hW4 N3 X3 B3 K3 Q3 L4
  obtain ⟨h0, h1, h2, h3, h4, h5, h6, h7, h8, h9⟩ := box10 N4.out
  obtain ⟨e0, e1, e2, e3, e4, e5, e6, e7, e8, e9⟩ := box10 X4.out
  have C5 : Hid (Calls Try.prog 6 #[.agg #[.int .i64 f.k, .string f.nm, .int .i64 f.op, .slice qv f.vars.length dv, .slice qt f.terms.length dt, .int .i64 f.lo, .int .i64 f.hi, .bool f.opn, .slice qs f.subs.length ds, .slice qr f.rgx.length dr], .agg #[.int .i64 f.k, .string f.nm, .int .i64 f.op, .slice pv f.vars.length cv, .slice pt f.terms.length ct, .int .i64 f.lo, .int .i64 f.hi, .bool f.opn, .slice ps f.subs.length cs, .slice pr f.rgx.length cr]] w4 fun e w' => e = .returned (.bool true) ∧ Below w4.heap.size w4 w') := cS.out w4 (⟨.slice qv f.vars.length dv, .slice qt f.terms.length dt, .slice qs f.subs.length ds, .slice qr f.rgx.length dr⟩ : FQ) (⟨.slice pv f.vars.length cv, .slice pt f.terms.length ct, .slice ps f.subs.length cs, .slice pr f.rgx.length cr⟩ : FQ) (QAt.below Q1.out.at K4) (QAt.below HY.out B4)
  generalize hn1 : w1.heap.size = n1 at *
  generalize hn3 : w3.heap.size = n3 at *
  go_wp2_with fail
  refine C5.out.mono ?_
  rintro e w5 ⟨rfl, hb5⟩
  have M5 : Hid (_) := blkB M4.out hb5
  have N5 : Hid (_) := blkB N4.out hb5
  have X5 : Hid (_) := blkB X4.out hb5
  have B5 : Below w.heap.size w w5 := B4.trans (hb5.mono B4.size)
  have K5 : Below n1 w1 w5 := K4.trans (hb5.mono (by omega))
  have Q5 : Hid (QOwn (fun b => w2.heap.size ≤ b) w5 (f, (⟨.slice rv f.vars.length sv, .slice rt f.terms.length st, .slice rs f.subs.length ss, .slice rr f.rgx.length sr⟩ : FQ))) := Q4.out.keep (fun k _ hk => hb5.block k hk)
  have s45 : w4.heap.size ≤ w5.heap.size := hb5.size
  clear hb5 M4 N4 X4 B4 K4 Q4 C5 h0 h1 h2 h3 h4 h5 h6 h7 h8 h9 e0 e1 e2 e3 e4 e5 e6 e7 e8 e9
  go_upto_region 4 with fail
  refine wpL_world ?_
  intro W0 hW0
  have k5 : Below w5.heap.size w5 W0 := by rw [hW0]; go_grown
  clear hW0
  have MZ : Hid (_) := blkB M5.out k5
  have NZ : Hid (_) := blkB N5.out k5
  have XZ : Hid (_) := blkB X5.out k5
  have BZ : Below w.heap.size w W0 := B5.trans (k5.mono B5.size)
  have KZ : Below n1 w1 W0 := K5.trans (k5.mono (by omega))
  have QZ : Hid (QOwn (fun b => w2.heap.size ≤ b) W0 (f, (⟨.slice rv f.vars.length sv, .slice rt f.terms.length st, .slice rs f.subs.length ss, .slice rr f.rgx.length sr⟩ : FQ))) := Q5.out.keep (fun k _ hk => k5.block k hk)
  have s5Z : w5.heap.size ≤ W0.heap.size := k5.size
  have QA : Hid (∀ W : World, Below W0.heap.size W0 W → QAt W (f, (⟨.slice qv f.vars.length dv, .slice qt f.terms.length dt, .slice qs f.subs.length ds, .slice qr f.rgx.length dr⟩ : FQ))) := fun W hW => QAt.below (w := w1) Q1.out.at (by rw [hn1]; exact KZ.trans (hW.mono (by omega)))
  have QP : Hid (∀ W : World, Below W0.heap.size W0 W → QAt W (f, (⟨.slice pv f.vars.length cv, .slice pt f.terms.length ct, .slice ps f.subs.length cs, .slice pr f.rgx.length cr⟩ : FQ))) := fun W hW => QAt.below HY.out (BZ.trans (hW.mono BZ.size))
  have dKa : Hid (∀ W : World, Below W0.heap.size W0 W → Calls Try.prog 10 #[.agg #[.int .i64 f.k, .string f.nm, .int .i64 f.op, .slice qv f.vars.length dv, .slice qt f.terms.length dt, .int .i64 f.lo, .int .i64 f.hi, .bool f.opn, .slice qs f.subs.length ds, .slice qr f.rgx.length dr]] W fun e w' => e = .returned (.int .i64 CK) ∧ Below W.heap.size W w') := fun W hW => cK.out W (⟨.slice qv f.vars.length dv, .slice qt f.terms.length dt, .slice qs f.subs.length ds, .slice qr f.rgx.length dr⟩ : FQ) (QA.out W hW)
  have dKp : Hid (∀ W : World, Below W0.heap.size W0 W → Calls Try.prog 10 #[.agg #[.int .i64 f.k, .string f.nm, .int .i64 f.op, .slice pv f.vars.length cv, .slice pt f.terms.length ct, .int .i64 f.lo, .int .i64 f.hi, .bool f.opn, .slice ps f.subs.length cs, .slice pr f.rgx.length cr]] W fun e w' => e = .returned (.int .i64 CK) ∧ Below W.heap.size W w') := fun W hW => cK.out W (⟨.slice pv f.vars.length cv, .slice pt f.terms.length ct, .slice ps f.subs.length cs, .slice pr f.rgx.length cr⟩ : FQ) (QP.out W hW)
  have dNa : Hid (∀ W : World, Below W0.heap.size W0 W → Calls Try.prog 13 #[.agg #[.int .i64 f.k, .string f.nm, .int .i64 f.op, .slice qv f.vars.length dv, .slice qt f.terms.length dt, .int .i64 f.lo, .int .i64 f.hi, .bool f.opn, .slice qs f.subs.length ds, .slice qr f.rgx.length dr]] W fun e w' => e = .returned (.int .i64 SZ) ∧ Below W.heap.size W w') := fun W hW => cN.out W (⟨.slice qv f.vars.length dv, .slice qt f.terms.length dt, .slice qs f.subs.length ds, .slice qr f.rgx.length dr⟩ : FQ) (QA.out W hW)
  have dNp : Hid (∀ W : World, Below W0.heap.size W0 W → Calls Try.prog 13 #[.agg #[.int .i64 f.k, .string f.nm, .int .i64 f.op, .slice pv f.vars.length cv, .slice pt f.terms.length ct, .int .i64 f.lo, .int .i64 f.hi, .bool f.opn, .slice ps f.subs.length cs, .slice pr f.rgx.length cr]] W fun e w' => e = .returned (.int .i64 SZ) ∧ Below W.heap.size W w') := fun W hW => cN.out W (⟨.slice pv f.vars.length cv, .slice pt f.terms.length ct, .slice ps f.subs.length cs, .slice pr f.rgx.length cr⟩ : FQ) (QP.out W hW)
  have dFa : Hid (∀ W : World, Below W0.heap.size W0 W → Calls Try.prog 12 #[.agg #[.int .i64 f.k, .string f.nm, .int .i64 f.op, .slice qv f.vars.length dv, .slice qt f.terms.length dt, .int .i64 f.lo, .int .i64 f.hi, .bool f.opn, .slice qs f.subs.length ds, .slice qr f.rgx.length dr]] W fun e w' => ∃ p c, e = .returned (.slice p VF.length c) ∧ NmsAt w' (.slice p VF.length c) VF ∧ Below W.heap.size W w') := fun W hW => cF.out W (⟨.slice qv f.vars.length dv, .slice qt f.terms.length dt, .slice qs f.subs.length ds, .slice qr f.rgx.length dr⟩ : FQ) (QA.out W hW)
  have dFp : Hid (∀ W : World, Below W0.heap.size W0 W → Calls Try.prog 12 #[.agg #[.int .i64 f.k, .string f.nm, .int .i64 f.op, .slice pv f.vars.length cv, .slice pt f.terms.length ct, .int .i64 f.lo, .int .i64 f.hi, .bool f.opn, .slice ps f.subs.length cs, .slice pr f.rgx.length cr]] W fun e w' => ∃ p c, e = .returned (.slice p VF.length c) ∧ NmsAt w' (.slice p VF.length c) VF ∧ Below W.heap.size W w') := fun W hW => cF.out W (⟨.slice pv f.vars.length cv, .slice pt f.terms.length ct, .slice ps f.subs.length cs, .slice pr f.rgx.length cr⟩ : FQ) (QP.out W hW)
  have KH : Hid (∀ W : World, Below W0.heap.size W0 W → W.cell? ⟨n1, 0, none⟩ = some (.int .i64 f.k) ∧ W.cell? ⟨n1, 1, none⟩ = some (.string f.nm) ∧ W.cell? ⟨n1, 2, none⟩ = some (.int .i64 f.op) ∧ W.cell? ⟨n1, 3, none⟩ = some (.slice qv f.vars.length dv) ∧ W.cell? ⟨n1, 4, none⟩ = some (.slice qt f.terms.length dt) ∧ W.cell? ⟨n1, 5, none⟩ = some (.int .i64 f.lo) ∧ W.cell? ⟨n1, 6, none⟩ = some (.int .i64 f.hi) ∧ W.cell? ⟨n1, 7, none⟩ = some (.bool f.opn) ∧ W.cell? ⟨n1, 8, none⟩ = some (.slice qs f.subs.length ds) ∧ W.cell? ⟨n1, 9, none⟩ = some (.slice qr f.rgx.length dr) ∧ W.cell? ⟨w.heap.size, 0, none⟩ = some (.int .i64 f.k) ∧ W.cell? ⟨w.heap.size, 1, none⟩ = some (.string f.nm) ∧ W.cell? ⟨w.heap.size, 2, none⟩ = some (.int .i64 f.op) ∧ W.cell? ⟨w.heap.size, 3, none⟩ = some (.slice pv f.vars.length cv) ∧ W.cell? ⟨w.heap.size, 4, none⟩ = some (.slice pt f.terms.length ct) ∧ W.cell? ⟨w.heap.size, 5, none⟩ = some (.int .i64 f.lo) ∧ W.cell? ⟨w.heap.size, 6, none⟩ = some (.int .i64 f.hi) ∧ W.cell? ⟨w.heap.size, 7, none⟩ = some (.bool f.opn) ∧ W.cell? ⟨w.heap.size, 8, none⟩ = some (.slice ps f.subs.length cs) ∧ W.cell? ⟨w.heap.size, 9, none⟩ = some (.slice pr f.rgx.length cr)) := fun W hW => keepz2 hW NZ.out XZ.out
  clear M5 N5 X5 B5 K5 Q5 k5 cK cN cF QA QP
  go_region_held3 (fun W => W.cell? ⟨n1, 0, none⟩ = some (.int .i64 f.k) ∧ W.cell? ⟨n1, 1, none⟩ = some (.string f.nm) ∧ W.cell? ⟨n1, 2, none⟩ = some (.int .i64 f.op) ∧ W.cell? ⟨n1, 3, none⟩ = some (.slice qv f.vars.length dv) ∧ W.cell? ⟨n1, 4, none⟩ = some (.slice qt f.terms.length dt) ∧ W.cell? ⟨n1, 5, none⟩ = some (.int .i64 f.lo) ∧ W.cell? ⟨n1, 6, none⟩ = some (.int .i64 f.hi) ∧ W.cell? ⟨n1, 7, none⟩ = some (.bool f.opn) ∧ W.cell? ⟨n1, 8, none⟩ = some (.slice qs f.subs.length ds) ∧ W.cell? ⟨n1, 9, none⟩ = some (.slice qr f.rgx.length dr) ∧ W.cell? ⟨w.heap.size, 0, none⟩ = some (.int .i64 f.k) ∧ W.cell? ⟨w.heap.size, 1, none⟩ = some (.string f.nm) ∧ W.cell? ⟨w.heap.size, 2, none⟩ = some (.int .i64 f.op) ∧ W.cell? ⟨w.heap.size, 3, none⟩ = some (.slice pv f.vars.length cv) ∧ W.cell? ⟨w.heap.size, 4, none⟩ = some (.slice pt f.terms.length ct) ∧ W.cell? ⟨w.heap.size, 5, none⟩ = some (.int .i64 f.lo) ∧ W.cell? ⟨w.heap.size, 6, none⟩ = some (.int .i64 f.hi) ∧ W.cell? ⟨w.heap.size, 7, none⟩ = some (.bool f.opn) ∧ W.cell? ⟨w.heap.size, 8, none⟩ = some (.slice ps f.subs.length cs) ∧ W.cell? ⟨w.heap.size, 9, none⟩ = some (.slice pr f.rgx.length cr)) (exact KH.out _ (by go_grown))
    (first
      | (go_at_call_of 10 (Value.slice qs f.subs.length ds); refine (dKa.out _ (by go_grown)).mono ?_; rintro e v1 ⟨rfl, hv1⟩; obtain ⟨hX1, hx1⟩ := bgX (n := W0.heap.size) (W0 := W0) (by go_grown) (by go_size) hv1)
      | (go_at_call_of 10 (Value.slice ps f.subs.length cs); refine (dKp.out _ (by go_grown)).mono ?_; rintro e v2 ⟨rfl, hv2⟩; obtain ⟨hX2, hx2⟩ := bgX (n := W0.heap.size) (W0 := W0) (by go_grown) (by go_size) hv2)
      | (go_at_call_of 12 (Value.slice qs f.subs.length ds); refine (dFa.out _ (by go_grown)).mono ?_; rintro e v3 ⟨p3, c3, rfl, hN3, hv3⟩; obtain ⟨hX3, hx3⟩ := bgX (n := W0.heap.size) (W0 := W0) (by go_grown) (by go_size) hv3)
      | (go_at_call_of 12 (Value.slice ps f.subs.length cs); refine (dFp.out _ (by go_grown)).mono ?_; rintro e v4 ⟨p4, c4, rfl, hN4, hv4⟩; obtain ⟨hX4, hx4⟩ := bgX (n := W0.heap.size) (W0 := W0) (by go_grown) (by go_size) hv4)
      | (go_at_call 11; refine (same06_yes _ _ VF _ ?_ ?_).mono ?_; (first | exact hN3 | exact NmsAt.below hN3 hv4 | exact NmsAt.below hN3 (by go_grown) | exact (NmsAt.below hN3 (Below.drew (Below.refl _ _))).below hv4); (first | exact hN4 | exact NmsAt.below hN4 hv3 | exact NmsAt.below hN4 (by go_grown) | exact (NmsAt.below hN4 (Below.drew (Below.refl _ _))).below hv3); rintro e v5 ⟨rfl, hv5⟩; obtain ⟨hX5, hx5⟩ := bgX (n := W0.heap.size) (W0 := W0) (by go_grown) (by go_size) hv5)
      | (go_at_call_of 13 (Value.slice qs f.subs.length ds); refine (dNa.out _ (by go_grown)).mono ?_; rintro e v6 ⟨rfl, hv6⟩; obtain ⟨hX6, hx6⟩ := bgX (n := W0.heap.size) (W0 := W0) (by go_grown) (by go_size) hv6)
      | (go_at_call_of 13 (Value.slice ps f.subs.length cs); refine (dNp.out _ (by go_grown)).mono ?_; rintro e v7 ⟨rfl, hv7⟩; obtain ⟨hX7, hx7⟩ := bgX (n := W0.heap.size) (W0 := W0) (by go_grown) (by go_size) hv7))
  all_goals
    go_upto_region 5 with fail
    refine wp_world ?_
    intro w6 hW6
    have k6 : Below W0.heap.size W0 w6 := by rw [hW6]; first | assumption | go_grown
    clear hW6
    have M6 : Hid (_) := blkB MZ.out k6
    have N6 : Hid (_) := blkB NZ.out k6
    have X6 : Hid (_) := blkB XZ.out k6
    have B6 : Below w.heap.size w w6 := BZ.trans (k6.mono BZ.size)
    have K6 : Below n1 w1 w6 := KZ.trans (k6.mono (by omega))
    have Q6 : Hid (QOwn (fun b => w2.heap.size ≤ b) w6 (f, (⟨.slice rv f.vars.length sv, .slice rt f.terms.length st, .slice rs f.subs.length ss, .slice rr f.rgx.length sr⟩ : FQ))) := QZ.out.keep (fun k _ hk => k6.block k hk)
    have sZ6 : W0.heap.size ≤ w6.heap.size := k6.size
    clear k6 KH MZ NZ XZ BZ KZ QZ dKa dKp dNa dNp dFa dFp
    obtain ⟨i0, i1, i2, i3, i4, i5, i6, i7, i8, i9⟩ := box10 N6.out
    have S6 : Spt (w.heap.size + 1) w1 w6 := (Spt.refl _ w1).new (by rw [hn1]; exact K6)
    have C7 : Hid (Calls Try.prog 14 #[.agg #[.int .i64 f.k, .string f.nm, .int .i64 f.op, .slice qv f.vars.length dv, .slice qt f.terms.length dt, .int .i64 f.lo, .int .i64 f.hi, .bool f.opn, .slice qs f.subs.length ds, .slice qr f.rgx.length dr]] w6 (SpOut (w.heap.size + 1) w1 w6)) := cP.out (w.heap.size + 1) w1 w6 (⟨.slice qv f.vars.length dv, .slice qt f.terms.length dt, .slice qs f.subs.length ds, .slice qr f.rgx.length dr⟩ : FQ) Q1.out S6
    clear S6 K6
    go_wp2_with fail
    refine C7.out.mono ?_
    rintro e w7 ⟨⟨v8, rfl⟩, h8⟩
    have F7 : Hid (Fr (fun k => w.heap.size + 1 ≤ k ∧ k < w1.heap.size) w6 w7) := h8.out.2
    have M7 : Hid (_) := F7.out.heap M6.out (fun h => by omega)
    have X7 : Hid (_) := F7.out.heap X6.out (fun h => by omega)
    have B7 : Below w.heap.size w w7 := B6.trans (F7.out.below B6.size (fun k h => by omega))
    have Q7 : Hid (QOwn (fun b => w2.heap.size ≤ b) w7 (f, (⟨.slice rv f.vars.length sv, .slice rt f.terms.length st, .slice rs f.subs.length ss, .slice rr f.rgx.length sr⟩ : FQ))) := Q6.out.keep (fun k hk hlt => F7.out.block k hlt (fun h => by omega))
    clear h8 M6 N6 X6 F7 B6 Q6 C7 i0 i1 i2 i3 i4 i5 i6 i7 i8 i9
    go_wp2_with fail
    refine (live06_any _).mono ?_
    rintro e w8 ⟨rfl, hb8⟩
    have M8 : Hid (_) := blkB M7.out hb8
    have X8 : Hid (_) := blkB X7.out hb8
    have B8 : Below w.heap.size w w8 := B7.trans (hb8.mono B7.size)
    have Q8 : Hid (QOwn (fun b => w2.heap.size ≤ b) w8 (f, (⟨.slice rv f.vars.length sv, .slice rt f.terms.length st, .slice rs f.subs.length ss, .slice rr f.rgx.length sr⟩ : FQ))) := Q7.out.keep (fun k _ hk => hb8.block k hk)
    clear hb8 M7 X7 B7 Q7
    obtain ⟨g0, g1, g2, g3, g4, g5, g6, g7, g8, g9⟩ := box10 M8.out
    obtain ⟨e0, e1, e2, e3, e4, e5, e6, e7, e8, e9⟩ := box10 X8.out
    have C9 : Hid (Calls Try.prog 6 #[.agg #[.int .i64 f.k, .string f.nm, .int .i64 f.op, .slice rv f.vars.length sv, .slice rt f.terms.length st, .int .i64 f.lo, .int .i64 f.hi, .bool f.opn, .slice rs f.subs.length ss, .slice rr f.rgx.length sr], .agg #[.int .i64 f.k, .string f.nm, .int .i64 f.op, .slice pv f.vars.length cv, .slice pt f.terms.length ct, .int .i64 f.lo, .int .i64 f.hi, .bool f.opn, .slice ps f.subs.length cs, .slice pr f.rgx.length cr]] w8 fun e w' => e = .returned (.bool true) ∧ Below w8.heap.size w8 w') := cS.out w8 (⟨.slice rv f.vars.length sv, .slice rt f.terms.length st, .slice rs f.subs.length ss, .slice rr f.rgx.length sr⟩ : FQ) (⟨.slice pv f.vars.length cv, .slice pt f.terms.length ct, .slice ps f.subs.length cs, .slice pr f.rgx.length cr⟩ : FQ) Q8.out.at (QAt.below HY.out B8)
    go_wp2_with fail
    refine C9.out.mono ?_
    rintro e w9 ⟨rfl, hb9⟩
    have B9 : Below w.heap.size w w9 := B8.trans (hb9.mono B8.size)
    clear hb9 C9 M8 X8 Q8 g0 g1 g2 g3 g4 g5 g6 g7 g8 g9 e0 e1 e2 e3 e4 e5 e6 e7 e8 e9
    go_wp2
    go_ret
    exact ⟨rfl, B9⟩
end Go.Proofs.Ytfajjphfjilpnab
