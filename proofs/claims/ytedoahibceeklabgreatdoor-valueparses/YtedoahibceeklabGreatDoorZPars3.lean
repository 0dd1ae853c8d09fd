/- The document's unquoted. -/
import Derived.Test.YtedoahibceeklabGreatDoorZPars2
import Derived.Test.YtedoahibceeklabGreatDoorZDocPr

namespace Go.Proofs.YtedoahibceeklabGreatDoor
open Go.RowKit Go.Shelf
set_option linter.unusedVariables false

/-- What a digit to the base 16 is worth to the document: no capitals. -/
def wth (c : UInt8) : Nat := if 48 ≤ c.toNat ∧ c.toNat ≤ 57 then c.toNat - 48 else if 97 ≤ c.toNat ∧ c.toNat ≤ 102 then c.toNat - 87 else 16
theorem wth_hexd_all : ∀ i : Fin 16, wth (hexd i.1) = i.1 := by decide
theorem wth_hexd (n : Nat) (h : n < 16) : wth (hexd n) = n := wth_hexd_all ⟨n, h⟩
theorem wth_back_all : ∀ i : Fin 256, wth (UInt8.ofNat i.1) < 16 → hexd (wth (UInt8.ofNat i.1)) = UInt8.ofNat i.1 := by decide +kernel
theorem wth_back (c : UInt8) (h : wth c < 16) : hexd (wth c) = c := by
  have q := wth_back_all ⟨c.toNat, c.toNat_lt⟩
  rw [show (⟨c.toNat, c.toNat_lt⟩ : Fin 256).1 = c.toNat from rfl, UInt8.ofNat_toNat] at q
  exact q h
theorem wth_le (c : UInt8) : wth c ≤ 16 := by unfold wth; split; omega; split <;> omega

set_option maxRecDepth 100000 in
set_option maxHeartbeats 2000000 in
theorem worth_any (c : UInt8) (w : World) :
    Calls Tryz.prog 49 #[.int .u8 c.toNat] w fun e w' => e = .returned (.int .i64 (wth c)) ∧ Below w.heap.size w w' := by
  have hu : c.toNat < 256 := c.toNat_lt
  go_enter Tryz.func49, Tryz.ntmps49
  go_wp2
  go_loopw [3] (fun i wr => ∃ k : Nat, k ≤ 16 ∧ i = .int .i64 k ∧ Hid (∀ j, j < k → hexd j ≠ c) ∧ Below w.heap.size w wr) (fun i _ => 16 - (intOf i).toNat)
  case atStart => exact ⟨0, by omega, rfl, fun j h => by omega, Below.refl _ _⟩
  case round =>
    obtain ⟨k, hk, rfl, hj, hB⟩ := hrel
    by_cases hke : k = 16
    · subst hke
      have e0 : Hid (((wth c : Nat) : Int) = 16) := by
        have h1 := wth_le c
        have h2 : ¬ wth c < 16 := fun h => hj.out (wth c) h (wth_back c h)
        show ((wth c : Nat) : Int) = 16
        omega
      clear hj
      go_wp2
      go_ret
      exact ⟨ret_int e0.out.symm, hB⟩
    · have hk1 : (k : Int) < 16 := by omega
      have hk2 : k < 16 := by omega
      have tk := hex_tab k hk2
      by_cases he : hexd k = c
      · have e0 : Hid (((wth c : Nat) : Int) = k) := by rw [← he, wth_hexd k hk2]; rfl
        have hq : (((hexd k).toNat : Int) == (c.toNat : Int)) = true := by rw [he]; simp
        clear hj he
        go_wp2
        go_ret
        exact ⟨ret_int e0.out.symm, hB⟩
      · have hq : (((hexd k).toNat : Int) == (c.toNat : Int)) = false := by
          simp
          intro h
          exact he (UInt8.toNat_inj.1 (by omega))
        have e0 : Hid (∀ j, j < k + 1 → hexd j ≠ c) := fun j hjk => by
          by_cases g : j = k
          · rw [g]; exact he
          · exact hj.out j (by omega)
        clear hj he
        go_wp2
        exact ⟨⟨k + 1, by omega, by simp, e0, hB⟩, by simp [intOf]; omega⟩

/-- What digits say, step by step, wrapped round. -/
def numA : List UInt8 → Int → Int
  | [], a => a
  | c :: r, a => numA r (if 48 ≤ c.toNat ∧ c.toNat ≤ 57 then wrap64 (wrap64 (a * 10) - (c.toNat - 48)) else a)
theorem numA_cons (c : UInt8) (r : List UInt8) (a : Int) : numA (c :: r) a = numA r (if 48 ≤ c.toNat ∧ c.toNat ≤ 57 then wrap64 (wrap64 (a * 10) - (c.toNat - 48)) else a) := rfl
def numS (l : List UInt8) : Int := if l.head?.map (·.toNat) = some 45 then numA l 0 else wrap64 (-(numA l 0))
theorem wrap_range (x : Int) : -9223372036854775808 ≤ wrap64 x ∧ wrap64 x ≤ 9223372036854775807 := by unfold wrap64; omega
theorem wrap_id {x : Int} (h1 : -9223372036854775808 ≤ x) (h2 : x ≤ 9223372036854775807) : wrap64 x = x := by unfold wrap64; omega
theorem numA_fits : ∀ (l : List UInt8) (a : Int), -9223372036854775808 ≤ a → a ≤ 9223372036854775807 → -9223372036854775808 ≤ numA l a ∧ numA l a ≤ 9223372036854775807
  | [], a, h1, h2 => ⟨h1, h2⟩
  | c :: r, a, h1, h2 => by
    unfold numA
    split
    · exact numA_fits r _ (wrap_range _).1 (wrap_range _).2
    · exact numA_fits r a h1 h2
theorem numS_fits (l : List UInt8) : -9223372036854775808 ≤ numS l ∧ numS l ≤ 9223372036854775807 := by
  unfold numS
  split
  · exact numA_fits l 0 (by omega) (by omega)
  · exact wrap_range _
theorem numA_append : ∀ (l r : List UInt8) (a : Int), numA (l ++ r) a = numA r (numA l a)
  | [], r, a => rfl
  | c :: l, r, a => by simp only [List.cons_append, numA]; exact numA_append l r _
theorem numA_dec : ∀ (u : Nat), u ≤ 9223372036854775808 → numA (Lib.decDigits u) 0 = -(u : Int) := by
  intro u
  induction u using Nat.strongRecOn with
  | _ u ih =>
    intro hu
    by_cases h : u < 10
    · rw [Lib.decDigits_one h]
      have e := dg_nat u h
      simp only [numA, e]
      rw [if_pos (by omega)]
      rw [wrap_id (x := 0 * 10) (by omega) (by omega), wrap_id (by omega) (by omega)]
      omega
    · have e := dg_nat (u % 10) (by omega)
      rw [Lib.decDigits, dif_neg h, numA_append, ih (u / 10) (by omega) (by omega)]
      simp only [numA, e]
      rw [if_pos (by omega)]
      rw [wrap_id (x := -((u / 10 : Nat) : Int) * 10) (by omega) (by omega), wrap_id (by omega) (by omega)]
      omega
theorem numS_itoa {n : Int} (h1 : -9223372036854775808 ≤ n) (h2 : n ≤ 9223372036854775807) : numS (Lib.itoa n) = n := by
  unfold Lib.itoa
  by_cases hn : n < 0
  · rw [if_pos hn]
    unfold numS
    rw [if_pos (show Option.map (fun x : UInt8 => x.toNat) (45 :: Lib.decDigits n.natAbs).head? = some 45 from rfl)]
    have e : numA (45 :: Lib.decDigits n.natAbs) 0 = numA (Lib.decDigits n.natAbs) 0 := by simp [numA]
    rw [e, numA_dec _ (by omega)]
    omega
  · rw [if_neg hn]
    unfold numS
    obtain ⟨c, r, e⟩ := List.exists_cons_of_ne_nil (dec_ne n.toNat)
    have hd := dec_digit n.toNat c (by rw [e]; simp)
    rw [if_neg (by rw [e]; simp; omega), numA_dec _ (by omega), wrap_id (by omega) (by omega)]
    omega

set_option maxRecDepth 100000 in
set_option maxHeartbeats 2000000 in
theorem number_any (s : ByteArray) (w : World) (hs : s.size ≤ 140737488355328) :
    Calls Tryz.prog 33 #[.string s] w fun e w' => e = .returned (.int .i64 (numS s.data.toList)) ∧ Below w.heap.size w w' := by
  have hl : s.data.toList.length = s.size := by simp
  go_enter Tryz.func33, Tryz.ntmps33
  go_wp2
  go_loopw [3, 4] (fun n i wr => ∃ (k : Nat) (a : Int), k ≤ s.size ∧ i = .int .i64 k ∧ n = .int .i64 a ∧ -9223372036854775808 ≤ a ∧ a ≤ 9223372036854775807 ∧ Hid (numA s.data.toList 0 = numA (s.data.toList.drop k) a) ∧ Below w.heap.size w wr) (fun _ i _ => s.size - (intOf i).toNat)
  case atStart => exact ⟨0, 0, by omega, rfl, rfl, by omega, by omega, (show numA s.data.toList 0 = numA (s.data.toList.drop 0) 0 by simp), Below.refl _ _⟩
  case round =>
    obtain ⟨k, a, hk, rfl, rfl, a1, a2, hN, hB⟩ := hrel
    by_cases hke : k = s.size
    · subst hke
      have e0 : Hid (numA s.data.toList 0 = a) := by
        have q := hN.out
        rw [List.drop_of_length_le (by omega)] at q
        exact q
      clear hN
      by_cases h0 : s.size = 0
      · have e1 : Hid (numS s.data.toList = wrap64 (-a)) := by
          show numS s.data.toList = _
          unfold numS
          rw [e0.out, List.eq_nil_of_length_eq_zero (hl.trans h0)]
          rfl
        have h0' : (s.size : Int) = 0 := by omega
        go_wp2
        go_ret
        exact ⟨ret_int e1.out.symm, hB⟩
      · have hp : 0 < s.size := by omega
        have hp' : (0 : Int) < s.size := by omega
        have hne : s.data.toList = s[0] :: s.data.toList.drop 1 := by
          have q := List.drop_eq_getElem_cons (l := s.data.toList) (i := 0) (by omega)
          rw [List.drop_zero] at q
          exact q
        obtain ⟨c, hc⟩ : ∃ c : UInt8, s[0] = c := ⟨_, rfl⟩
        rw [hc] at hne
        have hu : c.toNat < 256 := c.toNat_lt
        by_cases h45 : c.toNat = 45
        · have e1 : Hid (numS s.data.toList = a) := by
            show numS s.data.toList = _
            unfold numS
            rw [e0.out, hne]
            simp [h45]
          have q1 : ((c.toNat : Int) == 45) = true := by simp; omega
          clear hne h45 e0
          go_wp2
          go_ret
          exact ⟨ret_int e1.out.symm, hB⟩
        · have e1 : Hid (numS s.data.toList = wrap64 (-a)) := by
            show numS s.data.toList = _
            unfold numS
            rw [e0.out, hne]
            simp [h45]
          have q1 : ((c.toNat : Int) == 45) = false := by simp; omega
          clear hne h45 e0
          go_wp2
          go_ret
          exact ⟨ret_int e1.out.symm, hB⟩
    · have hk' : (k : Int) < s.size := by omega
      have hkk : k < s.size := by omega
      have hd : s.data.toList.drop k = s[k] :: s.data.toList.drop (k + 1) := by
        rw [List.drop_eq_getElem_cons (by omega)]
        rfl
      rw [hd] at hN
      clear hd
      obtain ⟨c, hc⟩ : ∃ c : UInt8, s[k] = c := ⟨_, rfl⟩
      rw [hc] at hN
      have hu : c.toNat < 256 := c.toNat_lt
      by_cases h1 : 48 ≤ c.toNat ∧ c.toNat ≤ 57
      · have q1 : 48 ≤ (c.toNat : Int) := by omega
        have q2 : (c.toNat : Int) ≤ 57 := by omega
        have wr1 := wrap_range (a * 10)
        have wr2 := wrap_range (wrap64 (a * 10) - (c.toNat - 48))
        have e0 : Hid (numA s.data.toList 0 = numA (s.data.toList.drop (k + 1)) (wrap64 (wrap64 (a * 10) - (c.toNat - 48)))) := by
          have q := hN.out
          rw [numA_cons, if_pos h1] at q
          exact q
        have W2 : Hid (-9223372036854775808 ≤ wrap64 (wrap64 (a * 10) - (c.toNat - 48)) ∧ wrap64 (wrap64 (a * 10) - (c.toNat - 48)) ≤ 9223372036854775807) := wr2
        clear hN h1 wr1 wr2
        go_wp2
        exact ⟨⟨k + 1, _, by omega, by simp, rfl, W2.out.1, W2.out.2, e0, hB⟩, by simp [intOf]; omega⟩
      · have e0 : Hid (numA s.data.toList 0 = numA (s.data.toList.drop (k + 1)) a) := by
          have q := hN.out
          rw [numA_cons, if_neg h1] at q
          exact q
        have q1 : (48 ≤ (c.toNat : Int)) = False ∨ ((48 ≤ (c.toNat : Int)) = True ∧ ((c.toNat : Int) ≤ 57) = False) := by
          by_cases g : 48 ≤ c.toNat
          · right; refine ⟨by simp; omega, by simp; omega⟩
          · left; simp; omega
        clear hN h1
        rcases q1 with q1 | ⟨q1, q2⟩
        · go_wp2
          exact ⟨⟨k + 1, a, by omega, by simp, rfl, a1, a2, e0, hB⟩, by simp [intOf]; omega⟩
        · go_wp2
          exact ⟨⟨k + 1, a, by omega, by simp, rfl, a1, a2, e0, hB⟩, by simp [intOf]; omega⟩

end Go.Proofs.YtedoahibceeklabGreatDoor

namespace Go.Proofs.YtedoahibceeklabGreatDoor
open Go.RowKit Go.Shelf
set_option linter.unusedVariables false

/-- What the document takes of a text behind its first quote; the last byte is left out. -/
def dq (l : List UInt8) : List UInt8 :=
  match l with
  | [] => []
  | [_] => []
  | c :: e :: r => if c.toNat = 92 then (if e.toNat = 120 then (match r with
      | [] => [e]
      | [_] => [e]
      | x :: y :: r' => UInt8.ofNat (16 * wth x + wth y) :: dq r') else e :: dq r) else c :: dq (e :: r)
termination_by l.length
decreasing_by all_goals simp; try omega
theorem dq_nil : dq [] = [] := by rw [dq]
theorem dq_one (c : UInt8) : dq [c] = [] := by rw [dq]
theorem dq_plain {c : UInt8} (e : UInt8) (r : List UInt8) (h : c.toNat ≠ 92) : dq (c :: e :: r) = c :: dq (e :: r) := by rw [dq.eq_def]; simp [h]
theorem dq_esc {c e : UInt8} (r : List UInt8) (h : c.toNat = 92) (g : e.toNat ≠ 120) : dq (c :: e :: r) = e :: dq r := by rw [dq.eq_def]; simp [h, g]
theorem dq_short {c e : UInt8} (r : List UInt8) (h : c.toNat = 92) (g : r.length ≤ 1) : dq (c :: e :: r) = e :: dq r := by
  match r, g with
  | [], _ => rw [dq.eq_def]; simp [h, dq_nil]
  | [x], _ => rw [dq.eq_def]; simp [h, dq_one]
  | _ :: _ :: _, g => simp at g
theorem dq_hex {c e : UInt8} (x y : UInt8) (r : List UInt8) (h : c.toNat = 92) (g : e.toNat = 120) : dq (c :: e :: x :: y :: r) = UInt8.ofNat (16 * wth x + wth y) :: dq r := by rw [dq.eq_def]; simp [h, g]
theorem dq_inside : ∀ l : List UInt8, dq (inside l ++ [34]) = l
  | [] => by simp [inside, dq_one]
  | c :: l => by
    have ih := dq_inside l
    have e : inside (c :: l) ++ [34] = esc c ++ (inside l ++ [34]) := by simp [inside]
    rw [e]
    obtain ⟨d, r, er⟩ := List.exists_cons_of_ne_nil (show inside l ++ [34] ≠ [] by simp)
    unfold esc
    have hc : c.toNat < 256 := c.toNat_lt
    by_cases h1 : c.toNat = 34 ∨ c.toNat = 92
    · rw [if_pos h1]
      show dq (92 :: c :: (inside l ++ [34])) = _
      rw [dq_esc _ rfl (by omega), ih]
    · rw [if_neg h1]
      by_cases h2 : 32 ≤ c.toNat ∧ c.toNat ≤ 126
      · rw [if_pos h2]
        show dq (c :: (inside l ++ [34])) = _
        rw [er, dq_plain _ _ (by omega), ← er, ih]
      · rw [if_neg h2]
        show dq (92 :: 120 :: hexd (c.toNat / 16) :: hexd (c.toNat % 16) :: (inside l ++ [34])) = _
        have e2 : UInt8.ofNat (16 * (c.toNat / 16) + c.toNat % 16) = c := by
          have : 16 * (c.toNat / 16) + c.toNat % 16 = c.toNat := by omega
          rw [this]
          exact UInt8.ofNat_toNat
        rw [dq_hex _ _ _ rfl rfl, wth_hexd _ (by omega), wth_hexd _ (by omega), e2, ih]
theorem dq_len : ∀ (n : Nat) (l : List UInt8), l.length ≤ n → (dq l).length ≤ l.length
  | _, [], _ => by rw [dq_nil]; simp
  | _, [c], _ => by rw [dq_one]; simp
  | 0, _ :: _ :: _, h => by simp at h
  | n + 1, c :: e :: r, h => by
    by_cases h1 : c.toNat = 92
    · by_cases h2 : e.toNat = 120
      · by_cases h3 : r.length ≤ 1
        · rw [dq_short r h1 h3]
          have := dq_len n r (by simp at h; omega)
          simp; omega
        · match r, h3 with
          | [], h3 => simp at h3
          | [_], h3 => simp at h3
          | x :: y :: r', _ =>
            rw [dq_hex x y r' h1 h2]
            have := dq_len n r' (by simp at h; omega)
            simp; omega
      · rw [dq_esc r h1 h2]
        have := dq_len n r (by simp at h; omega)
        simp; omega
    · rw [dq_plain e r h1]
      have := dq_len n (e :: r) (by simp at h ⊢; omega)
      simp at this ⊢; omega

theorem own_below {B : Nat} {v : Value} {L : List UInt8} {w W : World} (h : Own B v L w) (hb : Below w.heap.size w W) : Own B v L W :=
  World.ownsRow.kept (row := none) h ⟨hb.os, hb.tape, hb.output, hb.size, fun k hk _ => hb.block k hk⟩ (Classical.em _)

theorem drop_two (s : ByteArray) (k : Nat) (h : k + 1 < s.size) : s.data.toList.drop k = s[k] :: s[k + 1] :: s.data.toList.drop (k + 2) := by
  have hl : s.data.toList.length = s.size := by simp
  rw [List.drop_eq_getElem_cons (by omega), List.drop_eq_getElem_cons (i := k + 1) (by omega)]
  rfl

set_option maxHeartbeats 8000000 in
set_option maxRecDepth 100000 in
theorem dunq_any (s : ByteArray) (w : World) (hs : s.size ≤ 35184372088830) :
    Calls Tryz.prog 32 #[.string s] w fun e w' => e = .returned (.string ⟨(dq (s.data.toList.drop 1)).toArray⟩) ∧ Below w.heap.size w w' := by
  obtain ⟨i0, hi, hz0, hz1, hz2⟩ := info_parts inB
  have hl : s.data.toList.length = s.size := by simp
  have WO : Hid (∀ (c : UInt8) (W : World), Calls Tryz.prog 49 #[.int .u8 c.toNat] W fun e w' => e = .returned (.int .i64 (wth c)) ∧ Below W.heap.size W w') := fun c W => worth_any c W
  go_enter Tryz.func32, Tryz.ntmps32
  go_wp2
  go_loopw [3, 4] (fun b i wr => ∃ (k : Nat) (acc : List UInt8), 1 ≤ k ∧ k ≤ s.size + 1 ∧ acc.length ≤ k ∧ i = .int .i64 k ∧ Hid (dq (s.data.toList.drop 1) = acc ++ dq (s.data.toList.drop k)) ∧ Hid (Own w.heap.size b acc wr) ∧ Below w.heap.size w wr) (fun _ i _ => s.size + 1 - (intOf i).toNat)
  case atStart => exact ⟨1, [], by omega, by omega, by simp, rfl, rfl, World.ownsRow_nil w _ _ _, Below.refl _ _⟩
  case round =>
    obtain ⟨k, acc, hk0, hk, ha, rfl, hU, hI, hB⟩ := hrel
    have hsz := hB.size
    have hbk : ∀ q, u3.ownBlock = some q → w.heap.size ≤ q := fun q hq => (World.ownsRow.lt hI.out q hq).1
    have HK : Hid (∀ q, u3.ownBlock = some q → w.heap.size ≤ q) := hbk
    clear hbk
    by_cases hke : s.size ≤ k + 1
    · have hke' : (s.size : Int) - 1 ≤ k := by omega
      have e0 : Hid (dq (s.data.toList.drop 1) = acc) := by
        have q := hU.out
        have hr : dq (s.data.toList.drop k) = [] := by
          match hd : s.data.toList.drop k with
          | [] => exact dq_nil
          | [c] => exact dq_one c
          | _ :: _ :: _ =>
            have := congrArg List.length hd
            simp at this
            omega
        rw [hr, List.append_nil] at q
        exact q
      clear hU
      have cv : (convert 66 9 u3).run Tryz.prog wr = .ok (.string ⟨acc.toArray⟩) wr := by
        obtain ⟨hl, hv | ⟨g, cap, cur, hv, hg1, hg2, hg3, hg4, hg5, hg6⟩⟩ := hI.out
        · obtain ⟨rfl, hn⟩ := hv
          obtain rfl : acc = [] := List.eq_nil_of_length_eq_zero hn
          exact run_convert_bytes_nil wr 66 5 Tryz.underlying66 Tryz.underlying5 0 0 9 Tryz.underlying9
        · subst hv
          have hown : wr.ownsRow w.heap.size 5 1 (.slice (some ⟨g, 0, none⟩) acc.length cap) acc.length (Lib.byteCells acc) := hI.out
          exact run_convert_bytes_back wr 66 9 5 ⟨g, 0, none⟩ cap acc Tryz.underlying66 Tryz.underlying5 Tryz.underlying9 (fun j hj => by
            rw [Addr.add_lit, Nat.zero_add, hown.cellAt j (by omega)]
            simp [Lib.byteCells, List.getElem?_eq_getElem hj])
      go_wp2
      go_ret
      exact ⟨by rw [e0.out]; rfl, hB⟩
    · have hk1 : (k : Int) < s.size - 1 := by omega
      have hk2 : (k : Int) < s.size := by omega
      have hkk : k < s.size := by omega
      have hd := drop_two s k (by omega)
      rw [hd] at hU
      clear hd
      have hu : s[k].toNat < 256 := s[k].toNat_lt
      have hu1 : s[k + 1].toNat < 256 := s[k + 1].toNat_lt
      obtain ⟨c, hc⟩ : ∃ c : UInt8, s[k] = c := ⟨_, rfl⟩
      obtain ⟨f, hf⟩ : ∃ f : UInt8, s[k + 1] = f := ⟨_, rfl⟩
      rw [hc] at hu
      rw [hf] at hu1
      rw [hc, hf] at hU
      have hbd : acc.length + 1 ≤ 140737488355328 := by omega
      by_cases h1 : c.toNat = 92
      · have q1 : ((c.toNat : Int) != 92) = false := by simp; omega
        by_cases h2 : f.toNat = 120
        · have q2 : ((f.toNat : Int) != 120) = false := by simp; omega
          by_cases h3 : s.size ≤ k + 3
          · have q3 : (s.size : Int) ≤ k + 3 := by omega
            have hr : (s.data.toList.drop (k + 2)).length ≤ 1 := by simp; omega
            have e0 : Hid (dq (s.data.toList.drop 1) = (acc ++ [f]) ++ dq (s.data.toList.drop (k + 2))) := by
              have q := hU.out
              rw [dq_short _ h1 hr] at q
              exact q.trans (by simp)
            clear hU h1 h2 h3 hr
            have hk3 : (k : Int) + 1 < s.size := by omega
            go_wp2_with (at_builtin; refine wpList_append_own _ rfl (.tmp 36) (.tmp 41) 66 rfl w.heap.size 5 i0 (.int .u8 0) 1 1 Tryz.underlying66 hi hz0 hz1 hz2 rfl (by decide) _ _ _ rfl (World.ownsRow.alloc hI.out _) ⟨wr.heap.size, 0, none⟩ 1 1 [.int .u8 f.toNat] rfl rfl ?c1 ?c2 (by unfold maxLen; omega) (by omega) (by simp; omega) ?grow)
            case c1 => (intro j u hj; rw [Addr.add_lit]; (rcases j with _ | j) <;> simp at hj <;> subst hj <;> simp (maxDischargeDepth := 12) [go_sem])
            case c2 => (intro u hu; simp at hu; subst hu; rfl)
            case grow =>
              intro v' w2 h2 h3 _
              have o2 : Hid (Own w.heap.size v' (acc ++ [f]) w2) := own_more (M := [f]) h2 rfl
              have K2 : Below w.heap.size w w2 := Below.grown (hB.alloc hsz _) h3 (by simp; omega) HK.out
              clear h2 h3 hI HK
              go_wp2
              exact ⟨⟨k + 2, acc ++ [f], by omega, by omega, by simp; omega, by simp, e0, o2, K2⟩, by simp [intOf]; omega⟩
          · have q3 : ((s.size : Int) ≤ k + 3) = False := by simp; omega
            have hk3 : (k : Int) + 1 < s.size := by omega
            have hk4 : (k : Int) + 2 < s.size := by omega
            have hk5 : (k : Int) + 3 < s.size := by omega
            have hd := drop_two s (k + 2) (by omega)
            rw [hd] at hU
            clear hd
            obtain ⟨x, hx⟩ : ∃ x : UInt8, s[k + 2] = x := ⟨_, rfl⟩
            obtain ⟨y, hy⟩ : ∃ y : UInt8, s[k + 2 + 1] = y := ⟨_, rfl⟩
            have hy' : s[k + 3] = y := hy
            rw [hx, hy] at hU
            obtain ⟨X, eX⟩ : ∃ X : Nat, Hid (wth x = X) := ⟨_, rfl⟩
            obtain ⟨Y, eY⟩ : ∃ Y : Nat, Hid (wth y = Y) := ⟨_, rfl⟩
            have lX : X ≤ 16 := by rw [← eX.out]; exact wth_le x
            have lY : Y ≤ 16 := by rw [← eY.out]; exact wth_le y
            obtain ⟨z, ez⟩ : ∃ z : UInt8, Hid (UInt8.ofNat (16 * X + Y) = z) := ⟨_, rfl⟩
            have zw : IntKind.u8.wrap (16 * (X : Int) + (Y : Int)) = (z.toNat : Int) := by
              rw [← ez.out]
              simp [IntKind.wrap, IntKind.bits, IntKind.signed, UInt8.toNat_ofNat]
            have e0 : Hid (dq (s.data.toList.drop 1) = (acc ++ [z]) ++ dq (s.data.toList.drop (k + 4))) := by
              have q := hU.out
              rw [dq_hex _ _ _ h1 h2, eX.out, eY.out, ez.out] at q
              exact q.trans (by simp)
            have WX : Hid (∀ W : World, Calls Tryz.prog 49 #[.int .u8 x.toNat] W fun e w' => e = .returned (.int .i64 X) ∧ Below W.heap.size W w') := fun W => by
              have q := WO.out x W
              rw [eX.out] at q
              exact q
            have WY : Hid (∀ W : World, Calls Tryz.prog 49 #[.int .u8 y.toNat] W fun e w' => e = .returned (.int .i64 Y) ∧ Below W.heap.size W w') := fun W => by
              have q := WO.out y W
              rw [eY.out] at q
              exact q
            clear hU h1 h2 eX eY ez
            go_wp2_with fail
            refine (WX.out _).mono ?_
            rintro e wa ⟨rfl, ba⟩
            go_wp2_with fail
            refine (WY.out _).mono ?_
            rintro e wb ⟨rfl, bb⟩
            have bab : Below wr.heap.size wr wb := ba.trans (bb.mono ba.size)
            have hI2 : Hid (Own w.heap.size u3 acc wb) := own_below hI.out bab
            have hB2 : Below w.heap.size w wb := hB.trans (bab.mono hB.size)
            have hsz2 := hB2.size
            clear hI hB hsz ba bb bab
            go_wp2_with (at_builtin; refine wpList_append_own _ rfl (.tmp 55) (.tmp 61) 66 rfl w.heap.size 5 i0 (.int .u8 0) 1 1 Tryz.underlying66 hi hz0 hz1 hz2 rfl (by decide) _ _ _ rfl (World.ownsRow.alloc hI2.out _) ⟨wb.heap.size, 0, none⟩ 1 1 [.int .u8 z.toNat] rfl rfl ?c1 ?c2 (by unfold maxLen; omega) (by omega) (by simp; omega) ?grow)
            case c1 => (intro j u hj; rw [Addr.add_lit]; (rcases j with _ | j) <;> simp at hj <;> subst hj <;> simp (maxDischargeDepth := 12) [go_sem])
            case c2 => (intro u hu; simp at hu; subst hu; rfl)
            case grow =>
              intro v' w2 h2 h3 _
              have o2 : Hid (Own w.heap.size v' (acc ++ [z]) w2) := own_more (M := [z]) h2 rfl
              have K2 : Below w.heap.size w w2 := Below.grown (hB2.alloc hsz2 _) h3 (by simp; omega) HK.out
              clear h2 h3 hI2 HK
              go_wp2
              exact ⟨⟨k + 4, acc ++ [z], by omega, by omega, by simp; omega, by simp, e0, o2, K2⟩, by simp [intOf]; omega⟩
        · have q2 : ((f.toNat : Int) != 120) = true := by simp; omega
          have e0 : Hid (dq (s.data.toList.drop 1) = (acc ++ [f]) ++ dq (s.data.toList.drop (k + 2))) := by
            have q := hU.out
            rw [dq_esc _ h1 h2] at q
            exact q.trans (by simp)
          clear hU h1 h2
          have hk3 : (k : Int) + 1 < s.size := by omega
          go_wp2_with (at_builtin; refine wpList_append_own _ rfl (.tmp 36) (.tmp 41) 66 rfl w.heap.size 5 i0 (.int .u8 0) 1 1 Tryz.underlying66 hi hz0 hz1 hz2 rfl (by decide) _ _ _ rfl (World.ownsRow.alloc hI.out _) ⟨wr.heap.size, 0, none⟩ 1 1 [.int .u8 f.toNat] rfl rfl ?c1 ?c2 (by unfold maxLen; omega) (by omega) (by simp; omega) ?grow)
          case c1 => (intro j u hj; rw [Addr.add_lit]; (rcases j with _ | j) <;> simp at hj <;> subst hj <;> simp (maxDischargeDepth := 12) [go_sem])
          case c2 => (intro u hu; simp at hu; subst hu; rfl)
          case grow =>
            intro v' w2 h2 h3 _
            have o2 : Hid (Own w.heap.size v' (acc ++ [f]) w2) := own_more (M := [f]) h2 rfl
            have K2 : Below w.heap.size w w2 := Below.grown (hB.alloc hsz _) h3 (by simp; omega) HK.out
            clear h2 h3 hI HK
            go_wp2
            exact ⟨⟨k + 2, acc ++ [f], by omega, by omega, by simp; omega, by simp, e0, o2, K2⟩, by simp [intOf]; omega⟩
      · have q1 : ((c.toNat : Int) != 92) = true := by simp; omega
        have e0 : Hid (dq (s.data.toList.drop 1) = (acc ++ [c]) ++ dq (s.data.toList.drop (k + 1))) := by
          have q := hU.out
          rw [dq_plain _ _ h1] at q
          refine q.trans ?_
          rw [show s.data.toList.drop (k + 1) = f :: s.data.toList.drop (k + 2) by
            rw [List.drop_eq_getElem_cons (by omega), ← hf]; rfl]
          simp
        clear hU h1
        go_wp2_with (at_builtin; refine wpList_append_own _ rfl (.tmp 16) (.tmp 20) 66 rfl w.heap.size 5 i0 (.int .u8 0) 1 1 Tryz.underlying66 hi hz0 hz1 hz2 rfl (by decide) _ _ _ rfl (World.ownsRow.alloc hI.out _) ⟨wr.heap.size, 0, none⟩ 1 1 [.int .u8 c.toNat] rfl rfl ?c1 ?c2 (by unfold maxLen; omega) (by omega) (by simp; omega) ?grow)
        case c1 => (intro j u hj; rw [Addr.add_lit]; (rcases j with _ | j) <;> simp at hj <;> subst hj <;> simp (maxDischargeDepth := 12) [go_sem])
        case c2 => (intro u hu; simp at hu; subst hu; rfl)
        case grow =>
          intro v' w2 h2 h3 _
          have o2 : Hid (Own w.heap.size v' (acc ++ [c]) w2) := own_more (M := [c]) h2 rfl
          have K2 : Below w.heap.size w w2 := Below.grown (hB.alloc hsz _) h3 (by simp; omega) HK.out
          clear h2 h3 hI HK
          go_wp2
          exact ⟨⟨k + 1, acc ++ [c], by omega, by omega, by simp; omega, by simp, e0, o2, K2⟩, by simp [intOf]; omega⟩

end Go.Proofs.YtedoahibceeklabGreatDoor
