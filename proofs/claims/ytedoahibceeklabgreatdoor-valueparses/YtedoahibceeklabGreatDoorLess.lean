/- What rat.less does. -/
import Derived.Test.YtedoahibceeklabGreatDoorOps
namespace Go.Proofs.YtedoahibceeklabGreatDoor
open Go.RowKit Go.Shelf

/-- The order of two fractions by signs and sizes. -/
def lessB (xb : Bool) (xn xd : Int) (yb : Bool) (yn yd : Int) : Bool := if xb = yb then (if xb then decide (yn * xd < xn * yd) else decide (xn * yd < yn * xd)) else xb

theorem less_apart (xb yb : Bool) (xn xd yn yd : Int) (w : World) (h : xb ≠ yb) :
    Calls Tryz.prog 75 #[.agg #[.bool xb, .int .u64 xn, .int .u64 xd], .agg #[.bool yb, .int .u64 yn, .int .u64 yd]] w fun e w' => e = .returned (.bool xb) ∧ Below w.heap.size w w' := by
  have hne : (xb == yb) = false := by simpa using h
  go_enter Tryz.func75, Tryz.ntmps75
  go_wp2
  go_ret
  exact ⟨rfl, by go_grown⟩

set_option maxHeartbeats 1000000 in
theorem less_pos (xn xd yn yd : Int) (w : World) (hxn : 0 ≤ xn) (hxn' : xn < 18446744073709551616) (hyn : 0 ≤ yn) (hyn' : yn < 18446744073709551616) (hxd : 0 ≤ xd) (hxd' : xd < 18446744073709551616) (hyd : 0 ≤ yd) (hyd' : yd < 18446744073709551616) :
    Calls Tryz.prog 75 #[.agg #[.bool false, .int .u64 xn, .int .u64 xd], .agg #[.bool false, .int .u64 yn, .int .u64 yd]] w fun e w' => e = .returned (.bool (decide (xn * yd < yn * xd))) ∧ Below w.heap.size w w' := by
  go_enter Tryz.func75, Tryz.ntmps75
  go_wp2
  go_region_held3 (fun w' => w'.cell? ⟨w.heap.size, 1, none⟩ = some (.int .u64 xn) ∧ w'.cell? ⟨w.heap.size, 2, none⟩ = some (.int .u64 xd) ∧ w'.cell? ⟨w.heap.size + 1, 1, none⟩ = some (.int .u64 yn) ∧ w'.cell? ⟨w.heap.size + 1, 2, none⟩ = some (.int .u64 yd)) (simp [go_sem, *])
    (first
      | (go_at_call_of 91 xn; refine (times_any xn yd _ (by omega) (by omega) (by omega) (by omega)).mono ?_; rintro e w1 ⟨rfl, hb1⟩; obtain ⟨hc1, hf1, hB1, za1, zb1⟩ := bf2 (w := w) (by go_grown) (by go_size) hb1)
      | (go_at_call_of 91 yn; refine (times_any yn xd _ (by omega) (by omega) (by omega) (by omega)).mono ?_; rintro e w2 ⟨rfl, hb2⟩; obtain ⟨hc2, hf2, hB2, za2, zb2⟩ := bf2 (w := w) (by go_grown) (by go_size) hb2)
      | (go_at_call 94; refine (lower_any (xn * yd) (yn * xd) _).mono ?_; rintro e w3 ⟨rfl, hb3⟩; obtain ⟨hc3, hf3, hB3, za3, zb3⟩ := bf2 (w := w) (by go_grown) (by go_size) hb3))
  go_wp2
  go_ret
  exact ⟨rfl, by go_grown⟩

set_option maxHeartbeats 1000000 in
theorem less_neg (xn xd yn yd : Int) (w : World) (hxn : 0 ≤ xn) (hxn' : xn < 18446744073709551616) (hyn : 0 ≤ yn) (hyn' : yn < 18446744073709551616) (hxd : 0 ≤ xd) (hxd' : xd < 18446744073709551616) (hyd : 0 ≤ yd) (hyd' : yd < 18446744073709551616) :
    Calls Tryz.prog 75 #[.agg #[.bool true, .int .u64 xn, .int .u64 xd], .agg #[.bool true, .int .u64 yn, .int .u64 yd]] w fun e w' => e = .returned (.bool (decide (yn * xd < xn * yd))) ∧ Below w.heap.size w w' := by
  go_enter Tryz.func75, Tryz.ntmps75
  go_wp2
  go_region_held3 (fun w' => w'.cell? ⟨w.heap.size, 1, none⟩ = some (.int .u64 yn) ∧ w'.cell? ⟨w.heap.size, 2, none⟩ = some (.int .u64 yd) ∧ w'.cell? ⟨w.heap.size + 1, 1, none⟩ = some (.int .u64 xn) ∧ w'.cell? ⟨w.heap.size + 1, 2, none⟩ = some (.int .u64 xd)) (simp [go_sem, *])
    (first
      | (go_at_call_of 91 yn; refine (times_any yn xd _ (by omega) (by omega) (by omega) (by omega)).mono ?_; rintro e w1 ⟨rfl, hb1⟩; obtain ⟨hc1, hf1, hB1, za1, zb1⟩ := bf2 (w := w) (by go_grown) (by go_size) hb1)
      | (go_at_call_of 91 xn; refine (times_any xn yd _ (by omega) (by omega) (by omega) (by omega)).mono ?_; rintro e w2 ⟨rfl, hb2⟩; obtain ⟨hc2, hf2, hB2, za2, zb2⟩ := bf2 (w := w) (by go_grown) (by go_size) hb2)
      | (go_at_call 94; refine (lower_any (yn * xd) (xn * yd) _).mono ?_; rintro e w3 ⟨rfl, hb3⟩; obtain ⟨hc3, hf3, hB3, za3, zb3⟩ := bf2 (w := w) (by go_grown) (by go_size) hb3))
  go_wp2
  go_ret
  exact ⟨rfl, by go_grown⟩

theorem less_any (xb yb : Bool) (xn xd yn yd : Int) (w : World) (hxn : 0 ≤ xn) (hxn' : xn < 18446744073709551616) (hyn : 0 ≤ yn) (hyn' : yn < 18446744073709551616) (hxd : 0 ≤ xd) (hxd' : xd < 18446744073709551616) (hyd : 0 ≤ yd) (hyd' : yd < 18446744073709551616) :
    Calls Tryz.prog 75 #[.agg #[.bool xb, .int .u64 xn, .int .u64 xd], .agg #[.bool yb, .int .u64 yn, .int .u64 yd]] w fun e w' => e = .returned (.bool (lessB xb xn xd yb yn yd)) ∧ Below w.heap.size w w' := by
  by_cases h : xb = yb
  · subst h
    cases xb
    · have e : lessB false xn xd false yn yd = decide (xn * yd < yn * xd) := by simp [lessB]
      rw [e]; exact less_pos xn xd yn yd w hxn hxn' hyn hyn' hxd hxd' hyd hyd'
    · have e : lessB true xn xd true yn yd = decide (yn * xd < xn * yd) := by simp [lessB]
      rw [e]; exact less_neg xn xd yn yd w hxn hxn' hyn hyn' hxd hxd' hyd hyd'
  · have e : lessB xb xn xd yb yn yd = xb := by simp [lessB, h]
    rw [e]; exact less_apart xb yb xn xd yn yd w h

end Go.Proofs.YtedoahibceeklabGreatDoor
