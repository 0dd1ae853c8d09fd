/- What the claims of this seat share: base. -/
import Derived.Test.YticnfeolbfmgfaaGreatDoorZ01
set_option maxRecDepth 100000
set_option maxHeartbeats 8000000
namespace Go.Proofs.YticnfeolbfmgfaaGreatDoor
open Go.RowKit Go.Shelf
set_option linter.unusedVariables false
def hexv (c:UInt8):Nat:=if 48≤c.toNat∧c.toNat≤57 then c.toNat - 48 else if 97≤c.toNat∧c.toNat≤102 then c.toNat - 87 else if 65≤c.toNat∧c.toNat≤70 then c.toNat - 55 else 16
def low8 (c:UInt8):Int:=bits .or .u8 c.toNat 32
theorem low_all:∀ n:Fin 256,0≤bits .or .u8 (n.1:Int) 32∧bits .or .u8 (n.1:Int) 32≤255∧(if 48≤n.1∧n.1≤57 then True else if 97≤bits .or .u8 (n.1:Int) 32∧bits .or .u8 (n.1:Int) 32≤122 then (if bits .or .u8 (n.1:Int) 32≤102 then ((hexv (UInt8.ofNat n.1):Nat):Int)=bits .or .u8 (n.1:Int) 32 - 87 else hexv (UInt8.ofNat n.1)=16) else hexv (UInt8.ofNat n.1)=16):=by decide+kernel
inductive Cls (c:UInt8):Prop where
 | dig (h1:48≤(c.toNat:Int)) (h2:(c.toNat:Int)≤57) (h3:((hexv c:Nat):Int)=c.toNat - 48) (h9:((c.toNat:Int)==95)=false)
 | hex (h1:¬ (48≤(c.toNat:Int)∧(c.toNat:Int)≤57)) (h2:97≤low8 c) (h3:low8 c≤102) (h4:((hexv c:Nat):Int)=low8 c - 87) (h9:((c.toNat:Int)==95)=false)
 | let (h1:¬ (48≤(c.toNat:Int)∧(c.toNat:Int)≤57)) (h2:102<low8 c) (h3:low8 c≤122) (h4:hexv c=16) (h9:((c.toNat:Int)==95)=false)
 | lss (h1:¬ (48≤(c.toNat:Int)∧(c.toNat:Int)≤57)) (h2:low8 c<97) (h3:0≤low8 c) (h4:hexv c=16) (h9:((c.toNat:Int)==95)=false)
 | gtr (h1:¬ (48≤(c.toNat:Int)∧(c.toNat:Int)≤57)) (h2:122<low8 c) (h3:low8 c≤255) (h4:hexv c=16)
theorem cls (c:UInt8):Cls c:=by
 have hc:c.toNat<256:=c.toNat_lt
 obtain ⟨a1,a2,a3⟩:=low_all ⟨c.toNat,hc⟩
 rw [show (⟨c.toNat,hc⟩:Fin 256).1=c.toNat from rfl,UInt8.ofNat_toNat] at a3
 have a4:c.toNat=95→bits .or .u8 (c.toNat:Int) 32=127:=by intro h;rw [h];decide
 by_cases h:48≤c.toNat∧c.toNat≤57
 ·exact .dig (by omega) (by omega) (by unfold hexv;rw [if_pos h];omega) (by simp;omega)
 ·rw [if_neg h] at a3
  by_cases g:97≤bits .or .u8 (c.toNat:Int) 32∧bits .or .u8 (c.toNat:Int) 32≤122
  ·rw [if_pos g] at a3
   by_cases f:bits .or .u8 (c.toNat:Int) 32≤102
   ·rw [if_pos f] at a3
    exact .hex (by omega) g.1 f a3 (by simp;omega)
   ·rw [if_neg f] at a3
    exact .let (by omega) (by unfold low8;omega) g.2 a3 (by simp;omega)
  ·rw [if_neg g] at a3
   by_cases f:bits .or .u8 (c.toNat:Int) 32<97
   ·exact .lss (by omega) f a1 a3 (by simp;omega)
   ·exact .gtr (by omega) (by unfold low8;omega) a2 a3
theorem pu_let (a b:UInt8) (w:World) (h0:¬ (48≤(a.toNat:Int)∧(a.toNat:Int)≤57)) (h2:102<low8 a) (h3:low8 a≤122) (h9:((a.toNat:Int)==95)=false):
  Calls Tryz.prog 240 #[.string ⟨#[a,b]⟩,.int .i64 16,.int .i64 8] w fun e w'=>e=.returned (.tuple #[.int .u64 0,.iface 256 (.int .i64 2)])∧Below w.heap.size w w':=by
 have hcv:=Lib.run_convert_string_bytes (P:=Tryz.prog) w 9 48 5 ⟨#[a,b]⟩ Tryz.underlying9 Tryz.underlying48 Tryz.underlying5
 have hB0:(Lib.bytesWorld w 5 ⟨#[a,b]⟩).cell? ⟨w.heap.size,0,none⟩=some (.int .u8 a.toNat):=Lib.bytesWorld_cell w 5 ⟨#[a,b]⟩ 0 (by show 0<2;decide)
 have hB1:(Lib.bytesWorld w 5 ⟨#[a,b]⟩).cell? ⟨w.heap.size,1,none⟩=some (.int .u8 b.toNat):=Lib.bytesWorld_cell w 5 ⟨#[a,b]⟩ 1 (by show 1<2;decide)
 have hbb:=Lib.bytesWorld_below w 5 ⟨#[a,b]⟩
 have ua:a.toNat<256:=a.toNat_lt
 have ub:b.toNat<256:=b.toNat_lt
 have LA:Hid (∀ W:World,Calls Tryz.prog 265 #[.int .u8 a.toNat] W fun e w'=>e=.returned (.int .u8 (low8 a))∧w'=W):=fun W=>Tryz.internal_strconv_lower a.toNat W
 have LB:Hid (∀ W:World,Calls Tryz.prog 265 #[.int .u8 b.toNat] W fun e w'=>e=.returned (.int .u8 (low8 b))∧w'=W):=fun W=>Tryz.internal_strconv_lower b.toNat W
 generalize Lib.bytesWorld w 5 ⟨#[a,b]⟩=W1 at*
 have hn:(48≤(a.toNat:Int))=False∨((48≤(a.toNat:Int))=True∧((a.toNat:Int)≤57)=False):=by
  by_cases q:48≤(a.toNat:Int)
  ·right;refine ⟨by simpa using q,by simp;omega⟩
  ·left;simpa using q
 rcases hn with hx | ⟨hx,hy⟩
 all_goals clear h0
 all_goals
  go_enter Tryz.func240,Tryz.ntmps240
  go_wp2
  refine wp_loop_rounds 4 ?_
  rw [rounds_succ]
  go_wp2_with (first | (go_at_call_of 265 (Value.int IntKind.u8 a.toNat);refine (LA.out _).mono ?_;rintro e w' ⟨rfl,rfl⟩) | (go_at_call_of 265 (Value.int IntKind.u8 b.toNat);refine (LB.out _).mono ?_;rintro e w' ⟨rfl,rfl⟩))
  go_ret2
  exact ⟨rfl,hbb⟩
theorem pu_lss (a b:UInt8) (w:World) (h0:¬ (48≤(a.toNat:Int)∧(a.toNat:Int)≤57)) (h2:low8 a<97) (h3:0≤low8 a) (h9:((a.toNat:Int)==95)=false):
  Calls Tryz.prog 240 #[.string ⟨#[a,b]⟩,.int .i64 16,.int .i64 8] w fun e w'=>e=.returned (.tuple #[.int .u64 0,.iface 256 (.int .i64 2)])∧Below w.heap.size w w':=by
 have hcv:=Lib.run_convert_string_bytes (P:=Tryz.prog) w 9 48 5 ⟨#[a,b]⟩ Tryz.underlying9 Tryz.underlying48 Tryz.underlying5
 have hB0:(Lib.bytesWorld w 5 ⟨#[a,b]⟩).cell? ⟨w.heap.size,0,none⟩=some (.int .u8 a.toNat):=Lib.bytesWorld_cell w 5 ⟨#[a,b]⟩ 0 (by show 0<2;decide)
 have hB1:(Lib.bytesWorld w 5 ⟨#[a,b]⟩).cell? ⟨w.heap.size,1,none⟩=some (.int .u8 b.toNat):=Lib.bytesWorld_cell w 5 ⟨#[a,b]⟩ 1 (by show 1<2;decide)
 have hbb:=Lib.bytesWorld_below w 5 ⟨#[a,b]⟩
 have ua:a.toNat<256:=a.toNat_lt
 have ub:b.toNat<256:=b.toNat_lt
 have LA:Hid (∀ W:World,Calls Tryz.prog 265 #[.int .u8 a.toNat] W fun e w'=>e=.returned (.int .u8 (low8 a))∧w'=W):=fun W=>Tryz.internal_strconv_lower a.toNat W
 have LB:Hid (∀ W:World,Calls Tryz.prog 265 #[.int .u8 b.toNat] W fun e w'=>e=.returned (.int .u8 (low8 b))∧w'=W):=fun W=>Tryz.internal_strconv_lower b.toNat W
 generalize Lib.bytesWorld w 5 ⟨#[a,b]⟩=W1 at*
 have hn:(48≤(a.toNat:Int))=False∨((48≤(a.toNat:Int))=True∧((a.toNat:Int)≤57)=False):=by
  by_cases q:48≤(a.toNat:Int)
  ·right;refine ⟨by simpa using q,by simp;omega⟩
  ·left;simpa using q
 rcases hn with hx | ⟨hx,hy⟩
 all_goals clear h0
 all_goals
  go_enter Tryz.func240,Tryz.ntmps240
  go_wp2
  refine wp_loop_rounds 4 ?_
  rw [rounds_succ]
  go_wp2_with (first | (go_at_call_of 265 (Value.int IntKind.u8 a.toNat);refine (LA.out _).mono ?_;rintro e w' ⟨rfl,rfl⟩) | (go_at_call_of 265 (Value.int IntKind.u8 b.toNat);refine (LB.out _).mono ?_;rintro e w' ⟨rfl,rfl⟩))
  go_ret2
  exact ⟨rfl,hbb⟩
theorem pu_gtr (a b:UInt8) (w:World) (h0:¬ (48≤(a.toNat:Int)∧(a.toNat:Int)≤57)) (h2:122<low8 a) (h3:low8 a≤255):
  Calls Tryz.prog 240 #[.string ⟨#[a,b]⟩,.int .i64 16,.int .i64 8] w fun e w'=>e=.returned (.tuple #[.int .u64 0,.iface 256 (.int .i64 2)])∧Below w.heap.size w w':=by
 have hcv:=Lib.run_convert_string_bytes (P:=Tryz.prog) w 9 48 5 ⟨#[a,b]⟩ Tryz.underlying9 Tryz.underlying48 Tryz.underlying5
 have hB0:(Lib.bytesWorld w 5 ⟨#[a,b]⟩).cell? ⟨w.heap.size,0,none⟩=some (.int .u8 a.toNat):=Lib.bytesWorld_cell w 5 ⟨#[a,b]⟩ 0 (by show 0<2;decide)
 have hB1:(Lib.bytesWorld w 5 ⟨#[a,b]⟩).cell? ⟨w.heap.size,1,none⟩=some (.int .u8 b.toNat):=Lib.bytesWorld_cell w 5 ⟨#[a,b]⟩ 1 (by show 1<2;decide)
 have hbb:=Lib.bytesWorld_below w 5 ⟨#[a,b]⟩
 have ua:a.toNat<256:=a.toNat_lt
 have ub:b.toNat<256:=b.toNat_lt
 have LA:Hid (∀ W:World,Calls Tryz.prog 265 #[.int .u8 a.toNat] W fun e w'=>e=.returned (.int .u8 (low8 a))∧w'=W):=fun W=>Tryz.internal_strconv_lower a.toNat W
 have LB:Hid (∀ W:World,Calls Tryz.prog 265 #[.int .u8 b.toNat] W fun e w'=>e=.returned (.int .u8 (low8 b))∧w'=W):=fun W=>Tryz.internal_strconv_lower b.toNat W
 generalize Lib.bytesWorld w 5 ⟨#[a,b]⟩=W1 at*
 have hm:((a.toNat:Int)==95)=false∨((a.toNat:Int)==95)=true:=by cases ((a.toNat:Int)==95)<;>simp
 have hn:(48≤(a.toNat:Int))=False∨((48≤(a.toNat:Int))=True∧((a.toNat:Int)≤57)=False):=by
  by_cases q:48≤(a.toNat:Int)
  ·right;refine ⟨by simpa using q,by simp;omega⟩
  ·left;simpa using q
 rcases hm with h9 | h9<;>rcases hn with hx | ⟨hx,hy⟩
 all_goals clear h0
 all_goals
  go_enter Tryz.func240,Tryz.ntmps240
  go_wp2
  refine wp_loop_rounds 4 ?_
  rw [rounds_succ]
  go_wp2_with (first | (go_at_call_of 265 (Value.int IntKind.u8 a.toNat);refine (LA.out _).mono ?_;rintro e w' ⟨rfl,rfl⟩) | (go_at_call_of 265 (Value.int IntKind.u8 b.toNat);refine (LB.out _).mono ?_;rintro e w' ⟨rfl,rfl⟩))
  go_ret2
  exact ⟨rfl,hbb⟩
theorem pu_dig_dig (a b:UInt8) (w:World) (h1:48≤(a.toNat:Int)) (h2:(a.toNat:Int)≤57) (h9:((a.toNat:Int)==95)=false) (g1:48≤(b.toNat:Int)) (g2:(b.toNat:Int)≤57) (g9:((b.toNat:Int)==95)=false):
  Calls Tryz.prog 240 #[.string ⟨#[a,b]⟩,.int .i64 16,.int .i64 8] w fun e w'=>e=.returned (.tuple #[.int .u64 ((a.toNat - 48:Int)*16+(b.toNat - 48:Int)),.nilIface])∧Below w.heap.size w w':=by
 have hcv:=Lib.run_convert_string_bytes (P:=Tryz.prog) w 9 48 5 ⟨#[a,b]⟩ Tryz.underlying9 Tryz.underlying48 Tryz.underlying5
 have hB0:(Lib.bytesWorld w 5 ⟨#[a,b]⟩).cell? ⟨w.heap.size,0,none⟩=some (.int .u8 a.toNat):=Lib.bytesWorld_cell w 5 ⟨#[a,b]⟩ 0 (by show 0<2;decide)
 have hB1:(Lib.bytesWorld w 5 ⟨#[a,b]⟩).cell? ⟨w.heap.size,1,none⟩=some (.int .u8 b.toNat):=Lib.bytesWorld_cell w 5 ⟨#[a,b]⟩ 1 (by show 1<2;decide)
 have hbb:=Lib.bytesWorld_below w 5 ⟨#[a,b]⟩
 have ua:a.toNat<256:=a.toNat_lt
 have ub:b.toNat<256:=b.toNat_lt
 have LA:Hid (∀ W:World,Calls Tryz.prog 265 #[.int .u8 a.toNat] W fun e w'=>e=.returned (.int .u8 (low8 a))∧w'=W):=fun W=>Tryz.internal_strconv_lower a.toNat W
 have LB:Hid (∀ W:World,Calls Tryz.prog 265 #[.int .u8 b.toNat] W fun e w'=>e=.returned (.int .u8 (low8 b))∧w'=W):=fun W=>Tryz.internal_strconv_lower b.toNat W
 generalize Lib.bytesWorld w 5 ⟨#[a,b]⟩=W1 at*
 go_enter Tryz.func240,Tryz.ntmps240
 go_wp2
 refine wp_loop_rounds 4 ?_
 rw [rounds_succ]
 go_wp2_with (first | (go_at_call_of 265 (Value.int IntKind.u8 a.toNat);refine (LA.out _).mono ?_;rintro e w' ⟨rfl,rfl⟩) | (go_at_call_of 265 (Value.int IntKind.u8 b.toNat);refine (LB.out _).mono ?_;rintro e w' ⟨rfl,rfl⟩))
 rw [rounds_succ]
 go_wp2_with (first | (go_at_call_of 265 (Value.int IntKind.u8 a.toNat);refine (LA.out _).mono ?_;rintro e w' ⟨rfl,rfl⟩) | (go_at_call_of 265 (Value.int IntKind.u8 b.toNat);refine (LB.out _).mono ?_;rintro e w' ⟨rfl,rfl⟩))
 rw [rounds_succ]
 go_wp2
 go_ret2
 exact ⟨rfl,hbb⟩
theorem pu_dig_hex (a b:UInt8) (w:World) (h1:48≤(a.toNat:Int)) (h2:(a.toNat:Int)≤57) (h9:((a.toNat:Int)==95)=false) (g0:¬ (48≤(b.toNat:Int)∧(b.toNat:Int)≤57)) (g2:97≤low8 b) (g3:low8 b≤102) (g9:((b.toNat:Int)==95)=false):
  Calls Tryz.prog 240 #[.string ⟨#[a,b]⟩,.int .i64 16,.int .i64 8] w fun e w'=>e=.returned (.tuple #[.int .u64 ((a.toNat - 48:Int)*16+(low8 b - 97+10)),.nilIface])∧Below w.heap.size w w':=by
 have hcv:=Lib.run_convert_string_bytes (P:=Tryz.prog) w 9 48 5 ⟨#[a,b]⟩ Tryz.underlying9 Tryz.underlying48 Tryz.underlying5
 have hB0:(Lib.bytesWorld w 5 ⟨#[a,b]⟩).cell? ⟨w.heap.size,0,none⟩=some (.int .u8 a.toNat):=Lib.bytesWorld_cell w 5 ⟨#[a,b]⟩ 0 (by show 0<2;decide)
 have hB1:(Lib.bytesWorld w 5 ⟨#[a,b]⟩).cell? ⟨w.heap.size,1,none⟩=some (.int .u8 b.toNat):=Lib.bytesWorld_cell w 5 ⟨#[a,b]⟩ 1 (by show 1<2;decide)
 have hbb:=Lib.bytesWorld_below w 5 ⟨#[a,b]⟩
 have ua:a.toNat<256:=a.toNat_lt
 have ub:b.toNat<256:=b.toNat_lt
 have LA:Hid (∀ W:World,Calls Tryz.prog 265 #[.int .u8 a.toNat] W fun e w'=>e=.returned (.int .u8 (low8 a))∧w'=W):=fun W=>Tryz.internal_strconv_lower a.toNat W
 have LB:Hid (∀ W:World,Calls Tryz.prog 265 #[.int .u8 b.toNat] W fun e w'=>e=.returned (.int .u8 (low8 b))∧w'=W):=fun W=>Tryz.internal_strconv_lower b.toNat W
 generalize Lib.bytesWorld w 5 ⟨#[a,b]⟩=W1 at*
 have gn:(48≤(b.toNat:Int))=False∨((48≤(b.toNat:Int))=True∧((b.toNat:Int)≤57)=False):=by
  by_cases q:48≤(b.toNat:Int)
  ·right;refine ⟨by simpa using q,by simp;omega⟩
  ·left;simpa using q
 rcases gn with gx | ⟨gx,gy⟩
 all_goals clear g0
 all_goals
  go_enter Tryz.func240,Tryz.ntmps240
  go_wp2
  refine wp_loop_rounds 4 ?_
  rw [rounds_succ]
  go_wp2_with (first | (go_at_call_of 265 (Value.int IntKind.u8 a.toNat);refine (LA.out _).mono ?_;rintro e w' ⟨rfl,rfl⟩) | (go_at_call_of 265 (Value.int IntKind.u8 b.toNat);refine (LB.out _).mono ?_;rintro e w' ⟨rfl,rfl⟩))
  rw [rounds_succ]
  go_wp2_with (first | (go_at_call_of 265 (Value.int IntKind.u8 a.toNat);refine (LA.out _).mono ?_;rintro e w' ⟨rfl,rfl⟩) | (go_at_call_of 265 (Value.int IntKind.u8 b.toNat);refine (LB.out _).mono ?_;rintro e w' ⟨rfl,rfl⟩))
  rw [rounds_succ]
  go_wp2
  go_ret2
  exact ⟨rfl,hbb⟩
theorem pu_dig_let (a b:UInt8) (w:World) (h1:48≤(a.toNat:Int)) (h2:(a.toNat:Int)≤57) (h9:((a.toNat:Int)==95)=false) (g0:¬ (48≤(b.toNat:Int)∧(b.toNat:Int)≤57)) (g2:102<low8 b) (g3:low8 b≤122) (g9:((b.toNat:Int)==95)=false):
  Calls Tryz.prog 240 #[.string ⟨#[a,b]⟩,.int .i64 16,.int .i64 8] w fun e w'=>e=.returned (.tuple #[.int .u64 0,.iface 256 (.int .i64 2)])∧Below w.heap.size w w':=by
 have hcv:=Lib.run_convert_string_bytes (P:=Tryz.prog) w 9 48 5 ⟨#[a,b]⟩ Tryz.underlying9 Tryz.underlying48 Tryz.underlying5
 have hB0:(Lib.bytesWorld w 5 ⟨#[a,b]⟩).cell? ⟨w.heap.size,0,none⟩=some (.int .u8 a.toNat):=Lib.bytesWorld_cell w 5 ⟨#[a,b]⟩ 0 (by show 0<2;decide)
 have hB1:(Lib.bytesWorld w 5 ⟨#[a,b]⟩).cell? ⟨w.heap.size,1,none⟩=some (.int .u8 b.toNat):=Lib.bytesWorld_cell w 5 ⟨#[a,b]⟩ 1 (by show 1<2;decide)
 have hbb:=Lib.bytesWorld_below w 5 ⟨#[a,b]⟩
 have ua:a.toNat<256:=a.toNat_lt
 have ub:b.toNat<256:=b.toNat_lt
 have LA:Hid (∀ W:World,Calls Tryz.prog 265 #[.int .u8 a.toNat] W fun e w'=>e=.returned (.int .u8 (low8 a))∧w'=W):=fun W=>Tryz.internal_strconv_lower a.toNat W
 have LB:Hid (∀ W:World,Calls Tryz.prog 265 #[.int .u8 b.toNat] W fun e w'=>e=.returned (.int .u8 (low8 b))∧w'=W):=fun W=>Tryz.internal_strconv_lower b.toNat W
 generalize Lib.bytesWorld w 5 ⟨#[a,b]⟩=W1 at*
 have gn:(48≤(b.toNat:Int))=False∨((48≤(b.toNat:Int))=True∧((b.toNat:Int)≤57)=False):=by
  by_cases q:48≤(b.toNat:Int)
  ·right;refine ⟨by simpa using q,by simp;omega⟩
  ·left;simpa using q
 rcases gn with gx | ⟨gx,gy⟩
 all_goals clear g0
 all_goals
  go_enter Tryz.func240,Tryz.ntmps240
  go_wp2
  refine wp_loop_rounds 4 ?_
  rw [rounds_succ]
  go_wp2_with (first | (go_at_call_of 265 (Value.int IntKind.u8 a.toNat);refine (LA.out _).mono ?_;rintro e w' ⟨rfl,rfl⟩) | (go_at_call_of 265 (Value.int IntKind.u8 b.toNat);refine (LB.out _).mono ?_;rintro e w' ⟨rfl,rfl⟩))
  rw [rounds_succ]
  go_wp2_with (first | (go_at_call_of 265 (Value.int IntKind.u8 a.toNat);refine (LA.out _).mono ?_;rintro e w' ⟨rfl,rfl⟩) | (go_at_call_of 265 (Value.int IntKind.u8 b.toNat);refine (LB.out _).mono ?_;rintro e w' ⟨rfl,rfl⟩))
  go_ret2
  exact ⟨rfl,hbb⟩
theorem pu_dig_lss (a b:UInt8) (w:World) (h1:48≤(a.toNat:Int)) (h2:(a.toNat:Int)≤57) (h9:((a.toNat:Int)==95)=false) (g0:¬ (48≤(b.toNat:Int)∧(b.toNat:Int)≤57)) (g2:low8 b<97) (g3:0≤low8 b) (g9:((b.toNat:Int)==95)=false):
  Calls Tryz.prog 240 #[.string ⟨#[a,b]⟩,.int .i64 16,.int .i64 8] w fun e w'=>e=.returned (.tuple #[.int .u64 0,.iface 256 (.int .i64 2)])∧Below w.heap.size w w':=by
 have hcv:=Lib.run_convert_string_bytes (P:=Tryz.prog) w 9 48 5 ⟨#[a,b]⟩ Tryz.underlying9 Tryz.underlying48 Tryz.underlying5
 have hB0:(Lib.bytesWorld w 5 ⟨#[a,b]⟩).cell? ⟨w.heap.size,0,none⟩=some (.int .u8 a.toNat):=Lib.bytesWorld_cell w 5 ⟨#[a,b]⟩ 0 (by show 0<2;decide)
 have hB1:(Lib.bytesWorld w 5 ⟨#[a,b]⟩).cell? ⟨w.heap.size,1,none⟩=some (.int .u8 b.toNat):=Lib.bytesWorld_cell w 5 ⟨#[a,b]⟩ 1 (by show 1<2;decide)
 have hbb:=Lib.bytesWorld_below w 5 ⟨#[a,b]⟩
 have ua:a.toNat<256:=a.toNat_lt
 have ub:b.toNat<256:=b.toNat_lt
 have LA:Hid (∀ W:World,Calls Tryz.prog 265 #[.int .u8 a.toNat] W fun e w'=>e=.returned (.int .u8 (low8 a))∧w'=W):=fun W=>Tryz.internal_strconv_lower a.toNat W
 have LB:Hid (∀ W:World,Calls Tryz.prog 265 #[.int .u8 b.toNat] W fun e w'=>e=.returned (.int .u8 (low8 b))∧w'=W):=fun W=>Tryz.internal_strconv_lower b.toNat W
 generalize Lib.bytesWorld w 5 ⟨#[a,b]⟩=W1 at*
 have gn:(48≤(b.toNat:Int))=False∨((48≤(b.toNat:Int))=True∧((b.toNat:Int)≤57)=False):=by
  by_cases q:48≤(b.toNat:Int)
  ·right;refine ⟨by simpa using q,by simp;omega⟩
  ·left;simpa using q
 rcases gn with gx | ⟨gx,gy⟩
 all_goals clear g0
 all_goals
  go_enter Tryz.func240,Tryz.ntmps240
  go_wp2
  refine wp_loop_rounds 4 ?_
  rw [rounds_succ]
  go_wp2_with (first | (go_at_call_of 265 (Value.int IntKind.u8 a.toNat);refine (LA.out _).mono ?_;rintro e w' ⟨rfl,rfl⟩) | (go_at_call_of 265 (Value.int IntKind.u8 b.toNat);refine (LB.out _).mono ?_;rintro e w' ⟨rfl,rfl⟩))
  rw [rounds_succ]
  go_wp2_with (first | (go_at_call_of 265 (Value.int IntKind.u8 a.toNat);refine (LA.out _).mono ?_;rintro e w' ⟨rfl,rfl⟩) | (go_at_call_of 265 (Value.int IntKind.u8 b.toNat);refine (LB.out _).mono ?_;rintro e w' ⟨rfl,rfl⟩))
  go_ret2
  exact ⟨rfl,hbb⟩
theorem pu_dig_gtr (a b:UInt8) (w:World) (h1:48≤(a.toNat:Int)) (h2:(a.toNat:Int)≤57) (h9:((a.toNat:Int)==95)=false) (g0:¬ (48≤(b.toNat:Int)∧(b.toNat:Int)≤57)) (g2:122<low8 b) (g3:low8 b≤255):
  Calls Tryz.prog 240 #[.string ⟨#[a,b]⟩,.int .i64 16,.int .i64 8] w fun e w'=>e=.returned (.tuple #[.int .u64 0,.iface 256 (.int .i64 2)])∧Below w.heap.size w w':=by
 have hcv:=Lib.run_convert_string_bytes (P:=Tryz.prog) w 9 48 5 ⟨#[a,b]⟩ Tryz.underlying9 Tryz.underlying48 Tryz.underlying5
 have hB0:(Lib.bytesWorld w 5 ⟨#[a,b]⟩).cell? ⟨w.heap.size,0,none⟩=some (.int .u8 a.toNat):=Lib.bytesWorld_cell w 5 ⟨#[a,b]⟩ 0 (by show 0<2;decide)
 have hB1:(Lib.bytesWorld w 5 ⟨#[a,b]⟩).cell? ⟨w.heap.size,1,none⟩=some (.int .u8 b.toNat):=Lib.bytesWorld_cell w 5 ⟨#[a,b]⟩ 1 (by show 1<2;decide)
 have hbb:=Lib.bytesWorld_below w 5 ⟨#[a,b]⟩
 have ua:a.toNat<256:=a.toNat_lt
 have ub:b.toNat<256:=b.toNat_lt
 have LA:Hid (∀ W:World,Calls Tryz.prog 265 #[.int .u8 a.toNat] W fun e w'=>e=.returned (.int .u8 (low8 a))∧w'=W):=fun W=>Tryz.internal_strconv_lower a.toNat W
 have LB:Hid (∀ W:World,Calls Tryz.prog 265 #[.int .u8 b.toNat] W fun e w'=>e=.returned (.int .u8 (low8 b))∧w'=W):=fun W=>Tryz.internal_strconv_lower b.toNat W
 generalize Lib.bytesWorld w 5 ⟨#[a,b]⟩=W1 at*
 have gm:((b.toNat:Int)==95)=false∨((b.toNat:Int)==95)=true:=by cases ((b.toNat:Int)==95)<;>simp
 have gn:(48≤(b.toNat:Int))=False∨((48≤(b.toNat:Int))=True∧((b.toNat:Int)≤57)=False):=by
  by_cases q:48≤(b.toNat:Int)
  ·right;refine ⟨by simpa using q,by simp;omega⟩
  ·left;simpa using q
 rcases gm with g9 | g9<;>rcases gn with gx | ⟨gx,gy⟩
 all_goals clear g0
 all_goals
  go_enter Tryz.func240,Tryz.ntmps240
  go_wp2
  refine wp_loop_rounds 4 ?_
  rw [rounds_succ]
  go_wp2_with (first | (go_at_call_of 265 (Value.int IntKind.u8 a.toNat);refine (LA.out _).mono ?_;rintro e w' ⟨rfl,rfl⟩) | (go_at_call_of 265 (Value.int IntKind.u8 b.toNat);refine (LB.out _).mono ?_;rintro e w' ⟨rfl,rfl⟩))
  rw [rounds_succ]
  go_wp2_with (first | (go_at_call_of 265 (Value.int IntKind.u8 a.toNat);refine (LA.out _).mono ?_;rintro e w' ⟨rfl,rfl⟩) | (go_at_call_of 265 (Value.int IntKind.u8 b.toNat);refine (LB.out _).mono ?_;rintro e w' ⟨rfl,rfl⟩))
  go_ret2
  exact ⟨rfl,hbb⟩
theorem pu_hex_dig (a b:UInt8) (w:World) (h0:¬ (48≤(a.toNat:Int)∧(a.toNat:Int)≤57)) (h2:97≤low8 a) (h3:low8 a≤102) (h9:((a.toNat:Int)==95)=false) (g1:48≤(b.toNat:Int)) (g2:(b.toNat:Int)≤57) (g9:((b.toNat:Int)==95)=false):
  Calls Tryz.prog 240 #[.string ⟨#[a,b]⟩,.int .i64 16,.int .i64 8] w fun e w'=>e=.returned (.tuple #[.int .u64 ((low8 a - 97+10)*16+(b.toNat - 48:Int)),.nilIface])∧Below w.heap.size w w':=by
 have hcv:=Lib.run_convert_string_bytes (P:=Tryz.prog) w 9 48 5 ⟨#[a,b]⟩ Tryz.underlying9 Tryz.underlying48 Tryz.underlying5
 have hB0:(Lib.bytesWorld w 5 ⟨#[a,b]⟩).cell? ⟨w.heap.size,0,none⟩=some (.int .u8 a.toNat):=Lib.bytesWorld_cell w 5 ⟨#[a,b]⟩ 0 (by show 0<2;decide)
 have hB1:(Lib.bytesWorld w 5 ⟨#[a,b]⟩).cell? ⟨w.heap.size,1,none⟩=some (.int .u8 b.toNat):=Lib.bytesWorld_cell w 5 ⟨#[a,b]⟩ 1 (by show 1<2;decide)
 have hbb:=Lib.bytesWorld_below w 5 ⟨#[a,b]⟩
 have ua:a.toNat<256:=a.toNat_lt
 have ub:b.toNat<256:=b.toNat_lt
 have LA:Hid (∀ W:World,Calls Tryz.prog 265 #[.int .u8 a.toNat] W fun e w'=>e=.returned (.int .u8 (low8 a))∧w'=W):=fun W=>Tryz.internal_strconv_lower a.toNat W
 have LB:Hid (∀ W:World,Calls Tryz.prog 265 #[.int .u8 b.toNat] W fun e w'=>e=.returned (.int .u8 (low8 b))∧w'=W):=fun W=>Tryz.internal_strconv_lower b.toNat W
 generalize Lib.bytesWorld w 5 ⟨#[a,b]⟩=W1 at*
 have hn:(48≤(a.toNat:Int))=False∨((48≤(a.toNat:Int))=True∧((a.toNat:Int)≤57)=False):=by
  by_cases q:48≤(a.toNat:Int)
  ·right;refine ⟨by simpa using q,by simp;omega⟩
  ·left;simpa using q
 rcases hn with hx | ⟨hx,hy⟩
 all_goals clear h0
 all_goals
  go_enter Tryz.func240,Tryz.ntmps240
  go_wp2
  refine wp_loop_rounds 4 ?_
  rw [rounds_succ]
  go_wp2_with (first | (go_at_call_of 265 (Value.int IntKind.u8 a.toNat);refine (LA.out _).mono ?_;rintro e w' ⟨rfl,rfl⟩) | (go_at_call_of 265 (Value.int IntKind.u8 b.toNat);refine (LB.out _).mono ?_;rintro e w' ⟨rfl,rfl⟩))
  rw [rounds_succ]
  go_wp2_with (first | (go_at_call_of 265 (Value.int IntKind.u8 a.toNat);refine (LA.out _).mono ?_;rintro e w' ⟨rfl,rfl⟩) | (go_at_call_of 265 (Value.int IntKind.u8 b.toNat);refine (LB.out _).mono ?_;rintro e w' ⟨rfl,rfl⟩))
  rw [rounds_succ]
  go_wp2
  go_ret2
  exact ⟨rfl,hbb⟩
theorem pu_hex_hex (a b:UInt8) (w:World) (h0:¬ (48≤(a.toNat:Int)∧(a.toNat:Int)≤57)) (h2:97≤low8 a) (h3:low8 a≤102) (h9:((a.toNat:Int)==95)=false) (g0:¬ (48≤(b.toNat:Int)∧(b.toNat:Int)≤57)) (g2:97≤low8 b) (g3:low8 b≤102) (g9:((b.toNat:Int)==95)=false):
  Calls Tryz.prog 240 #[.string ⟨#[a,b]⟩,.int .i64 16,.int .i64 8] w fun e w'=>e=.returned (.tuple #[.int .u64 ((low8 a - 97+10)*16+(low8 b - 97+10)),.nilIface])∧Below w.heap.size w w':=by
 have hcv:=Lib.run_convert_string_bytes (P:=Tryz.prog) w 9 48 5 ⟨#[a,b]⟩ Tryz.underlying9 Tryz.underlying48 Tryz.underlying5
 have hB0:(Lib.bytesWorld w 5 ⟨#[a,b]⟩).cell? ⟨w.heap.size,0,none⟩=some (.int .u8 a.toNat):=Lib.bytesWorld_cell w 5 ⟨#[a,b]⟩ 0 (by show 0<2;decide)
 have hB1:(Lib.bytesWorld w 5 ⟨#[a,b]⟩).cell? ⟨w.heap.size,1,none⟩=some (.int .u8 b.toNat):=Lib.bytesWorld_cell w 5 ⟨#[a,b]⟩ 1 (by show 1<2;decide)
 have hbb:=Lib.bytesWorld_below w 5 ⟨#[a,b]⟩
 have ua:a.toNat<256:=a.toNat_lt
 have ub:b.toNat<256:=b.toNat_lt
 have LA:Hid (∀ W:World,Calls Tryz.prog 265 #[.int .u8 a.toNat] W fun e w'=>e=.returned (.int .u8 (low8 a))∧w'=W):=fun W=>Tryz.internal_strconv_lower a.toNat W
 have LB:Hid (∀ W:World,Calls Tryz.prog 265 #[.int .u8 b.toNat] W fun e w'=>e=.returned (.int .u8 (low8 b))∧w'=W):=fun W=>Tryz.internal_strconv_lower b.toNat W
 generalize Lib.bytesWorld w 5 ⟨#[a,b]⟩=W1 at*
 have hn:(48≤(a.toNat:Int))=False∨((48≤(a.toNat:Int))=True∧((a.toNat:Int)≤57)=False):=by
  by_cases q:48≤(a.toNat:Int)
  ·right;refine ⟨by simpa using q,by simp;omega⟩
  ·left;simpa using q
 have gn:(48≤(b.toNat:Int))=False∨((48≤(b.toNat:Int))=True∧((b.toNat:Int)≤57)=False):=by
  by_cases q:48≤(b.toNat:Int)
  ·right;refine ⟨by simpa using q,by simp;omega⟩
  ·left;simpa using q
 rcases hn with hx | ⟨hx,hy⟩<;>rcases gn with gx | ⟨gx,gy⟩
 all_goals clear h0
 all_goals clear g0
 all_goals
  go_enter Tryz.func240,Tryz.ntmps240
  go_wp2
  refine wp_loop_rounds 4 ?_
  rw [rounds_succ]
  go_wp2_with (first | (go_at_call_of 265 (Value.int IntKind.u8 a.toNat);refine (LA.out _).mono ?_;rintro e w' ⟨rfl,rfl⟩) | (go_at_call_of 265 (Value.int IntKind.u8 b.toNat);refine (LB.out _).mono ?_;rintro e w' ⟨rfl,rfl⟩))
  rw [rounds_succ]
  go_wp2_with (first | (go_at_call_of 265 (Value.int IntKind.u8 a.toNat);refine (LA.out _).mono ?_;rintro e w' ⟨rfl,rfl⟩) | (go_at_call_of 265 (Value.int IntKind.u8 b.toNat);refine (LB.out _).mono ?_;rintro e w' ⟨rfl,rfl⟩))
  rw [rounds_succ]
  go_wp2
  go_ret2
  exact ⟨rfl,hbb⟩
theorem pu_hex_let (a b:UInt8) (w:World) (h0:¬ (48≤(a.toNat:Int)∧(a.toNat:Int)≤57)) (h2:97≤low8 a) (h3:low8 a≤102) (h9:((a.toNat:Int)==95)=false) (g0:¬ (48≤(b.toNat:Int)∧(b.toNat:Int)≤57)) (g2:102<low8 b) (g3:low8 b≤122) (g9:((b.toNat:Int)==95)=false):
  Calls Tryz.prog 240 #[.string ⟨#[a,b]⟩,.int .i64 16,.int .i64 8] w fun e w'=>e=.returned (.tuple #[.int .u64 0,.iface 256 (.int .i64 2)])∧Below w.heap.size w w':=by
 have hcv:=Lib.run_convert_string_bytes (P:=Tryz.prog) w 9 48 5 ⟨#[a,b]⟩ Tryz.underlying9 Tryz.underlying48 Tryz.underlying5
 have hB0:(Lib.bytesWorld w 5 ⟨#[a,b]⟩).cell? ⟨w.heap.size,0,none⟩=some (.int .u8 a.toNat):=Lib.bytesWorld_cell w 5 ⟨#[a,b]⟩ 0 (by show 0<2;decide)
 have hB1:(Lib.bytesWorld w 5 ⟨#[a,b]⟩).cell? ⟨w.heap.size,1,none⟩=some (.int .u8 b.toNat):=Lib.bytesWorld_cell w 5 ⟨#[a,b]⟩ 1 (by show 1<2;decide)
 have hbb:=Lib.bytesWorld_below w 5 ⟨#[a,b]⟩
 have ua:a.toNat<256:=a.toNat_lt
 have ub:b.toNat<256:=b.toNat_lt
 have LA:Hid (∀ W:World,Calls Tryz.prog 265 #[.int .u8 a.toNat] W fun e w'=>e=.returned (.int .u8 (low8 a))∧w'=W):=fun W=>Tryz.internal_strconv_lower a.toNat W
 have LB:Hid (∀ W:World,Calls Tryz.prog 265 #[.int .u8 b.toNat] W fun e w'=>e=.returned (.int .u8 (low8 b))∧w'=W):=fun W=>Tryz.internal_strconv_lower b.toNat W
 generalize Lib.bytesWorld w 5 ⟨#[a,b]⟩=W1 at*
 have hn:(48≤(a.toNat:Int))=False∨((48≤(a.toNat:Int))=True∧((a.toNat:Int)≤57)=False):=by
  by_cases q:48≤(a.toNat:Int)
  ·right;refine ⟨by simpa using q,by simp;omega⟩
  ·left;simpa using q
 have gn:(48≤(b.toNat:Int))=False∨((48≤(b.toNat:Int))=True∧((b.toNat:Int)≤57)=False):=by
  by_cases q:48≤(b.toNat:Int)
  ·right;refine ⟨by simpa using q,by simp;omega⟩
  ·left;simpa using q
 rcases hn with hx | ⟨hx,hy⟩<;>rcases gn with gx | ⟨gx,gy⟩
 all_goals clear h0
 all_goals clear g0
 all_goals
  go_enter Tryz.func240,Tryz.ntmps240
  go_wp2
  refine wp_loop_rounds 4 ?_
  rw [rounds_succ]
  go_wp2_with (first | (go_at_call_of 265 (Value.int IntKind.u8 a.toNat);refine (LA.out _).mono ?_;rintro e w' ⟨rfl,rfl⟩) | (go_at_call_of 265 (Value.int IntKind.u8 b.toNat);refine (LB.out _).mono ?_;rintro e w' ⟨rfl,rfl⟩))
  rw [rounds_succ]
  go_wp2_with (first | (go_at_call_of 265 (Value.int IntKind.u8 a.toNat);refine (LA.out _).mono ?_;rintro e w' ⟨rfl,rfl⟩) | (go_at_call_of 265 (Value.int IntKind.u8 b.toNat);refine (LB.out _).mono ?_;rintro e w' ⟨rfl,rfl⟩))
  go_ret2
  exact ⟨rfl,hbb⟩
theorem pu_hex_lss (a b:UInt8) (w:World) (h0:¬ (48≤(a.toNat:Int)∧(a.toNat:Int)≤57)) (h2:97≤low8 a) (h3:low8 a≤102) (h9:((a.toNat:Int)==95)=false) (g0:¬ (48≤(b.toNat:Int)∧(b.toNat:Int)≤57)) (g2:low8 b<97) (g3:0≤low8 b) (g9:((b.toNat:Int)==95)=false):
  Calls Tryz.prog 240 #[.string ⟨#[a,b]⟩,.int .i64 16,.int .i64 8] w fun e w'=>e=.returned (.tuple #[.int .u64 0,.iface 256 (.int .i64 2)])∧Below w.heap.size w w':=by
 have hcv:=Lib.run_convert_string_bytes (P:=Tryz.prog) w 9 48 5 ⟨#[a,b]⟩ Tryz.underlying9 Tryz.underlying48 Tryz.underlying5
 have hB0:(Lib.bytesWorld w 5 ⟨#[a,b]⟩).cell? ⟨w.heap.size,0,none⟩=some (.int .u8 a.toNat):=Lib.bytesWorld_cell w 5 ⟨#[a,b]⟩ 0 (by show 0<2;decide)
 have hB1:(Lib.bytesWorld w 5 ⟨#[a,b]⟩).cell? ⟨w.heap.size,1,none⟩=some (.int .u8 b.toNat):=Lib.bytesWorld_cell w 5 ⟨#[a,b]⟩ 1 (by show 1<2;decide)
 have hbb:=Lib.bytesWorld_below w 5 ⟨#[a,b]⟩
 have ua:a.toNat<256:=a.toNat_lt
 have ub:b.toNat<256:=b.toNat_lt
 have LA:Hid (∀ W:World,Calls Tryz.prog 265 #[.int .u8 a.toNat] W fun e w'=>e=.returned (.int .u8 (low8 a))∧w'=W):=fun W=>Tryz.internal_strconv_lower a.toNat W
 have LB:Hid (∀ W:World,Calls Tryz.prog 265 #[.int .u8 b.toNat] W fun e w'=>e=.returned (.int .u8 (low8 b))∧w'=W):=fun W=>Tryz.internal_strconv_lower b.toNat W
 generalize Lib.bytesWorld w 5 ⟨#[a,b]⟩=W1 at*
 have hn:(48≤(a.toNat:Int))=False∨((48≤(a.toNat:Int))=True∧((a.toNat:Int)≤57)=False):=by
  by_cases q:48≤(a.toNat:Int)
  ·right;refine ⟨by simpa using q,by simp;omega⟩
  ·left;simpa using q
 have gn:(48≤(b.toNat:Int))=False∨((48≤(b.toNat:Int))=True∧((b.toNat:Int)≤57)=False):=by
  by_cases q:48≤(b.toNat:Int)
  ·right;refine ⟨by simpa using q,by simp;omega⟩
  ·left;simpa using q
 rcases hn with hx | ⟨hx,hy⟩<;>rcases gn with gx | ⟨gx,gy⟩
 all_goals clear h0
 all_goals clear g0
 all_goals
  go_enter Tryz.func240,Tryz.ntmps240
  go_wp2
  refine wp_loop_rounds 4 ?_
  rw [rounds_succ]
  go_wp2_with (first | (go_at_call_of 265 (Value.int IntKind.u8 a.toNat);refine (LA.out _).mono ?_;rintro e w' ⟨rfl,rfl⟩) | (go_at_call_of 265 (Value.int IntKind.u8 b.toNat);refine (LB.out _).mono ?_;rintro e w' ⟨rfl,rfl⟩))
  rw [rounds_succ]
  go_wp2_with (first | (go_at_call_of 265 (Value.int IntKind.u8 a.toNat);refine (LA.out _).mono ?_;rintro e w' ⟨rfl,rfl⟩) | (go_at_call_of 265 (Value.int IntKind.u8 b.toNat);refine (LB.out _).mono ?_;rintro e w' ⟨rfl,rfl⟩))
  go_ret2
  exact ⟨rfl,hbb⟩
theorem pu_hex_gtr (a b:UInt8) (w:World) (h0:¬ (48≤(a.toNat:Int)∧(a.toNat:Int)≤57)) (h2:97≤low8 a) (h3:low8 a≤102) (h9:((a.toNat:Int)==95)=false) (g0:¬ (48≤(b.toNat:Int)∧(b.toNat:Int)≤57)) (g2:122<low8 b) (g3:low8 b≤255):
  Calls Tryz.prog 240 #[.string ⟨#[a,b]⟩,.int .i64 16,.int .i64 8] w fun e w'=>e=.returned (.tuple #[.int .u64 0,.iface 256 (.int .i64 2)])∧Below w.heap.size w w':=by
 have hcv:=Lib.run_convert_string_bytes (P:=Tryz.prog) w 9 48 5 ⟨#[a,b]⟩ Tryz.underlying9 Tryz.underlying48 Tryz.underlying5
 have hB0:(Lib.bytesWorld w 5 ⟨#[a,b]⟩).cell? ⟨w.heap.size,0,none⟩=some (.int .u8 a.toNat):=Lib.bytesWorld_cell w 5 ⟨#[a,b]⟩ 0 (by show 0<2;decide)
 have hB1:(Lib.bytesWorld w 5 ⟨#[a,b]⟩).cell? ⟨w.heap.size,1,none⟩=some (.int .u8 b.toNat):=Lib.bytesWorld_cell w 5 ⟨#[a,b]⟩ 1 (by show 1<2;decide)
 have hbb:=Lib.bytesWorld_below w 5 ⟨#[a,b]⟩
 have ua:a.toNat<256:=a.toNat_lt
 have ub:b.toNat<256:=b.toNat_lt
 have LA:Hid (∀ W:World,Calls Tryz.prog 265 #[.int .u8 a.toNat] W fun e w'=>e=.returned (.int .u8 (low8 a))∧w'=W):=fun W=>Tryz.internal_strconv_lower a.toNat W
 have LB:Hid (∀ W:World,Calls Tryz.prog 265 #[.int .u8 b.toNat] W fun e w'=>e=.returned (.int .u8 (low8 b))∧w'=W):=fun W=>Tryz.internal_strconv_lower b.toNat W
 generalize Lib.bytesWorld w 5 ⟨#[a,b]⟩=W1 at*
 have hn:(48≤(a.toNat:Int))=False∨((48≤(a.toNat:Int))=True∧((a.toNat:Int)≤57)=False):=by
  by_cases q:48≤(a.toNat:Int)
  ·right;refine ⟨by simpa using q,by simp;omega⟩
  ·left;simpa using q
 have gm:((b.toNat:Int)==95)=false∨((b.toNat:Int)==95)=true:=by cases ((b.toNat:Int)==95)<;>simp
 have gn:(48≤(b.toNat:Int))=False∨((48≤(b.toNat:Int))=True∧((b.toNat:Int)≤57)=False):=by
  by_cases q:48≤(b.toNat:Int)
  ·right;refine ⟨by simpa using q,by simp;omega⟩
  ·left;simpa using q
 rcases gm with g9 | g9<;>rcases hn with hx | ⟨hx,hy⟩<;>rcases gn with gx | ⟨gx,gy⟩
 all_goals clear h0
 all_goals clear g0
 all_goals
  go_enter Tryz.func240,Tryz.ntmps240
  go_wp2
  refine wp_loop_rounds 4 ?_
  rw [rounds_succ]
  go_wp2_with (first | (go_at_call_of 265 (Value.int IntKind.u8 a.toNat);refine (LA.out _).mono ?_;rintro e w' ⟨rfl,rfl⟩) | (go_at_call_of 265 (Value.int IntKind.u8 b.toNat);refine (LB.out _).mono ?_;rintro e w' ⟨rfl,rfl⟩))
  rw [rounds_succ]
  go_wp2_with (first | (go_at_call_of 265 (Value.int IntKind.u8 a.toNat);refine (LA.out _).mono ?_;rintro e w' ⟨rfl,rfl⟩) | (go_at_call_of 265 (Value.int IntKind.u8 b.toNat);refine (LB.out _).mono ?_;rintro e w' ⟨rfl,rfl⟩))
  go_ret2
  exact ⟨rfl,hbb⟩
def hex2 (a b:UInt8):Option UInt8:=if hexv a<16∧hexv b<16 then some (UInt8.ofNat (16*hexv a+hexv b)) else none
theorem ipu_yes (a b:UInt8) (w:World) (hh:(hexv a<16∧hexv b<16)):
  Calls Tryz.prog 240 #[.string ⟨#[a,b]⟩,.int .i64 16,.int .i64 8] w fun e w'=>e=.returned (.tuple #[.int .u64 ((16*hexv a+hexv b:Nat):Int),.nilIface])∧Below w.heap.size w w':=by
 rcases cls a with ⟨h1,h2,h3,h9⟩ | ⟨h1,h2,h3,h4,h9⟩ | ⟨h1,h2,h3,h4,h9⟩ | ⟨h1,h2,h3,h4,h9⟩ | ⟨h1,h2,h3,h4⟩
 ·rcases cls b with ⟨g1,g2,g3,g9⟩ | ⟨g1,g2,g3,g4,g9⟩ | ⟨g1,g2,g3,g4,g9⟩ | ⟨g1,g2,g3,g4,g9⟩ | ⟨g1,g2,g3,g4⟩
  ·have h:=pu_dig_dig a b w h1 h2 h9 g1 g2 g9
   rw [show (a.toNat - 48:Int)*16+(b.toNat - 48:Int)=((16*hexv a+hexv b:Nat):Int) by omega] at h
   exact h
  ·have h:=pu_dig_hex a b w h1 h2 h9 g1 g2 g3 g9
   rw [show (a.toNat - 48:Int)*16+(low8 b - 97+10)=((16*hexv a+hexv b:Nat):Int) by omega] at h
   exact h
  ·exfalso;omega
  ·exfalso;omega
  ·exfalso;omega
 ·rcases cls b with ⟨g1,g2,g3,g9⟩ | ⟨g1,g2,g3,g4,g9⟩ | ⟨g1,g2,g3,g4,g9⟩ | ⟨g1,g2,g3,g4,g9⟩ | ⟨g1,g2,g3,g4⟩
  ·have h:=pu_hex_dig a b w h1 h2 h3 h9 g1 g2 g9
   rw [show (low8 a - 97+10)*16+(b.toNat - 48:Int)=((16*hexv a+hexv b:Nat):Int) by omega] at h
   exact h
  ·have h:=pu_hex_hex a b w h1 h2 h3 h9 g1 g2 g3 g9
   rw [show (low8 a - 97+10)*16+(low8 b - 97+10)=((16*hexv a+hexv b:Nat):Int) by omega] at h
   exact h
  ·exfalso;omega
  ·exfalso;omega
  ·exfalso;omega
 ·exfalso;omega
 ·exfalso;omega
 ·exfalso;omega
theorem ipu_no (a b:UInt8) (w:World) (hh:¬ (hexv a<16∧hexv b<16)):
  Calls Tryz.prog 240 #[.string ⟨#[a,b]⟩,.int .i64 16,.int .i64 8] w fun e w'=>e=.returned (.tuple #[.int .u64 0,.iface 256 (.int .i64 2)])∧Below w.heap.size w w':=by
 rcases cls a with ⟨h1,h2,h3,h9⟩ | ⟨h1,h2,h3,h4,h9⟩ | ⟨h1,h2,h3,h4,h9⟩ | ⟨h1,h2,h3,h4,h9⟩ | ⟨h1,h2,h3,h4⟩
 ·rcases cls b with ⟨g1,g2,g3,g9⟩ | ⟨g1,g2,g3,g4,g9⟩ | ⟨g1,g2,g3,g4,g9⟩ | ⟨g1,g2,g3,g4,g9⟩ | ⟨g1,g2,g3,g4⟩
  ·exact absurd ⟨by omega,by omega⟩ hh
  ·exact absurd ⟨by omega,by omega⟩ hh
  ·exact pu_dig_let a b w h1 h2 h9 g1 g2 g3 g9
  ·exact pu_dig_lss a b w h1 h2 h9 g1 g2 g3 g9
  ·exact pu_dig_gtr a b w h1 h2 h9 g1 g2 g3
 ·rcases cls b with ⟨g1,g2,g3,g9⟩ | ⟨g1,g2,g3,g4,g9⟩ | ⟨g1,g2,g3,g4,g9⟩ | ⟨g1,g2,g3,g4,g9⟩ | ⟨g1,g2,g3,g4⟩
  ·exact absurd ⟨by omega,by omega⟩ hh
  ·exact absurd ⟨by omega,by omega⟩ hh
  ·exact pu_hex_let a b w h1 h2 h3 h9 g1 g2 g3 g9
  ·exact pu_hex_lss a b w h1 h2 h3 h9 g1 g2 g3 g9
  ·exact pu_hex_gtr a b w h1 h2 h3 h9 g1 g2 g3
 ·exact pu_let a b w h1 h2 h3 h9
 ·exact pu_lss a b w h1 h2 h3 h9
 ·exact pu_gtr a b w h1 h2 h3
structure Errs (w:World):Prop where
 syn:∃ ev,w.cell? ⟨4,0,none⟩=some ev∧(ev=.nilIface∨∃ te pe,ev=.iface te pe)
 rng:∃ ev,w.cell? ⟨5,0,none⟩=some ev∧(ev=.nilIface∨∃ te pe,ev=.iface te pe)
theorem Errs.below {w W:World} (h:Errs w) (hb:Below w.heap.size w W) (hs:6≤w.heap.size):Errs W:=by
 obtain ⟨⟨e1,c1,d1⟩,⟨e2,c2,d2⟩⟩:=h
 exact ⟨⟨e1,(hb.cell (p:=⟨_,0,none⟩) (by show 4<w.heap.size;omega)).trans c1,d1⟩,⟨e2,(hb.cell (p:=⟨_,0,none⟩) (by show 5<w.heap.size;omega)).trans c2,d2⟩⟩
theorem pu_yes (a b:UInt8) (w:World) (h:hexv a<16∧hexv b<16):
  Calls Tryz.prog 239 #[.string ⟨#[a,b]⟩,.int .i64 16,.int .i64 8] w fun e w'=>e=.returned (.tuple #[.int .u64 ((16*hexv a+hexv b:Nat):Int),.nilIface])∧Below w.heap.size w w':=by
 obtain ⟨v,ev⟩:∃ v:Int,Hid (((16*hexv a+hexv b:Nat):Int)=v):=⟨_,rfl⟩
 have H:Hid (∀ W:World,Calls Tryz.prog 240 #[.string ⟨#[a,b]⟩,.int .i64 16,.int .i64 8] W fun e w'=>e=.returned (.tuple #[.int .u64 v,.nilIface])∧Below W.heap.size W w'):=fun W=>by
  have q:=ipu_yes a b W h
  rw [ev.out] at q
  exact q
 rw [ev.out]
 clear h ev
 go_enter Tryz.func239,Tryz.ntmps239
 go_wp2_with fail
 refine (H.out _).mono ?_
 rintro e w1 ⟨rfl,hb⟩
 go_wp2
 go_ret2
 exact ⟨rfl,hb⟩
theorem pu_no (a b:UInt8) (w:World) (h:¬ (hexv a<16∧hexv b<16)) (he:Errs w) (hs:6≤w.heap.size):
  Calls Tryz.prog 239 #[.string ⟨#[a,b]⟩,.int .i64 16,.int .i64 8] w fun e w'=>∃ p,e=.returned (.tuple #[.int .u64 0,.iface 257 p])∧Below w.heap.size w w':=by
 have H:Hid (∀ W:World,Calls Tryz.prog 240 #[.string ⟨#[a,b]⟩,.int .i64 16,.int .i64 8] W fun e w'=>e=.returned (.tuple #[.int .u64 0,.iface 256 (.int .i64 2)])∧Below W.heap.size W w'):=fun W=>by
  exact ipu_no a b W h
 clear h
 go_enter Tryz.func239,Tryz.ntmps239
 go_wp2_with fail
 refine (H.out _).mono ?_
 rintro e w1 ⟨rfl,hb⟩
 obtain ⟨⟨ev,hv,hev⟩, -⟩:=he.below hb hs
 have hsz:(⟨#[a,b]⟩:ByteArray).size≤281474976710656:=by show 2≤_;decide
 go_wp2_with fail
 refine (Tryz.strconv_toError_syntax _ _ 16 8 ev _ hsz hv hev).mono ?_
 rintro e w2 ⟨N,rfl, -, -,hb2⟩
 go_wp2
 go_ret2
 exact ⟨_,rfl,hb.trans (hb2.mono hb.size)⟩
def une:List UInt8→Option (UInt8×Nat)
 | []=>none
 | c::r=>if c.toNat=120 then (match r with
    | a::b::_=>(hex2 a b).map fun x=>(x,3)
    | _=>none) else some (c,1)
def unq (l:List UInt8):Option (List UInt8):=
 match l with
 | []=>some []
 | c::r=>if c.toNat=92 then (match une r with
    | none=>none
    | some (x,k)=>(unq (r.drop k)).map fun y=>x::y) else (unq r).map fun y=>c::y
termination_by l.length
decreasing_by all_goals simp;try omega
theorem hexv_all:∀ i:Fin 16,hexv (hexd i.1)=i.1:=by decide
theorem hexv_hexd (n:Nat) (h:n<16):hexv (hexd n)=n:=hexv_all ⟨n,h⟩
theorem unq_nil:unq []=some []:=by rw [unq]
theorem unq_plain {c:UInt8} (r:List UInt8) (h:c.toNat≠92):unq (c::r)=(unq r).map fun y=>c::y:=by rw [unq];simp [h]
theorem unq_esc {c:UInt8} (r:List UInt8) (h:c.toNat=92):unq (c::r)=(match une r with
   | none=>none
   | some (x,k)=>(unq (r.drop k)).map fun y=>x::y):=by rw [unq];simp [h]
theorem une_len {l:List UInt8} {x:UInt8} {k:Nat} (h:une l=some (x,k)):k≤l.length∧k≤3:=by
 unfold une at h
 split at h
 ·cases h
 ·split at h
  ·split at h
   ·simp only [Option.map_eq_some_iff,Prod.mk.injEq] at h
    obtain ⟨y,_,_,rfl⟩:=h
    simp
   ·cases h
  ·simp only [Option.some.injEq,Prod.mk.injEq] at h
   simp [← h.2]
theorem unq_inside:∀ l:List UInt8,unq (inside l)=some l
 | []=>by simp [inside,unq_nil]
 | c::l=>by
  have ih:=unq_inside l
  have e:inside (c::l)=esc c++inside l:=by simp [inside]
  rw [e]
  unfold esc
  have hc:c.toNat<256:=c.toNat_lt
  by_cases h1:c.toNat=34∨c.toNat=92
  ·rw [if_pos h1]
   show unq (92::c::inside l)=_
   rw [unq_esc _ rfl]
   have h2:c.toNat≠120:=by omega
   simp [une,h2,ih]
  ·rw [if_neg h1]
   by_cases h2:32≤c.toNat∧c.toNat≤126
   ·rw [if_pos h2]
    show unq (c::inside l)=_
    rw [unq_plain _ (by omega),ih]
    rfl
   ·rw [if_neg h2]
    show unq (92::120::hexd (c.toNat / 16)::hexd (c.toNat % 16)::inside l)=_
    rw [unq_esc _ rfl]
    have p1:=hexv_hexd (c.toNat / 16) (by omega)
    have p2:=hexv_hexd (c.toNat % 16) (by omega)
    have e2:UInt8.ofNat (16*(c.toNat / 16)+c.toNat % 16)=c:=by
     have:16*(c.toNat / 16)+c.toNat % 16=c.toNat:=by omega
     rw [this]
     exact UInt8.ofNat_toNat
    have p3:hex2 (hexd (c.toNat / 16)) (hexd (c.toNat % 16))=some c:=by
     unfold hex2
     rw [p1,p2,if_pos ⟨by omega,by omega⟩,e2]
    simp [une,p3,ih]
theorem unesc_nil (w:World):
  Calls Tryz.prog 212 #[.string ⟨#[]⟩] w fun e w'=>e=.returned (.tuple #[.int .u8 0,.int .i64 0,.bool false])∧Below w.heap.size w w':=by
 go_enter Tryz.func212,Tryz.ntmps212
 go_wp2
 refine bodyPost_ret (by simp [results,Tryz.results212,go_sem];try rfl) rfl ?_
 exact ⟨rfl,Below.refl _ _⟩
theorem unesc_one (u:ByteArray) (c:UInt8) (w:World) (h0:0<u.size) (hc:u[0]=c) (h1:((c.toNat:Int) != 120)=true) (hne:(u.toList==[])=false):
  Calls Tryz.prog 212 #[.string u] w fun e w'=>e=.returned (.tuple #[.int .u8 c.toNat,.int .i64 1,.bool true])∧Below w.heap.size w w':=by
 have h0':(0:Int)<u.size:=by omega
 have hb:ByteArray.toList u≠[]:=by simpa using hne
 go_enter Tryz.func212,Tryz.ntmps212
 go_wp2
 refine bodyPost_ret (by simp [results,Tryz.results212,go_sem];try rfl) rfl ?_
 exact ⟨rfl,Below.refl _ _⟩
theorem unesc_short (u:ByteArray) (c:UInt8) (w:World) (h0:0<u.size) (hc:u[0]=c) (h1:((c.toNat:Int) != 120)=false) (hne:(u.toList==[])=false) (h3:u.size<3):
  Calls Tryz.prog 212 #[.string u] w fun e w'=>e=.returned (.tuple #[.int .u8 0,.int .i64 0,.bool false])∧Below w.heap.size w w':=by
 have h0':(0:Int)<u.size:=by omega
 have h3':(u.size:Int)<3:=by omega
 have hb:ByteArray.toList u≠[]:=by simpa using hne
 go_enter Tryz.func212,Tryz.ntmps212
 go_wp2
 refine bodyPost_ret (by simp [results,Tryz.results212,go_sem];try rfl) rfl ?_
 exact ⟨rfl,Below.refl _ _⟩
theorem unesc_yes (u:ByteArray) (c a b:UInt8) (w:World) (h0:0<u.size) (hc:u[0]=c) (h1:((c.toNat:Int) != 120)=false) (hne:(u.toList==[])=false) (h3:3≤u.size) (hx:u.extract 1 3=⟨#[a,b]⟩) (hh:hexv a<16∧hexv b<16):
  Calls Tryz.prog 212 #[.string u] w fun e w'=>e=.returned (.tuple #[.int .u8 ((16*hexv a+hexv b:Nat):Int),.int .i64 3,.bool true])∧Below w.heap.size w w':=by
 obtain ⟨v,ev⟩:∃ v:Nat,Hid (16*hexv a+hexv b=v):=⟨_,rfl⟩
 have hv:v<256:=by have:=ev.out;omega
 have H:Hid (∀ W:World,Calls Tryz.prog 239 #[.string ⟨#[a,b]⟩,.int .i64 16,.int .i64 8] W fun e w'=>e=.returned (.tuple #[.int .u64 (v:Int),.nilIface])∧Below W.heap.size W w'):=fun W=>by
  have q:=pu_yes a b W hh
  rw [ev.out] at q
  exact q
 have hw:IntKind.u8.wrap (v:Int)=(v:Int):=by simp [IntKind.wrap,IntKind.bits,IntKind.signed];omega
 rw [ev.out]
 clear ev hh
 have h0':(0:Int)<u.size:=by omega
 have h3':(3:Int)≤u.size:=by omega
 have hb:ByteArray.toList u≠[]:=by simpa using hne
 go_enter Tryz.func212,Tryz.ntmps212
 go_wp2_with fail
 refine (H.out _).mono ?_
 rintro e w1 ⟨rfl,hb1⟩
 go_wp2
 go_region
 go_wp2
 refine bodyPost_ret (by simp [results,Tryz.results212,go_sem];try rfl) rfl ?_
 exact ⟨rfl,hb1.drew⟩
theorem unesc_no (u:ByteArray) (c a b:UInt8) (w:World) (h0:0<u.size) (hc:u[0]=c) (h1:((c.toNat:Int) != 120)=false) (hne:(u.toList==[])=false) (h3:3≤u.size) (hx:u.extract 1 3=⟨#[a,b]⟩) (hh:¬ (hexv a<16∧hexv b<16)) (he:Errs w) (h8:6≤w.heap.size):
  Calls Tryz.prog 212 #[.string u] w fun e w'=>e=.returned (.tuple #[.int .u8 0,.int .i64 3,.bool false])∧Below w.heap.size w w':=by
 have H:Hid (∀ W:World,Errs W→6≤W.heap.size→Calls Tryz.prog 239 #[.string ⟨#[a,b]⟩,.int .i64 16,.int .i64 8] W fun e w'=>∃ p,e=.returned (.tuple #[.int .u64 0,.iface 257 p])∧Below W.heap.size W w'):=fun W h g=>pu_no a b W hh h g
 clear hh
 have h0':(0:Int)<u.size:=by omega
 have h3':(3:Int)≤u.size:=by omega
 have hb:ByteArray.toList u≠[]:=by simpa using hne
 go_enter Tryz.func212,Tryz.ntmps212
 go_wp2_with fail
 refine (H.out _ he h8).mono ?_
 rintro e w1 ⟨p,rfl,hb1⟩
 go_wp2
 go_region
 go_wp2
 refine bodyPost_ret (by simp [results,Tryz.results212,go_sem];try rfl) rfl ?_
 exact ⟨rfl,hb1.drew⟩
theorem unesc_any (u:ByteArray) (w:World) (he:Errs w) (h8:6≤w.heap.size):
  Calls Tryz.prog 212 #[.string u] w fun e w'=>(match une u.data.toList with
   | some (x,k)=>e=.returned (.tuple #[.int .u8 x.toNat,.int .i64 k,.bool true])
   | none=>∃ p q,e=.returned (.tuple #[.int .u8 p,.int .i64 q,.bool false]))∧Below w.heap.size w w':=by
 obtain ⟨⟨l⟩⟩:=u
 match l with
 | []=>
  refine (unesc_nil w).mono ?_
  rintro e w' ⟨rfl,hb⟩
  exact ⟨⟨_,_,rfl⟩,hb⟩
 | c::r=>
  have h0:0<(⟨⟨c::r⟩⟩:ByteArray).size:=by show 0<(c::r).length;simp
  have hc:(⟨⟨c::r⟩⟩:ByteArray)[0]=c:=rfl
  have hne:((⟨⟨c::r⟩⟩:ByteArray).toList==[])=false:=by simp [ByteArray.toList_eq]
  have el:(⟨⟨c::r⟩⟩:ByteArray).data.toList=c::r:=rfl
  rw [el]
  by_cases h1:c.toNat=120
  ·have h1':((c.toNat:Int) != 120)=false:=by simp [h1]
   match r with
   | []=>
    refine (unesc_short _ c w h0 hc h1' hne (by show 1<3;omega)).mono ?_
    rintro e w' ⟨rfl,hb⟩
    refine ⟨?_,hb⟩
    simp only [une,h1,if_true]
    exact ⟨_,_,rfl⟩
   | [a]=>
    refine (unesc_short _ c w h0 hc h1' hne (by show 2<3;omega)).mono ?_
    rintro e w' ⟨rfl,hb⟩
    refine ⟨?_,hb⟩
    simp only [une,h1,if_true]
    exact ⟨_,_,rfl⟩
   | a::b::r'=>
    have h3:3≤(⟨⟨c::a::b::r'⟩⟩:ByteArray).size:=by show 3≤(c::a::b::r').length;simp
    have hx:(⟨⟨c::a::b::r'⟩⟩:ByteArray).extract 1 3=⟨#[a,b]⟩:=by apply ByteArray.ext;simp [ByteArray.data_extract]
    by_cases hh:hexv a<16∧hexv b<16
    ·refine (unesc_yes _ c a b w h0 hc h1' hne h3 hx hh).mono ?_
     rintro e w' ⟨rfl,hb⟩
     refine ⟨?_,hb⟩
     have e1:(UInt8.ofNat (16*hexv a+hexv b)).toNat=16*hexv a+hexv b:=by simp [UInt8.toNat_ofNat];omega
     simp only [une,h1,if_true,hex2,if_pos hh,Option.map_some,e1]
     rfl
    ·refine (unesc_no _ c a b w h0 hc h1' hne h3 hx hh he h8).mono ?_
     rintro e w' ⟨rfl,hb⟩
     refine ⟨?_,hb⟩
     simp only [une,h1,if_true,hex2,if_neg hh,Option.map_none]
     exact ⟨_,_,rfl⟩
  ·have h1':((c.toNat:Int) != 120)=true:=by simp;omega
   refine (unesc_one _ c w h0 hc h1' hne).mono ?_
   rintro e w' ⟨rfl,hb⟩
   refine ⟨?_,hb⟩
   simp only [une,if_neg h1]
   rfl
theorem unq_len:∀ (n:Nat) (l x:List UInt8),l.length≤n→unq l=some x→x.length≤l.length
 | n,[],x,_,h=>by rw [unq_nil] at h;cases h;simp
 | 0,c::r,x,hn,h=>by simp at hn
 | n+1,c::r,x,hn,h=>by
  by_cases hc:c.toNat=92
  ·rw [unq_esc _ hc] at h
   split at h
   ·cases h
   ·rename_i y k hu
    simp only [Option.map_eq_some_iff] at h
    obtain ⟨z,hz,rfl⟩:=h
    have:=unq_len n (r.drop k) z (by simp at hn ⊢;omega) hz
    simp at this ⊢
    omega
  ·rw [unq_plain _ hc] at h
   simp only [Option.map_eq_some_iff] at h
   obtain ⟨z,hz,rfl⟩:=h
   have:=unq_len n r z (by simp at hn;omega) hz
   simp
   omega
def outS (o:Option (List UInt8)):ByteArray:=⟨(o.getD []).toArray⟩
def outB (o:Option (List UInt8)):Bool:=o.isSome
def unqS (l:List UInt8):Option (List UInt8):=if Lib.hasSuffix l [34] then unq (Lib.trimSuffix l [34]) else none
theorem ext_from (s:ByteArray) (k:Nat):(s.extract k s.size).data.toList=s.data.toList.drop k:=by
 have e:s.data.size=s.size:=rfl
 simp [ByteArray.data_extract,List.take_of_length_le,e]
theorem unquote_no (t:ByteArray) (w:World) (hs:t.size≤9223372036854775807) (h:Lib.hasSuffix t.data.toList [34]=false):
  Calls Tryz.prog 183 #[.string t] w fun e w'=>e=.returned (.tuple #[.string ⟨#[]⟩,.bool false])∧Below w.heap.size w w':=by
 have CS:Hid (∀ W:World,Calls Tryz.prog 211 #[.string t,.string ⟨#[34]⟩] W fun e w'=>∃ I,e=.returned (.tuple #[.string I,.bool false])∧w'=W):=fun W=>by
  have q:=Tryz.strings_CutSuffix t ⟨#[34]⟩ W hs
  rw [show (⟨#[34]⟩:ByteArray).data.toList=[34] from rfl,h] at q
  refine q.mono ?_
  rintro e w' ⟨rfl,rfl⟩
  exact ⟨_,rfl,rfl⟩
 clear h
 go_enter Tryz.func183,Tryz.ntmps183
 go_wp2_with fail
 refine (CS.out _).mono ?_
 rintro e w1 ⟨I,rfl,rfl⟩
 go_wp2
 go_ret2
 exact ⟨rfl,Below.refl _ _⟩
theorem unquote_yes (t I:ByteArray) (w:World) (hs:t.size≤9223372036854775807) (h:Lib.hasSuffix t.data.toList [34]=true) (hI:(⟨(Lib.trimSuffix t.data.toList [34]).toArray⟩:ByteArray)=I) (hz:I.size≤140737488355000) (he:Errs w) (h8:6≤w.heap.size):
  Calls Tryz.prog 183 #[.string t] w fun e w'=>e=.returned (.tuple #[.string (outS (unq I.data.toList)),.bool (outB (unq I.data.toList))])∧Below w.heap.size w w':=by
 have CS:Hid (∀ W:World,Calls Tryz.prog 211 #[.string t,.string ⟨#[34]⟩] W fun e w'=>e=.returned (.tuple #[.string I,.bool true])∧w'=W):=fun W=>by
  have q:=Tryz.strings_CutSuffix t ⟨#[34]⟩ W hs
  rw [show (⟨#[34]⟩:ByteArray).data.toList=[34] from rfl,h,hI] at q
  exact q
 clear h hI
 have HE:Hid (Errs w):=he
 clear he
 go_enter Tryz.func183,Tryz.ntmps183
 go_wp2_with fail
 refine (CS.out _).mono ?_
 rintro e w' ⟨rfl,rfl⟩
 go_wp2
 have h0:Hid (Lib.IsBuilder 153 5 w'.heap.size w'.heap.size (Lib.byteCells []) (w'.alloc (.cells #[.pointer none,.slice none 0 0] 153))):=Lib.fresh_isBuilder _ _ w'
 have k0:Below w'.heap.size w' (w'.alloc (.cells #[.pointer none,.slice none 0 0] 153)):=(Below.refl _ _).alloc (Nat.le_refl _) _
 generalize w'.alloc (.cells #[.pointer none,.slice none 0 0] 153)=W0 at*
 go_loopw [7] (fun i wr=>∃ (k:Nat) (acc:List UInt8),k≤I.size∧acc.length≤k∧i=.int .i64 k∧Hid (unq I.data.toList=(unq (I.data.toList.drop k)).map fun y=>acc++y)∧Hid (Lib.IsBuilder 153 5 w'.heap.size w'.heap.size (Lib.byteCells acc) wr)∧Below w'.heap.size w' wr) (fun i _=>I.size - (intOf i).toNat)
 case atStart=>exact ⟨0,[],by omega,by simp,rfl,(show unq I.data.toList=(unq (I.data.toList.drop 0)).map fun y=>[]++y by simp),h0,k0⟩
 case round=>
  obtain ⟨k,acc,hk,ha,rfl,hU,hI,hB⟩:=hrel
  have hsz:=hB.size
  by_cases hke:k=I.size
  ·subst hke
   have e0:Hid (unq I.data.toList=some acc):=by
    have q:=hU.out
    rw [List.drop_of_length_le (by simp),unq_nil] at q
    exact q.trans (by simp)
   clear hU
   go_wp2_with fail
   refine (Tryz.Builder_String_any w'.heap.size w'.heap.size _ _ hI.out hsz).mono ?_
   rintro e w3 ⟨rfl,hb3⟩
   go_wp2
   go_ret2
   refine ⟨?_,hB.trans hb3⟩
   rw [e0.out]
   rfl
  ·have hk':(k:Int)<I.size:=by omega
   have hkk:k<I.size:=by omega
   have hd:I.data.toList.drop k=I[k]::I.data.toList.drop (k+1):=by
    rw [List.drop_eq_getElem_cons (by simpa using hkk)]
    rfl
   rw [hd] at hU
   have hu:I[k].toNat<256:=I[k].toNat_lt
   clear hd
   obtain ⟨c,hc⟩:∃ c:UInt8,I[k]=c:=⟨_,rfl⟩
   rw [hc] at hu
   rw [hc] at hU
   by_cases a1:c.toNat=92
   ·have a1':((c.toNat:Int)==92)=true:=by simp;omega
    have EB:Errs wr:=HE.out.below hB h8
    have h8':6≤wr.heap.size:=by omega
    have UE:Hid (∀ W:World,Errs W→6≤W.heap.size→Calls Tryz.prog 212 #[.string (I.extract (k+1) I.size)] W fun e w'=>(match une (I.data.toList.drop (k+1)) with
      | some (x,k)=>e=.returned (.tuple #[.int .u8 x.toNat,.int .i64 k,.bool true])
      | none=>∃ p q,e=.returned (.tuple #[.int .u8 p,.int .i64 q,.bool false]))∧Below W.heap.size W w'):=fun W g1 g2=>by
     have q:=unesc_any (I.extract (k+1) I.size) W g1 g2
     rw [ext_from] at q
     exact q
    have hU2:=hU.out
    rw [unq_esc _ a1] at hU2
    have hk1:(k:Int)+1≤I.size:=by omega
    cases hun:une (I.data.toList.drop (k+1)) with
    | none=>
     rw [hun] at hU2 UE
     have e0:Hid (unq I.data.toList=none):=hU2.trans (by simp)
     clear hU hU2 hun a1
     go_wp2_with fail
     refine (UE.out _ EB h8').mono ?_
     rintro e w2 ⟨⟨p,q,rfl⟩,hb2⟩
     go_wp2
     go_ret2
     refine ⟨?_,hB.trans (hb2.mono hB.size)⟩
     rw [e0.out]
     rfl
    | some y=>
     obtain ⟨x,j⟩:=y
     rw [hun] at hU2 UE
     obtain ⟨j1,j2⟩:=une_len hun
     have j3:k+1+j≤I.size:=by simp at j1;omega
     have e0:Hid (unq I.data.toList=(unq (I.data.toList.drop (k+j+1))).map fun y=>(acc++[x])++y):=by
      simp only [Option.map_map,List.drop_drop] at hU2
      rw [show k+j+1=k+1+j by omega]
      refine Eq.trans hU2 ?_
      congr 1
      funext y
      simp
     clear hU hU2 hun a1 j1
     go_wp2_with fail
     refine (UE.out _ EB h8').mono ?_
     rintro e w2 ⟨rfl,hb2⟩
     have h2':Hid (Lib.IsBuilder 153 5 w'.heap.size w'.heap.size (Lib.byteCells acc) w2):=isB_below hI.out hb2
     have k2:Below w'.heap.size w' w2:=hB.trans (hb2.mono hB.size)
     have hx:x.toNat<256:=x.toNat_lt
     have hj:(j:Int)≤3:=by omega
     clear hI hb2 UE
     go_wp2_with fail
     refine (wbyte w'.heap.size w'.heap.size _ _ _ h2'.out (by rw [Lib.byteCells_length];omega) k2.size).mono ?_
     rintro e w3 ⟨rfl,h3,hb3⟩
     have h3':Hid (Lib.IsBuilder 153 5 w'.heap.size w'.heap.size (Lib.byteCells (acc++[x])) w3):=by
      have:=cells_snoc acc x
      rw [← this]
      exact Or.inr h3
     clear h3
     go_wp2
     exact ⟨⟨k+j+1,acc++[x],by omega,by simp;omega,by simp,e0,h3',k2.trans hb3⟩,by simp [intOf];omega⟩
   ·have a1':((c.toNat:Int)==92)=false:=by simp;omega
    have e0:Hid (unq I.data.toList=(unq (I.data.toList.drop (k+1))).map fun y=>(acc++[c])++y):=by
     have q:=hU.out
     rw [unq_plain _ a1,Option.map_map] at q
     refine Eq.trans q ?_
     congr 1
     funext y
     simp
    clear hU a1
    go_wp2_with fail
    refine (wbyte w'.heap.size w'.heap.size _ _ _ hI.out (by rw [Lib.byteCells_length];omega) hsz).mono ?_
    rintro e w3 ⟨rfl,h3,hb3⟩
    have h3':Hid (Lib.IsBuilder 153 5 w'.heap.size w'.heap.size (Lib.byteCells (acc++[c])) w3):=by
     have:=cells_snoc acc c
     rw [← this]
     exact Or.inr h3
    clear h3
    go_wp2
    exact ⟨⟨k+1,acc++[c],by omega,by simp;omega,by simp,e0,h3',hB.trans hb3⟩,by simp [intOf];omega⟩
theorem pum_append (M:Nat):∀ (l r:List UInt8) (acc a:Nat),Lib.parseUintM M acc l=.ok a→Lib.parseUintM M acc (l++r)=Lib.parseUintM M a r
 | [],r,acc,a,h=>by simp [Lib.parseUintM] at h;simp [h]
 | c::l,r,acc,a,h=>by
  simp only [Lib.parseUintM,List.cons_append] at h ⊢
  split at h
  ·rename_i h1
   rw [if_pos h1]
   split at h
   ·cases h
   ·rename_i h2
    rw [if_neg h2]
    split at h
    ·cases h
    ·rename_i h3
     rw [if_neg h3]
     exact pum_append M l r _ a h
  ·cases h
theorem dg_nat (d:Nat) (h:d<10):(UInt8.ofNat (48+d)).toNat=48+d:=by simp [UInt8.toNat_ofNat];omega
theorem pum_dec:∀ (u:Nat),u≤18446744073709551615→Lib.parseUintM 18446744073709551615 0 (Lib.decDigits u)=.ok u:=by
 intro u
 induction u using Nat.strongRecOn with
 | _ u ih=>
  intro hu
  by_cases h:u<10
  ·rw [Lib.decDigits_one h]
   have e:=dg_nat u h
   simp only [Lib.parseUintM,e]
   rw [if_pos (by omega),if_neg (by omega),if_neg (by omega)]
   congr 1
   omega
  ·have e:=dg_nat (u % 10) (by omega)
   rw [Lib.decDigits,dif_neg h,pum_append _ _ _ _ _ (ih (u / 10) (by omega) (by omega))]
   simp only [Lib.parseUintM,e]
   rw [if_pos (by omega),if_neg (by omega),if_neg (by omega)]
   congr 1
   omega
theorem dec_digit:∀ (u:Nat) (c:UInt8),c∈Lib.decDigits u→48≤c.toNat∧c.toNat≤57:=by
 intro u
 induction u using Nat.strongRecOn with
 | _ u ih=>
  intro c hc
  by_cases h:u<10
  ·rw [Lib.decDigits_one h] at hc
   simp only [List.mem_singleton] at hc
   subst hc
   have e:=dg_nat u h
   omega
  ·rw [Lib.decDigits,dif_neg h] at hc
   rcases List.mem_append.1 hc with hc | hc
   ·exact ih (u / 10) (by omega) c hc
   ·simp only [List.mem_singleton] at hc
    subst hc
    have e:=dg_nat (u % 10) (by omega)
    omega
def cutL:List UInt8→List UInt8×List UInt8×Bool
 | []=>([],[],false)
 | c::r=>if c.toNat=47 then ([],r,true) else (c::(cutL r).1,(cutL r).2.1,(cutL r).2.2)
def pint (l:List UInt8):Int×Bool:=match Lib.parseIntB 64 l with
 | .ok v=>(v,true)
 | .«syntax»=>(0,false)
 | .range=>(Lib.intSat 64 l,false)
theorem pint_fits (l:List UInt8): -9223372036854775808≤(pint l).1∧(pint l).1≤9223372036854775807:=by
 unfold pint
 split
 ·rename_i v h
  have p63:(2:Nat) ^ (64 - 1)=9223372036854775808:=by decide
  unfold Lib.parseIntB at h
  split at h
  ·cases h
  ·simp only [] at h
   split at h
   ·cases h
   ·cases h
   ·rw [p63] at h
    split at h
    ·cases h
    ·split at h
     ·cases h
     ·simp only [Lib.NumEnd.ok.injEq] at h
      rw [← h]
      split<;>simp only []<;>omega
 ·simp
 ·unfold Lib.intSat
  have p63:(2:Nat) ^ (64 - 1)=9223372036854775808:=by decide
  rw [p63]
  split<;>simp
theorem cutL_no:∀ (l:List UInt8),(cutL l).2.2=false→cutL l=(l,[],false)∧Lib.indexByte l 47= -1
 | [],_=>⟨rfl,rfl⟩
 | c::r,h=>by
  unfold cutL at h ⊢
  by_cases hc:c.toNat=47
  ·rw [if_pos hc] at h;cases h
  ·rw [if_neg hc] at h ⊢
   obtain ⟨h1,h2⟩:=cutL_no r h
   have h3:(c==47)=false:=by simp;intro e;exact hc (by rw [e];rfl)
   refine ⟨by rw [h1], ?_⟩
   unfold Lib.indexByte
   rw [h3,h2]
   rfl
theorem cutL_yes:∀ (l:List UInt8),(cutL l).2.2=true→l=(cutL l).1++47::(cutL l).2.1∧Lib.indexByte l 47=((cutL l).1.length:Int)
 | [],h=>by cases h
 | c::r,h=>by
  unfold cutL at h ⊢
  by_cases hc:c.toNat=47
  ·rw [if_pos hc]
   have e:c=47:=UInt8.toNat_inj.1 hc
   subst e
   exact ⟨rfl,rfl⟩
  ·rw [if_neg hc] at h ⊢
   obtain ⟨h1,h2⟩:=cutL_yes r h
   have h3:(c==47)=false:=by simp;intro e;exact hc (by rw [e];rfl)
   refine ⟨by simp only [List.cons_append];rw [← h1], ?_⟩
   unfold Lib.indexByte
   rw [h3,h2]
   have h4:(((cutL r).1.length:Int)== -1)=false:=by simp
   simp [h4]
theorem ext_take (s:ByteArray) (k:Nat) (h:k≤s.size):(s.extract 0 k).data.toList=s.data.toList.take k:=by
 simp [ByteArray.data_extract]
theorem ext_drop (s:ByteArray) (k:Nat) (h:k≤s.size):(s.extract k s.size).data.toList=s.data.toList.drop k:=by
 have e:s.data.size=s.size:=rfl
 simp [ByteArray.data_extract,List.take_of_length_le,e]
theorem ba_eq {a:ByteArray} {l:List UInt8} (h:a.data.toList=l):a=⟨l.toArray⟩:=by
 apply ByteArray.ext
 rw [← h]
theorem cut_no (s:ByteArray) (w:World) (h:(cutL s.data.toList).2.2=false):
  Calls Tryz.prog 147 #[.string s,.string ⟨#[47]⟩] w fun e w'=>e=.returned (.tuple #[.string s,.string ⟨#[]⟩,.bool false])∧∃ k,w'=w.drewN k:=by
 have H:Hid (∀ W:World,Calls Tryz.prog 181 #[.string s,.string ⟨#[47]⟩] W fun e w'=>e=.returned (.tuple #[.string s,.string ⟨#[]⟩,.bool false])∧∃ k,w'=W.drewN k):=fun W=>by
  have I:Hid (∀ W:World,Calls Tryz.prog 209 #[.string s,.string ⟨#[47]⟩] W fun e w'=>e=.returned (.int .i64 (-1))∧w'=W):=fun W=>by
   have q:=Tryz.stringslite_Index_one s 47 W
   rw [(cutL_no _ h).2] at q
   exact q
  clear h
  go_enter Tryz.func181,Tryz.ntmps181
  go_wp2_with fail
  refine (I.out _).mono ?_
  rintro e w1 ⟨rfl,rfl⟩
  go_wp2
  refine bodyPost_ret (by simp [results,Tryz.results181,go_sem];try rfl) rfl ?_
  exact ⟨rfl,0,rfl⟩
 clear h
 go_enter Tryz.func147,Tryz.ntmps147
 go_wp2_with fail
 refine (H.out _).mono ?_
 rintro e w1 ⟨rfl,k,rfl⟩
 go_wp2
 refine bodyPost_ret (by simp [results,Tryz.results147,go_sem];try rfl) rfl ?_
 exact ⟨rfl,k,rfl⟩
theorem cut_yes (s:ByteArray) (w:World) (h:(cutL s.data.toList).2.2=true) (hs:s.size≤140737488355328):
  Calls Tryz.prog 147 #[.string s,.string ⟨#[47]⟩] w fun e w'=>e=.returned (.tuple #[.string ⟨(cutL s.data.toList).1.toArray⟩,.string ⟨(cutL s.data.toList).2.1.toArray⟩,.bool true])∧∃ k,w'=w.drewN k:=by
 obtain ⟨h1,h2⟩:=cutL_yes _ h
 obtain ⟨A,eA⟩:∃ A:ByteArray,Hid ((⟨(cutL s.data.toList).1.toArray⟩:ByteArray)=A):=⟨_,rfl⟩
 obtain ⟨B,eB⟩:∃ B:ByteArray,Hid ((⟨(cutL s.data.toList).2.1.toArray⟩:ByteArray)=B):=⟨_,rfl⟩
 obtain ⟨n,en⟩:∃ n:Nat,Hid ((cutL s.data.toList).1.length=n):=⟨_,rfl⟩
 have hl:s.data.toList.length=n+1+(cutL s.data.toList).2.1.length:=by
  have:=congrArg List.length h1
  rw [List.length_append,List.length_cons,en.out] at this
  omega
 have hsz:s.data.toList.length=s.size:=by simp
 have hn:n+1≤s.size:=by omega
 have x1:s.extract 0 n=A:=by
  rw [← eA.out]
  refine ba_eq ?_
  rw [ext_take s n (by omega)]
  generalize cutL s.data.toList=c at h1 en
  rw [h1,← en.out]
  simp
 have x2:s.extract (n+1) s.size=B:=by
  rw [← eB.out]
  refine ba_eq ?_
  rw [ext_drop s (n+1) hn]
  generalize cutL s.data.toList=c at h1 en
  rw [h1,← en.out,List.drop_append]
  simp
 rw [eA.out,eB.out]
 have H:Hid (∀ W:World,Calls Tryz.prog 181 #[.string s,.string ⟨#[47]⟩] W fun e w'=>e=.returned (.tuple #[.string A,.string B,.bool true])∧∃ k,w'=W.drewN k):=fun W=>by
  have I:Hid (∀ W:World,Calls Tryz.prog 209 #[.string s,.string ⟨#[47]⟩] W fun e w'=>e=.returned (.int .i64 n)∧w'=W):=fun W=>by
   have q:=Tryz.stringslite_Index_one s 47 W
   rw [h2,en.out] at q
   exact q
  clear h h1 h2 eA eB en hl hsz
  have z1:(⟨#[47]⟩:ByteArray).size=1:=rfl
  have hn0:(n:Int)≤s.size:=by omega
  have hn1:(n:Int)+1≤s.size:=by omega
  go_enter Tryz.func181,Tryz.ntmps181
  go_wp2_with fail
  refine (I.out _).mono ?_
  rintro e w1 ⟨rfl,rfl⟩
  go_wp2
  go_quiet (fail)
  go_wp2
  refine bodyPost_ret (by simp [results,Tryz.results181,go_sem];try rfl) rfl ?_
  exact ⟨rfl,nq,rfl⟩
 clear h h1 h2 eA eB en x1 x2 hl hsz
 go_enter Tryz.func147,Tryz.ntmps147
 go_wp2_with fail
 refine (H.out _).mono ?_
 rintro e w1 ⟨rfl,k,rfl⟩
 go_wp2
 refine bodyPost_ret (by simp [results,Tryz.results147,go_sem];try rfl) rfl ?_
 exact ⟨rfl,k,rfl⟩
theorem trim_len (l:List UInt8):(Lib.trimSuffix l [34]).length≤l.length:=by unfold Lib.trimSuffix;split<;>simp
theorem unquote_any (t:ByteArray) (w:World) (hs:t.size≤140737488355000) (he:Errs w) (h8:6≤w.heap.size):
  Calls Tryz.prog 183 #[.string t] w fun e w'=>e=.returned (.tuple #[.string (outS (unqS t.data.toList)),.bool (outB (unqS t.data.toList))])∧Below w.heap.size w w':=by
 cases h:Lib.hasSuffix t.data.toList [34]
 ·have e0:unqS t.data.toList=none:=by simp [unqS,h]
  rw [e0]
  exact unquote_no t w (by omega) h
 ·have e0:unqS t.data.toList=unq (Lib.trimSuffix t.data.toList [34]):=by simp [unqS,h]
  rw [e0]
  have hl:=trim_len t.data.toList
  have hl2:t.data.toList.length=t.size:=by simp
  have q:=unquote_yes t _ w (by omega) h rfl (by show (Lib.trimSuffix t.data.toList [34]).toArray.size≤_;simp;omega) he h8
  exact q
theorem pi_yes (s:ByteArray) (w:World) (hs:s.size≤140737488355328) (h:(pint s.data.toList).2=true):
  Calls Tryz.prog 184 #[.string s,.int .i64 10,.int .i64 64] w fun e w'=>e=.returned (.tuple #[.int .i64 (pint s.data.toList).1,.nilIface])∧Below w.heap.size w w':=by
 cases hp:Lib.parseIntB 64 s.data.toList with
 | ok v=>
  have e0:pint s.data.toList=(v,true):=by simp [pint,hp]
  rw [e0]
  refine (Tryz.strconv_ParseInt_10_at64_ok s (by omega) v hp w).mono ?_
  rintro e w' ⟨rfl,hw⟩
  refine ⟨rfl, ?_⟩
  rcases hw with rfl | ⟨t,rfl⟩
  ·exact Below.refl _ _
  ·exact Lib.bytesWorld_below w 5 t
 | «syntax»=>simp [pint,hp] at h
 | range=>simp [pint,hp] at h
theorem pi_no (s:ByteArray) (w:World) (hs:s.size≤140737488355328) (h:(pint s.data.toList).2=false) (he:Errs w):
  Calls Tryz.prog 184 #[.string s,.int .i64 10,.int .i64 64] w fun e w'=>∃ N,e=.returned (.tuple #[.int .i64 (pint s.data.toList).1,.iface 257 (.pointer (some ⟨N,0,none⟩))])∧Below w.heap.size w w':=by
 obtain ⟨⟨e1,c1,d1⟩,⟨e2,c2,d2⟩⟩:=he
 cases hp:Lib.parseIntB 64 s.data.toList with
 | ok v=>simp [pint,hp] at h
 | «syntax»=>
  have e0:pint s.data.toList=(0,false):=by simp [pint,hp]
  rw [e0]
  refine (Tryz.strconv_ParseInt_10_at64_syntax s (by omega) hp e1 w c1 d1).mono ?_
  rintro e w' ⟨N,rfl, -, -,hb⟩
  exact ⟨N,rfl,hb⟩
 | range=>
  have e0:pint s.data.toList=(Lib.intSat 64 s.data.toList,false):=by simp [pint,hp]
  rw [e0]
  refine (Tryz.strconv_ParseInt_10_at64_range s (by omega) hp e2 w c2 d2).mono ?_
  rintro e w' ⟨N,rfl, -, -,hb⟩
  exact ⟨N,rfl,hb⟩
def gss (l:List UInt8):Val×Bool:=
 if Lib.hasPrefix l [34] then (⟨3,0,0,outS (unqS (l.drop 1))⟩,outB (unqS (l.drop 1)))
 else if (cutL l).2.2=false then (⟨1,(pint l).1,0,⟨#[]⟩⟩,(pint l).2)
 else if (pint (cutL l).1).2=false then (⟨1,(pint (cutL l).1).1,0,⟨#[]⟩⟩,false)
 else (⟨2,(pint (cutL l).1).1,(pint (cutL l).2.1).1,⟨#[]⟩⟩,(pint (cutL l).2.1).2)
theorem Errs.alloc {w:World} (h:Errs w) (hs:6≤w.heap.size) (o:Obj):Errs (w.alloc o):=h.below ((Below.refl _ w).alloc (Nat.le_refl _) o) hs
theorem guess_str (s:ByteArray) (w:World) (hs:s.size≤140737488355000) (hp:Lib.hasPrefix s.data.toList [34]=true) (he:Errs w) (h8:6≤w.heap.size):
  Calls Tryz.prog 148 #[.string s] w fun e w'=>e=.returned (.tuple #[.agg #[.int .i64 3,.int .i64 0,.int .i64 0,.string (outS (unqS (s.data.toList.drop 1)))],.bool (outB (unqS (s.data.toList.drop 1)))])∧Below w.heap.size w w':=by
 obtain ⟨T,eT⟩:∃ T:ByteArray,Hid (outS (unqS (s.data.toList.drop 1))=T):=⟨_,rfl⟩
 obtain ⟨C,eC⟩:∃ C:Bool,Hid (outB (unqS (s.data.toList.drop 1))=C):=⟨_,rfl⟩
 have h1:1≤s.size:=by
  have:s.data.toList≠[]:=by intro e;rw [e] at hp;simp [Lib.hasPrefix] at hp
  have h2:=List.length_pos_iff.2 this
  simp at h2
  exact h2
 have HP:Hid (∀ W:World,Calls Tryz.prog 182 #[.string s,.string ⟨#[34]⟩] W fun e w'=>e=.returned (.bool true)∧w'=W):=fun W=>by
  have q:=Tryz.strings_HasPrefix s ⟨#[34]⟩ W
  rw [show (⟨#[34]⟩:ByteArray).data.toList=[34] from rfl,hp] at q
  exact q
 have UQ:Hid (∀ W:World,Errs W→6≤W.heap.size→Calls Tryz.prog 183 #[.string (s.extract 1 s.size)] W fun e w'=>e=.returned (.tuple #[.string T,.bool C])∧Below W.heap.size W w'):=fun W g1 g2=>by
  have q:=unquote_any (s.extract 1 s.size) W (by simp;omega) g1 g2
  rw [ext_from,eT.out,eC.out] at q
  exact q
 rw [eT.out,eC.out]
 clear eT eC hp
 have h1':(1:Int)≤s.size:=by omega
 have HE:Hid (Errs w):=he
 clear he
 go_enter Tryz.func148,Tryz.ntmps148
 go_wp2_with fail
 refine (HP.out _).mono ?_
 rintro e w0 ⟨rfl,rfl⟩
 go_wp2_with fail
 refine (UQ.out _ (HE.out.alloc h8 _) (by simp;omega)).mono ?_
 rintro e w1 ⟨rfl,hb⟩
 have bRR:Hid (BlkV w1 w.heap.size 0 0 0 ⟨#[]⟩):=BlkV.below (by constructor<;>simp (maxDischargeDepth:=12) [go_sem]) hb (by simp)
 obtain ⟨hc,hf,hz,hB⟩:=bf (w:=w) (by go_grown) hb
 clear hc hf hb
 obtain ⟨r0,r1,r2,r3,r4,r5,r6,r7⟩:=bRR.out
 go_wp2
 generalize hW9:World.setCell _ _ _=W9
 have b9:BlkV W9 w.heap.size 3 0 0 T:=by rw [← hW9];exact bRR.out.four
 have hB9:Below w.heap.size w W9:=by rw [← hW9];exact (((hB.setCell (by simp) _).setCell (by simp) _).setCell (by simp) _).setCell (by simp) _
 clear hW9
 obtain ⟨x0,x1,x2,x3, -, -, -, -⟩:=b9
 refine bodyPost_ret (by simp [results,Tryz.results148,go_sem,x0,x1,x2,x3];try rfl) rfl ?_
 exact ⟨rfl,hB9⟩
theorem guess_int (s u D:ByteArray) (n:Int) (ok br:Bool) (w:World) (hp:Lib.hasPrefix s.data.toList [34]=false)
  (CU:Hid (∀ W:World,Calls Tryz.prog 147 #[.string s,.string ⟨#[47]⟩] W fun e w'=>e=.returned (.tuple #[.string u,.string D,.bool br])∧∃ k,w'=W.drewN k))
  (PI:Hid (∀ W:World,Errs W→Calls Tryz.prog 184 #[.string u,.int .i64 10,.int .i64 64] W fun e w'=>(∃ N,e=.returned (.tuple #[.int .i64 n,if ok=true then .nilIface else .iface 257 (.pointer (some ⟨N,0,none⟩))]))∧Below W.heap.size W w'))
  (hb:br=false∨ok=false) (he:Errs w) (h8:6≤w.heap.size):
  Calls Tryz.prog 148 #[.string s] w fun e w'=>e=.returned (.tuple #[.agg #[.int .i64 1,.int .i64 n,.int .i64 0,.string ⟨#[]⟩],.bool ok])∧Below w.heap.size w w':=by
 have HP:Hid (∀ W:World,Calls Tryz.prog 182 #[.string s,.string ⟨#[34]⟩] W fun e w'=>e=.returned (.bool false)∧w'=W):=fun W=>by
  have q:=Tryz.strings_HasPrefix s ⟨#[34]⟩ W
  rw [show (⟨#[34]⟩:ByteArray).data.toList=[34] from rfl,hp] at q
  exact q
 clear hp
 have HE:Hid (Errs w):=he
 clear he
 cases ok
 ·skip
  go_enter Tryz.func148,Tryz.ntmps148
  go_wp2_with fail
  refine (HP.out _).mono ?_
  rintro e w0 ⟨rfl,rfl⟩
  go_wp2_with fail
  refine (CU.out _).mono ?_
  rintro e w0 ⟨rfl,k,rfl⟩
  go_wp2_with fail
  refine (PI.out _ (HE.out.below (bdrewN k ((Below.refl _ w).alloc (Nat.le_refl _) _)) h8)).mono ?_
  rintro e w1 ⟨⟨N,rfl⟩,hb1⟩
  simp only [Bool.false_eq_true,if_false]
  have bRR:Hid (BlkV w1 w.heap.size 0 0 0 ⟨#[]⟩):=BlkV.below (by constructor<;>simp (maxDischargeDepth:=12) [go_sem]) hb1 (by simp)
  have hB:Below w.heap.size w w1:=Below.trans (bdrewN k ((Below.refl _ w).alloc (Nat.le_refl _) _)) (hb1.mono (by simp))
  clear hb1
  obtain ⟨r0,r1,r2,r3,r4,r5,r6,r7⟩:=bRR.out
  go_wp2
  go_region
  all_goals
   go_wp2
   generalize hW9:World.setCell _ _ _=W9
   have b9:BlkV W9 w.heap.size 1 n 0 ⟨#[]⟩:=by rw [← hW9];exact bRR.out.four
   have hB9:Below w.heap.size w W9:=by rw [← hW9];exact (((hB.setCell (by simp) _).setCell (by simp) _).setCell (by simp) _).setCell (by simp) _
   clear hW9
   obtain ⟨x0,x1,x2,x3, -, -, -, -⟩:=b9
   refine bodyPost_ret (by simp [results,Tryz.results148,go_sem,x0,x1,x2,x3];try rfl) rfl ?_
   exact ⟨rfl,hB9.drew⟩
 ·obtain rfl:br=false:=by rcases hb with h | h;exact h;cases h
  go_enter Tryz.func148,Tryz.ntmps148
  go_wp2_with fail
  refine (HP.out _).mono ?_
  rintro e w0 ⟨rfl,rfl⟩
  go_wp2_with fail
  refine (CU.out _).mono ?_
  rintro e w0 ⟨rfl,k,rfl⟩
  go_wp2_with fail
  refine (PI.out _ (HE.out.below (bdrewN k ((Below.refl _ w).alloc (Nat.le_refl _) _)) h8)).mono ?_
  rintro e w1 ⟨⟨N,rfl⟩,hb1⟩
  simp only [if_true]
  have bRR:Hid (BlkV w1 w.heap.size 0 0 0 ⟨#[]⟩):=BlkV.below (by constructor<;>simp (maxDischargeDepth:=12) [go_sem]) hb1 (by simp)
  have hB:Below w.heap.size w w1:=Below.trans (bdrewN k ((Below.refl _ w).alloc (Nat.le_refl _) _)) (hb1.mono (by simp))
  clear hb1
  obtain ⟨r0,r1,r2,r3,r4,r5,r6,r7⟩:=bRR.out
  go_wp2
  go_region
  all_goals
   go_wp2
   generalize hW9:World.setCell _ _ _=W9
   have b9:BlkV W9 w.heap.size 1 n 0 ⟨#[]⟩:=by rw [← hW9];exact bRR.out.four
   have hB9:Below w.heap.size w W9:=by rw [← hW9];exact (((hB.setCell (by simp) _).setCell (by simp) _).setCell (by simp) _).setCell (by simp) _
   clear hW9
   obtain ⟨x0,x1,x2,x3, -, -, -, -⟩:=b9
   refine bodyPost_ret (by simp [results,Tryz.results148,go_sem,x0,x1,x2,x3];try rfl) rfl ?_
   exact ⟨rfl,hB9.drew⟩
theorem guess_rat (s u D:ByteArray) (n d:Int) (ok:Bool) (w:World) (hp:Lib.hasPrefix s.data.toList [34]=false)
  (CU:Hid (∀ W:World,Calls Tryz.prog 147 #[.string s,.string ⟨#[47]⟩] W fun e w'=>e=.returned (.tuple #[.string u,.string D,.bool true])∧∃ k,w'=W.drewN k))
  (PI:Hid (∀ W:World,Calls Tryz.prog 184 #[.string u,.int .i64 10,.int .i64 64] W fun e w'=>e=.returned (.tuple #[.int .i64 n,.nilIface])∧Below W.heap.size W w'))
  (PD:Hid (∀ W:World,Errs W→Calls Tryz.prog 184 #[.string D,.int .i64 10,.int .i64 64] W fun e w'=>(∃ N,e=.returned (.tuple #[.int .i64 d,if ok=true then .nilIface else .iface 257 (.pointer (some ⟨N,0,none⟩))]))∧Below W.heap.size W w'))
  (he:Errs w) (h8:6≤w.heap.size):
  Calls Tryz.prog 148 #[.string s] w fun e w'=>e=.returned (.tuple #[.agg #[.int .i64 2,.int .i64 n,.int .i64 d,.string ⟨#[]⟩],.bool ok])∧Below w.heap.size w w':=by
 have HP:Hid (∀ W:World,Calls Tryz.prog 182 #[.string s,.string ⟨#[34]⟩] W fun e w'=>e=.returned (.bool false)∧w'=W):=fun W=>by
  have q:=Tryz.strings_HasPrefix s ⟨#[34]⟩ W
  rw [show (⟨#[34]⟩:ByteArray).data.toList=[34] from rfl,hp] at q
  exact q
 clear hp
 have HE:Hid (Errs w):=he
 clear he
 cases ok
 ·go_enter Tryz.func148,Tryz.ntmps148
  go_wp2_with fail
  refine (HP.out _).mono ?_
  rintro e w0 ⟨rfl,rfl⟩
  go_wp2_with fail
  refine (CU.out _).mono ?_
  rintro e w0 ⟨rfl,k,rfl⟩
  go_wp2_with fail
  refine (PI.out _).mono ?_
  rintro e w2 ⟨rfl,hb2⟩
  have b2:Hid (BlkV w2 w.heap.size 0 0 0 ⟨#[]⟩):=BlkV.below (by constructor<;>simp (maxDischargeDepth:=12) [go_sem]) hb2 (by simp)
  have B2:Below w.heap.size w w2:=Below.trans (bdrewN k ((Below.refl _ w).alloc (Nat.le_refl _) _)) (hb2.mono (by simp))
  have y2:w.heap.size<w2.heap.size:=by have zz:=hb2.size;simp at zz;omega
  clear hb2
  go_wp2_with fail
  refine (PD.out _ (HE.out.below B2 h8)).mono ?_
  rintro e w1 ⟨⟨N,rfl⟩,hb1⟩
  simp only [Bool.false_eq_true,if_false]
  have bRR:Hid (BlkV w1 w.heap.size 0 0 0 ⟨#[]⟩):=b2.out.below hb1 y2
  have hB:Below w.heap.size w w1:=B2.trans (hb1.mono B2.size)
  clear hb1 b2
  obtain ⟨r0,r1,r2,r3,r4,r5,r6,r7⟩:=bRR.out
  go_wp2
  go_region
  all_goals
   go_wp2
   generalize hW9:World.setCell _ _ _=W9
   have b9:BlkV W9 w.heap.size 2 n d ⟨#[]⟩:=by rw [← hW9];exact bRR.out.four
   have hB9:Below w.heap.size w W9:=by rw [← hW9];exact (((hB.setCell (by simp) _).setCell (by simp) _).setCell (by simp) _).setCell (by simp) _
   clear hW9
   obtain ⟨x0,x1,x2,x3, -, -, -, -⟩:=b9
   refine bodyPost_ret (by simp [results,Tryz.results148,go_sem,x0,x1,x2,x3];try rfl) rfl ?_
   exact ⟨rfl,hB9.drew⟩
 ·go_enter Tryz.func148,Tryz.ntmps148
  go_wp2_with fail
  refine (HP.out _).mono ?_
  rintro e w0 ⟨rfl,rfl⟩
  go_wp2_with fail
  refine (CU.out _).mono ?_
  rintro e w0 ⟨rfl,k,rfl⟩
  go_wp2_with fail
  refine (PI.out _).mono ?_
  rintro e w2 ⟨rfl,hb2⟩
  have b2:Hid (BlkV w2 w.heap.size 0 0 0 ⟨#[]⟩):=BlkV.below (by constructor<;>simp (maxDischargeDepth:=12) [go_sem]) hb2 (by simp)
  have B2:Below w.heap.size w w2:=Below.trans (bdrewN k ((Below.refl _ w).alloc (Nat.le_refl _) _)) (hb2.mono (by simp))
  have y2:w.heap.size<w2.heap.size:=by have zz:=hb2.size;simp at zz;omega
  clear hb2
  go_wp2_with fail
  refine (PD.out _ (HE.out.below B2 h8)).mono ?_
  rintro e w1 ⟨⟨N,rfl⟩,hb1⟩
  simp only [if_true]
  have bRR:Hid (BlkV w1 w.heap.size 0 0 0 ⟨#[]⟩):=b2.out.below hb1 y2
  have hB:Below w.heap.size w w1:=B2.trans (hb1.mono B2.size)
  clear hb1 b2
  obtain ⟨r0,r1,r2,r3,r4,r5,r6,r7⟩:=bRR.out
  go_wp2
  go_region
  all_goals
   go_wp2
   generalize hW9:World.setCell _ _ _=W9
   have b9:BlkV W9 w.heap.size 2 n d ⟨#[]⟩:=by rw [← hW9];exact bRR.out.four
   have hB9:Below w.heap.size w W9:=by rw [← hW9];exact (((hB.setCell (by simp) _).setCell (by simp) _).setCell (by simp) _).setCell (by simp) _
   clear hW9
   obtain ⟨x0,x1,x2,x3, -, -, -, -⟩:=b9
   refine bodyPost_ret (by simp [results,Tryz.results148,go_sem,x0,x1,x2,x3];try rfl) rfl ?_
   exact ⟨rfl,hB9.drew⟩
theorem guess_any (s:ByteArray) (w:World) (hs:s.size≤140737488355000) (he:Errs w) (h8:6≤w.heap.size):
  Calls Tryz.prog 148 #[.string s] w fun e w'=>e=.returned (.tuple #[.agg #[.int .i64 (gss s.data.toList).1.k,.int .i64 (gss s.data.toList).1.n,.int .i64 (gss s.data.toList).1.d,.string (gss s.data.toList).1.s],.bool (gss s.data.toList).2])∧Below w.heap.size w w':=by
 cases hp:Lib.hasPrefix s.data.toList [34]
 ·have pw:∀ (u:ByteArray),u.size≤140737488355328→Hid (∀ W:World,Errs W→Calls Tryz.prog 184 #[.string u,.int .i64 10,.int .i64 64] W fun e w'=>(∃ N,e=.returned (.tuple #[.int .i64 (pint u.data.toList).1,if (pint u.data.toList).2=true then .nilIface else .iface 257 (.pointer (some ⟨N,0,none⟩))]))∧Below W.heap.size W w'):=fun u hu W hW=>by
   cases hk:(pint u.data.toList).2
   ·refine (pi_no u W hu hk hW).mono ?_
    rintro e w' ⟨N,rfl,hb⟩
    exact ⟨⟨N,by simp⟩,hb⟩
   ·refine (pi_yes u W hu hk).mono ?_
    rintro e w' ⟨rfl,hb⟩
    exact ⟨⟨0,by simp⟩,hb⟩
  cases hc:(cutL s.data.toList).2.2
  ·have e0:gss s.data.toList=(⟨1,(pint s.data.toList).1,0,⟨#[]⟩⟩,(pint s.data.toList).2):=by simp [gss,hp,hc]
   rw [e0]
   exact guess_int s s ⟨#[]⟩ _ _ false w hp (fun W=>cut_no s W hc) (pw s (by omega)) (Or.inl rfl) he h8
  ·have hl:=cutL_yes _ hc
   have hsz:s.data.toList.length=s.size:=by simp
   have l1:(cutL s.data.toList).1.length≤s.size:=by have:=congrArg List.length hl.1;simp only [List.length_append,List.length_cons] at this;omega
   have l2:(cutL s.data.toList).2.1.length≤s.size:=by have:=congrArg List.length hl.1;simp only [List.length_append,List.length_cons] at this;omega
   have q1:=pw ⟨(cutL s.data.toList).1.toArray⟩ (by show (cutL s.data.toList).1.toArray.size≤_;simp;omega)
   have q2:=pw ⟨(cutL s.data.toList).2.1.toArray⟩ (by show (cutL s.data.toList).2.1.toArray.size≤_;simp;omega)
   cases hk:(pint (cutL s.data.toList).1).2
   ·have e0:gss s.data.toList=(⟨1,(pint (cutL s.data.toList).1).1,0,⟨#[]⟩⟩,false):=by simp [gss,hp,hc,hk]
    rw [e0]
    rw [show (⟨(cutL s.data.toList).1.toArray⟩:ByteArray).data.toList=(cutL s.data.toList).1 from rfl,hk] at q1
    exact guess_int s _ _ _ false true w hp (fun W=>cut_yes s W hc (by omega)) q1 (Or.inr rfl) he h8
   ·have e0:gss s.data.toList=(⟨2,(pint (cutL s.data.toList).1).1,(pint (cutL s.data.toList).2.1).1,⟨#[]⟩⟩,(pint (cutL s.data.toList).2.1).2):=by simp [gss,hp,hc,hk]
    rw [e0]
    refine guess_rat s ⟨(cutL s.data.toList).1.toArray⟩ ⟨(cutL s.data.toList).2.1.toArray⟩ _ _ _ w hp (fun W=>cut_yes s W hc (by omega)) (fun W=> ?_) q2 he h8
    exact pi_yes ⟨(cutL s.data.toList).1.toArray⟩ W (by show (cutL s.data.toList).1.toArray.size≤_;simp;omega) hk
 ·have e0:gss s.data.toList=(⟨3,0,0,outS (unqS (s.data.toList.drop 1))⟩,outB (unqS (s.data.toList.drop 1))):=by simp [gss,hp]
  rw [e0]
  exact guess_str s w hs hp he h8
theorem parse_no1 (s S:ByteArray) (k n d:Int) (ok:Bool) (w:World) (h1: -9223372036854775808≤n) (h2:n≤9223372036854775807) (g1: -9223372036854775808≤d) (g2:d≤9223372036854775807) (hS:S.size≤35184372088830)
  (GU:Hid (∀ W:World,Errs W→6≤W.heap.size→Calls Tryz.prog 148 #[.string s] W fun e w'=>e=.returned (.tuple #[.agg #[.int .i64 k,.int .i64 n,.int .i64 d,.string S],.bool ok])∧Below W.heap.size W w'))
  (ht:Pow w) (he:Errs w) (h8:6≤w.heap.size) (ho:ok=false):
  Calls Tryz.prog 117 #[.string s] w fun e w'=>e=.returned (.tuple #[.agg #[.int .i64 0,.int .i64 0,.int .i64 0,.string ⟨#[]⟩],.int .i64 70])∧Below w.heap.size w w':=by
 subst ho
 have HE:Hid (Errs w):=he
 clear he
 go_enter Tryz.func117,Tryz.ntmps117
 go_wp2_with fail
 refine (GU.out _ (HE.out.alloc h8 _) (by simp;omega)).mono ?_
 rintro e w1 ⟨rfl,hb1⟩
 have R1:Hid (BlkV w1 w.heap.size 0 0 0 ⟨#[]⟩):=BlkV.below (by constructor<;>simp (maxDischargeDepth:=12) [go_sem]) hb1 (by simp)
 have B1:Below w.heap.size w w1:=((Below.refl _ w).alloc (Nat.le_refl _) _).trans (hb1.mono (by simp))
 have z1:w.heap.size<w1.heap.size:=by have:=hb1.size;simp at this;omega
 clear hb1
 go_upto_region 2 with fail
 refine wp_world ?_
 intro W2 hW2
 have R2:Hid (BlkV W2 w.heap.size 0 0 0 ⟨#[]⟩):=by rw [hW2];exact R1.out.below ((Below.refl w1.heap.size w1).alloc (Nat.le_refl _) _) z1
 have B2:Below w.heap.size w W2:=by rw [hW2];exact B1.alloc B1.size _
 clear hW2 R1 B1 z1
 obtain ⟨r0,r1,r2,r3,r4,r5,r6,r7⟩:=R2.out
 go_wp2
 generalize hW9:World.setCell _ _ _=W9
 have b9:BlkV W9 w.heap.size 0 0 0 ⟨#[]⟩:=by rw [← hW9];exact R2.out.four
 have hB9:Below w.heap.size w W9:=by rw [← hW9];exact (((B2.setCell (by simp) _).setCell (by simp) _).setCell (by simp) _).setCell (by simp) _
 clear hW9
 obtain ⟨x0,x1,x2,x3, -, -, -, -⟩:=b9
 refine bodyPost_ret (by simp [results,Tryz.results117,go_sem,x0,x1,x2,x3];try rfl) rfl ?_
 exact ⟨rfl,hB9⟩
theorem parse_no2 (s S:ByteArray) (k n d:Int) (ok:Bool) (w:World) (h1: -9223372036854775808≤n) (h2:n≤9223372036854775807) (g1: -9223372036854775808≤d) (g2:d≤9223372036854775807) (hS:S.size≤35184372088830)
  (GU:Hid (∀ W:World,Errs W→6≤W.heap.size→Calls Tryz.prog 148 #[.string s] W fun e w'=>e=.returned (.tuple #[.agg #[.int .i64 k,.int .i64 n,.int .i64 d,.string S],.bool ok])∧Below W.heap.size W w'))
  (ht:Pow w) (he:Errs w) (h8:6≤w.heap.size) (ho:ok=true) (hp:pureB k n d S=false):
  Calls Tryz.prog 117 #[.string s] w fun e w'=>e=.returned (.tuple #[.agg #[.int .i64 0,.int .i64 0,.int .i64 0,.string ⟨#[]⟩],.int .i64 70])∧Below w.heap.size w w':=by
 subst ho
 have HE:Hid (Errs w):=he
 clear he
 go_enter Tryz.func117,Tryz.ntmps117
 go_wp2_with fail
 refine (GU.out _ (HE.out.alloc h8 _) (by simp;omega)).mono ?_
 rintro e w1 ⟨rfl,hb1⟩
 have R1:Hid (BlkV w1 w.heap.size 0 0 0 ⟨#[]⟩):=BlkV.below (by constructor<;>simp (maxDischargeDepth:=12) [go_sem]) hb1 (by simp)
 have B1:Below w.heap.size w w1:=((Below.refl _ w).alloc (Nat.le_refl _) _).trans (hb1.mono (by simp))
 have z1:w.heap.size<w1.heap.size:=by have:=hb1.size;simp at this;omega
 clear hb1
 go_wp2_with fail
 refine (pure_any k n d S _ h1 h2 g1 g2).mono ?_
 rintro e w2 ⟨rfl,hb2⟩
 rw [hp]
 have R2:Hid (BlkV w2 w.heap.size 0 0 0 ⟨#[]⟩):=(R1.out.below ((Below.refl w1.heap.size w1).alloc (Nat.le_refl _) _) z1).below hb2 (by simp;omega)
 have V2:Hid (BlkV w2 w1.heap.size k n d S):=BlkV.below (by constructor<;>simp (maxDischargeDepth:=12) [go_sem]) hb2 (by simp)
 have B2:Below w.heap.size w w2:=(B1.alloc (by omega) _).trans (hb2.mono (by simp;omega))
 have z2:w1.heap.size<w2.heap.size:=by have:=hb2.size;simp at this;omega
 clear R1 B1 hb2
 obtain ⟨r0,r1,r2,r3,r4,r5,r6,r7⟩:=R2.out
 go_wp2
 generalize hW9:World.setCell _ _ _=W9
 have b9:BlkV W9 w.heap.size 0 0 0 ⟨#[]⟩:=by rw [← hW9];exact R2.out.four
 have hB9:Below w.heap.size w W9:=by rw [← hW9];exact (((B2.setCell (by simp) _).setCell (by simp) _).setCell (by simp) _).setCell (by simp) _
 clear hW9
 obtain ⟨x0,x1,x2,x3, -, -, -, -⟩:=b9
 refine bodyPost_ret (by simp [results,Tryz.results117,go_sem,x0,x1,x2,x3];try rfl) rfl ?_
 exact ⟨rfl,hB9⟩
theorem parse_no3 (s S:ByteArray) (k n d:Int) (ok:Bool) (w:World) (h1: -9223372036854775808≤n) (h2:n≤9223372036854775807) (g1: -9223372036854775808≤d) (g2:d≤9223372036854775807) (hS:S.size≤35184372088830)
  (GU:Hid (∀ W:World,Errs W→6≤W.heap.size→Calls Tryz.prog 148 #[.string s] W fun e w'=>e=.returned (.tuple #[.agg #[.int .i64 k,.int .i64 n,.int .i64 d,.string S],.bool ok])∧Below W.heap.size W w'))
  (ht:Pow w) (he:Errs w) (h8:6≤w.heap.size) (ho:ok=true) (hp:pureB k n d S=true) (hq:((⟨(vtext k n d S).toArray⟩:ByteArray).toList==s.toList)=false):
  Calls Tryz.prog 117 #[.string s] w fun e w'=>e=.returned (.tuple #[.agg #[.int .i64 0,.int .i64 0,.int .i64 0,.string ⟨#[]⟩],.int .i64 70])∧Below w.heap.size w w':=by
 subst ho
 have HE:Hid (Errs w):=he
 clear he
 go_enter Tryz.func117,Tryz.ntmps117
 go_wp2_with fail
 refine (GU.out _ (HE.out.alloc h8 _) (by simp;omega)).mono ?_
 rintro e w1 ⟨rfl,hb1⟩
 have R1:Hid (BlkV w1 w.heap.size 0 0 0 ⟨#[]⟩):=BlkV.below (by constructor<;>simp (maxDischargeDepth:=12) [go_sem]) hb1 (by simp)
 have B1:Below w.heap.size w w1:=((Below.refl _ w).alloc (Nat.le_refl _) _).trans (hb1.mono (by simp))
 have z1:w.heap.size<w1.heap.size:=by have:=hb1.size;simp at this;omega
 clear hb1
 go_wp2_with fail
 refine (pure_any k n d S _ h1 h2 g1 g2).mono ?_
 rintro e w2 ⟨rfl,hb2⟩
 rw [hp]
 have R2:Hid (BlkV w2 w.heap.size 0 0 0 ⟨#[]⟩):=(R1.out.below ((Below.refl w1.heap.size w1).alloc (Nat.le_refl _) _) z1).below hb2 (by simp;omega)
 have V2:Hid (BlkV w2 w1.heap.size k n d S):=BlkV.below (by constructor<;>simp (maxDischargeDepth:=12) [go_sem]) hb2 (by simp)
 have B2:Below w.heap.size w w2:=(B1.alloc (by omega) _).trans (hb2.mono (by simp;omega))
 have z2:w1.heap.size<w2.heap.size:=by have:=hb2.size;simp at this;omega
 clear R1 B1 hb2
 obtain ⟨v0,v1,v2,v3, -, -, -, -⟩:=V2.out
 obtain ⟨T,eT⟩:∃ T:ByteArray,Hid ((⟨(vtext k n d S).toArray⟩:ByteArray)=T):=⟨_,rfl⟩
 have TX:Hid (∀ W:World,Pow W→Calls Tryz.prog 133 #[.agg #[.int .i64 k,.int .i64 n,.int .i64 d,.string S]] W fun e w'=>e=.returned (.string T)∧Below W.heap.size W w'):=fun W hW=>by
  have q:=text_any k n d S W h1 h2 g1 g2 hS hW
  rw [eT.out] at q
  exact q
 rw [eT.out] at hq
 clear eT
 go_wp2_with fail
 refine (TX.out _ (ht.below B2)).mono ?_
 rintro e w3 ⟨rfl,hb3⟩
 clear v0 v1 v2 v3
 have R3:Hid (BlkV w3 w.heap.size 0 0 0 ⟨#[]⟩):=R2.out.below hb3 (by omega)
 have V3:Hid (BlkV w3 w1.heap.size k n d S):=V2.out.below hb3 z2
 have B3:Below w.heap.size w w3:=B2.trans (hb3.mono B2.size)
 have z3:w1.heap.size<w3.heap.size:=by have:=hb3.size;omega
 clear R2 V2 B2 hb3
 obtain ⟨v0,v1,v2,v3, -, -, -, -⟩:=V3.out
 obtain ⟨r0,r1,r2,r3,r4,r5,r6,r7⟩:=R3.out
 go_wp2
 generalize hW9:World.setCell _ _ _=W9
 have b9:BlkV W9 w.heap.size 0 0 0 ⟨#[]⟩:=by rw [← hW9];exact R3.out.four
 have hB9:Below w.heap.size w W9:=by rw [← hW9];exact (((B3.setCell (by simp) _).setCell (by simp) _).setCell (by simp) _).setCell (by simp) _
 clear hW9
 obtain ⟨x0,x1,x2,x3, -, -, -, -⟩:=b9
 refine bodyPost_ret (by simp [results,Tryz.results117,go_sem,x0,x1,x2,x3];try rfl) rfl ?_
 exact ⟨rfl,hB9⟩
theorem parse_long (s S:ByteArray) (k n d:Int) (ok:Bool) (w:World) (h1: -9223372036854775808≤n) (h2:n≤9223372036854775807) (g1: -9223372036854775808≤d) (g2:d≤9223372036854775807) (hS:S.size≤35184372088830)
  (GU:Hid (∀ W:World,Errs W→6≤W.heap.size→Calls Tryz.prog 148 #[.string s] W fun e w'=>e=.returned (.tuple #[.agg #[.int .i64 k,.int .i64 n,.int .i64 d,.string S],.bool ok])∧Below W.heap.size W w'))
  (ht:Pow w) (he:Errs w) (h8:6≤w.heap.size) (C:Int) (ho:ok=true) (hp:pureB k n d S=true) (hq:(⟨(vtext k n d S).toArray⟩:ByteArray)=s) (hc:chk k n d S=C) (hC:(C != 0)=true):
  Calls Tryz.prog 117 #[.string s] w fun e w'=>e=.returned (.tuple #[.agg #[.int .i64 0,.int .i64 0,.int .i64 0,.string ⟨#[]⟩],.int .i64 C])∧Below w.heap.size w w':=by
 subst ho
 have HE:Hid (Errs w):=he
 clear he
 go_enter Tryz.func117,Tryz.ntmps117
 go_wp2_with fail
 refine (GU.out _ (HE.out.alloc h8 _) (by simp;omega)).mono ?_
 rintro e w1 ⟨rfl,hb1⟩
 have R1:Hid (BlkV w1 w.heap.size 0 0 0 ⟨#[]⟩):=BlkV.below (by constructor<;>simp (maxDischargeDepth:=12) [go_sem]) hb1 (by simp)
 have B1:Below w.heap.size w w1:=((Below.refl _ w).alloc (Nat.le_refl _) _).trans (hb1.mono (by simp))
 have z1:w.heap.size<w1.heap.size:=by have:=hb1.size;simp at this;omega
 clear hb1
 go_wp2_with fail
 refine (pure_any k n d S _ h1 h2 g1 g2).mono ?_
 rintro e w2 ⟨rfl,hb2⟩
 rw [hp]
 have R2:Hid (BlkV w2 w.heap.size 0 0 0 ⟨#[]⟩):=(R1.out.below ((Below.refl w1.heap.size w1).alloc (Nat.le_refl _) _) z1).below hb2 (by simp;omega)
 have V2:Hid (BlkV w2 w1.heap.size k n d S):=BlkV.below (by constructor<;>simp (maxDischargeDepth:=12) [go_sem]) hb2 (by simp)
 have B2:Below w.heap.size w w2:=(B1.alloc (by omega) _).trans (hb2.mono (by simp;omega))
 have z2:w1.heap.size<w2.heap.size:=by have:=hb2.size;simp at this;omega
 clear R1 B1 hb2
 obtain ⟨v0,v1,v2,v3, -, -, -, -⟩:=V2.out
 obtain ⟨T,eT⟩:∃ T:ByteArray,Hid ((⟨(vtext k n d S).toArray⟩:ByteArray)=T):=⟨_,rfl⟩
 have TX:Hid (∀ W:World,Pow W→Calls Tryz.prog 133 #[.agg #[.int .i64 k,.int .i64 n,.int .i64 d,.string S]] W fun e w'=>e=.returned (.string T)∧Below W.heap.size W w'):=fun W hW=>by
  have q:=text_any k n d S W h1 h2 g1 g2 hS hW
  rw [eT.out] at q
  exact q
 rw [eT.out] at hq
 clear eT
 subst hq
 go_wp2_with fail
 refine (TX.out _ (ht.below B2)).mono ?_
 rintro e w3 ⟨rfl,hb3⟩
 clear v0 v1 v2 v3
 have R3:Hid (BlkV w3 w.heap.size 0 0 0 ⟨#[]⟩):=R2.out.below hb3 (by omega)
 have V3:Hid (BlkV w3 w1.heap.size k n d S):=V2.out.below hb3 z2
 have B3:Below w.heap.size w w3:=B2.trans (hb3.mono B2.size)
 have z3:w1.heap.size<w3.heap.size:=by have:=hb3.size;omega
 clear R2 V2 B2 hb3
 obtain ⟨v0,v1,v2,v3, -, -, -, -⟩:=V3.out
 obtain ⟨r0,r1,r2,r3,r4,r5,r6,r7⟩:=R3.out
 go_wp2_with fail
 refine (check_any k n d S _ h1 h2 g1 g2).mono ?_
 rintro e w4 ⟨rfl,hb4⟩
 rw [hc]
 clear v0 v1 v2 v3 r0 r1 r2 r3 r4 r5 r6 r7
 have R4:Hid (BlkV w4 w.heap.size 0 0 0 ⟨#[]⟩):=R3.out.below hb4 (by omega)
 have V4:Hid (BlkV w4 w1.heap.size k n d S):=V3.out.below hb4 z3
 have B4:Below w.heap.size w w4:=B3.trans (hb4.mono B3.size)
 clear R3 V3 B3 hb4
 obtain ⟨v0,v1,v2,v3, -, -, -, -⟩:=V4.out
 obtain ⟨r0,r1,r2,r3,r4,r5,r6,r7⟩:=R4.out
 go_wp2
 generalize hW9:World.setCell _ _ _=W9
 have b9:BlkV W9 w.heap.size 0 0 0 ⟨#[]⟩:=by rw [← hW9];exact R4.out.four
 have hB9:Below w.heap.size w W9:=by rw [← hW9];exact (((B4.setCell (by simp) _).setCell (by simp) _).setCell (by simp) _).setCell (by simp) _
 clear hW9
 obtain ⟨x0,x1,x2,x3, -, -, -, -⟩:=b9
 refine bodyPost_ret (by simp [results,Tryz.results117,go_sem,x0,x1,x2,x3];try rfl) rfl ?_
 exact ⟨rfl,hB9⟩
theorem parse_yes (s S:ByteArray) (k n d:Int) (ok:Bool) (w:World) (h1: -9223372036854775808≤n) (h2:n≤9223372036854775807) (g1: -9223372036854775808≤d) (g2:d≤9223372036854775807) (hS:S.size≤35184372088830)
  (GU:Hid (∀ W:World,Errs W→6≤W.heap.size→Calls Tryz.prog 148 #[.string s] W fun e w'=>e=.returned (.tuple #[.agg #[.int .i64 k,.int .i64 n,.int .i64 d,.string S],.bool ok])∧Below W.heap.size W w'))
  (ht:Pow w) (he:Errs w) (h8:6≤w.heap.size) (ho:ok=true) (hp:pureB k n d S=true) (hq:(⟨(vtext k n d S).toArray⟩:ByteArray)=s) (hc:chk k n d S=0):
  Calls Tryz.prog 117 #[.string s] w fun e w'=>e=.returned (.tuple #[.agg #[.int .i64 k,.int .i64 n,.int .i64 d,.string S],.int .i64 0])∧Below w.heap.size w w':=by
 subst ho
 have HE:Hid (Errs w):=he
 clear he
 go_enter Tryz.func117,Tryz.ntmps117
 go_wp2_with fail
 refine (GU.out _ (HE.out.alloc h8 _) (by simp;omega)).mono ?_
 rintro e w1 ⟨rfl,hb1⟩
 have R1:Hid (BlkV w1 w.heap.size 0 0 0 ⟨#[]⟩):=BlkV.below (by constructor<;>simp (maxDischargeDepth:=12) [go_sem]) hb1 (by simp)
 have B1:Below w.heap.size w w1:=((Below.refl _ w).alloc (Nat.le_refl _) _).trans (hb1.mono (by simp))
 have z1:w.heap.size<w1.heap.size:=by have:=hb1.size;simp at this;omega
 clear hb1
 go_wp2_with fail
 refine (pure_any k n d S _ h1 h2 g1 g2).mono ?_
 rintro e w2 ⟨rfl,hb2⟩
 rw [hp]
 have R2:Hid (BlkV w2 w.heap.size 0 0 0 ⟨#[]⟩):=(R1.out.below ((Below.refl w1.heap.size w1).alloc (Nat.le_refl _) _) z1).below hb2 (by simp;omega)
 have V2:Hid (BlkV w2 w1.heap.size k n d S):=BlkV.below (by constructor<;>simp (maxDischargeDepth:=12) [go_sem]) hb2 (by simp)
 have B2:Below w.heap.size w w2:=(B1.alloc (by omega) _).trans (hb2.mono (by simp;omega))
 have z2:w1.heap.size<w2.heap.size:=by have:=hb2.size;simp at this;omega
 clear R1 B1 hb2
 obtain ⟨v0,v1,v2,v3, -, -, -, -⟩:=V2.out
 obtain ⟨T,eT⟩:∃ T:ByteArray,Hid ((⟨(vtext k n d S).toArray⟩:ByteArray)=T):=⟨_,rfl⟩
 have TX:Hid (∀ W:World,Pow W→Calls Tryz.prog 133 #[.agg #[.int .i64 k,.int .i64 n,.int .i64 d,.string S]] W fun e w'=>e=.returned (.string T)∧Below W.heap.size W w'):=fun W hW=>by
  have q:=text_any k n d S W h1 h2 g1 g2 hS hW
  rw [eT.out] at q
  exact q
 rw [eT.out] at hq
 clear eT
 subst hq
 go_wp2_with fail
 refine (TX.out _ (ht.below B2)).mono ?_
 rintro e w3 ⟨rfl,hb3⟩
 clear v0 v1 v2 v3
 have R3:Hid (BlkV w3 w.heap.size 0 0 0 ⟨#[]⟩):=R2.out.below hb3 (by omega)
 have V3:Hid (BlkV w3 w1.heap.size k n d S):=V2.out.below hb3 z2
 have B3:Below w.heap.size w w3:=B2.trans (hb3.mono B2.size)
 have z3:w1.heap.size<w3.heap.size:=by have:=hb3.size;omega
 clear R2 V2 B2 hb3
 obtain ⟨v0,v1,v2,v3, -, -, -, -⟩:=V3.out
 obtain ⟨r0,r1,r2,r3,r4,r5,r6,r7⟩:=R3.out
 go_wp2_with fail
 refine (check_any k n d S _ h1 h2 g1 g2).mono ?_
 rintro e w4 ⟨rfl,hb4⟩
 rw [hc]
 clear v0 v1 v2 v3 r0 r1 r2 r3 r4 r5 r6 r7
 have R4:Hid (BlkV w4 w.heap.size 0 0 0 ⟨#[]⟩):=R3.out.below hb4 (by omega)
 have V4:Hid (BlkV w4 w1.heap.size k n d S):=V3.out.below hb4 z3
 have B4:Below w.heap.size w w4:=B3.trans (hb4.mono B3.size)
 clear R3 V3 B3 hb4
 obtain ⟨v0,v1,v2,v3, -, -, -, -⟩:=V4.out
 obtain ⟨r0,r1,r2,r3,r4,r5,r6,r7⟩:=R4.out
 go_wp2
 generalize hW9:World.setCell _ _ _=W9
 have b9:BlkV W9 w.heap.size k n d S:=by rw [← hW9];exact R4.out.four
 have hB9:Below w.heap.size w W9:=by rw [← hW9];exact (((B4.setCell (by simp) _).setCell (by simp) _).setCell (by simp) _).setCell (by simp) _
 clear hW9
 obtain ⟨x0,x1,x2,x3, -, -, -, -⟩:=b9
 refine bodyPost_ret (by simp [results,Tryz.results117,go_sem,x0,x1,x2,x3];try rfl) rfl ?_
 exact ⟨rfl,hB9⟩
def prs (l:List UInt8):Val×Int:=
 if (gss l).2=true∧pureB (gss l).1.k (gss l).1.n (gss l).1.d (gss l).1.s=true∧vtext (gss l).1.k (gss l).1.n (gss l).1.d (gss l).1.s=l then
  (if chk (gss l).1.k (gss l).1.n (gss l).1.d (gss l).1.s=0 then ((gss l).1,0) else (⟨0,0,0,⟨#[]⟩⟩,chk (gss l).1.k (gss l).1.n (gss l).1.d (gss l).1.s))
 else (⟨0,0,0,⟨#[]⟩⟩,70)
theorem gss_fits (l:List UInt8):(gss l).1.Fits:=by
 unfold gss
 split
 ·exact ⟨by simp,by simp,by simp,by simp⟩
 ·split
  ·exact ⟨(pint_fits _).1,(pint_fits _).2,by simp,by simp⟩
  ·split
   ·exact ⟨(pint_fits _).1,(pint_fits _).2,by simp,by simp⟩
   ·exact ⟨(pint_fits _).1,(pint_fits _).2,(pint_fits _).1,(pint_fits _).2⟩
theorem gss_size (l:List UInt8):(gss l).1.s.size≤l.length:=by
 unfold gss
 split
 ·show (outS (unqS (l.drop 1))).size≤l.length
  cases hu:unqS (l.drop 1) with
  | none=>simp [outS,ByteArray.size]
  | some x=>
   unfold unqS at hu
   split at hu
   ·have h1:=unq_len _ _ x (Nat.le_refl _) hu
    have h2:=trim_len (l.drop 1)
    have h3:(outS (some x)).size=x.length:=by simp [outS,ByteArray.size]
    have h4:(l.drop 1).length≤l.length:=by simp
    omega
   ·cases hu
 ·split
  ·exact Nat.zero_le _
  ·split<;>exact Nat.zero_le _
theorem parse_any (s:ByteArray) (w:World) (hs:s.size≤35184372088830) (ht:Pow w) (he:Errs w) (h8:6≤w.heap.size):
  Calls Tryz.prog 117 #[.string s] w fun e w'=>e=.returned (.tuple #[.agg #[.int .i64 (prs s.data.toList).1.k,.int .i64 (prs s.data.toList).1.n,.int .i64 (prs s.data.toList).1.d,.string (prs s.data.toList).1.s],.int .i64 (prs s.data.toList).2])∧Below w.heap.size w w':=by
 have hf:=gss_fits s.data.toList
 have hz:=gss_size s.data.toList
 have hl:s.data.toList.length=s.size:=by simp
 have GU:=fun (W:World) (g1:Errs W) (g2:6≤W.heap.size)=>guess_any s W (by omega) g1 g2
 unfold prs
 obtain ⟨g,hg⟩:∃ g,gss s.data.toList=g:=⟨_,rfl⟩
 rw [hg] at hf hz GU ⊢
 obtain ⟨⟨k,n,d,S⟩,ok⟩:=g
 dsimp only at hf hz GU ⊢
 cases ho:ok
 ·rw [if_neg (by simp)]
  exact parse_no1 s S k n d ok w hf.n1 hf.n2 hf.d1 hf.d2 (by omega) GU ht he h8 ho
 ·cases hp:pureB k n d S
  ·rw [if_neg (by simp)]
   exact parse_no2 s S k n d ok w hf.n1 hf.n2 hf.d1 hf.d2 (by omega) GU ht he h8 ho hp
  ·by_cases hq:vtext k n d S=s.data.toList
   ·have hq':(⟨(vtext k n d S).toArray⟩:ByteArray)=s:=(ba_eq hq.symm).symm
    rw [if_pos ⟨rfl,rfl,hq⟩]
    by_cases hc:chk k n d S=0
    ·rw [if_pos hc]
     exact parse_yes s S k n d ok w hf.n1 hf.n2 hf.d1 hf.d2 (by omega) GU ht he h8 ho hp hq' hc
    ·rw [if_neg hc]
     exact parse_long s S k n d ok w hf.n1 hf.n2 hf.d1 hf.d2 (by omega) GU ht he h8 _ ho hp hq' rfl (by simpa using hc)
   ·rw [if_neg (fun h=>hq h.2.2)]
    exact parse_no3 s S k n d ok w hf.n1 hf.n2 hf.d1 hf.d2 (by omega) GU ht he h8 ho hp (by simp only [toList_data];simpa using hq)
def cutC:List UInt8→List UInt8×List UInt8×Bool
 | []=>([],[],false)
 | c::r=>if c.toNat=44 then ([],r,true) else (c::(cutC r).1,(cutC r).2.1,(cutC r).2.2)
theorem cutC_no:∀ (l:List UInt8),(cutC l).2.2=false→cutC l=(l,[],false)∧Lib.indexByte l 44= -1
 | [],_=>⟨rfl,rfl⟩
 | c::r,h=>by
  unfold cutC at h ⊢
  by_cases hc:c.toNat=44
  ·rw [if_pos hc] at h;cases h
  ·rw [if_neg hc] at h ⊢
   obtain ⟨h1,h2⟩:=cutC_no r h
   have h3:(c==44)=false:=by simp;intro e;exact hc (by rw [e];rfl)
   refine ⟨by rw [h1], ?_⟩
   unfold Lib.indexByte
   rw [h3,h2]
   rfl
theorem cutC_yes:∀ (l:List UInt8),(cutC l).2.2=true→l=(cutC l).1++44::(cutC l).2.1∧Lib.indexByte l 44=((cutC l).1.length:Int)
 | [],h=>by cases h
 | c::r,h=>by
  unfold cutC at h ⊢
  by_cases hc:c.toNat=44
  ·rw [if_pos hc]
   have e:c=44:=UInt8.toNat_inj.1 hc
   subst e
   exact ⟨rfl,rfl⟩
  ·rw [if_neg hc] at h ⊢
   obtain ⟨h1,h2⟩:=cutC_yes r h
   have h3:(c==44)=false:=by simp;intro e;exact hc (by rw [e];rfl)
   refine ⟨by simp only [List.cons_append];rw [← h1], ?_⟩
   unfold Lib.indexByte
   rw [h3,h2]
   have h4:(((cutC r).1.length:Int)== -1)=false:=by simp
   simp [h4]
theorem comma_no (s:ByteArray) (w:World) (h:(cutC s.data.toList).2.2=false):
  Calls Tryz.prog 147 #[.string s,.string ⟨#[44]⟩] w fun e w'=>e=.returned (.tuple #[.string s,.string ⟨#[]⟩,.bool false])∧∃ k,w'=w.drewN k:=by
 have H:Hid (∀ W:World,Calls Tryz.prog 181 #[.string s,.string ⟨#[44]⟩] W fun e w'=>e=.returned (.tuple #[.string s,.string ⟨#[]⟩,.bool false])∧∃ k,w'=W.drewN k):=fun W=>by
  have I:Hid (∀ W:World,Calls Tryz.prog 209 #[.string s,.string ⟨#[44]⟩] W fun e w'=>e=.returned (.int .i64 (-1))∧w'=W):=fun W=>by
   have q:=Tryz.stringslite_Index_one s 44 W
   rw [(cutC_no _ h).2] at q
   exact q
  clear h
  go_enter Tryz.func181,Tryz.ntmps181
  go_wp2_with fail
  refine (I.out _).mono ?_
  rintro e w1 ⟨rfl,rfl⟩
  go_wp2
  refine bodyPost_ret (by simp [results,Tryz.results181,go_sem];try rfl) rfl ?_
  exact ⟨rfl,0,rfl⟩
 clear h
 go_enter Tryz.func147,Tryz.ntmps147
 go_wp2_with fail
 refine (H.out _).mono ?_
 rintro e w1 ⟨rfl,k,rfl⟩
 go_wp2
 refine bodyPost_ret (by simp [results,Tryz.results147,go_sem];try rfl) rfl ?_
 exact ⟨rfl,k,rfl⟩
theorem comma_yes (s:ByteArray) (w:World) (h:(cutC s.data.toList).2.2=true) (hs:s.size≤140737488355328):
  Calls Tryz.prog 147 #[.string s,.string ⟨#[44]⟩] w fun e w'=>e=.returned (.tuple #[.string ⟨(cutC s.data.toList).1.toArray⟩,.string ⟨(cutC s.data.toList).2.1.toArray⟩,.bool true])∧∃ k,w'=w.drewN k:=by
 obtain ⟨h1,h2⟩:=cutC_yes _ h
 obtain ⟨A,eA⟩:∃ A:ByteArray,Hid ((⟨(cutC s.data.toList).1.toArray⟩:ByteArray)=A):=⟨_,rfl⟩
 obtain ⟨B,eB⟩:∃ B:ByteArray,Hid ((⟨(cutC s.data.toList).2.1.toArray⟩:ByteArray)=B):=⟨_,rfl⟩
 obtain ⟨n,en⟩:∃ n:Nat,Hid ((cutC s.data.toList).1.length=n):=⟨_,rfl⟩
 have hl:s.data.toList.length=n+1+(cutC s.data.toList).2.1.length:=by
  have:=congrArg List.length h1
  rw [List.length_append,List.length_cons,en.out] at this
  omega
 have hsz:s.data.toList.length=s.size:=by simp
 have hn:n+1≤s.size:=by omega
 have x1:s.extract 0 n=A:=by
  rw [← eA.out]
  refine ba_eq ?_
  rw [ext_take s n (by omega)]
  generalize cutC s.data.toList=c at h1 en
  rw [h1,← en.out]
  simp
 have x2:s.extract (n+1) s.size=B:=by
  rw [← eB.out]
  refine ba_eq ?_
  rw [ext_drop s (n+1) hn]
  generalize cutC s.data.toList=c at h1 en
  rw [h1,← en.out,List.drop_append]
  simp
 rw [eA.out,eB.out]
 have H:Hid (∀ W:World,Calls Tryz.prog 181 #[.string s,.string ⟨#[44]⟩] W fun e w'=>e=.returned (.tuple #[.string A,.string B,.bool true])∧∃ k,w'=W.drewN k):=fun W=>by
  have I:Hid (∀ W:World,Calls Tryz.prog 209 #[.string s,.string ⟨#[44]⟩] W fun e w'=>e=.returned (.int .i64 n)∧w'=W):=fun W=>by
   have q:=Tryz.stringslite_Index_one s 44 W
   rw [h2,en.out] at q
   exact q
  clear h h1 h2 eA eB en hl hsz
  have z1:(⟨#[44]⟩:ByteArray).size=1:=rfl
  have hn0:(n:Int)≤s.size:=by omega
  have hn1:(n:Int)+1≤s.size:=by omega
  go_enter Tryz.func181,Tryz.ntmps181
  go_wp2_with fail
  refine (I.out _).mono ?_
  rintro e w1 ⟨rfl,rfl⟩
  go_wp2
  go_quiet (fail)
  go_wp2
  refine bodyPost_ret (by simp [results,Tryz.results181,go_sem];try rfl) rfl ?_
  exact ⟨rfl,nq,rfl⟩
 clear h h1 h2 eA eB en x1 x2 hl hsz
 go_enter Tryz.func147,Tryz.ntmps147
 go_wp2_with fail
 refine (H.out _).mono ?_
 rintro e w1 ⟨rfl,k,rfl⟩
 go_wp2
 refine bodyPost_ret (by simp [results,Tryz.results147,go_sem];try rfl) rfl ?_
 exact ⟨rfl,k,rfl⟩
theorem comma_any (s:ByteArray) (w:World) (hs:s.size≤140737488355328):
  Calls Tryz.prog 147 #[.string s,.string ⟨#[44]⟩] w fun e w'=>e=.returned (.tuple #[.string ⟨(cutC s.data.toList).1.toArray⟩,.string ⟨(cutC s.data.toList).2.1.toArray⟩,.bool (cutC s.data.toList).2.2])∧∃ k,w'=w.drewN k:=by
 cases h:(cutC s.data.toList).2.2
 ·have q:=comma_no s w h
  rw [(cutC_no _ h).1]
  exact q
 ·exact comma_yes s w h hs
end Go.Proofs.YticnfeolbfmgfaaGreatDoor
namespace Go.Proofs.YticnfeolbfmgfaaGreatDoor
open Go.RowKit LX
def intAt (a:Act) (i:Nat):Int:=match a.tmps.getD i undef with | .int _ q=>q | _=>0
theorem run_yes (p:Nat→Bool) (h0:p 0=false) {l:List UInt8} {e:Nat} (h:p (hd (l.drop e))=true):e<l.length∧run p (l.drop e)=run p (l.drop (e+1))+1:=by
 by_cases he:e<l.length
 ·refine ⟨he, ?_⟩
  rw [List.drop_eq_getElem_cons he] at h ⊢
  simp only [hd] at h
  simp [run,h]
 ·rw [List.drop_eq_nil_of_le (by omega)] at h
  rw [hd,h0] at h
  cases h
theorem run_no (p:Nat→Bool) {l:List UInt8} (h:p (hd l)=false):run p l=0:=by
 cases l with
 | nil=>rfl
 | cons c t=>simp only [hd] at h;simp [run,h]
theorem num_yes {l:List UInt8} {e:Nat} (h:digN (hd (l.drop e))=true):e<l.length∧numLen (l.drop e)=numLen (l.drop (e+1))+1:=by
 obtain ⟨h1,h2⟩:=run_yes digN rfl h
 refine ⟨h1, ?_⟩
 unfold numLen
 rw [h2]
 simp only [List.drop_drop]
 rw [show e+(run digN (l.drop (e+1))+1)=e+1+run digN (l.drop (e+1)) by omega,show e+(run digN (l.drop (e+1))+1+1)=e+1+(run digN (l.drop (e+1))+1) by omega]
 split<;>omega
theorem num_no {l:List UInt8} {e:Nat} (h:digN (hd (l.drop e))=false):numLen (l.drop e)=if hd (l.drop e)=47∧digN (hd (l.drop (e+1)))=true then 1+run digN (l.drop (e+1)) else 0:=by
 unfold numLen
 rw [run_no digN h]
 simp only [List.drop_drop,Nat.add_zero,Nat.zero_add]
theorem numeral_any (s:ByteArray) (i:Nat) (w:World) (hs:s.size≤16384) (hi:i≤s.size):
  Calls Tryz.prog 112 #[.string s,.int .i64 i] w fun e w'=>e=.returned (.int .i64 (i+numLen (s.data.toList.drop i):Nat))∧w'=w:=by
 have hl:s.data.toList.length=s.size:=by simp
 have PK:Hid (∀ (e:Nat) (W:World),Calls Tryz.prog 111 #[.string s,.int .i64 e] W fun x w'=>x=.returned (.int .u8 (hd (s.data.toList.drop e)))∧w'=W):=fun e W=>peek_any s e W
 have DG:Hid (∀ (e:Nat) (W:World),Calls Tryz.prog 110 #[.int .u8 (hd (s.data.toList.drop e))] W fun x w'=>x=.returned (.bool (digN (hd (s.data.toList.drop e))))∧w'=W):=fun e W=>digit_any _ W (hd_lt _)
 obtain ⟨R,eR⟩:∃ R,Hid (i+numLen (s.data.toList.drop i)=R):=⟨_,rfl⟩
 rw [eR.out]
 go_enter Tryz.func112,Tryz.ntmps112
 go_wp2
 refine wp_scope_from 0 (fun l a w'=>w'=w∧∃ (e:Nat) (u2 u3 u4 u5 u6 u7 u8 u9 u10 u11 u12 u13 u14 u15 u16 u17 u18 u19 u20 u21 u22 u23 u24 u25 u26 u27 u28 u29 u30 u31:Value),a={tmps:=#[.string s,.int .i64 (e:Nat),u2,u3,u4,u5,u6,u7,u8,u9,u10,u11,u12,u13,u14,u15,u16,u17,u18,u19,u20,u21,u22,u23,u24,u25,u26,u27,u28,u29,u30,u31],defers:=[]}∧e≤s.size∧((l=0∧Hid (e+numLen (s.data.toList.drop e)=R))∨(l=1∧Hid (e+run digN (s.data.toList.drop e)=R)))) (fun _ a _=>(s.size - intAt a 1).toNat) rfl ?_ ?_
 ·exact ⟨rfl,i,_,_,_,_,_,_,_,_,_,_,_,_,_,_,_,_,_,_,_,_,_,_,_,_,_,_,_,_,_,_,rfl,hi,.inl ⟨rfl,eR⟩⟩
 ·rintro l a w' ⟨rfl,e,u2,u3,u4,u5,u6,u7,u8,u9,u10,u11,u12,u13,u14,u15,u16,u17,u18,u19,u20,u21,u22,u23,u24,u25,u26,u27,u28,u29,u30,u31,rfl,he,⟨rfl,hR⟩ | ⟨rfl,hR⟩⟩
  ·refine ⟨_,rfl, ?_⟩
   go_wp2_with fail
   refine (PK.out e _).mono ?_
   rintro x w1 ⟨rfl,rfl⟩
   go_wp2_with fail
   refine (DG.out e _).mono ?_
   rintro x w1 ⟨rfl,rfl⟩
   cases hd0:digN (hd (s.data.toList.drop e))
   ·go_wp2_with fail
    refine (PK.out e _).mono ?_
    rintro x w1 ⟨rfl,rfl⟩
    by_cases h47:hd (s.data.toList.drop e)=47
    ·have h47':((hd (s.data.toList.drop e):Nat):Int)=47:=by omega
     have hlt:e<s.size:=by
      apply Classical.byContradiction
      intro hn
      rw [hd_end s e (by omega)] at h47
      cases h47
     go_wp2_with fail
     refine (PK.out (e+1) _).mono ?_
     rintro x w1 ⟨rfl,rfl⟩
     go_wp2_with fail
     refine (DG.out (e+1) _).mono ?_
     rintro x w1 ⟨rfl,rfl⟩
     cases hd1:digN (hd (s.data.toList.drop (e+1)))
     ·go_wp2
      have hr:=num_no hd0
      rw [if_neg (by rw [hd1];simp)] at hr
      have hR':=hR.out
      simp only [Exit.jumps]
      go_ret
      exact ⟨reti (by omega),rfl⟩
     ·go_wp2
      go_step3
      have hr:=num_no hd0
      rw [if_pos ⟨h47,hd1⟩] at hr
      have hR':=hR.out
      refine ⟨⟨rfl,e+1,_,_,_,_,_,_,_,_,_,_,_,_,_,_,_,_,_,_,_,_,_,_,_,_,_,_,_,_,_,_,rfl,by omega,.inr ⟨rfl,(show _=_ by omega)⟩⟩, ?_⟩
      simp [intAt]
      omega
    ·have h47':¬ ((hd (s.data.toList.drop e):Nat):Int)=47:=by omega
     go_wp2
     have hr:=num_no hd0
     rw [if_neg (by intro hx;exact h47 hx.1)] at hr
     have hR':=hR.out
     simp only [Exit.jumps]
     go_ret
     exact ⟨reti (by omega),rfl⟩
   ·obtain ⟨g1,g2⟩:=num_yes hd0
    rw [hl] at g1
    go_wp2
    go_step3
    have hR':=hR.out
    refine ⟨⟨rfl,e+1,_,_,_,_,_,_,_,_,_,_,_,_,_,_,_,_,_,_,_,_,_,_,_,_,_,_,_,_,_,_,rfl,by omega,.inl ⟨rfl,(show _=_ by omega)⟩⟩, ?_⟩
    simp [intAt]
    omega
  ·refine ⟨_,rfl, ?_⟩
   go_wp2_with fail
   refine (PK.out e _).mono ?_
   rintro x w1 ⟨rfl,rfl⟩
   go_wp2_with fail
   refine (DG.out e _).mono ?_
   rintro x w1 ⟨rfl,rfl⟩
   cases hd0:digN (hd (s.data.toList.drop e))
   ·go_wp2
    have hr:=run_no digN hd0
    have hR':=hR.out
    simp only [Exit.jumps]
    go_ret
    exact ⟨reti (by omega),rfl⟩
   ·obtain ⟨g1,g2⟩:=run_yes digN rfl hd0
    rw [hl] at g1
    go_wp2
    go_step3
    have hR':=hR.out
    refine ⟨⟨rfl,e+1,_,_,_,_,_,_,_,_,_,_,_,_,_,_,_,_,_,_,_,_,_,_,_,_,_,_,_,_,_,_,rfl,by omega,.inr ⟨rfl,(show _=_ by omega)⟩⟩, ?_⟩
    simp [intAt]
    omega
theorem qend_nil (b:Bool) (l:List UInt8) (e:Nat) (h:l.length≤e):qend b (l.drop e)=none:=by
 rw [List.drop_eq_nil_of_le h];cases b<;>rfl
theorem qend_pair (s:ByteArray) (e:Nat) (h:e<s.size):qend true (s.data.toList.drop e)=(qend false (s.data.toList.drop (e+1))).map (·+1):=by
 have h':e<s.data.toList.length:=by simpa using h
 rw [List.drop_eq_getElem_cons h'];rfl
theorem qend_step (s:ByteArray) (e:Nat) (h:e<s.size):qend false (s.data.toList.drop e)=if s[e].toNat=34 then some 1 else (qend (s[e].toNat==92) (s.data.toList.drop (e+1))).map (·+1):=by
 have h':e<s.data.toList.length:=by simpa using h
 rw [List.drop_eq_getElem_cons h'];rfl
theorem map_next (x:Option Nat) (e:Nat):(x.map (·+1)).map (e+·)=x.map (e+1+·):=by
 cases x with
 | none=>rfl
 | some k=>simp;omega
theorem quoted_any (s:ByteArray) (i:Nat) (w:World) (hs:s.size≤16384) (hi:i≤s.size):
  Calls Tryz.prog 113 #[.string s,.int .i64 i] w fun e w'=>e=.returned (.tuple #[.int .i64 (((qend false (s.data.toList.drop i)).map (i+·)).elim 0 fun _=>6),.int .i64 (((qend false (s.data.toList.drop i)).map (i+·)).elim 0 fun k=>(k:Int))])∧w'=w:=by
 have hl:s.data.toList.length=s.size:=by simp
 obtain ⟨R,eR⟩:∃ R,Hid ((qend false (s.data.toList.drop i)).map (i+·)=R):=⟨_,rfl⟩
 rw [eR.out]
 go_enter Tryz.func113,Tryz.ntmps113
 go_wp2
 refine wp_scope_from 0 (fun l a w'=>w'=w∧∃ (e:Nat) (u2 u3 u4 u5 u6 u7 u8 u9 u10 u11 u12 u13 u14 u15 u16 u17 u18 u19 u20 u21 u22 u23 u24 u25 u26:Value),a={tmps:=#[.string s,.int .i64 (e:Nat),u2,u3,u4,u5,u6,u7,u8,u9,u10,u11,u12,u13,u14,u15,u16,u17,u18,u19,u20,u21,u22,u23,u24,u25,u26],defers:=[]}∧e≤s.size∧((l=0∧Hid ((qend false (s.data.toList.drop e)).map (e+·)=R))∨(l=1∧Hid ((qend true (s.data.toList.drop e)).map (e+·)=R)))) (fun _ a _=>(s.size - intAt a 1).toNat) rfl ?_ ?_
 ·exact ⟨rfl,i,_,_,_,_,_,_,_,_,_,_,_,_,_,_,_,_,_,_,_,_,_,_,_,_,_,rfl,hi,.inl ⟨rfl,eR⟩⟩
 ·rintro l a w' ⟨rfl,e,u2,u3,u4,u5,u6,u7,u8,u9,u10,u11,u12,u13,u14,u15,u16,u17,u18,u19,u20,u21,u22,u23,u24,u25,u26,rfl,he,⟨rfl,hR⟩ | ⟨rfl,hR⟩⟩
  ·refine ⟨_,rfl, ?_⟩
   by_cases hn:e=s.size
   ·have hn':(e:Int)=s.size:=by omega
    have hR':=hR.out
    rw [qend_nil _ _ _ (by omega)] at hR'
    simp at hR'
    subst hR'
    go_wp2
    simp only [Exit.jumps]
    refine bodyPost_ret (by simp [results,Tryz.results113,go_sem];try rfl) rfl ?_
    exact ⟨rfl,rfl⟩
   ·have hlt:e<s.size:=by omega
    have hn':¬ (e:Int)=s.size:=by omega
    have hR':=hR.out
    rw [qend_step s e hlt] at hR'
    clear hR
    by_cases h34:s[e].toNat=34
    ·have h34':((s[e].toNat:Nat):Int)=34:=by omega
     rw [if_pos h34] at hR'
     simp at hR'
     subst hR'
     go_wp2
     simp only [Exit.jumps]
     refine bodyPost_ret (by simp [results,Tryz.results113,go_sem];try rfl) rfl ?_
     exact ⟨rfl,rfl⟩
    ·have h34':¬ ((s[e].toNat:Nat):Int)=34:=by omega
     rw [if_neg h34,map_next] at hR'
     by_cases h92:s[e].toNat=92
     ·have h92':((s[e].toNat:Nat):Int)=92:=by omega
      rw [show (s[e].toNat==92)=true by rw [h92];rfl] at hR'
      go_wp2
      go_step3
      refine ⟨⟨rfl,e+1,_,_,_,_,_,_,_,_,_,_,_,_,_,_,_,_,_,_,_,_,_,_,_,_,_,rfl,by omega,.inr ⟨rfl,hR'⟩⟩, ?_⟩
      simp [intAt]
      omega
     ·have h92':¬ ((s[e].toNat:Nat):Int)=92:=by omega
      rw [show (s[e].toNat==92)=false by simpa using h92] at hR'
      go_wp2
      go_step3
      refine ⟨⟨rfl,e+1,_,_,_,_,_,_,_,_,_,_,_,_,_,_,_,_,_,_,_,_,_,_,_,_,_,rfl,by omega,.inl ⟨rfl,hR'⟩⟩, ?_⟩
      simp [intAt]
      omega
  ·refine ⟨_,rfl, ?_⟩
   by_cases hn:e=s.size
   ·have hn':(e:Int)=s.size:=by omega
    have hR':=hR.out
    rw [qend_nil _ _ _ (by omega)] at hR'
    simp at hR'
    subst hR'
    go_wp2
    simp only [Exit.jumps]
    refine bodyPost_ret (by simp [results,Tryz.results113,go_sem];try rfl) rfl ?_
    exact ⟨rfl,rfl⟩
   ·have hlt:e<s.size:=by omega
    have hn':¬ (e:Int)=s.size:=by omega
    have hR':=hR.out
    rw [qend_pair s e hlt,map_next] at hR'
    clear hR
    go_wp2
    go_step3
    refine ⟨⟨rfl,e+1,_,_,_,_,_,_,_,_,_,_,_,_,_,_,_,_,_,_,_,_,_,_,_,_,_,rfl,by omega,.inl ⟨rfl,hR'⟩⟩, ?_⟩
    simp [intAt]
    omega
end Go.Proofs.YticnfeolbfmgfaaGreatDoor
namespace Go.Proofs.YticnfeolbfmgfaaGreatDoor
open Go.RowKit LX
set_option linter.unusedVariables false
theorem brk_nil (l:List UInt8) (e:Nat) (h:l.length≤e):brk (l.drop e)=none:=by
 rw [List.drop_eq_nil_of_le h];rfl
theorem brk_step (s:ByteArray) (e:Nat) (h:e<s.size):brk (s.data.toList.drop e)=if s[e].toNat=93 then some 1 else (brk (s.data.toList.drop (e+1))).map (·+1):=by
 have h':e<s.data.toList.length:=by simpa using h
 rw [List.drop_eq_getElem_cons h'];rfl
structure FrB (a:Act) (s:ByteArray) (e:Nat):Prop where
 d:a.defers=[]
 n:a.tmps.size=100
 x0:a.tmps[0]? =some (.string s)
 x5:a.tmps[5]? =some (.int .i64 e)
theorem list_of (n:Nat) (l:List Value) (h:l.length=n):l=(List.range n).map (fun i=>l.getD i undef):=by
 subst h
 apply List.ext_getElem
 ·simp
 ·intro i h1 h2
  simp [List.getD,List.getElem?_eq_getElem h1]
theorem FrB.lit {a:Act} {s:ByteArray} {e:Nat} (h:FrB a s e):∃ u:Nat→Value,a={tmps:=#[.string s,u 1,u 2,u 3,u 4,.int .i64 (e:Nat),u 6,u 7,u 8,u 9,u 10,u 11,u 12,u 13,u 14,u 15,u 16,u 17,u 18,u 19,u 20,u 21,u 22,u 23,u 24,u 25,u 26,u 27,u 28,u 29,u 30,u 31,u 32,u 33,u 34,u 35,u 36,u 37,u 38,u 39,u 40,u 41,u 42,u 43,u 44,u 45,u 46,u 47,u 48,u 49,u 50,u 51,u 52,u 53,u 54,u 55,u 56,u 57,u 58,u 59,u 60,u 61,u 62,u 63,u 64,u 65,u 66,u 67,u 68,u 69,u 70,u 71,u 72,u 73,u 74,u 75,u 76,u 77,u 78,u 79,u 80,u 81,u 82,u 83,u 84,u 85,u 86,u 87,u 88,u 89,u 90,u 91,u 92,u 93,u 94,u 95,u 96,u 97,u 98,u 99],defers:=[]}:=by
 obtain ⟨t,d⟩:=a
 obtain ⟨h1,h2,h3,h4⟩:=h
 dsimp only at h1 h2 h3 h4
 subst h1
 obtain ⟨l⟩:=t
 have h2':l.length=100:=by simpa using h2
 have hl:=list_of 100 l h2'
 have e0:l.getD 0 undef=.string s:=by have:l[0]? =some (Value.string s):=by simpa using h3
                                      simp [List.getD,this]
 have e5:l.getD 5 undef=.int .i64 e:=by have:l[5]? =some (Value.int .i64 e):=by simpa using h4
                                        simp [List.getD,this]
 refine ⟨fun i=>l.getD i undef, ?_⟩
 rw [← e0,← e5]
 congr 1
 exact congrArg Array.mk hl
theorem drop_at (s:ByteArray) (i:Nat) (h:i<s.size):s.data.toList.drop i=s[i]::s.data.toList.drop (i+1):=by
 have h':i<s.data.toList.length:=by simpa using h
 rw [List.drop_eq_getElem_cons h'];rfl
theorem behind_40 (s:ByteArray) (i:Nat) (w:World) (hs:s.size≤16384) (hi:i<s.size) (h:s[i].toNat=40):
  Calls Tryz.prog 71 #[.string s,.int .i64 i] w fun e w'=>e=.returned (.tuple #[.int .i64 1,.int .i64 ((i+1:Nat):Int)])∧w'=w:=by
 have hl:s.data.toList.length=s.size:=by simp
 have h40':((s[i].toNat:Nat):Int)=40:=by omega
 go_enter Tryz.func71,Tryz.ntmps71
 go_wp2
 refine wp_scope_gotos (fun _ _ _=>False) (fun _ _ _=>0) ?_ ?_
 ·intro l a w h;exact h.elim
 ·intro _
  go_wp2
  simp only [Exit.jumps]
  refine bodyPost_ret (by simp [results,Tryz.results71,go_sem];try rfl) rfl ?_
  exact ⟨rfl,rfl⟩
theorem behind_41 (s:ByteArray) (i:Nat) (w:World) (hs:s.size≤16384) (hi:i<s.size) (h:s[i].toNat=41):
  Calls Tryz.prog 71 #[.string s,.int .i64 i] w fun e w'=>e=.returned (.tuple #[.int .i64 2,.int .i64 ((i+1:Nat):Int)])∧w'=w:=by
 have hl:s.data.toList.length=s.size:=by simp
 have h41':((s[i].toNat:Nat):Int)=41:=by omega
 have n40:¬ ((s[i].toNat:Nat):Int)=40:=by omega
 go_enter Tryz.func71,Tryz.ntmps71
 go_wp2
 refine wp_scope_gotos (fun _ _ _=>False) (fun _ _ _=>0) ?_ ?_
 ·intro l a w h;exact h.elim
 ·intro _
  go_wp2
  simp only [Exit.jumps]
  refine bodyPost_ret (by simp [results,Tryz.results71,go_sem];try rfl) rfl ?_
  exact ⟨rfl,rfl⟩
theorem behind_dig (s:ByteArray) (i:Nat) (w:World) (hs:s.size≤16384) (hi:i<s.size) (hA:lowN s[i].toNat=false) (hD:digN s[i].toNat=true):
  Calls Tryz.prog 71 #[.string s,.int .i64 i] w fun e w'=>e=.returned (.tuple #[.int .i64 6,.int .i64 ((i+1+numLen (s.data.toList.drop (i+1)):Nat):Int)])∧w'=w:=by
 have hl:s.data.toList.length=s.size:=by simp
 have hDD:48≤s[i].toNat∧s[i].toNat≤57:=by simpa [digN] using hD
 have n40:¬ ((s[i].toNat:Nat):Int)=40:=by omega
 have n41:¬ ((s[i].toNat:Nat):Int)=41:=by omega
 have A:Hid (∀ (v:Int) (W:World),v=(s[i].toNat:Int)→Calls Tryz.prog 109 #[.int .u8 v] W fun e w'=>e=.returned (.bool false)∧w'=W):=fun v W h=>by
  rw [h];have q:=letter_any s[i].toNat W s[i].toNat_lt;rw [hA] at q;exact q
 have D:Hid (∀ (v:Int) (W:World),v=(s[i].toNat:Int)→Calls Tryz.prog 110 #[.int .u8 v] W fun e w'=>e=.returned (.bool true)∧w'=W):=fun v W h=>by
  rw [h];have q:=digit_any s[i].toNat W s[i].toNat_lt;rw [hD] at q;exact q
 have NU:Hid (∀ W:World,Calls Tryz.prog 112 #[.string s,.int .i64 ((i+1:Nat):Int)] W fun e w'=>e=.returned (.int .i64 (i+1+numLen (s.data.toList.drop (i+1)):Nat))∧w'=W):=fun W=>numeral_any s (i+1) W hs (by omega)
 go_enter Tryz.func71,Tryz.ntmps71
 go_wp2
 refine wp_scope_gotos (fun _ _ _=>False) (fun _ _ _=>0) ?_ ?_
 ·intro l a w h;exact h.elim
 ·intro _
  go_wp2_with fail
  refine (A.out _ _ (by omega)).mono ?_
  rintro x w1 ⟨rfl,rfl⟩
  go_wp2_with fail
  refine (D.out _ _ (by omega)).mono ?_
  rintro x w1 ⟨rfl,rfl⟩
  go_wp2_with fail
  refine (NU.out _).mono ?_
  rintro x w1 ⟨rfl,rfl⟩
  go_wp2
  simp only [Exit.jumps]
  refine bodyPost_ret (by simp [results,Tryz.results71,go_sem];try rfl) rfl ?_
  exact ⟨rfl,rfl⟩
theorem behind_neg (s:ByteArray) (i:Nat) (w:World) (hs:s.size≤16384) (hi:i<s.size) (hA:lowN s[i].toNat=false) (hD:digN s[i].toNat=false) (h:s[i].toNat=45) (hP:digN (hd (s.data.toList.drop (i+1)))=true):
  Calls Tryz.prog 71 #[.string s,.int .i64 i] w fun e w'=>e=.returned (.tuple #[.int .i64 6,.int .i64 ((i+1+numLen (s.data.toList.drop (i+1)):Nat):Int)])∧w'=w:=by
 have hl:s.data.toList.length=s.size:=by simp
 have h45':((s[i].toNat:Nat):Int)=45:=by omega
 have n40:¬ ((s[i].toNat:Nat):Int)=40:=by omega
 have n41:¬ ((s[i].toNat:Nat):Int)=41:=by omega
 have A:Hid (∀ (v:Int) (W:World),v=(s[i].toNat:Int)→Calls Tryz.prog 109 #[.int .u8 v] W fun e w'=>e=.returned (.bool false)∧w'=W):=fun v W h=>by
  rw [h];have q:=letter_any s[i].toNat W s[i].toNat_lt;rw [hA] at q;exact q
 have D:Hid (∀ (v:Int) (W:World),v=(s[i].toNat:Int)→Calls Tryz.prog 110 #[.int .u8 v] W fun e w'=>e=.returned (.bool false)∧w'=W):=fun v W h=>by
  rw [h];have q:=digit_any s[i].toNat W s[i].toNat_lt;rw [hD] at q;exact q
 have PK:Hid (∀ (e:Nat) (W:World),Calls Tryz.prog 111 #[.string s,.int .i64 e] W fun x w'=>x=.returned (.int .u8 (hd (s.data.toList.drop e)))∧w'=W):=fun e W=>peek_any s e W
 have DP:Hid (∀ (v:Int) (W:World),v=(hd (s.data.toList.drop (i+1)):Int)→Calls Tryz.prog 110 #[.int .u8 v] W fun x w'=>x=.returned (.bool true)∧w'=W):=fun v W h=>by
  rw [h];have q:=digit_any _ W (hd_lt (s.data.toList.drop (i+1)));rw [hP] at q;exact q
 have NU:Hid (∀ W:World,Calls Tryz.prog 112 #[.string s,.int .i64 ((i+1:Nat):Int)] W fun e w'=>e=.returned (.int .i64 (i+1+numLen (s.data.toList.drop (i+1)):Nat))∧w'=W):=fun W=>numeral_any s (i+1) W hs (by omega)
 go_enter Tryz.func71,Tryz.ntmps71
 go_wp2
 refine wp_scope_gotos (fun _ _ _=>False) (fun _ _ _=>0) ?_ ?_
 ·intro l a w h;exact h.elim
 ·intro _
  go_wp2_with fail
  refine (A.out _ _ (by omega)).mono ?_
  rintro x w1 ⟨rfl,rfl⟩
  go_wp2_with fail
  refine (D.out _ _ (by omega)).mono ?_
  rintro x w1 ⟨rfl,rfl⟩
  go_wp2_with fail
  refine (PK.out (i+1) _).mono ?_
  rintro x w1 ⟨rfl,rfl⟩
  go_wp2_with fail
  refine (DP.out _ _ (by omega)).mono ?_
  rintro x w1 ⟨rfl,rfl⟩
  go_wp2_with fail
  refine (NU.out _).mono ?_
  rintro x w1 ⟨rfl,rfl⟩
  go_wp2
  simp only [Exit.jumps]
  refine bodyPost_ret (by simp [results,Tryz.results71,go_sem];try rfl) rfl ?_
  exact ⟨rfl,rfl⟩
theorem behind_le (s:ByteArray) (i:Nat) (w:World) (hs:s.size≤16384) (hi:i<s.size) (hA:lowN s[i].toNat=false) (hD:digN s[i].toNat=false) (h:s[i].toNat=60) (hH:hd (s.data.toList.drop (i+1))=61):
  Calls Tryz.prog 71 #[.string s,.int .i64 i] w fun e w'=>e=.returned (.tuple #[.int .i64 4,.int .i64 ((i+2:Nat):Int)])∧w'=w:=by
 have hl:s.data.toList.length=s.size:=by simp
 have h60':((s[i].toNat:Nat):Int)=60:=by omega
 have n40:¬ ((s[i].toNat:Nat):Int)=40:=by omega
 have n41:¬ ((s[i].toNat:Nat):Int)=41:=by omega
 have n45:¬ ((s[i].toNat:Nat):Int)=45:=by omega
 have hH':((hd (s.data.toList.drop (i+1)):Nat):Int)=61:=by omega
 have A:Hid (∀ (v:Int) (W:World),v=(s[i].toNat:Int)→Calls Tryz.prog 109 #[.int .u8 v] W fun e w'=>e=.returned (.bool false)∧w'=W):=fun v W h=>by
  rw [h];have q:=letter_any s[i].toNat W s[i].toNat_lt;rw [hA] at q;exact q
 have D:Hid (∀ (v:Int) (W:World),v=(s[i].toNat:Int)→Calls Tryz.prog 110 #[.int .u8 v] W fun e w'=>e=.returned (.bool false)∧w'=W):=fun v W h=>by
  rw [h];have q:=digit_any s[i].toNat W s[i].toNat_lt;rw [hD] at q;exact q
 have PK:Hid (∀ (e:Nat) (W:World),Calls Tryz.prog 111 #[.string s,.int .i64 e] W fun x w'=>x=.returned (.int .u8 (hd (s.data.toList.drop e)))∧w'=W):=fun e W=>peek_any s e W
 go_enter Tryz.func71,Tryz.ntmps71
 go_wp2
 refine wp_scope_gotos (fun _ _ _=>False) (fun _ _ _=>0) ?_ ?_
 ·intro l a w h;exact h.elim
 ·intro _
  go_wp2_with fail
  refine (A.out _ _ (by omega)).mono ?_
  rintro x w1 ⟨rfl,rfl⟩
  go_wp2_with fail
  refine (D.out _ _ (by omega)).mono ?_
  rintro x w1 ⟨rfl,rfl⟩
  go_wp2_with fail
  refine (PK.out (i+1) _).mono ?_
  rintro x w1 ⟨rfl,rfl⟩
  go_wp2
  simp only [Exit.jumps]
  refine bodyPost_ret (by simp [results,Tryz.results71,go_sem];try rfl) rfl ?_
  exact ⟨rfl,rfl⟩
theorem behind_61 (s:ByteArray) (i:Nat) (w:World) (hs:s.size≤16384) (hi:i<s.size) (hA:lowN s[i].toNat=false) (hD:digN s[i].toNat=false) (h:s[i].toNat=61):
  Calls Tryz.prog 71 #[.string s,.int .i64 i] w fun e w'=>e=.returned (.tuple #[.int .i64 4,.int .i64 ((i+1:Nat):Int)])∧w'=w:=by
 have hl:s.data.toList.length=s.size:=by simp
 have h61':((s[i].toNat:Nat):Int)=61:=by omega
 have n40:¬ ((s[i].toNat:Nat):Int)=40:=by omega
 have n41:¬ ((s[i].toNat:Nat):Int)=41:=by omega
 have n45:¬ ((s[i].toNat:Nat):Int)=45:=by omega
 have n60:¬ ((s[i].toNat:Nat):Int)=60:=by omega
 have n43:¬ ((s[i].toNat:Nat):Int)=43:=by omega
 have n42:¬ ((s[i].toNat:Nat):Int)=42:=by omega
 have A:Hid (∀ (v:Int) (W:World),v=(s[i].toNat:Int)→Calls Tryz.prog 109 #[.int .u8 v] W fun e w'=>e=.returned (.bool false)∧w'=W):=fun v W h=>by
  rw [h];have q:=letter_any s[i].toNat W s[i].toNat_lt;rw [hA] at q;exact q
 have D:Hid (∀ (v:Int) (W:World),v=(s[i].toNat:Int)→Calls Tryz.prog 110 #[.int .u8 v] W fun e w'=>e=.returned (.bool false)∧w'=W):=fun v W h=>by
  rw [h];have q:=digit_any s[i].toNat W s[i].toNat_lt;rw [hD] at q;exact q
 go_enter Tryz.func71,Tryz.ntmps71
 go_wp2
 refine wp_scope_gotos (fun _ _ _=>False) (fun _ _ _=>0) ?_ ?_
 ·intro l a w h;exact h.elim
 ·intro _
  go_wp2_with fail
  refine (A.out _ _ (by omega)).mono ?_
  rintro x w1 ⟨rfl,rfl⟩
  go_wp2_with fail
  refine (D.out _ _ (by omega)).mono ?_
  rintro x w1 ⟨rfl,rfl⟩
  go_wp2
  simp only [Exit.jumps]
  refine bodyPost_ret (by simp [results,Tryz.results71,go_sem];try rfl) rfl ?_
  exact ⟨rfl,rfl⟩
theorem behind_43 (s:ByteArray) (i:Nat) (w:World) (hs:s.size≤16384) (hi:i<s.size) (hA:lowN s[i].toNat=false) (hD:digN s[i].toNat=false) (h:s[i].toNat=43):
  Calls Tryz.prog 71 #[.string s,.int .i64 i] w fun e w'=>e=.returned (.tuple #[.int .i64 4,.int .i64 ((i+1:Nat):Int)])∧w'=w:=by
 have hl:s.data.toList.length=s.size:=by simp
 have h43':((s[i].toNat:Nat):Int)=43:=by omega
 have n40:¬ ((s[i].toNat:Nat):Int)=40:=by omega
 have n41:¬ ((s[i].toNat:Nat):Int)=41:=by omega
 have n45:¬ ((s[i].toNat:Nat):Int)=45:=by omega
 have n60:¬ ((s[i].toNat:Nat):Int)=60:=by omega
 have n61:¬ ((s[i].toNat:Nat):Int)=61:=by omega
 have n42:¬ ((s[i].toNat:Nat):Int)=42:=by omega
 have A:Hid (∀ (v:Int) (W:World),v=(s[i].toNat:Int)→Calls Tryz.prog 109 #[.int .u8 v] W fun e w'=>e=.returned (.bool false)∧w'=W):=fun v W h=>by
  rw [h];have q:=letter_any s[i].toNat W s[i].toNat_lt;rw [hA] at q;exact q
 have D:Hid (∀ (v:Int) (W:World),v=(s[i].toNat:Int)→Calls Tryz.prog 110 #[.int .u8 v] W fun e w'=>e=.returned (.bool false)∧w'=W):=fun v W h=>by
  rw [h];have q:=digit_any s[i].toNat W s[i].toNat_lt;rw [hD] at q;exact q
 go_enter Tryz.func71,Tryz.ntmps71
 go_wp2
 refine wp_scope_gotos (fun _ _ _=>False) (fun _ _ _=>0) ?_ ?_
 ·intro l a w h;exact h.elim
 ·intro _
  go_wp2_with fail
  refine (A.out _ _ (by omega)).mono ?_
  rintro x w1 ⟨rfl,rfl⟩
  go_wp2_with fail
  refine (D.out _ _ (by omega)).mono ?_
  rintro x w1 ⟨rfl,rfl⟩
  go_wp2
  simp only [Exit.jumps]
  refine bodyPost_ret (by simp [results,Tryz.results71,go_sem];try rfl) rfl ?_
  exact ⟨rfl,rfl⟩
theorem behind_42 (s:ByteArray) (i:Nat) (w:World) (hs:s.size≤16384) (hi:i<s.size) (hA:lowN s[i].toNat=false) (hD:digN s[i].toNat=false) (h:s[i].toNat=42):
  Calls Tryz.prog 71 #[.string s,.int .i64 i] w fun e w'=>e=.returned (.tuple #[.int .i64 4,.int .i64 ((i+1:Nat):Int)])∧w'=w:=by
 have hl:s.data.toList.length=s.size:=by simp
 have h42':((s[i].toNat:Nat):Int)=42:=by omega
 have n40:¬ ((s[i].toNat:Nat):Int)=40:=by omega
 have n41:¬ ((s[i].toNat:Nat):Int)=41:=by omega
 have n45:¬ ((s[i].toNat:Nat):Int)=45:=by omega
 have n60:¬ ((s[i].toNat:Nat):Int)=60:=by omega
 have n61:¬ ((s[i].toNat:Nat):Int)=61:=by omega
 have n43:¬ ((s[i].toNat:Nat):Int)=43:=by omega
 have A:Hid (∀ (v:Int) (W:World),v=(s[i].toNat:Int)→Calls Tryz.prog 109 #[.int .u8 v] W fun e w'=>e=.returned (.bool false)∧w'=W):=fun v W h=>by
  rw [h];have q:=letter_any s[i].toNat W s[i].toNat_lt;rw [hA] at q;exact q
 have D:Hid (∀ (v:Int) (W:World),v=(s[i].toNat:Int)→Calls Tryz.prog 110 #[.int .u8 v] W fun e w'=>e=.returned (.bool false)∧w'=W):=fun v W h=>by
  rw [h];have q:=digit_any s[i].toNat W s[i].toNat_lt;rw [hD] at q;exact q
 go_enter Tryz.func71,Tryz.ntmps71
 go_wp2
 refine wp_scope_gotos (fun _ _ _=>False) (fun _ _ _=>0) ?_ ?_
 ·intro l a w h;exact h.elim
 ·intro _
  go_wp2_with fail
  refine (A.out _ _ (by omega)).mono ?_
  rintro x w1 ⟨rfl,rfl⟩
  go_wp2_with fail
  refine (D.out _ _ (by omega)).mono ?_
  rintro x w1 ⟨rfl,rfl⟩
  go_wp2
  simp only [Exit.jumps]
  refine bodyPost_ret (by simp [results,Tryz.results71,go_sem];try rfl) rfl ?_
  exact ⟨rfl,rfl⟩
theorem behind_lt (s:ByteArray) (i:Nat) (w:World) (hs:s.size≤16384) (hi:i<s.size) (hA:lowN s[i].toNat=false) (hD:digN s[i].toNat=false) (h:s[i].toNat=60) (hH:¬ hd (s.data.toList.drop (i+1))=61):
  Calls Tryz.prog 71 #[.string s,.int .i64 i] w fun e w'=>e=.returned (.tuple #[.int .i64 4,.int .i64 ((i+1:Nat):Int)])∧w'=w:=by
 have hl:s.data.toList.length=s.size:=by simp
 have h60':((s[i].toNat:Nat):Int)=60:=by omega
 have n40:¬ ((s[i].toNat:Nat):Int)=40:=by omega
 have n41:¬ ((s[i].toNat:Nat):Int)=41:=by omega
 have n45:¬ ((s[i].toNat:Nat):Int)=45:=by omega
 have n61:¬ ((s[i].toNat:Nat):Int)=61:=by omega
 have n43:¬ ((s[i].toNat:Nat):Int)=43:=by omega
 have n42:¬ ((s[i].toNat:Nat):Int)=42:=by omega
 have hH':¬ ((hd (s.data.toList.drop (i+1)):Nat):Int)=61:=by omega
 have A:Hid (∀ (v:Int) (W:World),v=(s[i].toNat:Int)→Calls Tryz.prog 109 #[.int .u8 v] W fun e w'=>e=.returned (.bool false)∧w'=W):=fun v W h=>by
  rw [h];have q:=letter_any s[i].toNat W s[i].toNat_lt;rw [hA] at q;exact q
 have D:Hid (∀ (v:Int) (W:World),v=(s[i].toNat:Int)→Calls Tryz.prog 110 #[.int .u8 v] W fun e w'=>e=.returned (.bool false)∧w'=W):=fun v W h=>by
  rw [h];have q:=digit_any s[i].toNat W s[i].toNat_lt;rw [hD] at q;exact q
 have PK:Hid (∀ (e:Nat) (W:World),Calls Tryz.prog 111 #[.string s,.int .i64 e] W fun x w'=>x=.returned (.int .u8 (hd (s.data.toList.drop e)))∧w'=W):=fun e W=>peek_any s e W
 go_enter Tryz.func71,Tryz.ntmps71
 go_wp2
 refine wp_scope_gotos (fun _ _ _=>False) (fun _ _ _=>0) ?_ ?_
 ·intro l a w h;exact h.elim
 ·intro _
  go_wp2_with fail
  refine (A.out _ _ (by omega)).mono ?_
  rintro x w1 ⟨rfl,rfl⟩
  go_wp2_with fail
  refine (D.out _ _ (by omega)).mono ?_
  rintro x w1 ⟨rfl,rfl⟩
  go_wp2_with fail
  refine (PK.out (i+1) _).mono ?_
  rintro x w1 ⟨rfl,rfl⟩
  go_wp2
  simp only [Exit.jumps]
  refine bodyPost_ret (by simp [results,Tryz.results71,go_sem];try rfl) rfl ?_
  exact ⟨rfl,rfl⟩
theorem behind_45 (s:ByteArray) (i:Nat) (w:World) (hs:s.size≤16384) (hi:i<s.size) (hA:lowN s[i].toNat=false) (hD:digN s[i].toNat=false) (h:s[i].toNat=45) (hP:digN (hd (s.data.toList.drop (i+1)))=false):
  Calls Tryz.prog 71 #[.string s,.int .i64 i] w fun e w'=>e=.returned (.tuple #[.int .i64 4,.int .i64 ((i+1:Nat):Int)])∧w'=w:=by
 have hl:s.data.toList.length=s.size:=by simp
 have h45':((s[i].toNat:Nat):Int)=45:=by omega
 have n40:¬ ((s[i].toNat:Nat):Int)=40:=by omega
 have n41:¬ ((s[i].toNat:Nat):Int)=41:=by omega
 have n60:¬ ((s[i].toNat:Nat):Int)=60:=by omega
 have n61:¬ ((s[i].toNat:Nat):Int)=61:=by omega
 have n43:¬ ((s[i].toNat:Nat):Int)=43:=by omega
 have n42:¬ ((s[i].toNat:Nat):Int)=42:=by omega
 have A:Hid (∀ (v:Int) (W:World),v=(s[i].toNat:Int)→Calls Tryz.prog 109 #[.int .u8 v] W fun e w'=>e=.returned (.bool false)∧w'=W):=fun v W h=>by
  rw [h];have q:=letter_any s[i].toNat W s[i].toNat_lt;rw [hA] at q;exact q
 have D:Hid (∀ (v:Int) (W:World),v=(s[i].toNat:Int)→Calls Tryz.prog 110 #[.int .u8 v] W fun e w'=>e=.returned (.bool false)∧w'=W):=fun v W h=>by
  rw [h];have q:=digit_any s[i].toNat W s[i].toNat_lt;rw [hD] at q;exact q
 have PK:Hid (∀ (e:Nat) (W:World),Calls Tryz.prog 111 #[.string s,.int .i64 e] W fun x w'=>x=.returned (.int .u8 (hd (s.data.toList.drop e)))∧w'=W):=fun e W=>peek_any s e W
 have DP:Hid (∀ (v:Int) (W:World),v=(hd (s.data.toList.drop (i+1)):Int)→Calls Tryz.prog 110 #[.int .u8 v] W fun x w'=>x=.returned (.bool false)∧w'=W):=fun v W h=>by
  rw [h];have q:=digit_any _ W (hd_lt (s.data.toList.drop (i+1)));rw [hP] at q;exact q
 go_enter Tryz.func71,Tryz.ntmps71
 go_wp2
 refine wp_scope_gotos (fun _ _ _=>False) (fun _ _ _=>0) ?_ ?_
 ·intro l a w h;exact h.elim
 ·intro _
  go_wp2_with fail
  refine (A.out _ _ (by omega)).mono ?_
  rintro x w1 ⟨rfl,rfl⟩
  go_wp2_with fail
  refine (D.out _ _ (by omega)).mono ?_
  rintro x w1 ⟨rfl,rfl⟩
  go_wp2_with fail
  refine (PK.out (i+1) _).mono ?_
  rintro x w1 ⟨rfl,rfl⟩
  go_wp2_with fail
  refine (DP.out _ _ (by omega)).mono ?_
  rintro x w1 ⟨rfl,rfl⟩
  go_wp2
  simp only [Exit.jumps]
  refine bodyPost_ret (by simp [results,Tryz.results71,go_sem];try rfl) rfl ?_
  exact ⟨rfl,rfl⟩
theorem behind_34 (s:ByteArray) (i:Nat) (w:World) (hs:s.size≤16384) (hi:i<s.size) (hA:lowN s[i].toNat=false) (hD:digN s[i].toNat=false) (h:s[i].toNat=34):
  Calls Tryz.prog 71 #[.string s,.int .i64 i] w fun e w'=>e=.returned (.tuple #[.int .i64 (((qend false (s.data.toList.drop (i+1))).map (i+1+·)).elim 0 fun _=>6),.int .i64 (((qend false (s.data.toList.drop (i+1))).map (i+1+·)).elim 0 fun k=>(k:Int))])∧w'=w:=by
 have hl:s.data.toList.length=s.size:=by simp
 have h34':((s[i].toNat:Nat):Int)=34:=by omega
 have n40:¬ ((s[i].toNat:Nat):Int)=40:=by omega
 have n41:¬ ((s[i].toNat:Nat):Int)=41:=by omega
 have n45:¬ ((s[i].toNat:Nat):Int)=45:=by omega
 have n60:¬ ((s[i].toNat:Nat):Int)=60:=by omega
 have n61:¬ ((s[i].toNat:Nat):Int)=61:=by omega
 have n43:¬ ((s[i].toNat:Nat):Int)=43:=by omega
 have n42:¬ ((s[i].toNat:Nat):Int)=42:=by omega
 have n91:¬ ((s[i].toNat:Nat):Int)=91:=by omega
 have A:Hid (∀ (v:Int) (W:World),v=(s[i].toNat:Int)→Calls Tryz.prog 109 #[.int .u8 v] W fun e w'=>e=.returned (.bool false)∧w'=W):=fun v W h=>by
  rw [h];have q:=letter_any s[i].toNat W s[i].toNat_lt;rw [hA] at q;exact q
 have D:Hid (∀ (v:Int) (W:World),v=(s[i].toNat:Int)→Calls Tryz.prog 110 #[.int .u8 v] W fun e w'=>e=.returned (.bool false)∧w'=W):=fun v W h=>by
  rw [h];have q:=digit_any s[i].toNat W s[i].toNat_lt;rw [hD] at q;exact q
 obtain ⟨R,eR⟩:∃ R,Hid ((qend false (s.data.toList.drop (i+1))).map (i+1+·)=R):=⟨_,rfl⟩
 have QU:Hid (∀ W:World,Calls Tryz.prog 113 #[.string s,.int .i64 ((i+1:Nat):Int)] W fun e w'=>e=.returned (.tuple #[.int .i64 (R.elim 0 fun _=>6),.int .i64 (R.elim 0 fun k=>(k:Int))])∧w'=W):=fun W=>by have q:=quoted_any s (i+1) W hs (by omega);rw [eR.out] at q;exact q
 rw [eR.out]
 obtain ⟨K,eK⟩:∃ K:Int,Hid ((R.elim 0 fun _=>6)=K):=⟨_,rfl⟩
 obtain ⟨E,eE⟩:∃ E:Int,Hid ((R.elim 0 fun k=>(k:Int))=E):=⟨_,rfl⟩
 rw [eK.out,eE.out] at QU ⊢
 go_enter Tryz.func71,Tryz.ntmps71
 go_wp2
 refine wp_scope_gotos (fun _ _ _=>False) (fun _ _ _=>0) ?_ ?_
 ·intro l a w h;exact h.elim
 ·intro _
  go_wp2_with fail
  refine (A.out _ _ (by omega)).mono ?_
  rintro x w1 ⟨rfl,rfl⟩
  go_wp2_with fail
  refine (D.out _ _ (by omega)).mono ?_
  rintro x w1 ⟨rfl,rfl⟩
  go_wp2_with fail
  refine (QU.out _).mono ?_
  rintro x w1 ⟨rfl,rfl⟩
  go_wp2
  simp only [Exit.jumps]
  refine bodyPost_ret (by simp [results,Tryz.results71,go_sem];try rfl) rfl ?_
  exact ⟨rfl,rfl⟩
theorem behind_no (s:ByteArray) (i:Nat) (w:World) (hs:s.size≤16384) (hi:i<s.size) (hA:lowN s[i].toNat=false) (hD:digN s[i].toNat=false) (m40:¬ s[i].toNat=40) (m41:¬ s[i].toNat=41) (m45:¬ s[i].toNat=45) (m60:¬ s[i].toNat=60) (m61:¬ s[i].toNat=61) (m43:¬ s[i].toNat=43) (m42:¬ s[i].toNat=42) (m91:¬ s[i].toNat=91) (m34:¬ s[i].toNat=34) (m64:¬ s[i].toNat=64):
  Calls Tryz.prog 71 #[.string s,.int .i64 i] w fun e w'=>e=.returned (.tuple #[.int .i64 0,.int .i64 0])∧w'=w:=by
 have hl:s.data.toList.length=s.size:=by simp
 have n40:¬ ((s[i].toNat:Nat):Int)=40:=by omega
 have n41:¬ ((s[i].toNat:Nat):Int)=41:=by omega
 have n45:¬ ((s[i].toNat:Nat):Int)=45:=by omega
 have n60:¬ ((s[i].toNat:Nat):Int)=60:=by omega
 have n61:¬ ((s[i].toNat:Nat):Int)=61:=by omega
 have n43:¬ ((s[i].toNat:Nat):Int)=43:=by omega
 have n42:¬ ((s[i].toNat:Nat):Int)=42:=by omega
 have n91:¬ ((s[i].toNat:Nat):Int)=91:=by omega
 have n34:¬ ((s[i].toNat:Nat):Int)=34:=by omega
 have n64:¬ ((s[i].toNat:Nat):Int)=64:=by omega
 have A:Hid (∀ (v:Int) (W:World),v=(s[i].toNat:Int)→Calls Tryz.prog 109 #[.int .u8 v] W fun e w'=>e=.returned (.bool false)∧w'=W):=fun v W h=>by
  rw [h];have q:=letter_any s[i].toNat W s[i].toNat_lt;rw [hA] at q;exact q
 have D:Hid (∀ (v:Int) (W:World),v=(s[i].toNat:Int)→Calls Tryz.prog 110 #[.int .u8 v] W fun e w'=>e=.returned (.bool false)∧w'=W):=fun v W h=>by
  rw [h];have q:=digit_any s[i].toNat W s[i].toNat_lt;rw [hD] at q;exact q
 go_enter Tryz.func71,Tryz.ntmps71
 go_wp2
 refine wp_scope_gotos (fun _ _ _=>False) (fun _ _ _=>0) ?_ ?_
 ·intro l a w h;exact h.elim
 ·intro _
  go_wp2_with fail
  refine (A.out _ _ (by omega)).mono ?_
  rintro x w1 ⟨rfl,rfl⟩
  go_wp2_with fail
  refine (D.out _ _ (by omega)).mono ?_
  rintro x w1 ⟨rfl,rfl⟩
  go_wp2
  simp only [Exit.jumps]
  refine bodyPost_ret (by simp [results,Tryz.results71,go_sem];try rfl) rfl ?_
  exact ⟨rfl,rfl⟩
theorem behind_word (s:ByteArray) (i:Nat) (w:World) (hs:s.size≤16384) (hi:i<s.size) (hA:lowN s[i].toNat=true):
  Calls Tryz.prog 71 #[.string s,.int .i64 i] w fun e w'=>e=.returned (.tuple #[.int .i64 3,.int .i64 ((i+1+run inwN (s.data.toList.drop (i+1)):Nat):Int)])∧w'=w:=by
 have hl:s.data.toList.length=s.size:=by simp
 have hAA:97≤s[i].toNat∧s[i].toNat≤122:=by simpa [lowN] using hA
 have n40:¬ ((s[i].toNat:Nat):Int)=40:=by omega
 have n41:¬ ((s[i].toNat:Nat):Int)=41:=by omega
 have A:Hid (∀ (v:Int) (W:World),v=(s[i].toNat:Int)→Calls Tryz.prog 109 #[.int .u8 v] W fun e w'=>e=.returned (.bool true)∧w'=W):=fun v W h=>by
  rw [h];have q:=letter_any s[i].toNat W s[i].toNat_lt;rw [hA] at q;exact q
 have PK:Hid (∀ (e:Nat) (W:World),Calls Tryz.prog 111 #[.string s,.int .i64 e] W fun x w'=>x=.returned (.int .u8 (hd (s.data.toList.drop e)))∧w'=W):=fun e W=>peek_any s e W
 have IW:Hid (∀ (e:Nat) (W:World),Calls Tryz.prog 114 #[.int .u8 (hd (s.data.toList.drop e))] W fun x w'=>x=.returned (.bool (inwN (hd (s.data.toList.drop e))))∧w'=W):=fun e W=>inword_any _ W (hd_lt _)
 obtain ⟨R,eR⟩:∃ R,Hid (i+1+run inwN (s.data.toList.drop (i+1))=R):=⟨_,rfl⟩
 rw [eR.out]
 go_enter Tryz.func71,Tryz.ntmps71
 go_wp2
 refine wp_scope_gotos (fun l a w'=>w'=w∧∃ e:Nat,FrB a s e∧e≤s.size∧l=0∧Hid (e+run inwN (s.data.toList.drop e)=R)) (fun _ a _=>(s.size - intAt a 5).toNat) ?_ ?_
 ·rintro l a w' ⟨rfl,e,hF,he,rfl,hR⟩
  obtain ⟨u,rfl⟩:=hF.lit
  refine ⟨_,rfl, ?_⟩
  go_wp2_with fail
  refine (PK.out e _).mono ?_
  rintro x w1 ⟨rfl,rfl⟩
  go_wp2_with fail
  refine (IW.out e _).mono ?_
  rintro x w1 ⟨rfl,rfl⟩
  cases hd0:inwN (hd (s.data.toList.drop e))
  ·go_wp2
   have hr:=run_no inwN hd0
   have hR':=hR.out
   have hRe:R=e:=by omega
   subst hRe
   simp only [Exit.jumps]
   refine bodyPost_ret (by simp [results,Tryz.results71,go_sem];try rfl) rfl ?_
   exact ⟨rfl,rfl⟩
  ·obtain ⟨g1,g2⟩:=run_yes inwN rfl hd0
   rw [hl] at g1
   go_wp2
   go_step3
   have hR':=hR.out
   refine ⟨⟨rfl,e+1,⟨rfl,rfl,rfl,rfl⟩,by omega,rfl,(show _=_ by omega)⟩, ?_⟩
   simp [intAt]
   omega
 ·intro _
  go_wp2_with fail
  refine (A.out _ _ (by omega)).mono ?_
  rintro x w1 ⟨rfl,rfl⟩
  go_wp2
  go_step3
  exact ⟨rfl,i+1,⟨rfl,rfl,rfl,rfl⟩,by omega,rfl,eR⟩
theorem behind_time (s:ByteArray) (i:Nat) (w:World) (hs:s.size≤16384) (hi:i<s.size) (hA:lowN s[i].toNat=false) (hD:digN s[i].toNat=false) (h:s[i].toNat=64):
  Calls Tryz.prog 71 #[.string s,.int .i64 i] w fun e w'=>e=.returned (.tuple #[.int .i64 7,.int .i64 ((i+1+run digN (s.data.toList.drop (i+1)):Nat):Int)])∧w'=w:=by
 have hl:s.data.toList.length=s.size:=by simp
 have h64':((s[i].toNat:Nat):Int)=64:=by omega
 have n40:¬ ((s[i].toNat:Nat):Int)=40:=by omega
 have n41:¬ ((s[i].toNat:Nat):Int)=41:=by omega
 have n45:¬ ((s[i].toNat:Nat):Int)=45:=by omega
 have n60:¬ ((s[i].toNat:Nat):Int)=60:=by omega
 have n61:¬ ((s[i].toNat:Nat):Int)=61:=by omega
 have n43:¬ ((s[i].toNat:Nat):Int)=43:=by omega
 have n42:¬ ((s[i].toNat:Nat):Int)=42:=by omega
 have n91:¬ ((s[i].toNat:Nat):Int)=91:=by omega
 have n34:¬ ((s[i].toNat:Nat):Int)=34:=by omega
 have A:Hid (∀ (v:Int) (W:World),v=(s[i].toNat:Int)→Calls Tryz.prog 109 #[.int .u8 v] W fun e w'=>e=.returned (.bool false)∧w'=W):=fun v W h=>by
  rw [h];have q:=letter_any s[i].toNat W s[i].toNat_lt;rw [hA] at q;exact q
 have D:Hid (∀ (v:Int) (W:World),v=(s[i].toNat:Int)→Calls Tryz.prog 110 #[.int .u8 v] W fun e w'=>e=.returned (.bool false)∧w'=W):=fun v W h=>by
  rw [h];have q:=digit_any s[i].toNat W s[i].toNat_lt;rw [hD] at q;exact q
 have PK:Hid (∀ (e:Nat) (W:World),Calls Tryz.prog 111 #[.string s,.int .i64 e] W fun x w'=>x=.returned (.int .u8 (hd (s.data.toList.drop e)))∧w'=W):=fun e W=>peek_any s e W
 have DG:Hid (∀ (e:Nat) (W:World),Calls Tryz.prog 110 #[.int .u8 (hd (s.data.toList.drop e))] W fun x w'=>x=.returned (.bool (digN (hd (s.data.toList.drop e))))∧w'=W):=fun e W=>digit_any _ W (hd_lt _)
 obtain ⟨R,eR⟩:∃ R,Hid (i+1+run digN (s.data.toList.drop (i+1))=R):=⟨_,rfl⟩
 rw [eR.out]
 go_enter Tryz.func71,Tryz.ntmps71
 go_wp2
 refine wp_scope_gotos (fun l a w'=>w'=w∧∃ e:Nat,FrB a s e∧e≤s.size∧l=2∧Hid (e+run digN (s.data.toList.drop e)=R)) (fun _ a _=>(s.size - intAt a 5).toNat) ?_ ?_
 ·rintro l a w' ⟨rfl,e,hF,he,rfl,hR⟩
  obtain ⟨u,rfl⟩:=hF.lit
  refine ⟨_,rfl, ?_⟩
  go_wp2_with fail
  refine (PK.out e _).mono ?_
  rintro x w1 ⟨rfl,rfl⟩
  go_wp2_with fail
  refine (DG.out e _).mono ?_
  rintro x w1 ⟨rfl,rfl⟩
  cases hd0:digN (hd (s.data.toList.drop e))
  ·go_wp2
   have hr:=run_no digN hd0
   have hR':=hR.out
   have hRe:R=e:=by omega
   subst hRe
   simp only [Exit.jumps]
   refine bodyPost_ret (by simp [results,Tryz.results71,go_sem];try rfl) rfl ?_
   exact ⟨rfl,rfl⟩
  ·obtain ⟨g1,g2⟩:=run_yes digN rfl hd0
   rw [hl] at g1
   go_wp2
   go_step3
   have hR':=hR.out
   refine ⟨⟨rfl,e+1,⟨rfl,rfl,rfl,rfl⟩,by omega,rfl,(show _=_ by omega)⟩, ?_⟩
   simp [intAt]
   omega
 ·intro _
  go_wp2_with fail
  refine (A.out _ _ (by omega)).mono ?_
  rintro x w1 ⟨rfl,rfl⟩
  go_wp2_with fail
  refine (D.out _ _ (by omega)).mono ?_
  rintro x w1 ⟨rfl,rfl⟩
  go_wp2
  go_step3
  exact ⟨rfl,i+1,⟨rfl,rfl,rfl,rfl⟩,by omega,rfl,eR⟩
theorem behind_91 (s:ByteArray) (i:Nat) (w:World) (hs:s.size≤16384) (hi:i<s.size) (hA:lowN s[i].toNat=false) (hD:digN s[i].toNat=false) (h:s[i].toNat=91):
  Calls Tryz.prog 71 #[.string s,.int .i64 i] w fun e w'=>e=.returned (.tuple #[.int .i64 (((brk (s.data.toList.drop (i+1))).map (i+1+·)).elim 0 fun _=>5),.int .i64 (((brk (s.data.toList.drop (i+1))).map (i+1+·)).elim 0 fun k=>(k:Int))])∧w'=w:=by
 have hl:s.data.toList.length=s.size:=by simp
 have h91':((s[i].toNat:Nat):Int)=91:=by omega
 have n40:¬ ((s[i].toNat:Nat):Int)=40:=by omega
 have n41:¬ ((s[i].toNat:Nat):Int)=41:=by omega
 have n45:¬ ((s[i].toNat:Nat):Int)=45:=by omega
 have n60:¬ ((s[i].toNat:Nat):Int)=60:=by omega
 have n61:¬ ((s[i].toNat:Nat):Int)=61:=by omega
 have n43:¬ ((s[i].toNat:Nat):Int)=43:=by omega
 have n42:¬ ((s[i].toNat:Nat):Int)=42:=by omega
 have A:Hid (∀ (v:Int) (W:World),v=(s[i].toNat:Int)→Calls Tryz.prog 109 #[.int .u8 v] W fun e w'=>e=.returned (.bool false)∧w'=W):=fun v W h=>by
  rw [h];have q:=letter_any s[i].toNat W s[i].toNat_lt;rw [hA] at q;exact q
 have D:Hid (∀ (v:Int) (W:World),v=(s[i].toNat:Int)→Calls Tryz.prog 110 #[.int .u8 v] W fun e w'=>e=.returned (.bool false)∧w'=W):=fun v W h=>by
  rw [h];have q:=digit_any s[i].toNat W s[i].toNat_lt;rw [hD] at q;exact q
 obtain ⟨R,eR⟩:∃ R,Hid ((brk (s.data.toList.drop (i+1))).map (i+1+·)=R):=⟨_,rfl⟩
 rw [eR.out]
 go_enter Tryz.func71,Tryz.ntmps71
 go_wp2
 refine wp_scope_gotos (fun l a w'=>w'=w∧∃ e:Nat,FrB a s e∧e≤s.size∧l=1∧Hid ((brk (s.data.toList.drop e)).map (e+·)=R)) (fun _ a _=>(s.size - intAt a 5).toNat) ?_ ?_
 ·rintro l a w' ⟨rfl,e,hF,he,rfl,hR⟩
  obtain ⟨u,rfl⟩:=hF.lit
  refine ⟨_,rfl, ?_⟩
  by_cases hn:e=s.size
  ·have hn':(e:Int)=s.size:=by omega
   have hR':=hR.out
   rw [brk_nil _ _ (by omega)] at hR'
   simp at hR'
   subst hR'
   go_wp2
   simp only [Exit.jumps]
   refine bodyPost_ret (by simp [results,Tryz.results71,go_sem];try rfl) rfl ?_
   exact ⟨rfl,rfl⟩
  ·have hlt:e<s.size:=by omega
   have hn':¬ (e:Int)=s.size:=by omega
   have hR':=hR.out
   rw [brk_step s e hlt] at hR'
   clear hR
   by_cases h93:s[e].toNat=93
   ·have h93':((s[e].toNat:Nat):Int)=93:=by omega
    rw [if_pos h93] at hR'
    simp at hR'
    subst hR'
    go_wp2
    simp only [Exit.jumps]
    refine bodyPost_ret (by simp [results,Tryz.results71,go_sem];try rfl) rfl ?_
    exact ⟨rfl,rfl⟩
   ·have h93':¬ ((s[e].toNat:Nat):Int)=93:=by omega
    rw [if_neg h93,map_next] at hR'
    go_wp2
    go_step3
    refine ⟨⟨rfl,e+1,⟨rfl,rfl,rfl,rfl⟩,by omega,rfl,hR'⟩, ?_⟩
    simp [intAt]
    omega
 ·intro _
  go_wp2_with fail
  refine (A.out _ _ (by omega)).mono ?_
  rintro x w1 ⟨rfl,rfl⟩
  go_wp2_with fail
  refine (D.out _ _ (by omega)).mono ?_
  rintro x w1 ⟨rfl,rfl⟩
  go_wp2
  go_step3
  exact ⟨rfl,i+1,⟨rfl,rfl,rfl,rfl⟩,by omega,rfl,eR⟩
theorem behind_any (s:ByteArray) (i:Nat) (w:World) (hs:s.size≤16384) (hi:i<s.size):
  Calls Tryz.prog 71 #[.string s,.int .i64 i] w fun e w'=>e=.returned (.tuple #[.int .i64 ((beh (s.data.toList.drop i)).1:Nat),.int .i64 ((if (beh (s.data.toList.drop i)).1=0 then 0 else i+(beh (s.data.toList.drop i)).2:Nat):Int)])∧w'=w:=by
 have hd0:=drop_at s i hi
 by_cases h1:s[i].toNat=40
 ·have e:beh (s.data.toList.drop i)=(1,1):=by rw [hd0,beh_cons,if_pos h1]
  rw [e];exact behind_40 s i w hs hi h1
 by_cases h2:s[i].toNat=41
 ·have e:beh (s.data.toList.drop i)=(2,1):=by rw [hd0,beh_cons,if_neg h1,if_pos h2]
  rw [e];exact behind_41 s i w hs hi h2
 cases hA:lowN s[i].toNat
 ·have h3:¬ lowN s[i].toNat=true:=by rw [hA];simp
  cases hD:digN s[i].toNat
  ·by_cases h45:s[i].toNat=45
   ·cases hP:digN (hd (s.data.toList.drop (i+1)))
    ·have e:beh (s.data.toList.drop i)=(4,1):=by rw [hd0,beh_cons,if_neg h1,if_neg h2,if_neg h3,if_neg (by rw [hD,hP];simp),if_neg (by omega),if_pos (by omega)]
     rw [e];exact behind_45 s i w hs hi hA hD h45 hP
    ·have e:beh (s.data.toList.drop i)=(6,1+numLen (s.data.toList.drop (i+1))):=by rw [hd0,beh_cons,if_neg h1,if_neg h2,if_neg h3,if_pos (by rw [hP,h45];simp)]
     rw [e];have q:=behind_neg s i w hs hi hA hD h45 hP
     rw [Nat.add_assoc] at q;exact q
   ·have h4:¬ (digN s[i].toNat || (s[i].toNat==45 && digN (hd (s.data.toList.drop (i+1)))))=true:=by rw [hD];simp [h45]
    by_cases h60:s[i].toNat=60
    ·by_cases hH:hd (s.data.toList.drop (i+1))=61
     ·have e:beh (s.data.toList.drop i)=(4,2):=by rw [hd0,beh_cons,if_neg h1,if_neg h2,if_neg h3,if_neg h4,if_pos ⟨h60,hH⟩]
      rw [e];exact behind_le s i w hs hi hA hD h60 hH
     ·have e:beh (s.data.toList.drop i)=(4,1):=by rw [hd0,beh_cons,if_neg h1,if_neg h2,if_neg h3,if_neg h4,if_neg (fun x=>hH x.2),if_pos (by omega)]
      rw [e];exact behind_lt s i w hs hi hA hD h60 hH
    ·have h5:¬ (s[i].toNat=60∧hd (s.data.toList.drop (i+1))=61):=fun x=>h60 x.1
     by_cases h61:s[i].toNat=61
     ·have e:beh (s.data.toList.drop i)=(4,1):=by rw [hd0,beh_cons,if_neg h1,if_neg h2,if_neg h3,if_neg h4,if_neg h5,if_pos (by omega)]
      rw [e];exact behind_61 s i w hs hi hA hD h61
     by_cases h43:s[i].toNat=43
     ·have e:beh (s.data.toList.drop i)=(4,1):=by rw [hd0,beh_cons,if_neg h1,if_neg h2,if_neg h3,if_neg h4,if_neg h5,if_pos (by omega)]
      rw [e];exact behind_43 s i w hs hi hA hD h43
     by_cases h42:s[i].toNat=42
     ·have e:beh (s.data.toList.drop i)=(4,1):=by rw [hd0,beh_cons,if_neg h1,if_neg h2,if_neg h3,if_neg h4,if_neg h5,if_pos (by omega)]
      rw [e];exact behind_42 s i w hs hi hA hD h42
     have h6:¬ (s[i].toNat=61∨s[i].toNat=43∨s[i].toNat=42∨s[i].toNat=60∨s[i].toNat=45):=by omega
     by_cases h91:s[i].toNat=91
     ·have q:=behind_91 s i w hs hi hA hD h91
      cases hb:brk (s.data.toList.drop (i+1)) with
      | none=>
       have e:beh (s.data.toList.drop i)=(0,0):=by rw [hd0,beh_cons,if_neg h1,if_neg h2,if_neg h3,if_neg h4,if_neg h5,if_neg h6,if_pos h91,hb];rfl
       rw [hb] at q;rw [e];exact q
      | some k=>
       have e:beh (s.data.toList.drop i)=(5,1+k):=by rw [hd0,beh_cons,if_neg h1,if_neg h2,if_neg h3,if_neg h4,if_neg h5,if_neg h6,if_pos h91,hb];rfl
       rw [hb] at q;rw [e];simp only [Option.map,Option.elim] at q;rw [Nat.add_assoc] at q;exact q
     by_cases h34:s[i].toNat=34
     ·have q:=behind_34 s i w hs hi hA hD h34
      cases hb:qend false (s.data.toList.drop (i+1)) with
      | none=>
       have e:beh (s.data.toList.drop i)=(0,0):=by rw [hd0,beh_cons,if_neg h1,if_neg h2,if_neg h3,if_neg h4,if_neg h5,if_neg h6,if_neg h91,if_pos h34,hb];rfl
       rw [hb] at q;rw [e];exact q
      | some k=>
       have e:beh (s.data.toList.drop i)=(6,1+k):=by rw [hd0,beh_cons,if_neg h1,if_neg h2,if_neg h3,if_neg h4,if_neg h5,if_neg h6,if_neg h91,if_pos h34,hb];rfl
       rw [hb] at q;rw [e];simp only [Option.map,Option.elim] at q;rw [Nat.add_assoc] at q;exact q
     by_cases h64:s[i].toNat=64
     ·have e:beh (s.data.toList.drop i)=(7,1+run digN (s.data.toList.drop (i+1))):=by rw [hd0,beh_cons,if_neg h1,if_neg h2,if_neg h3,if_neg h4,if_neg h5,if_neg h6,if_neg h91,if_neg h34,if_pos h64]
      rw [e];have q:=behind_time s i w hs hi hA hD h64
      rw [Nat.add_assoc] at q;exact q
     ·have e:beh (s.data.toList.drop i)=(0,0):=by rw [hd0,beh_cons,if_neg h1,if_neg h2,if_neg h3,if_neg h4,if_neg h5,if_neg h6,if_neg h91,if_neg h34,if_neg h64]
      rw [e];exact behind_no s i w hs hi hA hD h1 h2 h45 h60 h61 h43 h42 h91 h34 h64
  ·have e:beh (s.data.toList.drop i)=(6,1+numLen (s.data.toList.drop (i+1))):=by rw [hd0,beh_cons,if_neg h1,if_neg h2,if_neg h3,if_pos (by rw [hD];simp)]
   rw [e];have q:=behind_dig s i w hs hi hA hD
   rw [Nat.add_assoc] at q;exact q
 ·have e:beh (s.data.toList.drop i)=(3,1+run inwN (s.data.toList.drop (i+1))):=by rw [hd0,beh_cons,if_neg h1,if_neg h2,if_pos hA]
  rw [e];have q:=behind_word s i w hs hi hA
  rw [Nat.add_assoc] at q;exact q
end Go.Proofs.YticnfeolbfmgfaaGreatDoor
